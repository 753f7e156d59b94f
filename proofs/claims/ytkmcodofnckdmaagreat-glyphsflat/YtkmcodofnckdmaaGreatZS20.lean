/-
  tuples.bases (its closure): the walk.
-/
import Derived.Test.YtkmcodofnckdmaaGreatZS19
import Derived.Laws.EntriesVeiled
set_option maxHeartbeats 2000000
set_option maxRecDepth 100000
set_option linter.unusedSimpArgs false
set_option linter.unusedVariables false
namespace Go.Proofs.YtkmcodofnckdmaaGreat
open Go.RowKit Go.Maps
def R22 (base : Nat) (w : World) (vx vy : Value) (K : Nat) (X Y : List (List Rat)) : Prop :=
 ∃ BX BY : Nat → Prop, Rr BX w vx K X ∧ Rr BY w vy K Y ∧ (∀ k, BX k → ¬ BY k) ∧ (∀ k, BX k → base ≤ k ∧ k < w.heap.size) ∧ (∀ k, BY k → base ≤ k ∧ k < w.heap.size)
theorem R22.nil (base : Nat) (w : World) (K : Nat) : R22 base w (.slice none 0 0) (.slice none 0 0) K [] [] := ⟨fun _ => False, fun _ => False, Rr.nil _ _ _, Rr.nil _ _ _, (fun k h => h.elim), (fun k h => h.elim), (fun k h => h.elim)⟩
theorem R22.below {base : Nat} {w w' : World} {vx vy : Value} {K : Nat} {X Y : List (List Rat)} (h : R22 base w vx vy K X Y) (hb : Below w.heap.size w w') : R22 base w' vx vy K X Y := by
 obtain ⟨BX, BY, h1, h2, h3, h4, h5⟩ := h
 exact ⟨BX, BY, h1.below hb, h2.below hb, h3, (fun k hk => ⟨(h4 k hk).1, Nat.lt_of_lt_of_le (h4 k hk).2 hb.size⟩), (fun k hk => ⟨(h5 k hk).1, Nat.lt_of_lt_of_le (h5 k hk).2 hb.size⟩)⟩
theorem R22.swap {base : Nat} {w : World} {vx vy : Value} {K : Nat} {X Y : List (List Rat)} (h : R22 base w vx vy K X Y) : R22 base w vy vx K Y X := by
 obtain ⟨BX, BY, h1, h2, h3, h4, h5⟩ := h
 exact ⟨BY, BX, h2, h1, fun k hk hx => h3 k hx hk, h5, h4⟩
theorem R22.lower {base base' : Nat} {w : World} {vx vy : Value} {K : Nat} {X Y : List (List Rat)} (h : R22 base w vx vy K X Y) (hb : base' ≤ base) : R22 base' w vx vy K X Y := by
 obtain ⟨BX, BY, h1, h2, h3, h4, h5⟩ := h
 exact ⟨BX, BY, h1, h2, h3, (fun k hk => ⟨Nat.le_trans hb (h4 k hk).1, (h4 k hk).2⟩), (fun k hk => ⟨Nat.le_trans hb (h5 k hk).1, (h5 k hk).2⟩)⟩
theorem R22.turn {base : Nat} {w w' : World} {vy vx' : Value} {K : Nat} {Y X' : List (List Rat)} {BX BY C D : Nat → Prop} (h2 : Rr BY w vy K Y) (h3 : ∀ k, BX k → ¬ BY k) (h4 : ∀ k, BX k → base ≤ k ∧ k < w.heap.size) (h5 : ∀ k, BY k → base ≤ k ∧ k < w.heap.size) (hx : Rr C w' vx' K X') (hC : ∀ k, C k → BX k ∨ w.heap.size ≤ k) (hk : Kn D w w') (hD : ∀ k, BY k → ¬ D k) (hb : base ≤ w.heap.size) : R22 base w' vx' vy K X' Y := by
 refine ⟨fun k => C k ∧ k < w'.heap.size, BY, hx.mono (fun k h1 h2 => ⟨h1, h2⟩), h2.kn hk hD, fun k hk hy => ?_, fun k hk => ?_, fun k hy => ⟨(h5 k hy).1, Nat.lt_of_lt_of_le (h5 k hy).2 hk.size⟩⟩
 · rcases hC k hk.1 with h | h
   · exact h3 k h hy
   · have := (h5 k hy).2
     omega
 · rcases hC k hk.1 with h | h
   · exact ⟨(h4 k h).1, hk.2⟩
   · exact ⟨Nat.le_trans hb h, hk.2⟩
theorem Bk.noI1 {t : TypeId} {w : World} {g : Nat} {a : Option Addr} {n c : Nat} (h : Bk t w g [.slice a n c]) : NoI w g := NoI.of h (fun v hv => by simp at hv; rw [hv]; rfl)
theorem Bk.one1 {t : TypeId} {w : World} {g : Nat} {x : Value} (h : Bk t w g [x]) : w.cell? ⟨g, 0, none⟩ = some x ∧ w.frozen? ⟨g, 0, none⟩ = false := ⟨h.cell 0 (by simp), h.fz 0⟩
theorem R22.put {t : TypeId} {base gx gy : Nat} {w V w9 : World} {vy v' : Value} {K : Nat} {X' Y : List (List Rat)} {BX BY : Nat → Prop} {xa : Option Addr} {xn xc : Nat} (h2 : Rr BY w vy K Y) (h3 : ∀ k, BX k → ¬ BY k) (h4 : ∀ k, BX k → base ≤ k ∧ k < w.heap.size) (h5 : ∀ k, BY k → base ≤ k ∧ k < w.heap.size) (hbase : base ≤ w.heap.size) (hgx : gx < base) (hgy : gy < base) (hne : gx ≠ gy) (hbV : Below w.heap.size w V) (hkn : Kn BX V w9) (hR : Rr (fun k => BX k ∨ w.heap.size ≤ k) w9 v' K X') (hx : Bk t w9 gx [.slice xa xn xc]) (hy : Bk t w9 gy [vy]) :
    Bk t (w9.setCell ⟨gx, 0, none⟩ v') gx [v'] ∧ Bk t (w9.setCell ⟨gx, 0, none⟩ v') gy [vy] ∧ R22 base (w9.setCell ⟨gx, 0, none⟩ v') v' vy K X' Y ∧ Keep (fun k => k < base ∧ k ≠ gx) w (w9.setCell ⟨gx, 0, none⟩ v') ∧ base ≤ (w9.setCell ⟨gx, 0, none⟩ v').heap.size := by
 have hkw : Kn (fun k => k = gx) w9 (w9.setCell ⟨gx, 0, none⟩ v') := Kn.set (B := fun k => k = gx) ⟨rfl, hx.noI1⟩ 0 _
 have k1 : Kn (fun k => BX k ∨ k = gx) w w9 := (Kn.of hbV).trans hkn (fun i hi _ => .inl hi)
 have k2 : Kn (fun k => BX k ∨ k = gx) w (w9.setCell ⟨gx, 0, none⟩ v') := k1.trans hkw (fun i hi _ => .inr hi)
 refine ⟨hx.set 0 _, hy.other 0 _ (fun e => hne e.symm), R22.turn h2 h3 h4 h5 (hR.kn hkw (fun k hk e => ?_)) (fun k hk => hk) k2 (fun k hk hd => ?_) hbase, Keep.mono k2 (fun k hk => ⟨by omega, fun hc => ?_⟩), Nat.le_trans hbase k2.size⟩
 · rcases hk with hk | hk
   · have := (h4 k hk).1; omega
   · omega
 · rcases hd with hd | hd
   · exact h3 k hd hk
   · have := (h5 k hk).1; omega
 · rcases hc.1 with hd | hd
   · have := (h4 k hd).1; omega
   · exact hk.2 hd
theorem ubase1_any (base gx gy : Nat) (x y : Int) (xa : Option Addr) (xc : Nat) (ya : Option Addr) (yc : Nat) (X Y : List (List Rat)) (w : World) (hX : Bk 230 w gx [.slice xa X.length xc]) (hY : Bk 230 w gy [.slice ya Y.length yc]) (h : R22 base w (.slice xa X.length xc) (.slice ya Y.length yc) 20 X Y) (hgx : gx < base) (hgy : gy < base) (hne : gx ≠ gy) (hbase : base ≤ w.heap.size) (hx : I64 x) (hy : I64 y) (hl1 : X.length ≤ 1000) (hl2 : Y.length ≤ 1000) :
    Calls Tryz.prog 225 #[.int .i64 x, .int .i64 y, .pointer (some ⟨gx, 0, none⟩), .pointer (some ⟨gy, 0, none⟩)] w fun e w' => e = .returned (.tuple #[]) ∧ ∃ xa' xc' ya' yc', Bk 230 w' gx [.slice xa' (X ++ [[(x : Rat)]]).length xc'] ∧ Bk 230 w' gy [.slice ya' (Y ++ [[(y : Rat)]]).length yc'] ∧ R22 base w' (.slice xa' (X ++ [[(x : Rat)]]).length xc') (.slice ya' (Y ++ [[(y : Rat)]]).length yc') 20 (X ++ [[(x : Rat)]]) (Y ++ [[(y : Rat)]]) ∧ Keep (fun k => k < base ∧ k ≠ gx ∧ k ≠ gy) w w' ∧ base ≤ w'.heap.size := by
 unfold I64 at hx hy
 obtain ⟨BX, BY, h1, h2, h3, h4, h5⟩ := h
 go_enter Tryz.func225, Tryz.ntmps225
 go_upto_region 0 with fail
 go_cut [] from 6 to 11 (fun wx => ∃ xa' xc', Bk 230 wx gx [.slice xa' (X ++ [[(x : Rat)]]).length xc'] ∧ Bk 230 wx gy [.slice ya Y.length yc] ∧ R22 base wx (.slice xa' (X ++ [[(x : Rat)]]).length xc') (.slice ya Y.length yc) 20 (X ++ [[(x : Rat)]]) Y ∧ Keep (fun k => k < base ∧ k ≠ gx) w wx ∧ base ≤ wx.heap.size)
 case first =>
  refine wp_region_held_drew (S := (fun _ => True)) (by kernel_rfl) ?_ (fun hHeld => ?_)
  · (try dsimp only)
    all_goals go_keep
  have hbc : Below w.heap.size w w.drew := Below.drew1
  generalize w.drew = ud at hbc hHeld ⊢
  refine hT 1 hHeld ?_
  refine wpAnyH_ready (rs := [0, 2]) (by kernel_rfl) (by simp) (hCons (i := 0) rfl (by rfl) (fun K hK => ?_) (hCons (i := 2) rfl (by rfl) (fun K hK => ?_) AllReadyH.nil))
  · obtain ⟨c0, f0⟩ := (hX.below hbc).one1
    have hlt := (hX.below hbc).lt
    go_simp
    refine hK.out _ _ ?_ (fun hHeld => ?_)
    · (try dsimp only)
      all_goals trivial
    clear hK K
    try simp only [Act.put, pZ]
    clear c0 f0 hlt
    refine hCall (i := 2) rfl (by kernel_rfl) (by rfl) (fun K hK => ?_)
    go_simp
    refine (whole_any x _ (by omega) (by omega)).mono ?_
    rintro e u1 ⟨v1, rfl, hF1, hb0⟩
    replace hF1 := hF1.le (show 2 ≤ 20 by decide)
    obtain ⟨z1, x1, x2, x3, x4, x5, x6, rfl⟩ := hF1.cells3'
    replace hbc := hbc.trans (hb0.mono hbc.size)
    have hs1 := hbc.size
    go_wp2_with fail
    refine hK.out _ _ ?_ (fun hHeld => ?_)
    · (try dsimp only)
      all_goals trivial
    clear hK K
    try simp only [Act.put, pZ]
    refine hCall (i := 3) rfl (by kernel_rfl) (by rfl) (fun K hK => ?_)
    go_simp
    obtain ⟨V1, hV1, A1, hb1⟩ : ∃ V, V = u1.alloc (.cells #[.bool z1, .slice x1 x2 x3, .slice x4 x5 x6] 125) ∧ Bk 125 V u1.heap.size [.bool z1, .slice x1 x2 x3, .slice x4 x5 x6] ∧ Below u1.heap.size u1 V := ⟨_, rfl, Bk.new _ _ _, bl1 _⟩
    rw [← hV1]; clear hV1
    have hF2 := hF1.below hb1
    replace hbc := hbc.trans (hb1.mono hbc.size)
    have hs2 := hb1.size
    have hs3 := A1.lt
    refine hK.out _ _ ?_ (fun hHeld => ?_)
    · (try dsimp only)
      all_goals trivial
    clear hK K
    try simp only [Act.put, pZ]
    refine hCall (i := 4) rfl (by kernel_rfl) (by rfl) (fun K hK => ?_)
    go_simp
    obtain ⟨V2, hV2, A2, hb2⟩ : ∃ V, V = V1.alloc (.cells #[.slice (some ⟨u1.heap.size, 0, none⟩) 1 1] 173) ∧ Bk 173 V V1.heap.size [.slice (some ⟨u1.heap.size, 0, none⟩) 1 1] ∧ Below V1.heap.size V1 V := ⟨_, rfl, Bk.new _ _ _, bl1 _⟩
    rw [← hV2]; clear hV2
    have hrow := Ro.one (A1.below hb2) (hF2.below hb2)
    replace hbc := hbc.trans (hb2.mono hbc.size)
    have hs4 := hb2.size
    refine hK.out _ _ ?_ (fun hHeld => ?_)
    · (try dsimp only)
      all_goals trivial
    clear hK K
    try simp only [Act.put, pZ]
    have hr1 := h1.below hbc
    have BX2 := hX.below hbc
    have BY2 := hY.below hbc
    refine hCall (i := 5) rfl (by kernel_rfl) (by rfl) (fun K hK => ?_)
    refine wp_append_rr _ _ rfl BX (fun k => BX k ∨ w.heap.size ≤ k) _ 20 X rfl hr1 V1.heap.size rfl (.slice (some ⟨u1.heap.size, 0, none⟩) 1 1) [(x : Rat)] A2.one1.1 hrow ⟨rfl, rfl⟩ (fun b e => by
     have e : some u1.heap.size = some b := e
     injection e with e
     exact ⟨fun hb => by have := (h4 b hb).2; omega, .inr (by omega)⟩) (fun k hk => .inl hk) (.inr (by omega)) (by omega) ?_
    intro v' w9 hR hkn _
    have BX3 := BX2.kn hkn (fun hb => by have := (h4 _ hb).1; omega)
    have BY3 := BY2.kn hkn (fun hb => by have := (h4 _ hb).1; omega)
    obtain ⟨va', vc', rfl, -, -⟩ := hR.slice
    have hFin := R22.put h2 h3 h4 h5 hbase (gx := gx) (gy := gy) (by omega) (by omega) (by omega) hbc hkn hR BX3 BY3
    refine hK.out _ _ ?_ (fun hHeld => ?_)
    · (try dsimp only)
      all_goals trivial
    clear hK K
    try simp only [Act.put, pZ]
    refine hCall (i := 6) rfl (by kernel_rfl) (by rfl) (fun K hK => ?_)
    obtain ⟨c0, f0⟩ := BX3.one1
    have hlt := BX3.lt
    obtain ⟨nl, hnl⟩ : ∃ n, (X ++ [[(x : Rat)]]).length = n := ⟨_, rfl⟩
    have HNL : Hid ((X ++ [[(x : Rat)]]).length = nl) := hnl
    rw [hnl] at hFin ⊢; clear hnl; go_simp
    generalize w9.setCell ⟨gx, 0, none⟩ (.slice va' nl vc') = wz at hFin ⊢
    refine hK.out _ _ ?_ (fun hHeld => ?_)
    · (try dsimp only)
      all_goals trivial
    clear hK K
    try simp only [Act.put, pZ]
    refine wpAnyH_done (by kernel_rfl) ?_ _
    clear hHeld
    go_wp2_with fail
    go_meet
    rw [← HNL.out] at hFin
    exact ⟨va', vc', hFin⟩
  · go_simp
    refine (whole_any x _ (by omega) (by omega)).mono ?_
    rintro e u1 ⟨v1, rfl, hF1, hb0⟩
    replace hF1 := hF1.le (show 2 ≤ 20 by decide)
    obtain ⟨z1, x1, x2, x3, x4, x5, x6, rfl⟩ := hF1.cells3'
    replace hbc := hbc.trans (hb0.mono hbc.size)
    have hs1 := hbc.size
    go_wp2_with fail
    refine hK.out _ _ ?_ (fun hHeld => ?_)
    · (try dsimp only)
      all_goals trivial
    clear hK K
    try simp only [Act.put, pZ]
    refine wpAnyH_ready (rs := [0, 3]) (by kernel_rfl) (by simp) (hCons (i := 0) rfl (by rfl) (fun K hK => ?_) (hCons (i := 3) rfl (by rfl) (fun K hK => ?_) AllReadyH.nil))
    · obtain ⟨c0, f0⟩ := (hX.below hbc).one1
      have hlt := (hX.below hbc).lt
      go_simp
      refine hK.out _ _ ?_ (fun hHeld => ?_)
      · (try dsimp only)
        all_goals trivial
      clear hK K
      try simp only [Act.put, pZ]
      clear c0 f0 hlt
      refine hCall (i := 3) rfl (by kernel_rfl) (by rfl) (fun K hK => ?_)
      go_simp
      obtain ⟨V1, hV1, A1, hb1⟩ : ∃ V, V = u1.alloc (.cells #[.bool z1, .slice x1 x2 x3, .slice x4 x5 x6] 125) ∧ Bk 125 V u1.heap.size [.bool z1, .slice x1 x2 x3, .slice x4 x5 x6] ∧ Below u1.heap.size u1 V := ⟨_, rfl, Bk.new _ _ _, bl1 _⟩
      rw [← hV1]; clear hV1
      have hF2 := hF1.below hb1
      replace hbc := hbc.trans (hb1.mono hbc.size)
      have hs2 := hb1.size
      have hs3 := A1.lt
      refine hK.out _ _ ?_ (fun hHeld => ?_)
      · (try dsimp only)
        all_goals trivial
      clear hK K
      try simp only [Act.put, pZ]
      refine hCall (i := 4) rfl (by kernel_rfl) (by rfl) (fun K hK => ?_)
      go_simp
      obtain ⟨V2, hV2, A2, hb2⟩ : ∃ V, V = V1.alloc (.cells #[.slice (some ⟨u1.heap.size, 0, none⟩) 1 1] 173) ∧ Bk 173 V V1.heap.size [.slice (some ⟨u1.heap.size, 0, none⟩) 1 1] ∧ Below V1.heap.size V1 V := ⟨_, rfl, Bk.new _ _ _, bl1 _⟩
      rw [← hV2]; clear hV2
      have hrow := Ro.one (A1.below hb2) (hF2.below hb2)
      replace hbc := hbc.trans (hb2.mono hbc.size)
      have hs4 := hb2.size
      refine hK.out _ _ ?_ (fun hHeld => ?_)
      · (try dsimp only)
        all_goals trivial
      clear hK K
      try simp only [Act.put, pZ]
      have hr1 := h1.below hbc
      have BX2 := hX.below hbc
      have BY2 := hY.below hbc
      refine hCall (i := 5) rfl (by kernel_rfl) (by rfl) (fun K hK => ?_)
      refine wp_append_rr _ _ rfl BX (fun k => BX k ∨ w.heap.size ≤ k) _ 20 X rfl hr1 V1.heap.size rfl (.slice (some ⟨u1.heap.size, 0, none⟩) 1 1) [(x : Rat)] A2.one1.1 hrow ⟨rfl, rfl⟩ (fun b e => by
       have e : some u1.heap.size = some b := e
       injection e with e
       exact ⟨fun hb => by have := (h4 b hb).2; omega, .inr (by omega)⟩) (fun k hk => .inl hk) (.inr (by omega)) (by omega) ?_
      intro v' w9 hR hkn _
      have BX3 := BX2.kn hkn (fun hb => by have := (h4 _ hb).1; omega)
      have BY3 := BY2.kn hkn (fun hb => by have := (h4 _ hb).1; omega)
      obtain ⟨va', vc', rfl, -, -⟩ := hR.slice
      have hFin := R22.put h2 h3 h4 h5 hbase (gx := gx) (gy := gy) (by omega) (by omega) (by omega) hbc hkn hR BX3 BY3
      refine hK.out _ _ ?_ (fun hHeld => ?_)
      · (try dsimp only)
        all_goals trivial
      clear hK K
      try simp only [Act.put, pZ]
      refine hCall (i := 6) rfl (by kernel_rfl) (by rfl) (fun K hK => ?_)
      obtain ⟨c0, f0⟩ := BX3.one1
      have hlt := BX3.lt
      obtain ⟨nl, hnl⟩ : ∃ n, (X ++ [[(x : Rat)]]).length = n := ⟨_, rfl⟩
      have HNL : Hid ((X ++ [[(x : Rat)]]).length = nl) := hnl
      rw [hnl] at hFin ⊢; clear hnl; go_simp
      generalize w9.setCell ⟨gx, 0, none⟩ (.slice va' nl vc') = wz at hFin ⊢
      refine hK.out _ _ ?_ (fun hHeld => ?_)
      · (try dsimp only)
        all_goals trivial
      clear hK K
      try simp only [Act.put, pZ]
      refine wpAnyH_done (by kernel_rfl) ?_ _
      clear hHeld
      go_wp2_with fail
      go_meet
      rw [← HNL.out] at hFin
      exact ⟨va', vc', hFin⟩
    · go_simp
      obtain ⟨V1, hV1, A1, hb1⟩ : ∃ V, V = u1.alloc (.cells #[.bool z1, .slice x1 x2 x3, .slice x4 x5 x6] 125) ∧ Bk 125 V u1.heap.size [.bool z1, .slice x1 x2 x3, .slice x4 x5 x6] ∧ Below u1.heap.size u1 V := ⟨_, rfl, Bk.new _ _ _, bl1 _⟩
      rw [← hV1]; clear hV1
      have hF2 := hF1.below hb1
      replace hbc := hbc.trans (hb1.mono hbc.size)
      have hs2 := hb1.size
      have hs3 := A1.lt
      refine hK.out _ _ ?_ (fun hHeld => ?_)
      · (try dsimp only)
        all_goals trivial
      clear hK K
      try simp only [Act.put, pZ]
      refine wpAnyH_ready (rs := [0, 4]) (by kernel_rfl) (by simp) (hCons (i := 0) rfl (by rfl) (fun K hK => ?_) (hCons (i := 4) rfl (by rfl) (fun K hK => ?_) AllReadyH.nil))
      · obtain ⟨c0, f0⟩ := (hX.below hbc).one1
        have hlt := (hX.below hbc).lt
        go_simp
        refine hK.out _ _ ?_ (fun hHeld => ?_)
        · (try dsimp only)
          all_goals trivial
        clear hK K
        try simp only [Act.put, pZ]
        clear c0 f0 hlt
        refine hCall (i := 4) rfl (by kernel_rfl) (by rfl) (fun K hK => ?_)
        go_simp
        obtain ⟨V2, hV2, A2, hb2⟩ : ∃ V, V = V1.alloc (.cells #[.slice (some ⟨u1.heap.size, 0, none⟩) 1 1] 173) ∧ Bk 173 V V1.heap.size [.slice (some ⟨u1.heap.size, 0, none⟩) 1 1] ∧ Below V1.heap.size V1 V := ⟨_, rfl, Bk.new _ _ _, bl1 _⟩
        rw [← hV2]; clear hV2
        have hrow := Ro.one (A1.below hb2) (hF2.below hb2)
        replace hbc := hbc.trans (hb2.mono hbc.size)
        have hs4 := hb2.size
        refine hK.out _ _ ?_ (fun hHeld => ?_)
        · (try dsimp only)
          all_goals trivial
        clear hK K
        try simp only [Act.put, pZ]
        have hr1 := h1.below hbc
        have BX2 := hX.below hbc
        have BY2 := hY.below hbc
        refine hCall (i := 5) rfl (by kernel_rfl) (by rfl) (fun K hK => ?_)
        refine wp_append_rr _ _ rfl BX (fun k => BX k ∨ w.heap.size ≤ k) _ 20 X rfl hr1 V1.heap.size rfl (.slice (some ⟨u1.heap.size, 0, none⟩) 1 1) [(x : Rat)] A2.one1.1 hrow ⟨rfl, rfl⟩ (fun b e => by
         have e : some u1.heap.size = some b := e
         injection e with e
         exact ⟨fun hb => by have := (h4 b hb).2; omega, .inr (by omega)⟩) (fun k hk => .inl hk) (.inr (by omega)) (by omega) ?_
        intro v' w9 hR hkn _
        have BX3 := BX2.kn hkn (fun hb => by have := (h4 _ hb).1; omega)
        have BY3 := BY2.kn hkn (fun hb => by have := (h4 _ hb).1; omega)
        obtain ⟨va', vc', rfl, -, -⟩ := hR.slice
        have hFin := R22.put h2 h3 h4 h5 hbase (gx := gx) (gy := gy) (by omega) (by omega) (by omega) hbc hkn hR BX3 BY3
        refine hK.out _ _ ?_ (fun hHeld => ?_)
        · (try dsimp only)
          all_goals trivial
        clear hK K
        try simp only [Act.put, pZ]
        refine hCall (i := 6) rfl (by kernel_rfl) (by rfl) (fun K hK => ?_)
        obtain ⟨c0, f0⟩ := BX3.one1
        have hlt := BX3.lt
        obtain ⟨nl, hnl⟩ : ∃ n, (X ++ [[(x : Rat)]]).length = n := ⟨_, rfl⟩
        have HNL : Hid ((X ++ [[(x : Rat)]]).length = nl) := hnl
        rw [hnl] at hFin ⊢; clear hnl; go_simp
        generalize w9.setCell ⟨gx, 0, none⟩ (.slice va' nl vc') = wz at hFin ⊢
        refine hK.out _ _ ?_ (fun hHeld => ?_)
        · (try dsimp only)
          all_goals trivial
        clear hK K
        try simp only [Act.put, pZ]
        refine wpAnyH_done (by kernel_rfl) ?_ _
        clear hHeld
        go_wp2_with fail
        go_meet
        rw [← HNL.out] at hFin
        exact ⟨va', vc', hFin⟩
      · go_simp
        obtain ⟨V2, hV2, A2, hb2⟩ : ∃ V, V = V1.alloc (.cells #[.slice (some ⟨u1.heap.size, 0, none⟩) 1 1] 173) ∧ Bk 173 V V1.heap.size [.slice (some ⟨u1.heap.size, 0, none⟩) 1 1] ∧ Below V1.heap.size V1 V := ⟨_, rfl, Bk.new _ _ _, bl1 _⟩
        rw [← hV2]; clear hV2
        have hrow := Ro.one (A1.below hb2) (hF2.below hb2)
        replace hbc := hbc.trans (hb2.mono hbc.size)
        have hs4 := hb2.size
        refine hK.out _ _ ?_ (fun hHeld => ?_)
        · (try dsimp only)
          all_goals trivial
        clear hK K
        try simp only [Act.put, pZ]
        refine hCall (i := 0) rfl (by kernel_rfl) (by rfl) (fun K hK => ?_)
        obtain ⟨c0, f0⟩ := (hX.below hbc).one1
        have hlt := (hX.below hbc).lt
        go_simp
        refine hK.out _ _ ?_ (fun hHeld => ?_)
        · (try dsimp only)
          all_goals trivial
        clear hK K
        try simp only [Act.put, pZ]
        clear c0 f0 hlt
        have hr1 := h1.below hbc
        have BX2 := hX.below hbc
        have BY2 := hY.below hbc
        refine hCall (i := 5) rfl (by kernel_rfl) (by rfl) (fun K hK => ?_)
        refine wp_append_rr _ _ rfl BX (fun k => BX k ∨ w.heap.size ≤ k) _ 20 X rfl hr1 V1.heap.size rfl (.slice (some ⟨u1.heap.size, 0, none⟩) 1 1) [(x : Rat)] A2.one1.1 hrow ⟨rfl, rfl⟩ (fun b e => by
         have e : some u1.heap.size = some b := e
         injection e with e
         exact ⟨fun hb => by have := (h4 b hb).2; omega, .inr (by omega)⟩) (fun k hk => .inl hk) (.inr (by omega)) (by omega) ?_
        intro v' w9 hR hkn _
        have BX3 := BX2.kn hkn (fun hb => by have := (h4 _ hb).1; omega)
        have BY3 := BY2.kn hkn (fun hb => by have := (h4 _ hb).1; omega)
        obtain ⟨va', vc', rfl, -, -⟩ := hR.slice
        have hFin := R22.put h2 h3 h4 h5 hbase (gx := gx) (gy := gy) (by omega) (by omega) (by omega) hbc hkn hR BX3 BY3
        refine hK.out _ _ ?_ (fun hHeld => ?_)
        · (try dsimp only)
          all_goals trivial
        clear hK K
        try simp only [Act.put, pZ]
        refine hCall (i := 6) rfl (by kernel_rfl) (by rfl) (fun K hK => ?_)
        obtain ⟨c0, f0⟩ := BX3.one1
        have hlt := BX3.lt
        obtain ⟨nl, hnl⟩ : ∃ n, (X ++ [[(x : Rat)]]).length = n := ⟨_, rfl⟩
        have HNL : Hid ((X ++ [[(x : Rat)]]).length = nl) := hnl
        rw [hnl] at hFin ⊢; clear hnl; go_simp
        generalize w9.setCell ⟨gx, 0, none⟩ (.slice va' nl vc') = wz at hFin ⊢
        refine hK.out _ _ ?_ (fun hHeld => ?_)
        · (try dsimp only)
          all_goals trivial
        clear hK K
        try simp only [Act.put, pZ]
        refine wpAnyH_done (by kernel_rfl) ?_ _
        clear hHeld
        go_wp2_with fail
        go_meet
        rw [← HNL.out] at hFin
        exact ⟨va', vc', hFin⟩
 case rest =>
  obtain ⟨xa2, xc2, hX2, hY2, h22, hkp, hbase2⟩ := hcut; clear h1 h2 h3 h4 h5 hX hY hbase; obtain ⟨BX', BY', h1, h2, h3, h4, h5⟩ := h22.swap
  obtain ⟨X', hX'⟩ : ∃ l, X ++ [[(x : Rat)]] = l := ⟨_, rfl⟩
  have HX' : Hid (X ++ [[(x : Rat)]] = X') := hX'
  rw [hX'] at hX2 h22 h2; clear hX'
  go_upto_region 1 with fail
  refine wp_region_held_drew (S := (fun _ => True)) (by kernel_rfl) ?_ (fun hHeld => ?_)
  · (try dsimp only)
    all_goals go_keep
  have hbc : Below wc.heap.size wc wc.drew := Below.drew1
  generalize wc.drew = ud at hbc hHeld ⊢
  refine hT 1 hHeld ?_
  refine wpAnyH_ready (rs := [0, 2]) (by kernel_rfl) (by simp) (hCons (i := 0) rfl (by rfl) (fun K hK => ?_) (hCons (i := 2) rfl (by rfl) (fun K hK => ?_) AllReadyH.nil))
  · obtain ⟨c0, f0⟩ := (hY2.below hbc).one1
    have hlt := (hY2.below hbc).lt
    go_simp
    refine hK.out _ _ ?_ (fun hHeld => ?_)
    · (try dsimp only)
      all_goals trivial
    clear hK K
    try simp only [Act.put, pZ]
    clear c0 f0 hlt
    refine hCall (i := 2) rfl (by kernel_rfl) (by rfl) (fun K hK => ?_)
    go_simp
    refine (whole_any y _ (by omega) (by omega)).mono ?_
    rintro e u1 ⟨v1, rfl, hF1, hb0⟩
    replace hF1 := hF1.le (show 2 ≤ 20 by decide)
    obtain ⟨z1, x1, x2, x3, x4, x5, x6, rfl⟩ := hF1.cells3'
    replace hbc := hbc.trans (hb0.mono hbc.size)
    have hs1 := hbc.size
    go_wp2_with fail
    refine hK.out _ _ ?_ (fun hHeld => ?_)
    · (try dsimp only)
      all_goals trivial
    clear hK K
    try simp only [Act.put, pZ]
    refine hCall (i := 3) rfl (by kernel_rfl) (by rfl) (fun K hK => ?_)
    go_simp
    obtain ⟨V1, hV1, A1, hb1⟩ : ∃ V, V = u1.alloc (.cells #[.bool z1, .slice x1 x2 x3, .slice x4 x5 x6] 125) ∧ Bk 125 V u1.heap.size [.bool z1, .slice x1 x2 x3, .slice x4 x5 x6] ∧ Below u1.heap.size u1 V := ⟨_, rfl, Bk.new _ _ _, bl1 _⟩
    rw [← hV1]; clear hV1
    have hF2 := hF1.below hb1
    replace hbc := hbc.trans (hb1.mono hbc.size)
    have hs2 := hb1.size
    have hs3 := A1.lt
    refine hK.out _ _ ?_ (fun hHeld => ?_)
    · (try dsimp only)
      all_goals trivial
    clear hK K
    try simp only [Act.put, pZ]
    refine hCall (i := 4) rfl (by kernel_rfl) (by rfl) (fun K hK => ?_)
    go_simp
    obtain ⟨V2, hV2, A2, hb2⟩ : ∃ V, V = V1.alloc (.cells #[.slice (some ⟨u1.heap.size, 0, none⟩) 1 1] 173) ∧ Bk 173 V V1.heap.size [.slice (some ⟨u1.heap.size, 0, none⟩) 1 1] ∧ Below V1.heap.size V1 V := ⟨_, rfl, Bk.new _ _ _, bl1 _⟩
    rw [← hV2]; clear hV2
    have hrow := Ro.one (A1.below hb2) (hF2.below hb2)
    replace hbc := hbc.trans (hb2.mono hbc.size)
    have hs4 := hb2.size
    refine hK.out _ _ ?_ (fun hHeld => ?_)
    · (try dsimp only)
      all_goals trivial
    clear hK K
    try simp only [Act.put, pZ]
    have hr1 := h1.below hbc
    have BX2 := hY2.below hbc
    have BY2 := hX2.below hbc
    refine hCall (i := 5) rfl (by kernel_rfl) (by rfl) (fun K hK => ?_)
    refine wp_append_rr _ _ rfl BX' (fun k => BX' k ∨ wc.heap.size ≤ k) _ 20 Y rfl hr1 V1.heap.size rfl (.slice (some ⟨u1.heap.size, 0, none⟩) 1 1) [(y : Rat)] A2.one1.1 hrow ⟨rfl, rfl⟩ (fun b e => by
     have e : some u1.heap.size = some b := e
     injection e with e
     exact ⟨fun hb => by have := (h4 b hb).2; omega, .inr (by omega)⟩) (fun k hk => .inl hk) (.inr (by omega)) (by omega) ?_
    intro v' w9 hR hkn _
    have BX3 := BX2.kn hkn (fun hb => by have := (h4 _ hb).1; omega)
    have BY3 := BY2.kn hkn (fun hb => by have := (h4 _ hb).1; omega)
    obtain ⟨va', vc', rfl, -, -⟩ := hR.slice
    have hFin := R22.put h2 h3 h4 h5 hbase2 (gx := gy) (gy := gx) (by omega) (by omega) (by omega) hbc hkn hR BX3 BY3
    refine hK.out _ _ ?_ (fun hHeld => ?_)
    · (try dsimp only)
      all_goals trivial
    clear hK K
    try simp only [Act.put, pZ]
    refine hCall (i := 6) rfl (by kernel_rfl) (by rfl) (fun K hK => ?_)
    obtain ⟨c0, f0⟩ := BX3.one1
    have hlt := BX3.lt
    obtain ⟨nl, hnl⟩ : ∃ n, (Y ++ [[(y : Rat)]]).length = n := ⟨_, rfl⟩
    have HNL : Hid ((Y ++ [[(y : Rat)]]).length = nl) := hnl
    rw [hnl] at hFin ⊢; clear hnl; go_simp
    generalize w9.setCell ⟨gy, 0, none⟩ (.slice va' nl vc') = wz at hFin ⊢
    refine hK.out _ _ ?_ (fun hHeld => ?_)
    · (try dsimp only)
      all_goals trivial
    clear hK K
    try simp only [Act.put, pZ]
    refine wpAnyH_done (by kernel_rfl) ?_ _
    clear hHeld; clear hX2 hY2 BX2 BY2 BX3 BY3; go_wp2
    go_end0
    rw [← HNL.out, ← HX'.out] at hFin
    exact ⟨rfl, xa2, xc2, va', vc', hFin.2.1, hFin.1, hFin.2.2.1.swap, Keep.trans (hkp.mono (fun k hk => ⟨hk.1, hk.2.1⟩)) (hFin.2.2.2.1.mono (fun k hk => ⟨hk.1, hk.2.2⟩)), hFin.2.2.2.2⟩
  · go_simp
    refine (whole_any y _ (by omega) (by omega)).mono ?_
    rintro e u1 ⟨v1, rfl, hF1, hb0⟩
    replace hF1 := hF1.le (show 2 ≤ 20 by decide)
    obtain ⟨z1, x1, x2, x3, x4, x5, x6, rfl⟩ := hF1.cells3'
    replace hbc := hbc.trans (hb0.mono hbc.size)
    have hs1 := hbc.size
    go_wp2_with fail
    refine hK.out _ _ ?_ (fun hHeld => ?_)
    · (try dsimp only)
      all_goals trivial
    clear hK K
    try simp only [Act.put, pZ]
    refine wpAnyH_ready (rs := [0, 3]) (by kernel_rfl) (by simp) (hCons (i := 0) rfl (by rfl) (fun K hK => ?_) (hCons (i := 3) rfl (by rfl) (fun K hK => ?_) AllReadyH.nil))
    · obtain ⟨c0, f0⟩ := (hY2.below hbc).one1
      have hlt := (hY2.below hbc).lt
      go_simp
      refine hK.out _ _ ?_ (fun hHeld => ?_)
      · (try dsimp only)
        all_goals trivial
      clear hK K
      try simp only [Act.put, pZ]
      clear c0 f0 hlt
      refine hCall (i := 3) rfl (by kernel_rfl) (by rfl) (fun K hK => ?_)
      go_simp
      obtain ⟨V1, hV1, A1, hb1⟩ : ∃ V, V = u1.alloc (.cells #[.bool z1, .slice x1 x2 x3, .slice x4 x5 x6] 125) ∧ Bk 125 V u1.heap.size [.bool z1, .slice x1 x2 x3, .slice x4 x5 x6] ∧ Below u1.heap.size u1 V := ⟨_, rfl, Bk.new _ _ _, bl1 _⟩
      rw [← hV1]; clear hV1
      have hF2 := hF1.below hb1
      replace hbc := hbc.trans (hb1.mono hbc.size)
      have hs2 := hb1.size
      have hs3 := A1.lt
      refine hK.out _ _ ?_ (fun hHeld => ?_)
      · (try dsimp only)
        all_goals trivial
      clear hK K
      try simp only [Act.put, pZ]
      refine hCall (i := 4) rfl (by kernel_rfl) (by rfl) (fun K hK => ?_)
      go_simp
      obtain ⟨V2, hV2, A2, hb2⟩ : ∃ V, V = V1.alloc (.cells #[.slice (some ⟨u1.heap.size, 0, none⟩) 1 1] 173) ∧ Bk 173 V V1.heap.size [.slice (some ⟨u1.heap.size, 0, none⟩) 1 1] ∧ Below V1.heap.size V1 V := ⟨_, rfl, Bk.new _ _ _, bl1 _⟩
      rw [← hV2]; clear hV2
      have hrow := Ro.one (A1.below hb2) (hF2.below hb2)
      replace hbc := hbc.trans (hb2.mono hbc.size)
      have hs4 := hb2.size
      refine hK.out _ _ ?_ (fun hHeld => ?_)
      · (try dsimp only)
        all_goals trivial
      clear hK K
      try simp only [Act.put, pZ]
      have hr1 := h1.below hbc
      have BX2 := hY2.below hbc
      have BY2 := hX2.below hbc
      refine hCall (i := 5) rfl (by kernel_rfl) (by rfl) (fun K hK => ?_)
      refine wp_append_rr _ _ rfl BX' (fun k => BX' k ∨ wc.heap.size ≤ k) _ 20 Y rfl hr1 V1.heap.size rfl (.slice (some ⟨u1.heap.size, 0, none⟩) 1 1) [(y : Rat)] A2.one1.1 hrow ⟨rfl, rfl⟩ (fun b e => by
       have e : some u1.heap.size = some b := e
       injection e with e
       exact ⟨fun hb => by have := (h4 b hb).2; omega, .inr (by omega)⟩) (fun k hk => .inl hk) (.inr (by omega)) (by omega) ?_
      intro v' w9 hR hkn _
      have BX3 := BX2.kn hkn (fun hb => by have := (h4 _ hb).1; omega)
      have BY3 := BY2.kn hkn (fun hb => by have := (h4 _ hb).1; omega)
      obtain ⟨va', vc', rfl, -, -⟩ := hR.slice
      have hFin := R22.put h2 h3 h4 h5 hbase2 (gx := gy) (gy := gx) (by omega) (by omega) (by omega) hbc hkn hR BX3 BY3
      refine hK.out _ _ ?_ (fun hHeld => ?_)
      · (try dsimp only)
        all_goals trivial
      clear hK K
      try simp only [Act.put, pZ]
      refine hCall (i := 6) rfl (by kernel_rfl) (by rfl) (fun K hK => ?_)
      obtain ⟨c0, f0⟩ := BX3.one1
      have hlt := BX3.lt
      obtain ⟨nl, hnl⟩ : ∃ n, (Y ++ [[(y : Rat)]]).length = n := ⟨_, rfl⟩
      have HNL : Hid ((Y ++ [[(y : Rat)]]).length = nl) := hnl
      rw [hnl] at hFin ⊢; clear hnl; go_simp
      generalize w9.setCell ⟨gy, 0, none⟩ (.slice va' nl vc') = wz at hFin ⊢
      refine hK.out _ _ ?_ (fun hHeld => ?_)
      · (try dsimp only)
        all_goals trivial
      clear hK K
      try simp only [Act.put, pZ]
      refine wpAnyH_done (by kernel_rfl) ?_ _
      clear hHeld; clear hX2 hY2 BX2 BY2 BX3 BY3; go_wp2
      go_end0
      rw [← HNL.out, ← HX'.out] at hFin
      exact ⟨rfl, xa2, xc2, va', vc', hFin.2.1, hFin.1, hFin.2.2.1.swap, Keep.trans (hkp.mono (fun k hk => ⟨hk.1, hk.2.1⟩)) (hFin.2.2.2.1.mono (fun k hk => ⟨hk.1, hk.2.2⟩)), hFin.2.2.2.2⟩
    · go_simp
      obtain ⟨V1, hV1, A1, hb1⟩ : ∃ V, V = u1.alloc (.cells #[.bool z1, .slice x1 x2 x3, .slice x4 x5 x6] 125) ∧ Bk 125 V u1.heap.size [.bool z1, .slice x1 x2 x3, .slice x4 x5 x6] ∧ Below u1.heap.size u1 V := ⟨_, rfl, Bk.new _ _ _, bl1 _⟩
      rw [← hV1]; clear hV1
      have hF2 := hF1.below hb1
      replace hbc := hbc.trans (hb1.mono hbc.size)
      have hs2 := hb1.size
      have hs3 := A1.lt
      refine hK.out _ _ ?_ (fun hHeld => ?_)
      · (try dsimp only)
        all_goals trivial
      clear hK K
      try simp only [Act.put, pZ]
      refine wpAnyH_ready (rs := [0, 4]) (by kernel_rfl) (by simp) (hCons (i := 0) rfl (by rfl) (fun K hK => ?_) (hCons (i := 4) rfl (by rfl) (fun K hK => ?_) AllReadyH.nil))
      · obtain ⟨c0, f0⟩ := (hY2.below hbc).one1
        have hlt := (hY2.below hbc).lt
        go_simp
        refine hK.out _ _ ?_ (fun hHeld => ?_)
        · (try dsimp only)
          all_goals trivial
        clear hK K
        try simp only [Act.put, pZ]
        clear c0 f0 hlt
        refine hCall (i := 4) rfl (by kernel_rfl) (by rfl) (fun K hK => ?_)
        go_simp
        obtain ⟨V2, hV2, A2, hb2⟩ : ∃ V, V = V1.alloc (.cells #[.slice (some ⟨u1.heap.size, 0, none⟩) 1 1] 173) ∧ Bk 173 V V1.heap.size [.slice (some ⟨u1.heap.size, 0, none⟩) 1 1] ∧ Below V1.heap.size V1 V := ⟨_, rfl, Bk.new _ _ _, bl1 _⟩
        rw [← hV2]; clear hV2
        have hrow := Ro.one (A1.below hb2) (hF2.below hb2)
        replace hbc := hbc.trans (hb2.mono hbc.size)
        have hs4 := hb2.size
        refine hK.out _ _ ?_ (fun hHeld => ?_)
        · (try dsimp only)
          all_goals trivial
        clear hK K
        try simp only [Act.put, pZ]
        have hr1 := h1.below hbc
        have BX2 := hY2.below hbc
        have BY2 := hX2.below hbc
        refine hCall (i := 5) rfl (by kernel_rfl) (by rfl) (fun K hK => ?_)
        refine wp_append_rr _ _ rfl BX' (fun k => BX' k ∨ wc.heap.size ≤ k) _ 20 Y rfl hr1 V1.heap.size rfl (.slice (some ⟨u1.heap.size, 0, none⟩) 1 1) [(y : Rat)] A2.one1.1 hrow ⟨rfl, rfl⟩ (fun b e => by
         have e : some u1.heap.size = some b := e
         injection e with e
         exact ⟨fun hb => by have := (h4 b hb).2; omega, .inr (by omega)⟩) (fun k hk => .inl hk) (.inr (by omega)) (by omega) ?_
        intro v' w9 hR hkn _
        have BX3 := BX2.kn hkn (fun hb => by have := (h4 _ hb).1; omega)
        have BY3 := BY2.kn hkn (fun hb => by have := (h4 _ hb).1; omega)
        obtain ⟨va', vc', rfl, -, -⟩ := hR.slice
        have hFin := R22.put h2 h3 h4 h5 hbase2 (gx := gy) (gy := gx) (by omega) (by omega) (by omega) hbc hkn hR BX3 BY3
        refine hK.out _ _ ?_ (fun hHeld => ?_)
        · (try dsimp only)
          all_goals trivial
        clear hK K
        try simp only [Act.put, pZ]
        refine hCall (i := 6) rfl (by kernel_rfl) (by rfl) (fun K hK => ?_)
        obtain ⟨c0, f0⟩ := BX3.one1
        have hlt := BX3.lt
        obtain ⟨nl, hnl⟩ : ∃ n, (Y ++ [[(y : Rat)]]).length = n := ⟨_, rfl⟩
        have HNL : Hid ((Y ++ [[(y : Rat)]]).length = nl) := hnl
        rw [hnl] at hFin ⊢; clear hnl; go_simp
        generalize w9.setCell ⟨gy, 0, none⟩ (.slice va' nl vc') = wz at hFin ⊢
        refine hK.out _ _ ?_ (fun hHeld => ?_)
        · (try dsimp only)
          all_goals trivial
        clear hK K
        try simp only [Act.put, pZ]
        refine wpAnyH_done (by kernel_rfl) ?_ _
        clear hHeld; clear hX2 hY2 BX2 BY2 BX3 BY3; go_wp2
        go_end0
        rw [← HNL.out, ← HX'.out] at hFin
        exact ⟨rfl, xa2, xc2, va', vc', hFin.2.1, hFin.1, hFin.2.2.1.swap, Keep.trans (hkp.mono (fun k hk => ⟨hk.1, hk.2.1⟩)) (hFin.2.2.2.1.mono (fun k hk => ⟨hk.1, hk.2.2⟩)), hFin.2.2.2.2⟩
      · go_simp
        obtain ⟨V2, hV2, A2, hb2⟩ : ∃ V, V = V1.alloc (.cells #[.slice (some ⟨u1.heap.size, 0, none⟩) 1 1] 173) ∧ Bk 173 V V1.heap.size [.slice (some ⟨u1.heap.size, 0, none⟩) 1 1] ∧ Below V1.heap.size V1 V := ⟨_, rfl, Bk.new _ _ _, bl1 _⟩
        rw [← hV2]; clear hV2
        have hrow := Ro.one (A1.below hb2) (hF2.below hb2)
        replace hbc := hbc.trans (hb2.mono hbc.size)
        have hs4 := hb2.size
        refine hK.out _ _ ?_ (fun hHeld => ?_)
        · (try dsimp only)
          all_goals trivial
        clear hK K
        try simp only [Act.put, pZ]
        refine hCall (i := 0) rfl (by kernel_rfl) (by rfl) (fun K hK => ?_)
        obtain ⟨c0, f0⟩ := (hY2.below hbc).one1
        have hlt := (hY2.below hbc).lt
        go_simp
        refine hK.out _ _ ?_ (fun hHeld => ?_)
        · (try dsimp only)
          all_goals trivial
        clear hK K
        try simp only [Act.put, pZ]
        clear c0 f0 hlt
        have hr1 := h1.below hbc
        have BX2 := hY2.below hbc
        have BY2 := hX2.below hbc
        refine hCall (i := 5) rfl (by kernel_rfl) (by rfl) (fun K hK => ?_)
        refine wp_append_rr _ _ rfl BX' (fun k => BX' k ∨ wc.heap.size ≤ k) _ 20 Y rfl hr1 V1.heap.size rfl (.slice (some ⟨u1.heap.size, 0, none⟩) 1 1) [(y : Rat)] A2.one1.1 hrow ⟨rfl, rfl⟩ (fun b e => by
         have e : some u1.heap.size = some b := e
         injection e with e
         exact ⟨fun hb => by have := (h4 b hb).2; omega, .inr (by omega)⟩) (fun k hk => .inl hk) (.inr (by omega)) (by omega) ?_
        intro v' w9 hR hkn _
        have BX3 := BX2.kn hkn (fun hb => by have := (h4 _ hb).1; omega)
        have BY3 := BY2.kn hkn (fun hb => by have := (h4 _ hb).1; omega)
        obtain ⟨va', vc', rfl, -, -⟩ := hR.slice
        have hFin := R22.put h2 h3 h4 h5 hbase2 (gx := gy) (gy := gx) (by omega) (by omega) (by omega) hbc hkn hR BX3 BY3
        refine hK.out _ _ ?_ (fun hHeld => ?_)
        · (try dsimp only)
          all_goals trivial
        clear hK K
        try simp only [Act.put, pZ]
        refine hCall (i := 6) rfl (by kernel_rfl) (by rfl) (fun K hK => ?_)
        obtain ⟨c0, f0⟩ := BX3.one1
        have hlt := BX3.lt
        obtain ⟨nl, hnl⟩ : ∃ n, (Y ++ [[(y : Rat)]]).length = n := ⟨_, rfl⟩
        have HNL : Hid ((Y ++ [[(y : Rat)]]).length = nl) := hnl
        rw [hnl] at hFin ⊢; clear hnl; go_simp
        generalize w9.setCell ⟨gy, 0, none⟩ (.slice va' nl vc') = wz at hFin ⊢
        refine hK.out _ _ ?_ (fun hHeld => ?_)
        · (try dsimp only)
          all_goals trivial
        clear hK K
        try simp only [Act.put, pZ]
        refine wpAnyH_done (by kernel_rfl) ?_ _
        clear hHeld; clear hX2 hY2 BX2 BY2 BX3 BY3; go_wp2
        go_end0
        rw [← HNL.out, ← HX'.out] at hFin
        exact ⟨rfl, xa2, xc2, va', vc', hFin.2.1, hFin.1, hFin.2.2.1.swap, Keep.trans (hkp.mono (fun k hk => ⟨hk.1, hk.2.1⟩)) (hFin.2.2.2.1.mono (fun k hk => ⟨hk.1, hk.2.2⟩)), hFin.2.2.2.2⟩
end Go.Proofs.YtkmcodofnckdmaaGreat
