/-
  Rows of bytes of the call's own: side by side, new ones; foundryref04.Big with a row of its own (split off OY1).
  foundryref17.Write: the walk.
  chars.rangeAt, chars.Read: the walks.
  foundryref17.Read: the walk.
-/
import Derived.Test.YtgambbmonbhpnaaZ9
import Derived.Test.YtgambbmonbhpnaaZ10
import Derived.Test.YtgambbmonbhpnaaZ7
import Derived.Test.YtgambbmonbhpnaaZ5
import Derived.Test.YtgambbmonbhpnaaZ2
namespace Go.Proofs.Ytgambbmonbhpnaa
open Go.RowKit Go.Maps
set_option linter.unusedSimpArgs false
set_option linter.unusedVariables false

/-- Two rows in two blocks. -/
def Apt (v u : Value) : Prop := ∀ k, v.ownBlock = some k → u.ownBlock ≠ some k
theorem Apt.symm {v u : Value} (h : Apt v u) : Apt u v := fun k h1 h2 => h k h2 h1
theorem Apt.of {base : Nat} {w : World} {v v' u : Value} {ys : List Nat} (h : Apt v u) (hu : Bo base w u ys) (hv : v'.ownBlock = v.ownBlock ∨ v'.ownBlock = some w.heap.size) : Apt v' u := fun k h1 h2 => by
  rcases hv with e | e
  · exact h k (by rw [← e]; exact h1) h2
  · rw [e] at h1; cases h1; have := (hu.lo h2).2; omega
theorem Bo.grownA {base : Nat} {w w' : World} {v u : Value} {ys : List Nat} (hu : Bo base w u ys) (hg : w.grownBy w' v.ownBlock) (h : Apt v u) : Bo base w' u ys := by
  obtain ⟨h1, h3⟩ := hu
  refine ⟨h1, h3.1, ?_⟩
  rcases h3.2 with h0 | ⟨g, cap, cur, k1, k2, k3, k4⟩
  · exact .inl h0
  · exact .inr ⟨g, cap, cur, k1, k2, (hg.block g (Array.getElem?_eq_some_iff.1 k3).1 (fun e => h g e.symm (by rw [k1]; rfl))).trans k3, k4⟩
theorem Bo.mono {base b2 : Nat} {w : World} {v : Value} {ys : List Nat} (h : Bo base w v ys) (hb : b2 ≤ base) : Bo b2 w v ys := by
  obtain ⟨h1, h3⟩ := h
  refine ⟨h1, h3.1, ?_⟩
  rcases h3.2 with h0 | ⟨g, cap, cur, k1, k2, k3, k4⟩
  · exact .inl h0
  · exact .inr ⟨g, cap, cur, k1, Nat.le_trans hb k2, k3, k4⟩
/-- As wpList_append_bs, with what is told of the block. -/
theorem wpList_append_bs3 {w : World} {ops : Array Oper} {rest : List Oper} {o : Oper} {a : Act} {Q : Exit → Act → World → Prop}
    (hgd : o.guard = none) (s x : Operand) (ho : o.op = .call { callee := .builtin .append, args := #[s, x], argTypes := #[30, 30] })
    (base : Nat) (v : Value) (ys : List Nat) (hs : a.eval s = v) (hown : Bo base w v ys) (ad : Option Addr) (c m : Nat) (zs : List Nat) (hm : m = zs.length) (hx : a.eval x = .slice ad m c)
    (hrd : Rb w ad c zs) (hlen : ys.length + zs.length ≤ 1000000) (hbase : base ≤ w.heap.size)
    (h : ∀ v' w', Bo base w' v' (ys ++ zs) → w.grownBy w' v.ownBlock → (v'.ownBlock = v.ownBlock ∨ v'.ownBlock = some w.heap.size) → wpList Try.prog ops Q rest (a.put o.dst v') w') : wpList Try.prog ops Q (o :: rest) a w := by
  obtain ⟨i0, hi, hz0, hz1, hz2⟩ := info_parts info_b8
  refine wpList_append_rb hgd s x 30 ho base 5 i0 Try.underlying30 hi hz0 hz1 hz2 v ys.length ys hs hown.2 ad c m zs hx hm hrd (by omega) hbase ?_
  intro v' w' k1 k2 k3
  exact h v' w' ⟨hown.1.append hrd.lim, by rw [List.length_append]; exact k1⟩ k2 k3

theorem Bo.rb {base : Nat} {w : World} {a : Option Addr} {c : Nat} {ys : List Nat} (h : Bo base w (.slice a ys.length c) ys) : Rb w a c ys := by
  obtain ⟨a', c', e, hr⟩ := h.slice
  injection e with e1 e2 e3
  subst e1 e3
  exact hr
theorem bo_new (w : World) (zs : List Nat) (cs : Array Value) (hc : cs = (zs.map Y).toArray) (hl : Byt zs) (hm : zs.length ≤ maxLen) : Bo w.heap.size (w.alloc (.cells cs 5)) (.slice (some ⟨w.heap.size, 0, none⟩) zs.length zs.length) zs := by
  subst hc
  exact ⟨hl, by simp, .inr ⟨w.heap.size, zs.length, _, rfl, Nat.le_refl _, heap_alloc_new w _, Nat.le_refl _, hm, by simp, by simp [List.take_of_length_le]⟩⟩
set_option maxHeartbeats 1000000 in
set_option maxRecDepth 100000 in
theorem big2_own (x : Int) (w : World) (hx : 0 ≤ x) (hx2 : x ≤ 9223372036854775807) :
    Calls Try.prog 29 #[.int .i64 x, .int .i64 2] w fun e w' => ∃ v, e = .returned v ∧ Bo w.heap.size w' v (be2 x) ∧ Below w.heap.size w w' := by
  have hmk : ∀ w, (Instr.makeSlice 30 (.int .i64 2) (.int .i64 2)).run Try.prog w = .ok (.slice (some ⟨w.heap.size, 0, none⟩) 2 2) (w.alloc (.cells #[.int .u8 0, .int .u8 0] 5)) := by
    intro w
    have h := run_make_row' (P := Try.prog) 30 5 (.int .u8 0) 1 Try.underlying30 info_byte rfl .i64 .i64 2 (by decide) (by decide) w
    rw [show madeCells #[Value.int IntKind.u8 0] 2 = #[.int .u8 0, .int .u8 0] by kernel_rfl] at h
    exact h
  go_enter Try.func29, Try.ntmps29
  go_wp2
  refine wp_loop_rounds 3 ?_
  rw [rounds_succ]
  go_wp2
  rw [rounds_succ]
  go_wp2
  rw [rounds_succ]
  go_wp2
  go_ret
  refine ⟨_, rfl, bo_new w (be2 x) _ ?_ (byt_be2 x) (by simp [be2, maxLen]), bl1 _⟩
  simp only [be2, List.map_cons, List.map_nil, Y]
  simp
  omega

set_option maxHeartbeats 1000000 in
set_option maxRecDepth 100000 in
theorem big4_own (x : Int) (w : World) (hx : 0 ≤ x) (hx2 : x ≤ 9223372036854775807) :
    Calls Try.prog 29 #[.int .i64 x, .int .i64 4] w fun e w' => ∃ v, e = .returned v ∧ Bo w.heap.size w' v (be4 x) ∧ Below w.heap.size w w' := by
  have hmk : ∀ w, (Instr.makeSlice 30 (.int .i64 4) (.int .i64 4)).run Try.prog w = .ok (.slice (some ⟨w.heap.size, 0, none⟩) 4 4) (w.alloc (.cells #[.int .u8 0, .int .u8 0, .int .u8 0, .int .u8 0] 5)) := by
    intro w
    have h := run_make_row' (P := Try.prog) 30 5 (.int .u8 0) 1 Try.underlying30 info_byte rfl .i64 .i64 4 (by decide) (by decide) w
    rw [show madeCells #[Value.int IntKind.u8 0] 4 = #[.int .u8 0, .int .u8 0, .int .u8 0, .int .u8 0] by kernel_rfl] at h
    exact h
  go_enter Try.func29, Try.ntmps29
  go_wp2
  refine wp_loop_rounds 5 ?_
  rw [rounds_succ]
  go_wp2
  rw [rounds_succ]
  go_wp2
  rw [rounds_succ]
  go_wp2
  rw [rounds_succ]
  go_wp2
  rw [rounds_succ]
  go_wp2
  go_ret
  refine ⟨_, rfl, bo_new w (be4 x) _ ?_ (byt_be4 x) (by simp [be4, maxLen]), bl1 _⟩
  simp only [be4, List.map_cons, List.map_nil, Y]
  simp
  omega


end Go.Proofs.Ytgambbmonbhpnaa

namespace Go.Proofs.Ytgambbmonbhpnaa
open Go.RowKit Go.Maps
set_option linter.unusedSimpArgs false
set_option linter.unusedVariables false

theorem Bo.rw {base : Nat} {w : World} {v : Value} {ys : List Nat} (h : Bo base w v ys) : ∃ a c, v = .slice a ys.length c ∧ Rw 5 base w a c ys := Rw.of h.1 h.2

set_option maxHeartbeats 4000000 in
set_option maxRecDepth 100000 in
theorem swriteC_any (S : Nat → Prop) (a : Option Addr) (ca : Nat) (l : List Rn) (n : Int) (w : World) (hl : Gr RnE S w a ca l) (hn : I64 n) :
    Calls Try.prog 16 #[.slice a l.length ca, .int .i64 n] w fun e w' => ∃ a' c', e = .returned (.tuple #[.slice a' (wrCB l n).length c', .int .i64 (wrCE l n)]) ∧ Rw 5 w.heap.size w' a' c' (wrCB l n) ∧ Below w.heap.size w w' := by
  have kl := hl.lenB
  have hf1 := sformC_any S a ca l n w hl hn
  by_cases hbig : 65536 < n
  · have g1 : decide (65536 < n) = true := decide_eq_true hbig
    have HN : Hid (_) := wrC_no (l := l) (n := n) (by unfold okC; rw [decide_eq_false (by omega)]; rfl)
    clear hf1
    go_enter Try.func16, Try.ntmps16
    go_wp2
    go_ret2
    exact ⟨none, 0, by rw [HN.out.1, HN.out.2]; rfl, by rw [HN.out.1]; exact Rw.nil _ _, Below.refl _ _⟩
  have g1 : decide (65536 < n) = false := decide_eq_false hbig
  cases hfo : foC l n with
  | false =>
    rw [hfo] at hf1
    have HN : Hid (_) := wrC_no (l := l) (n := n) (by unfold okC; rw [hfo, Bool.and_false])
    clear hfo
    go_enter Try.func16, Try.ntmps16
    go_wp2_with fail
    refine hf1.mono ?_
    rintro e u ⟨rfl, hb1⟩
    clear hf1
    go_wp2
    go_ret2
    exact ⟨none, 0, by rw [HN.out.1, HN.out.2]; rfl, by rw [HN.out.1]; exact Rw.nil _ _, hb1⟩
  | true =>
  rw [hfo] at hf1
  have HFO : Hid (okC l n = true) := okC_iff.2 ⟨by omega, hfo⟩
  have hF1 := (foC_iff.1 hfo).1
  have HEL : Hid (_) := foC_el hfo
  have HTE : Hid (csB l = be2 ((l.length : Nat) : Int) ++ rnsE l) := rfl
  have HTK : Hid (∀ k, 2 + (rnsE (l.take k)).length ≤ 402) := rnk_len hfo
  clear hfo
  go_enter Try.func16, Try.ntmps16
  go_wp2_with fail
  refine hf1.mono ?_
  rintro e u ⟨rfl, hb1⟩
  have HL : Hid (Gr RnE S u a ca l) := hl.below hb1
  have HBW : Hid (Below w.heap.size w u) := hb1
  clear hl hf1 hb1 g1
  go_wp2_with fail
  refine (big2_own (l.length : Int) u (by omega) (by omega)).mono ?_
  rintro e u1 ⟨v0, rfl, hI0, hB1⟩
  obtain ⟨Q, hQ⟩ : ∃ Q, be2 ((l.length : Nat) : Int) = Q := ⟨_, rfl⟩
  have HQL : Hid (Q.length = 2) := by show _ = _; rw [← hQ]; rfl
  rw [hQ] at hI0 HTE
  have hI : Bo u.heap.size u1 v0 (Q ++ rnsE (l.take 0)) := by
    rw [List.take_zero, rnsE, List.append_nil]
    exact hI0
  clear hI0 hQ
  obtain ⟨a0, c0, rfl, -⟩ := hI.slice
  generalize (Q ++ rnsE (l.take 0)).length = n0 at hI ⊢
  go_wp2
  go_loopw [6, 7] (fun v i wr => ∃ k : Nat, k ≤ l.length ∧ i = .int .i64 k ∧ Bo u.heap.size wr v (Q ++ rnsE (l.take k)) ∧ Below u.heap.size u wr) (fun _ i _ => l.length - (intOf i).toNat)
  case atStart => exact ⟨0, Nat.zero_le _, rfl, hI, hB1⟩
  case round =>
    clear hI hB1
    obtain ⟨k, hk, rfl, hP, hB⟩ := hrel
    obtain ⟨a5, c5, rfl, hrb5⟩ := hP.slice
    by_cases hkn : k < l.length
    · obtain ⟨b, off, ea, hb, hM, d0, d1, d2⟩ := HL.out.rn hB k hkn
      obtain ⟨hE1, hE2, hE3, hE4, hE5⟩ := rnB_iff.1 (HEL.out k hkn)
      have HSJ : Hid (_) := rns_snoc hkn Q
      have hlk : (Q ++ rnsE (l.take k)).length ≤ 402 := by
        rw [List.length_append, HQL.out]
        exact HTK.out k
      obtain ⟨x, hx⟩ : ∃ x, l.getD k Rn.none = x := ⟨_, rfl⟩
      rw [hx] at hM d0 d1 d2 hE1 hE2 hE3 hE4 hE5 HSJ
      obtain ⟨b2, hb2⟩ : ∃ b2, Q ++ rnsE (l.take k) = b2 := ⟨_, rfl⟩
      rw [hb2] at hP HSJ hlk ⊢
      subst ea
      obtain ⟨m1, m2, m3⟩ := hM
      have i1 : (0 : Int) ≤ (k : Int) := by omega
      have i2 : (k : Int) < (l.length : Int) := by omega
      clear hx hb2 hrb5
      have hcell : ∀ {X Y : World} {p : Nat} {v : Value}, Below u.heap.size X Y → X.cell? ⟨b, p, none⟩ = some v → Y.cell? ⟨b, p, none⟩ = some v := fun hXY h => (hXY.cell (p := ⟨b, _, none⟩) hb).trans h
      have HCL : Hid (∀ {X Y : World} {p : Nat} {v : Value}, Below u.heap.size X Y → X.cell? ⟨b, p, none⟩ = some v → Y.cell? ⟨b, p, none⟩ = some v) := hcell
      clear hcell
      -- From
      have hbs1 := hB.size
      go_wp2_with fail
      refine (big4_any x.fr _ hE1 m1.2).mono ?_
      rintro e v1 ⟨ad, cp, rfl, hr, hb1⟩
      replace hP := hP.below hb1
      have hb1u := hb1.mono hB.size
      replace d1 := HCL.out hb1u d1
      replace d2 := HCL.out hb1u d2
      replace hB := hB.trans hb1u
      have hll : b2.length + (be4 x.fr).length ≤ 1000000 := by rw [be4LC]; omega
      clear hb1 hb1u d0 hbs1
      go_wp2_with (at_builtin; refine wpList_append_bs rfl _ _ rfl u.heap.size _ b2 rfl hP ad cp _ (be4 x.fr) rfl rfl hr hll hB.size ?_)
      intro v9 w9 hT9 hgrow
      have hB9 : Below u.heap.size v1 w9 := (Below.refl _ _).grown hgrow hB.size (fun q hq => (hP.lo hq).1)
      replace d1 := HCL.out hB9 d1
      replace d2 := HCL.out hB9 d2
      replace hB := hB.trans hB9
      obtain ⟨b3, hb3⟩ : ∃ b3, b2 ++ be4 x.fr = b3 := ⟨_, rfl⟩
      have hl3 : b3.length ≤ 406 := by rw [← hb3, List.length_append, be4LC]; omega
      rw [hb3] at hT9 HSJ
      obtain ⟨a6, c6, rfl, -⟩ := hT9.slice
      clear hgrow hB9 hP hr hll hb3
      -- To
      go_wp2_with fail
      refine (big4_any x.to _ (by omega) m2.2).mono ?_
      rintro e v2 ⟨ad2, cp2, rfl, hr, hb1⟩
      have hP := hT9.below hb1
      have hb1u := hb1.mono hB.size
      replace d2 := HCL.out hb1u d2
      replace hB := hB.trans hb1u
      have hll : b3.length + (be4 x.to).length ≤ 1000000 := by rw [be4LC]; omega
      clear hb1 hb1u d1 hT9
      go_wp2_with (at_builtin; refine wpList_append_bs rfl _ _ rfl u.heap.size _ b3 rfl hP ad2 cp2 _ (be4 x.to) rfl rfl hr hll hB.size ?_)
      intro v8 w8 hT9 hgrow
      have hB9 : Below u.heap.size v2 w8 := (Below.refl _ _).grown hgrow hB.size (fun q hq => (hP.lo hq).1)
      replace d2 := HCL.out hB9 d2
      replace hB := hB.trans hB9
      obtain ⟨b4, hb4⟩ : ∃ b4, b3 ++ be4 x.to = b4 := ⟨_, rfl⟩
      have hl4 : b4.length ≤ 410 := by rw [← hb4, List.length_append, be4LC]; omega
      rw [hb4] at hT9 HSJ
      obtain ⟨a7, c7, rfl, -⟩ := hT9.slice
      clear hgrow hB9 hP hr hll hb4
      -- Glyph
      go_wp2_with fail
      refine (big2_any x.gl _ hE4 m3.2).mono ?_
      rintro e v3 ⟨ad3, cp3, rfl, hr, hb1⟩
      have hP := hT9.below hb1
      have hb1u := hb1.mono hB.size
      replace hB := hB.trans hb1u
      have hll : b4.length + (be2 x.gl).length ≤ 1000000 := by rw [be2LC]; omega
      clear hb1 hb1u d2 hT9
      go_wp2_with (at_builtin; refine wpList_append_bs rfl _ _ rfl u.heap.size _ b4 rfl hP ad3 cp3 _ (be2 x.gl) rfl rfl hr hll hB.size ?_)
      intro v7 w7 hT9 hgrow
      have hB9 : Below u.heap.size v3 w7 := (Below.refl _ _).grown hgrow hB.size (fun q hq => (hP.lo hq).1)
      replace hB := hB.trans hB9
      rw [← HSJ.out] at hT9
      clear hgrow hB9 hP hr hll
      go_wp2
      go_roundw
      case rel => exact ⟨k + 1, by omega, by go_num, hT9, hB⟩
      case measure => simp [intOf]; omega
    · obtain rfl : k = l.length := by omega
      have g4 : ¬ (l.length : Int) < (l.length : Int) := by omega
      rw [List.take_length, ← HTE.out] at hP ⊢
      have HN : Hid (_) := wrC_yes HFO.out
      obtain ⟨a9, c9, e9, hr9⟩ := hP.rw
      injection e9 with e1 e2 e3
      have HE1 : Hid (a5 = a9) := e1
      have HE3 : Hid (c5 = c9) := e3
      clear hrb5 e1 e2 e3 hP
      have hfin := HBW.out.trans (hB.mono HBW.out.size)
      go_wp2
      go_ret2
      exact ⟨a9, c9, by rw [HN.out.1, HN.out.2, HE1.out, HE3.out]; rfl, by rw [HN.out.1]; exact hr9.mono HBW.out.size, hfin⟩

end Go.Proofs.Ytgambbmonbhpnaa

namespace Go.Proofs.Ytgambbmonbhpnaa
open Go.RowKit Go.Maps
set_option linter.unusedSimpArgs false
set_option linter.unusedVariables false

theorem info_rn : (Try.prog.info? 43).map (fun i => (i.zero, i.size, i.bytes)) = some (some (.agg #[.int .i64 0, .int .i64 0, .int .i64 0]), 3, 24) := by kernel_rfl
theorem rnAt_w {xs : List Nat} (h : Byt xs) (p : Nat) : RnW (rnAt xs p) := by
  have h1 := nmV_lt h (p : Int) 4
  have h2 := nmV_lt h ((p + 4 : Nat) : Int) 4
  have h3 := nmV_lt h ((p + 8 : Nat) : Int) 2
  have e : (256 : Nat) ^ 4 = 4294967296 := by decide
  have e2 : (256 : Nat) ^ 2 = 65536 := by decide
  unfold rnAt RnW I64
  dsimp only
  omega

set_option maxHeartbeats 4000000 in
set_option maxRecDepth 100000 in
theorem rat_any (ba : Option Addr) (bc : Nat) (xs : List Nat) (p : Nat) (w : World) (hx : Rb w ba bc xs) (hp : p ≤ 1000000) (hl : xs.length ≤ 1000000000) :
    Calls Try.prog 31 #[.slice ba xs.length bc, .int .i64 (p : Int)] w fun e w' => e = .returned (.agg #[.int .i64 (rnAt xs p).fr, .int .i64 (rnAt xs p).to, .int .i64 (rnAt xs p).gl]) ∧ Below w.heap.size w w' := by
  have hpc := hx.le
  have hpm := hx.cap
  unfold maxLen at hpm
  obtain ⟨m1, m2, m3⟩ := rnAt_w hx.lim p
  obtain ⟨W, hW, X1, hbW⟩ : ∃ W, W = w.alloc (.cells #[.int .i64 0, .int .i64 0, .int .i64 0] 43) ∧ Bk 43 W w.heap.size [.int .i64 0, .int .i64 0, .int .i64 0] ∧ Below w.heap.size w W := ⟨_, rfl, Bk.new _ _ _, bl1 _⟩
  have hT := u32_any ba bc xs (p : Int) W (hx.below hbW) ⟨by omega, by omega⟩
  have hI1 : ∀ U, Rb U ba bc xs → Calls Try.prog 41 #[.slice ba xs.length bc, .int .i64 ((p : Int) + 4)] U fun e w' => e = .returned (.tuple #[.int .i64 ((nmV xs ((p + 4 : Nat) : Int) 4 : Nat) : Int), .bool (inB xs.length ((p + 4 : Nat) : Int) 4)]) ∧ U = w' := fun U hr => u32_any ba bc xs ((p + 4 : Nat) : Int) U hr ⟨by omega, by omega⟩
  have hI2 : ∀ U, Rb U ba bc xs → Calls Try.prog 30 #[.slice ba xs.length bc, .int .i64 ((p : Int) + 8)] U fun e w' => e = .returned (.tuple #[.int .i64 ((nmV xs ((p + 8 : Nat) : Int) 2 : Nat) : Int), .bool (inB xs.length ((p + 8 : Nat) : Int) 2)]) ∧ U = w' := fun U hr => u16_any ba bc xs ((p + 8 : Nat) : Int) U hr ⟨by omega, by omega⟩
  have HE : Hid (rnAt xs p = ⟨((nmV xs (p : Int) 4 : Nat) : Int), ((nmV xs ((p + 4 : Nat) : Int) 4 : Nat) : Int), ((nmV xs ((p + 8 : Nat) : Int) 2 : Nat) : Int)⟩) := rfl
  rw [HE.out] at m1 m2 m3 ⊢
  dsimp only at m1 m2 m3 ⊢
  generalize ((nmV xs (p : Int) 4 : Nat) : Int) = z0 at *
  generalize ((nmV xs ((p + 4 : Nat) : Int) 4 : Nat) : Int) = z1 at *
  generalize ((nmV xs ((p + 8 : Nat) : Int) 2 : Nat) : Int) = z2 at *
  generalize inB xs.length (p : Int) 4 = q1 at *
  generalize inB xs.length ((p + 4 : Nat) : Int) 4 = q2 at *
  generalize inB xs.length ((p + 8 : Nat) : Int) 2 = q3 at *
  clear HE
  replace hx := hx.below hbW
  go_enter Try.func31, Try.ntmps31
  go_upto_region 1 with fail
  rw [← hW]
  clear hW
  go_wp2_with fail
  refine hT.mono ?_
  rintro e u ⟨rfl, rfl⟩
  clear hT
  go_wp2_with fail
  refine (hI1 _ hx).mono ?_
  rintro e u2 ⟨rfl, rfl⟩
  clear hI1
  go_wp2_with fail
  refine (hI2 _ hx).mono ?_
  rintro e u2 ⟨rfl, rfl⟩
  clear hI2
  obtain ⟨c0, c1, c2, f0, f1, f2⟩ := X1.three
  have HX : Hid (Bk 43 W w.heap.size [.int .i64 0, .int .i64 0, .int .i64 0]) := X1
  have HB : Hid (Below w.heap.size w W) := hbW
  clear X1 hbW hx
  go_wp2
  have HZ : Hid (Bk 43 (((W.setCell ⟨w.heap.size, 0, none⟩ (.int .i64 z0)).setCell ⟨w.heap.size, 1, none⟩ (.int .i64 z1)).setCell ⟨w.heap.size, 2, none⟩ (.int .i64 z2)) w.heap.size [.int .i64 z0, .int .i64 z1, .int .i64 z2]) := ((HX.out.set 0 _).set 1 _).set 2 _
  have HF : Hid (Below w.heap.size w (((W.setCell ⟨w.heap.size, 0, none⟩ (.int .i64 z0)).setCell ⟨w.heap.size, 1, none⟩ (.int .i64 z1)).setCell ⟨w.heap.size, 2, none⟩ (.int .i64 z2))) := ((HB.out.setCell (p := ⟨w.heap.size, 0, none⟩) (Nat.le_refl _) _).setCell (p := ⟨w.heap.size, 1, none⟩) (Nat.le_refl _) _).setCell (p := ⟨w.heap.size, 2, none⟩) (Nat.le_refl _) _
  refine bodyPost_ret (v := .agg #[.int .i64 z0, .int .i64 z1, .int .i64 z2]) (by obtain ⟨r0, r1, r2, -⟩ := HZ.out.three; simp [results, Try.results31, go_sem, r0, r1, r2]) rfl ⟨rfl, HF.out⟩

theorem makeR (n : Nat) (hn : n ≤ 40) (w : World) : ∃ w1, (Instr.makeSlice 22 (.int .i64 0) (.int .i64 (n : Int))).run Try.prog w = .ok (.slice (some ⟨w.heap.size, 0, none⟩) 0 n) w1 ∧ w1.ownsRow w.heap.size 43 3 (.slice (some ⟨w.heap.size, 0, none⟩) 0 n) 0 [] ∧ Below w.heap.size w w1 ∧ w1.heap.size = w.heap.size + 1 := by
  obtain ⟨i0, hi0, hz0, hz1, hz2⟩ := info_parts info_rn
  have hmk := run_make (P := Try.prog) w 22 43 i0 _ Try.underlying22 hi0 hz0 .i64 .i64 0 (n : Int) (by omega) (by omega) (by rw [hz2]; omega) (by omega)
  rw [hz1] at hmk
  simp only [Int.toNat_zero, Int.toNat_natCast] at hmk
  refine ⟨_, hmk, ?_, bl1 _, by simp⟩
  have := World.ownsRow_made (base := w.heap.size) (e := 43) (size := 3) w (madeCells (Value.agg #[.int .i64 0, .int .i64 0, .int .i64 0]).cells (n * 3)) n (Nat.le_refl _) (by unfold maxLen; omega) (size_madeCells _ _)
  simpa using this

set_option maxHeartbeats 4000000 in
set_option maxRecDepth 100000 in
theorem creadC_any (ba : Option Addr) (bc : Nat) (xs : List Nat) (N : Int) (w : World) (hx : Rb w ba bc xs) (hN : I64 N) (hxl : xs.length ≤ 1048576) :
    Calls Try.prog 17 #[.slice ba xs.length bc, .int .i64 N] w fun e w' => ∃ a' c', e = .returned (.tuple #[.slice a' (rdCL xs N).length c', .int .i64 (rdCE xs N)]) ∧ Gr RnE (fun k => w.heap.size ≤ k) w' a' c' (rdCL xs N) ∧ Below w.heap.size w w' := by
  have hpc := hx.le
  have hpm := hx.cap
  unfold maxLen at hpm
  have HI : Hid (I64 N) := hN
  obtain ⟨hN1, hN2⟩ := hN
  have hu := u16_any ba bc xs 0 w hx ⟨by decide, by decide⟩
  have hnl : nmV xs 0 2 < 65536 := nmV_lt hx.lim 0 2
  have HNO1 : Hid (rdC1 xs N = false → rdCL xs N = [] ∧ rdCE xs N = 2) := rdC_no1
  have HNO2 : Hid (foC (rdCc xs) N = false → rdCL xs N = [] ∧ rdCE xs N = 2) := rdC_no2
  have HYES : Hid (rdC1 xs N = true → foC (rdCc xs) N = true → rdCL xs N = rdCc xs ∧ rdCE xs N = 0) := fun h1 h2 => rdC_yes (by unfold rdCOk; rw [h1, h2]; rfl)
  have HRC : Hid (rdCc xs = rnsAt xs 2 (nmV xs 0 2)) := rfl
  have HR1 : Hid (rdC1 xs N = (inB xs.length 0 2 && (decide (nmV xs 0 2 ≤ 40) && (decide (xs.length = 2 + 10 * nmV xs 0 2) && decide (N ≤ 65536))))) := rfl
  have HBY : Hid (Byt xs) := hx.lim
  obtain ⟨n, hn⟩ : ∃ n, nmV xs 0 2 = n := ⟨_, rfl⟩
  obtain ⟨qb, hq⟩ : ∃ q, inB xs.length 0 2 = q := ⟨_, rfl⟩
  rw [hn] at hu hnl HRC HR1
  rw [hq] at hu HR1
  clear hn hq
  have hRef := Below.refl w.heap.size w
  go_enter Try.func17, Try.ntmps17
  go_wp2_with fail
  refine hu.mono ?_
  rintro e u0 ⟨rfl, rfl⟩
  clear hu
  by_cases hbad : rdC1 xs N = false
  · have HNO : Hid (_) := HNO1.out hbad
    rw [HR1.out] at hbad
    clear HNO1 HNO2 HYES HRC HR1 hx
    by_cases hb6 : 65536 < N
    · have g0 : decide (65536 < N) = true := decide_eq_true hb6
      clear hbad
      go_wp2
      go_ret2
      exact ⟨none, 0, by rw [HNO.out.1, HNO.out.2]; rfl, by rw [HNO.out.1]; exact Gr.nil _ _ _ _ _ (Nat.zero_le _) (fun _ => rfl), hRef⟩
    have g0 : decide (65536 < N) = false := decide_eq_false hb6
    rw [decide_eq_true (show N ≤ 65536 by omega), Bool.and_true] at hbad
    cases qb with
    | false =>
      clear hbad
      go_wp2
      go_ret2
      exact ⟨none, 0, by rw [HNO.out.1, HNO.out.2]; rfl, by rw [HNO.out.1]; exact Gr.nil _ _ _ _ _ (Nat.zero_le _) (fun _ => rfl), hRef⟩
    | true =>
    rw [Bool.true_and] at hbad
    by_cases hn4 : n ≤ 40
    rotate_left
    · have g1 : decide ((40 : Int) < (n : Int)) = true := decide_eq_true (by omega)
      clear hbad
      go_wp2
      go_ret2
      exact ⟨none, 0, by rw [HNO.out.1, HNO.out.2]; rfl, by rw [HNO.out.1]; exact Gr.nil _ _ _ _ _ (Nat.zero_le _) (fun _ => rfl), hRef⟩
    rw [decide_eq_true hn4, Bool.true_and] at hbad
    have hne : xs.length ≠ 2 + 10 * n := of_decide_eq_false hbad
    have g1 : decide ((40 : Int) < (n : Int)) = false := decide_eq_false (by omega)
    have g2 : ((xs.length : Int) != 2 + (n : Int) * 10) = true := bne_iff_ne.2 (by omega)
    have g3 : ((xs.length : Int) != (n : Int) * 10 + 2) = true := bne_iff_ne.2 (by omega)
    clear hbad hne
    go_wp2
    go_ret2
    exact ⟨none, 0, by rw [HNO.out.1, HNO.out.2]; rfl, by rw [HNO.out.1]; exact Gr.nil _ _ _ _ _ (Nat.zero_le _) (fun _ => rfl), hRef⟩
  have hgood : rdC1 xs N = true := by cases h : rdC1 xs N with | true => rfl | false => exact absurd h hbad
  have HYE2 : Hid (foC (rdCc xs) N = true → rdCL xs N = rdCc xs ∧ rdCE xs N = 0) := HYES.out hgood
  rw [HR1.out] at hgood
  simp only [Bool.and_eq_true, decide_eq_true_iff] at hgood
  obtain ⟨e1, hn4, hlen, hN6⟩ := hgood
  subst e1
  rw [HRC.out] at HNO2 HYE2
  clear HNO1 HYES HRC HR1 hbad
  have g0 : decide (65536 < N) = false := decide_eq_false (by omega)
  have g1 : decide ((40 : Int) < (n : Int)) = false := decide_eq_false (by omega)
  have g2 : ((xs.length : Int) != 2 + (n : Int) * 10) = false := by rw [hlen]; simp; omega
  obtain ⟨w1, hmk, hown, hb1, hs1⟩ := makeR n hn4 w
  have hI0 : Gw RnE 43 w.heap.size (fun _ => False) w1 (.slice (some ⟨w.heap.size, 0, none⟩) 0 n) [] := Gw.made hown
  have HX : Hid (Rb w ba bc xs) := hx
  obtain ⟨g, hgg⟩ : ∃ g, w.heap.size = g := ⟨_, rfl⟩
  have HG : Hid (w.heap.size = g) := hgg
  rw [hgg] at hI0 hmk
  have HLE : Hid (xs.length = 2 + 10 * n) := hlen
  clear hx hown hlen hRef
  go_wp2
  clear hmk hgg g0 g1 g2
  go_loopw [8, 9] (fun v i wr => ∃ (k : Nat), k ≤ n ∧ i = .int .i64 ((2 + 10 * k : Nat) : Int) ∧ Gw RnE 43 g (fun _ => False) wr v (rnsAt xs 2 k) ∧ g ≤ wr.heap.size ∧ Below w.heap.size w wr) (fun _ i _ => xs.length - (intOf i).toNat)
  case atStart => exact ⟨0, Nat.zero_le _, rfl, hI0, by rw [← HG.out]; exact hb1.size, hb1⟩
  case round =>
    clear hI0 hb1 hs1
    obtain ⟨k, hk, rfl, hGw, hgs, hB⟩ := hrel
    obtain ⟨a6, c6, e6, hgr6, hb6⟩ := hGw.slice
    subst e6
    rw [rnsAt_len] at hGw ⊢
    by_cases hkn : k < n
    · have g2 : ((2 + 10 * k : Nat) : Int) < (xs.length : Int) := by have := HLE.out; omega
      have hat := rat_any ba bc xs (2 + 10 * k) wr (HX.out.below hB) (by omega) (by omega)
      have HMW : Hid (RnW (rnAt xs (2 + 10 * k))) := rnAt_w HBY.out _
      have HSC : Hid (rnsAt xs 2 (k + 1) = rnsAt xs 2 k ++ [rnAt xs (2 + 10 * k)]) := rnsAt_succ _ _ _
      have HOW : Hid (∀ q, (Value.slice a6 k c6).ownBlock = some q → g ≤ q ∧ q < wr.heap.size) := fun q e => hGw.lo e
      have HQ : Hid (((2 + 10 * k : Nat) : Int) + 10 = ((2 + 10 * (k + 1) : Nat) : Int)) := by show _ = _; omega
      obtain ⟨x, hxx⟩ : ∃ x, rnAt xs (2 + 10 * k) = x := ⟨_, rfl⟩
      rw [hxx] at hat HMW HSC
      obtain ⟨q, hq⟩ : ∃ q, 2 + 10 * k = q := ⟨_, rfl⟩
      rw [hq] at hat g2 HQ ⊢
      have hq6 : q ≤ 1000 := by omega
      clear hgr6 hb6 hxx hq
      go_wp2_with fail
      refine hat.mono ?_
      rintro e u2 ⟨rfl, hb2⟩
      replace hGw := hGw.below hb2
      replace hB := hB.trans (hb2.mono hB.size)
      have hs2 := hb2.size
      clear hat hb2
      obtain ⟨V9, hV9, Y9, hb9⟩ : ∃ V, V = u2.alloc (.cells #[.int .i64 x.fr, .int .i64 x.to, .int .i64 x.gl] 43) ∧ Bk 43 V u2.heap.size [.int .i64 x.fr, .int .i64 x.to, .int .i64 x.gl] ∧ Below u2.heap.size u2 V := ⟨_, rfl, Bk.new _ _ _, bl1 _⟩
      have hGb := hGw.below hb9
      have hrep : RnE.rep (fun q => False ∧ (Value.slice a6 k c6).ownBlock ≠ some q) V9 [.int .i64 x.fr, .int .i64 x.to, .int .i64 x.gl] x := RnE_rep.2 ⟨rfl, HMW.out⟩
      have hone := Gr.one (E := RnE) hrep Y9.lt (fun j hj => Y9.cell j hj)
      have hBb : Below w.heap.size w V9 := hB.trans (hb9.mono hB.size)
      have hs9 := hb9.size
      have hbs : g ≤ V9.heap.size := by omega
      have hll : (rnsAt xs 2 k).length + 1 ≤ 1000000 := by rw [rnsAt_len]; omega
      clear hrep hGw hB
      go_wp2_with (at_builtin; rw [← hV9]; refine wpList_append_el 22 43 Try.underlying22 info_rn rfl (by decide) (by decide) rfl _ _ rfl g (fun _ => False) _ (rnsAt xs 2 k) rfl hGb (some ⟨u2.heap.size, 0, none⟩) 1 1 [x] rfl rfl hone hll hbs ?_)
      intro v9 w9 hT9 hgrow _
      rw [← hV9] at hgrow
      rw [← HSC.out] at hT9
      have hB9 : Below w.heap.size w w9 := hBb.grown hgrow hBb.size (fun q hq => by have := (HOW.out q hq).1; have := HG.out; omega)
      have hs10 : g ≤ w9.heap.size := Nat.le_trans hbs hgrow.size
      clear hgrow hGb hone hbs hll hBb hV9 Y9 hb9
      go_wp2
      rw [HQ.out]
      go_roundw
      case rel => exact ⟨k + 1, by omega, rfl, hT9, hs10, hB9⟩
      case measure =>
        have := HQ.out
        simp [intOf]
        omega
    · have hkk : k = n := by omega
      subst hkk
      have g4 : ¬ ((2 + 10 * k : Nat) : Int) < (xs.length : Int) := by have := HLE.out; omega
      have hgf := cformC_any _ a6 c6 (rnsAt xs 2 k) N wr hgr6 HI.out
      rw [rnsAt_len] at hgf
      have HGR : Hid (Gr RnE (fun _ => False) wr a6 c6 (rnsAt xs 2 k)) := hgr6
      have HLN : Hid ((rnsAt xs 2 k).length = k) := rnsAt_len _ _ _
      generalize rnsAt xs 2 k = tl at *
      clear hGw hgr6 hb6 hkn
      cases hfo : foC tl N with
      | false =>
        rw [hfo] at hgf
        have HNO : Hid (_) := HNO2.out hfo
        clear hfo HNO2 HYE2
        go_wp2_with fail
        refine hgf.mono ?_
        rintro e u3 ⟨rfl, hb3⟩
        have HFIN : Hid (_) := hB.trans (hb3.mono hB.size)
        clear hgf hb3
        go_wp2
        go_ret2
        exact ⟨none, 0, by rw [HNO.out.1, HNO.out.2]; rfl, by rw [HNO.out.1]; exact Gr.nil _ _ _ _ _ (Nat.zero_le _) (fun _ => rfl), HFIN.out⟩
      | true =>
        rw [hfo] at hgf
        have HYS : Hid (_) := HYE2.out hfo
        clear hfo HNO2 HYE2
        go_wp2_with fail
        refine hgf.mono ?_
        rintro e u3 ⟨rfl, hb3⟩
        have HFIN : Hid (_) := hB.trans (hb3.mono hB.size)
        have HGF : Hid (Gr RnE (fun k => w.heap.size ≤ k) u3 a6 c6 tl) := (HGR.out.below hb3).wide (fun k h1 _ => h1.elim)
        clear hgf hb3
        go_wp2
        go_ret2
        exact ⟨a6, c6, by rw [HYS.out.1, HYS.out.2, HLN.out]; rfl, by rw [HYS.out.1]; exact HGF.out, HFIN.out⟩

end Go.Proofs.Ytgambbmonbhpnaa

namespace Go.Proofs.Ytgambbmonbhpnaa
open Go.RowKit Go.Maps
set_option linter.unusedSimpArgs false
set_option linter.unusedVariables false

set_option maxHeartbeats 4000000 in
set_option maxRecDepth 100000 in
theorem sreadC_any (ba : Option Addr) (bc : Nat) (xs : List Nat) (N : Int) (w : World) (hx : Rb w ba bc xs) (hN : I64 N) (hxl : xs.length ≤ 1048576) :
    Calls Try.prog 18 #[.slice ba xs.length bc, .int .i64 N] w fun e w' => ∃ a' c', e = .returned (.tuple #[.slice a' (rdCL xs N).length c', .int .i64 (rdCE xs N)]) ∧ Gr RnE (fun k => w.heap.size ≤ k) w' a' c' (rdCL xs N) ∧ Below w.heap.size w w' := by
  have hpc := hx.le
  have hpm := hx.cap
  unfold maxLen at hpm
  have HI : Hid (I64 N) := hN
  obtain ⟨hN1, hN2⟩ := hN
  have hu := su16_any ba bc xs 0 w hx ⟨by decide, by decide⟩
  have hnl : nmV xs 0 2 < 65536 := nmV_lt hx.lim 0 2
  have HNO1 : Hid (rdC1 xs N = false → rdCL xs N = [] ∧ rdCE xs N = 2) := rdC_no1
  have HNO2 : Hid (foC (rdCc xs) N = false → rdCL xs N = [] ∧ rdCE xs N = 2) := rdC_no2
  have HYES : Hid (rdC1 xs N = true → foC (rdCc xs) N = true → rdCL xs N = rdCc xs ∧ rdCE xs N = 0) := fun h1 h2 => rdC_yes (by unfold rdCOk; rw [h1, h2]; rfl)
  have HRC : Hid (rdCc xs = rnsAt xs 2 (nmV xs 0 2)) := rfl
  have HR1 : Hid (rdC1 xs N = (inB xs.length 0 2 && (decide (nmV xs 0 2 ≤ 40) && (decide (xs.length = 2 + 10 * nmV xs 0 2) && decide (N ≤ 65536))))) := rfl
  have HBY : Hid (Byt xs) := hx.lim
  obtain ⟨n, hn⟩ : ∃ n, nmV xs 0 2 = n := ⟨_, rfl⟩
  obtain ⟨qb, hq⟩ : ∃ q, inB xs.length 0 2 = q := ⟨_, rfl⟩
  rw [hn] at hu hnl HRC HR1
  rw [hq] at hu HR1
  clear hn hq
  have hRef := Below.refl w.heap.size w
  go_enter Try.func18, Try.ntmps18
  go_wp2_with fail
  refine hu.mono ?_
  rintro e u0 ⟨rfl, rfl⟩
  clear hu
  by_cases hbad : rdC1 xs N = false
  · have HNO : Hid (_) := HNO1.out hbad
    rw [HR1.out] at hbad
    clear HNO1 HNO2 HYES HRC HR1 hx
    cases qb with
    | false =>
      clear hbad
      go_wp2
      go_ret2
      exact ⟨none, 0, by rw [HNO.out.1, HNO.out.2]; rfl, by rw [HNO.out.1]; exact Gr.nil _ _ _ _ _ (Nat.zero_le _) (fun _ => rfl), hRef⟩
    | true =>
    rw [Bool.true_and] at hbad
    by_cases hn4 : n ≤ 40
    rotate_left
    · have g1 : decide ((40 : Int) < (n : Int)) = true := decide_eq_true (by omega)
      clear hbad
      go_wp2
      go_ret2
      exact ⟨none, 0, by rw [HNO.out.1, HNO.out.2]; rfl, by rw [HNO.out.1]; exact Gr.nil _ _ _ _ _ (Nat.zero_le _) (fun _ => rfl), hRef⟩
    rw [decide_eq_true hn4, Bool.true_and] at hbad
    have g1 : decide ((40 : Int) < (n : Int)) = false := decide_eq_false (by omega)
    by_cases hne : xs.length = 2 + 10 * n
    rotate_left
    · have g2 : ((xs.length : Int) != 2 + 10 * (n : Int)) = true := bne_iff_ne.2 (by omega)
      clear hbad hne
      go_wp2
      go_ret2
      exact ⟨none, 0, by rw [HNO.out.1, HNO.out.2]; rfl, by rw [HNO.out.1]; exact Gr.nil _ _ _ _ _ (Nat.zero_le _) (fun _ => rfl), hRef⟩
    rw [decide_eq_true hne, Bool.true_and] at hbad
    have g2 : ((xs.length : Int) != 2 + 10 * (n : Int)) = false := by rw [show (xs.length : Int) = 2 + 10 * (n : Int) by omega]; simp
    have hb6 : 65536 < N := by have := of_decide_eq_false hbad; omega
    have g0 : decide (65536 < N) = true := decide_eq_true hb6
    clear hbad hne
    go_wp2
    go_ret2
    exact ⟨none, 0, by rw [HNO.out.1, HNO.out.2]; rfl, by rw [HNO.out.1]; exact Gr.nil _ _ _ _ _ (Nat.zero_le _) (fun _ => rfl), hRef⟩
  have hgood : rdC1 xs N = true := by cases h : rdC1 xs N with | true => rfl | false => exact absurd h hbad
  have HYE2 : Hid (foC (rdCc xs) N = true → rdCL xs N = rdCc xs ∧ rdCE xs N = 0) := HYES.out hgood
  rw [HR1.out] at hgood
  simp only [Bool.and_eq_true, decide_eq_true_iff] at hgood
  obtain ⟨e1, hn4, hlen, hN6⟩ := hgood
  subst e1
  rw [HRC.out] at HNO2 HYE2
  clear HNO1 HYES HRC HR1 hbad
  have g0 : decide (65536 < N) = false := decide_eq_false (by omega)
  have g1 : decide ((40 : Int) < (n : Int)) = false := decide_eq_false (by omega)
  have g2 : ((xs.length : Int) != 2 + 10 * (n : Int)) = false := by rw [show (xs.length : Int) = 2 + 10 * (n : Int) by omega]; simp
  have hI0 : Gw RnE 43 w.heap.size (fun _ => False) w (.slice none 0 0) [] := Gw.nil _ _ _ _ _
  have HX : Hid (Rb w ba bc xs) := hx
  obtain ⟨g, hgg⟩ : ∃ g, w.heap.size = g := ⟨_, rfl⟩
  have HG : Hid (w.heap.size = g) := hgg
  rw [hgg] at hI0
  have HLE : Hid (xs.length = 2 + 10 * n) := hlen
  clear hx hlen hRef
  go_wp2
  clear hgg g0 g1 g2
  go_loopw [8, 9] (fun v i wr => ∃ (k : Nat), k ≤ n ∧ i = .int .i64 (k : Int) ∧ Gw RnE 43 g (fun _ => False) wr v (rnsAt xs 2 k) ∧ g ≤ wr.heap.size ∧ Below w.heap.size w wr) (fun _ i _ => n - (intOf i).toNat)
  case atStart => exact ⟨0, Nat.zero_le _, rfl, hI0, by rw [← HG.out]; exact Nat.le_refl _, Below.refl _ _⟩
  case round =>
    clear hI0
    obtain ⟨k, hk, rfl, hGw, hgs, hB⟩ := hrel
    obtain ⟨a6, c6, e6, hgr6, hb6⟩ := hGw.slice
    subst e6
    rw [rnsAt_len] at hGw ⊢
    by_cases hkn : k < n
    · have g2 : (k : Int) < (n : Int) := by omega
      have e1 : ((2 + 10 * k : Nat) : Int) = 2 + 10 * (k : Int) := by omega
      have e2 : ((2 + 10 * k + 4 : Nat) : Int) = 6 + 10 * (k : Int) := by omega
      have e3 : ((2 + 10 * k + 8 : Nat) : Int) = 10 + 10 * (k : Int) := by omega
      have hT := fun U (hr : Rb U ba bc xs) => su32_any ba bc xs (2 + 10 * (k : Int)) U hr ⟨by omega, by omega⟩
      have hI1 := fun U (hr : Rb U ba bc xs) => su32_any ba bc xs (6 + 10 * (k : Int)) U hr ⟨by omega, by omega⟩
      have hI2 := fun U (hr : Rb U ba bc xs) => su16_any ba bc xs (10 + 10 * (k : Int)) U hr ⟨by omega, by omega⟩
      have HMW : Hid (RnW (rnAt xs (2 + 10 * k))) := rnAt_w HBY.out _
      have HSC : Hid (rnsAt xs 2 (k + 1) = rnsAt xs 2 k ++ [rnAt xs (2 + 10 * k)]) := rnsAt_succ _ _ _
      have HE : Hid (rnAt xs (2 + 10 * k) = ⟨((nmV xs (2 + 10 * (k : Int)) 4 : Nat) : Int), ((nmV xs (6 + 10 * (k : Int)) 4 : Nat) : Int), ((nmV xs (10 + 10 * (k : Int)) 2 : Nat) : Int)⟩) := by show _ = _; unfold rnAt; rw [e1, e2, e3]
      rw [HE.out] at HMW HSC
      obtain ⟨m1, m2, m3⟩ := HMW.out
      dsimp only at m1 m2 m3
      have HOW : Hid (∀ q, (Value.slice a6 k c6).ownBlock = some q → g ≤ q ∧ q < wr.heap.size) := fun q e => hGw.lo e
      generalize ((nmV xs (2 + 10 * (k : Int)) 4 : Nat) : Int) = z0 at *
      generalize ((nmV xs (6 + 10 * (k : Int)) 4 : Nat) : Int) = z1 at *
      generalize ((nmV xs (10 + 10 * (k : Int)) 2 : Nat) : Int) = z2 at *
      generalize inB xs.length (2 + 10 * (k : Int)) 4 = q1 at *
      generalize inB xs.length (6 + 10 * (k : Int)) 4 = q2 at *
      generalize inB xs.length (10 + 10 * (k : Int)) 2 = q3 at *
      obtain ⟨V, hV, X0, hb0⟩ : ∃ V, V = wr.alloc (.cells #[.int .i64 0, .int .i64 0, .int .i64 0] 43) ∧ Bk 43 V wr.heap.size [.int .i64 0, .int .i64 0, .int .i64 0] ∧ Below wr.heap.size wr V := ⟨_, rfl, Bk.new _ _ _, bl1 _⟩
      obtain ⟨gt, hgt⟩ : ∃ g, wr.heap.size = g := ⟨_, rfl⟩
      have HGT : Hid (wr.heap.size = gt) := hgt
      have HR : Hid (Rb wr ba bc xs) := HX.out.below hB
      clear hgr6 hb6 e1 e2 e3 HE
      go_upto_region 9 with fail
      rw [← hV]
      rw [hgt] at X0
      try rw [hgt]
      clear hV hgt
      go_wp2_with fail
      refine (hT _ (HR.out.below hb0)).mono ?_
      rintro e y1 ⟨rfl, rfl⟩
      clear hT
      obtain ⟨c0, c1, c2, f0, f1, f2⟩ := X0.three
      have hy2 : Below wr.heap.size wr (V.setCell ⟨gt, 0, none⟩ (.int .i64 z0)) := hb0.setCell (p := ⟨gt, 0, none⟩) (Nat.le_of_eq HGT.out) _
      have X2 := X0.set 0 (.int .i64 z0)
      obtain ⟨Y2, hY2⟩ : ∃ Y, V.setCell ⟨gt, 0, none⟩ (.int .i64 z0) = Y := ⟨_, rfl⟩
      rw [hY2] at hy2 X2
      replace X2 : Bk 43 Y2 gt [.int .i64 z0, .int .i64 0, .int .i64 0] := X2
      clear hb0 X0
      go_upto_region 10 with fail
      try rw [hY2]
      clear hY2 c0 c1 c2 f0 f1 f2
      go_wp2_with fail
      refine (hI1 _ (HR.out.below hy2)).mono ?_
      rintro e y3 ⟨rfl, rfl⟩
      clear hI1
      obtain ⟨c0, c1, c2, f0, f1, f2⟩ := X2.three
      have hy3 : Below wr.heap.size wr (Y2.setCell ⟨gt, 1, none⟩ (.int .i64 z1)) := hy2.setCell (p := ⟨gt, 1, none⟩) (Nat.le_of_eq HGT.out) _
      have X3 := X2.set 1 (.int .i64 z1)
      obtain ⟨Y3, hY3⟩ : ∃ Y, Y2.setCell ⟨gt, 1, none⟩ (.int .i64 z1) = Y := ⟨_, rfl⟩
      rw [hY3] at hy3 X3
      replace X3 : Bk 43 Y3 gt [.int .i64 z0, .int .i64 z1, .int .i64 0] := X3
      clear hy2 X2
      go_upto_region 11 with fail
      try rw [hY3]
      clear hY3 c0 c1 c2 f0 f1 f2
      go_wp2_with fail
      refine (hI2 _ (HR.out.below hy3)).mono ?_
      rintro e y4 ⟨rfl, rfl⟩
      clear hI2
      obtain ⟨c0, c1, c2, f0, f1, f2⟩ := X3.three
      have hy4 : Below wr.heap.size wr (Y3.setCell ⟨gt, 2, none⟩ (.int .i64 z2)) := hy3.setCell (p := ⟨gt, 2, none⟩) (Nat.le_of_eq HGT.out) _
      have X4 := X3.set 2 (.int .i64 z2)
      obtain ⟨u2, hu2⟩ : ∃ Y, Y3.setCell ⟨gt, 2, none⟩ (.int .i64 z2) = Y := ⟨_, rfl⟩
      rw [hu2] at hy4 X4
      replace X4 : Bk 43 u2 gt [.int .i64 z0, .int .i64 z1, .int .i64 z2] := X4
      clear hy3 X3
      go_upto_region 12 with fail
      try rw [hu2]
      clear hu2 c0 c1 c2 f0 f1 f2
      obtain ⟨c0, c1, c2, -⟩ := X4.three
      replace hGw := hGw.below hy4
      replace hB := hB.trans (hy4.mono hB.size)
      have hs2 := hy4.size
      clear hy4 X4
      obtain ⟨V9, hV9, Y9, hb9⟩ : ∃ V, V = u2.alloc (.cells #[.int .i64 z0, .int .i64 z1, .int .i64 z2] 43) ∧ Bk 43 V u2.heap.size [.int .i64 z0, .int .i64 z1, .int .i64 z2] ∧ Below u2.heap.size u2 V := ⟨_, rfl, Bk.new _ _ _, bl1 _⟩
      have hGb := hGw.below hb9
      have hrep : RnE.rep (fun q => False ∧ (Value.slice a6 k c6).ownBlock ≠ some q) V9 [.int .i64 z0, .int .i64 z1, .int .i64 z2] ⟨z0, z1, z2⟩ := RnE_rep.2 ⟨rfl, HMW.out⟩
      have hone := Gr.one (E := RnE) hrep Y9.lt (fun j hj => Y9.cell j hj)
      have hBb : Below w.heap.size w V9 := hB.trans (hb9.mono hB.size)
      have hs9 := hb9.size
      have hbs : g ≤ V9.heap.size := by omega
      have hll : (rnsAt xs 2 k).length + 1 ≤ 1000000 := by rw [rnsAt_len]; omega
      clear hrep hGw hB
      go_wp2_with (at_builtin; rw [← hV9]; refine wpList_append_el 22 43 Try.underlying22 info_rn rfl (by decide) (by decide) rfl _ _ rfl g (fun _ => False) _ (rnsAt xs 2 k) rfl hGb (some ⟨u2.heap.size, 0, none⟩) 1 1 [⟨z0, z1, z2⟩] rfl rfl hone hll hbs ?_)
      intro v9 w9 hT9 hgrow _
      rw [← hV9] at hgrow
      rw [← HSC.out] at hT9
      have hB9 : Below w.heap.size w w9 := hBb.grown hgrow hBb.size (fun q hq => by have := (HOW.out q hq).1; have := HG.out; omega)
      have hs10 : g ≤ w9.heap.size := Nat.le_trans hbs hgrow.size
      clear hgrow hGb hone hbs hll hBb hV9 Y9 hb9 c0 c1 c2
      go_wp2
      go_roundw
      case rel => exact ⟨k + 1, by omega, by go_num, hT9, hs10, hB9⟩
      case measure => simp [intOf]; omega
    · have hkk : k = n := by omega
      subst hkk
      have g4 : ¬ (k : Int) < (k : Int) := by omega
      have hgf := sformC_any _ a6 c6 (rnsAt xs 2 k) N wr hgr6 HI.out
      rw [rnsAt_len] at hgf
      have HGR : Hid (Gr RnE (fun _ => False) wr a6 c6 (rnsAt xs 2 k)) := hgr6
      have HLN : Hid ((rnsAt xs 2 k).length = k) := rnsAt_len _ _ _
      generalize rnsAt xs 2 k = tl at *
      clear hGw hgr6 hb6 hkn
      cases hfo : foC tl N with
      | false =>
        rw [hfo] at hgf
        have HNO : Hid (_) := HNO2.out hfo
        clear hfo HNO2 HYE2
        go_wp2_with fail
        refine hgf.mono ?_
        rintro e u3 ⟨rfl, hb3⟩
        have HFIN : Hid (_) := hB.trans (hb3.mono hB.size)
        clear hgf hb3
        go_wp2
        go_ret2
        exact ⟨none, 0, by rw [HNO.out.1, HNO.out.2]; rfl, by rw [HNO.out.1]; exact Gr.nil _ _ _ _ _ (Nat.zero_le _) (fun _ => rfl), HFIN.out⟩
      | true =>
        rw [hfo] at hgf
        have HYS : Hid (_) := HYE2.out hfo
        clear hfo HNO2 HYE2
        go_wp2_with fail
        refine hgf.mono ?_
        rintro e u3 ⟨rfl, hb3⟩
        have HFIN : Hid (_) := hB.trans (hb3.mono hB.size)
        have HGF : Hid (Gr RnE (fun k => w.heap.size ≤ k) u3 a6 c6 tl) := (HGR.out.below hb3).wide (fun k h1 _ => h1.elim)
        clear hgf hb3
        go_wp2
        go_ret2
        exact ⟨a6, c6, by rw [HYS.out.1, HYS.out.2, HLN.out]; rfl, by rw [HYS.out.1]; exact HGF.out, HFIN.out⟩

end Go.Proofs.Ytgambbmonbhpnaa
