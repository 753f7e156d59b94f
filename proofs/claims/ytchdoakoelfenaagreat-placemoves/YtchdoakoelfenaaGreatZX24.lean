/-
  place.All, its region of two calls: the walk.
  place.All: the walk.
-/
import Derived.Test.YtchdoakoelfenaaGreatZX23
import Derived.Test.YtchdoakoelfenaaGreatZX5
namespace Go.Proofs.YtchdoakoelfenaaGreat
open Go.RowKit Go.Maps
set_option linter.unusedSimpArgs false
set_option linter.unusedVariables false

theorem Gw.lowB {α : Type} {E : El α} {t : TypeId} {b b' : Nat} {S : Nat → Prop} {w : World} {v : Value} {l : List α} (h : Gw E t b S w v l) (hb : b' ≤ b) : Gw E t b' S w v l := by
  obtain ⟨vss, h1, h3, h4⟩ := h
  refine ⟨vss, h1, ⟨h3.1, ?_⟩, h4⟩
  rcases h3.2 with h | ⟨g, cap, cur, k1, k2, k3⟩
  · exact .inl h
  · exact .inr ⟨g, cap, cur, k1, Nat.le_trans hb k2, k3⟩
/-- Six cells of a block put anew. -/
theorem Bk.setM {t : TypeId} {w : World} {g : Nat} {x y z u v r : Value} (h : Bk t w g [x, y, z, u, v, r]) (x' y' z' u' v' r' : Value) : Bk t ((((((w.setCell ⟨g, 0, none⟩ x').setCell ⟨g, 1, none⟩ y').setCell ⟨g, 2, none⟩ z').setCell ⟨g, 3, none⟩ u').setCell ⟨g, 4, none⟩ v').setCell ⟨g, 5, none⟩ r') g [x', y', z', u', v', r'] := (((((h.set 0 x').set 1 y').set 2 z').set 3 u').set 4 v').set 5 r'
theorem Kp.setM {g : Nat} {a w : World} (h : Kp g a w) (x' y' z' u' v' r' : Value) : Kp g a ((((((w.setCell ⟨g, 0, none⟩ x').setCell ⟨g, 1, none⟩ y').setCell ⟨g, 2, none⟩ z').setCell ⟨g, 3, none⟩ u').setCell ⟨g, 4, none⟩ v').setCell ⟨g, 5, none⟩ r') := (((((h.setCell 0 x').setCell 1 y').setCell 2 z').setCell 3 u').setCell 4 v').setCell 5 r'
theorem Bk.fz6 {t : TypeId} {w : World} {g : Nat} {cs : List Value} (h : Bk t w g cs) : w.frozen? ⟨g, 0, none⟩ = false ∧ w.frozen? ⟨g, 1, none⟩ = false ∧ w.frozen? ⟨g, 2, none⟩ = false ∧ w.frozen? ⟨g, 3, none⟩ = false ∧ w.frozen? ⟨g, 4, none⟩ = false ∧ w.frozen? ⟨g, 5, none⟩ = false := ⟨h.fz 0, h.fz 1, h.fz 2, h.fz 3, h.fz 4, h.fz 5⟩
/-- A line of the call's own, and a block of another type. -/
theorem Ln.neB {base : Nat} {w : World} {v : Value} {P : List Pd} {t : TypeId} {g : Nat} {cs : List Value} (h : Ln base w v P) (hb : Bk t w g cs) (ht : t ≠ 54) : v.ownBlock ≠ some g := by
  intro e
  obtain ⟨cur, k⟩ := Gw.ty h e
  rw [hb] at k
  simp at k
  exact ht k.2
theorem Ln.kpB {base : Nat} {w w' : World} {v : Value} {P : List Pd} {t : TypeId} {g : Nat} {cs : List Value} (h : Ln base w v P) (hb : Bk t w g cs) (ht : t ≠ 54) (hk : Kp g w w') : Ln base w' v P :=
  Gw.stay h hk.size (fun _ hf => hf.elim) (fun k hkk => hk.block (h.lo hkk).2 (fun e => h.neB hb ht (by rw [hkk, e])))
theorem Gi.kpB {base : Nat} {w w' : World} {v : Value} {L : List Int} {t : TypeId} {g : Nat} {cs : List Value} (h : Gi base w v L) (hb : Bk t w g cs) (ht : t ≠ 3) (hk : Kp g w w') : Gi base w' v L :=
  h.stay hk.size (fun k hkk => hk.block (h.lo hkk).2 (fun e => h.ne hb ht (by rw [hkk, e])))
theorem alM_thB {ro re : Int × Int → Int} {ms : List Bool} {l : List Lk} {ks : List Int} {P : List Pd} {r k : Nat} (hr : r < ks.length) (hk : ks.getD r 0 = (k : Int)) (hl : k < l.length) (h : thQ ro re ms (l.getD k Lk.none) P = none) : alM ro re ms l (ks.drop r) P = (4, []) := by
  unfold thQ at h
  split at h
  · next h1 => exact alM_bad hr hk hl h1 h
  · cases h
theorem alM_thO {ro re : Int × Int → Int} {ms : List Bool} {l : List Lk} {ks : List Int} {P Q : List Pd} {r k : Nat} (hr : r < ks.length) (hk : ks.getD r 0 = (k : Int)) (hl : k < l.length) (h : thQ ro re ms (l.getD k Lk.none) P = some Q) : alM ro re ms l (ks.drop r) P = alM ro re ms l (ks.drop (r + 1)) Q := by
  unfold thQ at h
  split at h
  · next h1 => exact alM_on hr hk hl h1 h
  · next h1 =>
    injection h with h
    rw [← h]
    exact alM_other hr hk hl (Bool.eq_false_iff.2 h1)
theorem th_keep {fi : Int → Int → Bool} {ro re : Int × Int → Int} {ms : List Bool} {l : List Lk} {P Q : List Pd} {k : Nat} (hf : foM20 fi l 65536 = true) (hl : k < l.length) (h : thQ ro re ms (l.getD k Lk.none) P = some Q) : Q.length = P.length ∧ naL Q = naL P := by
  unfold thQ at h
  split at h
  · next h1 => exact ru_keep (inn_two hf hl h1) _ P Q 0 (Int.le_refl _) h
  · injection h with h
    rw [h]
    exact ⟨rfl, rfl⟩
theorem th_nil {ro re : Int × Int → Int} {ms : List Bool} {x : Lk} : thQ ro re ms x [] = some [] := by
  unfold thQ
  split
  · exact ruQ_end (Int.le_refl _) (by simp)
  · rfl
/-- What All answers. -/
structure PaA (r : Int × List Pd) (base : Nat) (w' : World) (e : Ending) : Prop where
  out : ∃ v, e = .returned (.tuple #[v, .int .i64 r.1]) ∧ Ln base w' v r.2
theorem PaA.nil {r : Int × List Pd} {base : Nat} {w' : World} {z : Int} (h : r = (z, [])) : PaA r base w' (.returned (.tuple #[.slice none 0 0, .int .i64 z])) := ⟨_, by rw [h], by rw [h]; exact Gw.nil _ _ _ _ _⟩
theorem PaA.yes {r : Int × List Pd} {base : Nat} {w' : World} {Q : List Pd} {v : Value} (h : r = (0, Q)) (hl : Ln base w' v Q) : PaA r base w' (.returned (.tuple #[v, .int .i64 0])) := ⟨v, by rw [h], by rw [h]; exact hl⟩
/-- What stands behind the region: a mover in a block of its own. -/
def MvS (ga : Option Addr) (gc : Nat) (ma : Option Addr) (mc : Nat) (s : Sr) (ka : Option Addr) (kc : Nat) (ms : List Bool) (pa : Option Addr) (pc : Nat) (cs : List Int) (P : List Pd) (base : Nat) (v : Value) (wx : World) : Prop :=
  ∃ mb va vc na nc, v = .pointer (some ⟨mb, 0, none⟩) ∧ base ≤ mb ∧ Bk 61 wx mb [.slice ga s.rg.length gc, .slice ma s.rw.length mc, .slice ka ms.length kc, .slice pa cs.length pc, .slice va P.length vc, .slice na P.length nc] ∧ Ln base wx (.slice va P.length vc) P ∧ Gi base wx (.slice na P.length nc) (naL P)

end Go.Proofs.YtchdoakoelfenaaGreat

namespace Go.Proofs.YtchdoakoelfenaaGreat
open Go.RowKit Go.Maps
set_option linter.unusedSimpArgs false
set_option linter.unusedVariables false

set_option maxHeartbeats 16000000 in
set_option maxRecDepth 100000 in
theorem callP_any (Sl Sm Sp : Nat → Prop) (la : Option Addr) (lc : Nat) (l : List Lk) (xa : Option Addr) (xc : Nat) (ks : List Int) (ga : Option Addr) (gc : Nat) (ma : Option Addr) (mc : Nat) (s : Sr) (ka : Option Addr) (kc : Nat) (ms : List Bool) (pa : Option Addr) (pc : Nat) (cs : List Int) (qa : Option Addr) (qc : Nat) (P : List Pd) (w : World)
    (hl : Gr LkE Sl w la lc l) (hx : Ri w xa xc ks) (hg : Tzz w ga gc s.rg) (hrw : Rii w ma mc s.rw) (hm : Gr El.bool Sm w ka kc ms) (hp : Ri w pa pc cs) (h40 : s.rg.length ≤ 40) (h8 : ∀ l ∈ s.rg, l.length ≤ 8) (hP : Gr PdE Sp w qa qc P) (hPl : P.length ≤ 1000) :
    Calls Tryz.prog 6 #[.slice la l.length lc, .slice xa ks.length xc, .agg #[.slice ga s.rg.length gc, .slice ma s.rw.length mc, .slice ka ms.length kc, .slice pa cs.length pc], .slice qa P.length qc] w fun e w' => PaA (paE (fiS s) (rO s cs) (rE s cs) ms l ks P) w.heap.size w' e ∧ Below w.heap.size w w' := by
  have kP := hP.lenB
  have kl := hl.lenB
  have kx := hx.lenB
  have k2 := hrw.lenB
  obtain ⟨W, hW, X1, hbW⟩ : ∃ W, W = w.alloc (.cells #[.slice ga s.rg.length gc, .slice ma s.rw.length mc, .slice ka ms.length kc, .slice pa cs.length pc] 32) ∧ Bk 32 W w.heap.size [.slice ga s.rg.length gc, .slice ma s.rw.length mc, .slice ka ms.length kc, .slice pa cs.length pc] ∧ Below w.heap.size w W := ⟨_, rfl, Bk.new _ _ _, bl1 _⟩
  obtain ⟨x0, x1, x2, x3, -⟩ := X1.four
  have hfo := cformP21_any Sl la lc l ga gc ma mc s 65536 W (hl.below hbW) k2 ⟨by decide, by decide⟩
  have HNF : Hid (foM20 (fiS s) l 65536 = false → paE (fiS s) (rO s cs) (rE s cs) ms l ks P = (1, [])) := fun h => by unfold paE; rw [if_neg (by rw [h]; decide)]
  have HLG : Hid (foM20 (fiS s) l 65536 = true → 100 < P.length → paE (fiS s) (rO s cs) (rE s cs) ms l ks P = (3, [])) := fun h h1 => by unfold paE; rw [if_pos h, if_pos h1]
  have HGO : Hid (foM20 (fiS s) l 65536 = true → ¬ 100 < P.length → paE (fiS s) (rO s cs) (rE s cs) ms l ks P = alM (rO s cs) (rE s cs) ms l ks P) := fun h h1 => by unfold paE; rw [if_pos h, if_neg h1]
  have HFO : Hid (∀ b, foM20 (fiS s) l 65536 = b → foM20 (fiS s) l 65536 = b) := fun _ h => h
  generalize paE (fiS s) (rO s cs) (rE s cs) ms l ks P = PR at HNF HLG HGO ⊢
  have HL : Hid (Gr LkE Sl w la lc l) := hl
  have HXK : Hid (Ri w xa xc ks) := hx
  have HG : Hid (Tzz w ga gc s.rg) := hg
  have HRW : Hid (Rii w ma mc s.rw) := hrw
  have HM : Hid (Gr El.bool Sm w ka kc ms) := hm
  have HP : Hid (Ri w pa pc cs) := hp
  have HPP : Hid (Gr PdE Sp w qa qc P) := hP
  have HBW : Hid (Below w.heap.size w W) := hbW
  have HX1 : Hid (Bk 32 W w.heap.size [.slice ga s.rg.length gc, .slice ma s.rw.length mc, .slice ka ms.length kc, .slice pa cs.length pc]) := X1
  clear hl hx hg hrw hm hp hP
  go_enter Tryz.func6, Tryz.ntmps6
  go_upto_region 1 with fail
  rw [← hW]
  clear hW X1
  cases hfm : foM20 (fiS s) l 65536 with
  | false =>
    have HV : Hid (∀ U, PaA PR w.heap.size U (.returned (.tuple #[.slice none 0 0, .int .i64 1]))) := fun U => PaA.nil (HNF.out hfm)
    rw [hfm] at hfo
    clear HNF HLG HGO HFO hfm HL HXK HG HRW HM HP HPP
    go_wp2_with fail
    refine hfo.mono ?_
    rintro e u ⟨rfl, hb⟩
    have hfin := hbW.trans (hb.mono hbW.size)
    clear hfo hb
    go_wp2
    go_ret2
    exact ⟨HV.out _, hfin⟩
  | true =>
  have HFM : Hid (foM20 (fiS s) l 65536 = true) := hfm
  rw [hfm] at hfo
  by_cases hlong : 100 < P.length
  · have HV : Hid (∀ U, PaA PR w.heap.size U (.returned (.tuple #[.slice none 0 0, .int .i64 3]))) := fun U => PaA.nil (HLG.out hfm hlong)
    have g1 : (100 : Int) < (P.length : Int) := by omega
    clear HNF HLG HGO HFO hfm HL HXK HG HRW HM HP HPP hlong
    go_wp2_with fail
    refine hfo.mono ?_
    rintro e u ⟨rfl, hb⟩
    have hfin := hbW.trans (hb.mono hbW.size)
    clear hfo hb
    go_wp2
    go_ret2
    exact ⟨HV.out _, hfin⟩
  have HPR : Hid (PR = alM (rO s cs) (rE s cs) ms l ks P) := HGO.out hfm hlong
  have g1 : ¬ (100 : Int) < (P.length : Int) := by omega
  clear HNF HLG HGO HFO hfm hlong
  go_wp2_with fail
  refine hfo.mono ?_
  rintro e u ⟨rfl, hb⟩
  have hU := hbW.trans (hb.mono hbW.size)
  have X1 := HX1.out.below hb
  clear hfo hb x0 x1 x2 x3 HX1 hbW HBW
  go_upto_region 5 with fail
  clear W
  obtain ⟨W, hW9⟩ : ∃ W, W = u := ⟨_, rfl⟩
  rw [← hW9] at hU X1 ⊢
  clear hW9 u
  obtain ⟨x0, x1, x2, x3, -⟩ := X1.four
  have HS0 : Hid (w.heap.size < W.heap.size) := X1.lt
  have HSC : Hid (W.cell? ⟨w.heap.size, 0, none⟩ = some (.slice ga s.rg.length gc) ∧ W.cell? ⟨w.heap.size, 1, none⟩ = some (.slice ma s.rw.length mc) ∧ W.cell? ⟨w.heap.size, 2, none⟩ = some (.slice ka ms.length kc) ∧ W.cell? ⟨w.heap.size, 3, none⟩ = some (.slice pa cs.length pc)) := ⟨x0, x1, x2, x3⟩
  have HBU : Hid (Below w.heap.size w W) := hU
  go_cut [10] from 24 to 29 (fun v wx => MvS ga gc ma mc s ka kc ms pa pc cs P w.heap.size v wx ∧ Below W.heap.size W wx)
  case first =>
    have hcl := fun Z (hZ : Below W.heap.size W Z) => ccloneP_any Sp qa qc P Z ((HPP.out.below hU).below hZ) hPl
    have hgl := fun Z (hZ : Below W.heap.size W Z) => glyphsOf_any Sp qa qc P Z ((HPP.out.below hU).below hZ) hPl
    have hWs : w.heap.size ≤ W.heap.size := hU.size
    refine wp_region_held_drew (S := (fun u => u.cell? ⟨w.heap.size, 0, none⟩ = some (.slice ga s.rg.length gc) ∧ u.cell? ⟨w.heap.size, 1, none⟩ = some (.slice ma s.rw.length mc) ∧ u.cell? ⟨w.heap.size, 2, none⟩ = some (.slice ka ms.length kc) ∧ u.cell? ⟨w.heap.size, 3, none⟩ = some (.slice pa cs.length pc))) (by kernel_rfl) ⟨x0, x1, x2, x3⟩ (fun hHeld => ?_)
    have hZ0 : Below W.heap.size W W.drew := (Below.refl _ _).drew
    generalize W.drew = Z0 at hZ0 hHeld ⊢
    clear HL HXK HG HRW HM HP HPP HFM HPR x0 x1 x2 x3 X1 hU HBU
    refine hT 0 hHeld ?_
    refine hT 1 hHeld ?_
    refine hT 3 hHeld ?_
    refine wpAnyH_ready (rs := [2, 6]) (by kernel_rfl) (by simp) (hCons (i := 2) rfl (by rfl) (fun K hK => ?_) (hCons (i := 6) rfl (by rfl) (fun K hK => ?_) AllReadyH.nil))
    · go_simp
      refine (hcl Z0 hZ0).mono ?_
      rintro e Z1 ⟨⟨v, rfl, hv⟩, hb⟩
      obtain ⟨va, vc, rfl, -, -⟩ := hv.slice
      have hLn : Ln w.heap.size Z1 (.slice va P.length vc) P := Gw.lowB hv (Nat.le_trans hWs hZ0.size)
      have hZ1 := hZ0.trans (hb.mono hZ0.size)
      go_wp2_with fail
      refine hK.out _ _ ⟨(hb.cell (p := ⟨w.heap.size, 0, none⟩) (by show w.heap.size < _; have := HS0.out; have := hZ0.size; omega)).trans hHeld.1, (hb.cell (p := ⟨w.heap.size, 1, none⟩) (by show w.heap.size < _; have := HS0.out; have := hZ0.size; omega)).trans hHeld.2.1, (hb.cell (p := ⟨w.heap.size, 2, none⟩) (by show w.heap.size < _; have := HS0.out; have := hZ0.size; omega)).trans hHeld.2.2.1, (hb.cell (p := ⟨w.heap.size, 3, none⟩) (by show w.heap.size < _; have := HS0.out; have := hZ0.size; omega)).trans hHeld.2.2.2⟩ (fun hHeld => ?_)
      clear hK K hv hb
      try simp only [Act.put, List.setIfInBounds_toArray, List.set_cons_zero, List.set_cons_succ]
      refine wpAnyH_ready (rs := [4, 6]) (by kernel_rfl) (by simp) (hCons (i := 4) rfl (by rfl) (fun K hK => ?_) (hCons (i := 6) rfl (by rfl) (fun K hK => ?_) AllReadyH.nil))
      · go_simp
        refine (hgl Z1 hZ1).mono ?_
        rintro e Z2 ⟨⟨v, rfl, hv⟩, hb⟩
        obtain ⟨na, nc, e9, -, -⟩ := hv.slice
        rw [naL_len] at e9
        subst e9
        have hGn : Gi w.heap.size Z2 (.slice na P.length nc) (naL P) := Gw.lowB hv (Nat.le_trans hWs hZ1.size)
        replace hLn := hLn.below hb
        have hZ2 := hZ1.trans (hb.mono hZ1.size)
        go_wp2_with fail
        refine hK.out _ _ ⟨(hb.cell (p := ⟨w.heap.size, 0, none⟩) (by show w.heap.size < _; have := HS0.out; have := hZ1.size; omega)).trans hHeld.1, (hb.cell (p := ⟨w.heap.size, 1, none⟩) (by show w.heap.size < _; have := HS0.out; have := hZ1.size; omega)).trans hHeld.2.1, (hb.cell (p := ⟨w.heap.size, 2, none⟩) (by show w.heap.size < _; have := HS0.out; have := hZ1.size; omega)).trans hHeld.2.2.1, (hb.cell (p := ⟨w.heap.size, 3, none⟩) (by show w.heap.size < _; have := HS0.out; have := hZ1.size; omega)).trans hHeld.2.2.2⟩ (fun hHeld => ?_)
        clear hK K hv hb
        try simp only [Act.put, List.setIfInBounds_toArray, List.set_cons_zero, List.set_cons_succ]
        refine hT 5 hHeld ?_
        refine hCall (i := 6) rfl (by kernel_rfl) (by rfl) (fun K hK => ?_)
        go_simp
        obtain ⟨Z3, hYe, hMv, hb⟩ : ∃ Y, Y = Z2.alloc (.cells #[.slice none 0 0, .slice none 0 0, .slice none 0 0, .slice none 0 0, .slice none 0 0, .slice none 0 0] 61) ∧ Bk 61 Y Z2.heap.size [.slice none 0 0, .slice none 0 0, .slice none 0 0, .slice none 0 0, .slice none 0 0, .slice none 0 0] ∧ Below Z2.heap.size Z2 Y := ⟨_, rfl, Bk.new _ _ _, bl1 _⟩
        have hMw : W.heap.size ≤ Z2.heap.size := hZ2.size
        replace hLn := hLn.below hb
        replace hGn := hGn.below hb
        have hZ3 := hZ2.trans (hb.mono hZ2.size)
        rw [← hYe]
        clear hYe
        refine hK.out _ _ ⟨(hb.cell (p := ⟨w.heap.size, 0, none⟩) (by show w.heap.size < _; have := HS0.out; have := hZ2.size; omega)).trans hHeld.1, (hb.cell (p := ⟨w.heap.size, 1, none⟩) (by show w.heap.size < _; have := HS0.out; have := hZ2.size; omega)).trans hHeld.2.1, (hb.cell (p := ⟨w.heap.size, 2, none⟩) (by show w.heap.size < _; have := HS0.out; have := hZ2.size; omega)).trans hHeld.2.2.1, (hb.cell (p := ⟨w.heap.size, 3, none⟩) (by show w.heap.size < _; have := HS0.out; have := hZ2.size; omega)).trans hHeld.2.2.2⟩ (fun hHeld => ?_)
        clear hK K hb
        try simp only [Act.put, List.setIfInBounds_toArray, List.set_cons_zero, List.set_cons_succ]
        obtain ⟨mb, hmb⟩ : ∃ mb, Z2.heap.size = mb := ⟨_, rfl⟩
        rw [hmb] at hMv hMw ⊢
        clear hmb
        obtain ⟨m0, m1, m2, m3, m4, m5⟩ := hMv.six21
        obtain ⟨f0, f1, f2, f3, f4, f5⟩ := hMv.fz6
        have h6 := hMv.setM (.slice ga s.rg.length gc) (.slice ma s.rw.length mc) (.slice ka ms.length kc) (.slice pa cs.length pc) (.slice va P.length vc) (.slice na P.length nc)
        have k6 := (Kp.refl mb Z3).setM (.slice ga s.rg.length gc) (.slice ma s.rw.length mc) (.slice ka ms.length kc) (.slice pa cs.length pc) (.slice va P.length vc) (.slice na P.length nc)
        refine hCall (i := 7) rfl (by kernel_rfl) (by rfl) (fun K hK => ?_)
        go_simp
        have hb6 := k6.below (B := W.heap.size) hZ3.size hMw
        have hfin := hZ3.trans hb6
        refine hK.out _ _ ⟨(hfin.cell (p := ⟨w.heap.size, 0, none⟩) HS0.out).trans HSC.out.1, (hfin.cell (p := ⟨w.heap.size, 1, none⟩) HS0.out).trans HSC.out.2.1, (hfin.cell (p := ⟨w.heap.size, 2, none⟩) HS0.out).trans HSC.out.2.2.1, (hfin.cell (p := ⟨w.heap.size, 3, none⟩) HS0.out).trans HSC.out.2.2.2⟩ (fun hHeld => ?_)
        clear hK K
        try simp only [Act.put, List.setIfInBounds_toArray, List.set_cons_zero, List.set_cons_succ]
        refine wpAnyH_done (by kernel_rfl) ?_ _
        have HV : Hid (MvS ga gc ma mc s ka kc ms pa pc cs P w.heap.size (.pointer (some ⟨mb, 0, none⟩)) _) := ⟨mb, va, vc, na, nc, rfl, Nat.le_trans hWs hMw, h6, hLn.kpB hMv (by decide) k6, hGn.kpB hMv (by decide) k6⟩
        clear hHeld hLn hGn hMv m0 m1 m2 m3 m4 m5 f0 f1 f2 f3 f4 f5 h6 k6 hb6
        go_wp2
        go_meet
        exact ⟨HV.out, hfin⟩
      · go_simp
        obtain ⟨Z2, hYe, hMv, hb⟩ : ∃ Y, Y = Z1.alloc (.cells #[.slice none 0 0, .slice none 0 0, .slice none 0 0, .slice none 0 0, .slice none 0 0, .slice none 0 0] 61) ∧ Bk 61 Y Z1.heap.size [.slice none 0 0, .slice none 0 0, .slice none 0 0, .slice none 0 0, .slice none 0 0, .slice none 0 0] ∧ Below Z1.heap.size Z1 Y := ⟨_, rfl, Bk.new _ _ _, bl1 _⟩
        have hMw : W.heap.size ≤ Z1.heap.size := hZ1.size
        replace hLn := hLn.below hb
        have hZ2 := hZ1.trans (hb.mono hZ1.size)
        rw [← hYe]
        clear hYe
        refine hK.out _ _ ⟨(hb.cell (p := ⟨w.heap.size, 0, none⟩) (by show w.heap.size < _; have := HS0.out; have := hZ1.size; omega)).trans hHeld.1, (hb.cell (p := ⟨w.heap.size, 1, none⟩) (by show w.heap.size < _; have := HS0.out; have := hZ1.size; omega)).trans hHeld.2.1, (hb.cell (p := ⟨w.heap.size, 2, none⟩) (by show w.heap.size < _; have := HS0.out; have := hZ1.size; omega)).trans hHeld.2.2.1, (hb.cell (p := ⟨w.heap.size, 3, none⟩) (by show w.heap.size < _; have := HS0.out; have := hZ1.size; omega)).trans hHeld.2.2.2⟩ (fun hHeld => ?_)
        clear hK K hb
        try simp only [Act.put, List.setIfInBounds_toArray, List.set_cons_zero, List.set_cons_succ]
        obtain ⟨mb, hmb⟩ : ∃ mb, Z1.heap.size = mb := ⟨_, rfl⟩
        rw [hmb] at hMv hMw ⊢
        clear hmb
        refine hCall (i := 4) rfl (by kernel_rfl) (by rfl) (fun K hK => ?_)
        go_simp
        refine (hgl Z2 hZ2).mono ?_
        rintro e Z3 ⟨⟨v, rfl, hv⟩, hb⟩
        obtain ⟨na, nc, e9, -, -⟩ := hv.slice
        rw [naL_len] at e9
        subst e9
        have hGn : Gi w.heap.size Z3 (.slice na P.length nc) (naL P) := Gw.lowB hv (Nat.le_trans hWs hZ2.size)
        replace hLn := hLn.below hb
        replace hMv := hMv.below hb
        have hZ3 := hZ2.trans (hb.mono hZ2.size)
        go_wp2_with fail
        refine hK.out _ _ ⟨(hb.cell (p := ⟨w.heap.size, 0, none⟩) (by show w.heap.size < _; have := HS0.out; have := hZ2.size; omega)).trans hHeld.1, (hb.cell (p := ⟨w.heap.size, 1, none⟩) (by show w.heap.size < _; have := HS0.out; have := hZ2.size; omega)).trans hHeld.2.1, (hb.cell (p := ⟨w.heap.size, 2, none⟩) (by show w.heap.size < _; have := HS0.out; have := hZ2.size; omega)).trans hHeld.2.2.1, (hb.cell (p := ⟨w.heap.size, 3, none⟩) (by show w.heap.size < _; have := HS0.out; have := hZ2.size; omega)).trans hHeld.2.2.2⟩ (fun hHeld => ?_)
        clear hK K hv hb
        try simp only [Act.put, List.setIfInBounds_toArray, List.set_cons_zero, List.set_cons_succ]
        refine hT 5 hHeld ?_
        obtain ⟨m0, m1, m2, m3, m4, m5⟩ := hMv.six21
        obtain ⟨f0, f1, f2, f3, f4, f5⟩ := hMv.fz6
        have h6 := hMv.setM (.slice ga s.rg.length gc) (.slice ma s.rw.length mc) (.slice ka ms.length kc) (.slice pa cs.length pc) (.slice va P.length vc) (.slice na P.length nc)
        have k6 := (Kp.refl mb Z3).setM (.slice ga s.rg.length gc) (.slice ma s.rw.length mc) (.slice ka ms.length kc) (.slice pa cs.length pc) (.slice va P.length vc) (.slice na P.length nc)
        refine hCall (i := 7) rfl (by kernel_rfl) (by rfl) (fun K hK => ?_)
        go_simp
        have hb6 := k6.below (B := W.heap.size) hZ3.size hMw
        have hfin := hZ3.trans hb6
        refine hK.out _ _ ⟨(hfin.cell (p := ⟨w.heap.size, 0, none⟩) HS0.out).trans HSC.out.1, (hfin.cell (p := ⟨w.heap.size, 1, none⟩) HS0.out).trans HSC.out.2.1, (hfin.cell (p := ⟨w.heap.size, 2, none⟩) HS0.out).trans HSC.out.2.2.1, (hfin.cell (p := ⟨w.heap.size, 3, none⟩) HS0.out).trans HSC.out.2.2.2⟩ (fun hHeld => ?_)
        clear hK K
        try simp only [Act.put, List.setIfInBounds_toArray, List.set_cons_zero, List.set_cons_succ]
        refine wpAnyH_done (by kernel_rfl) ?_ _
        have HV : Hid (MvS ga gc ma mc s ka kc ms pa pc cs P w.heap.size (.pointer (some ⟨mb, 0, none⟩)) _) := ⟨mb, va, vc, na, nc, rfl, Nat.le_trans hWs hMw, h6, hLn.kpB hMv (by decide) k6, hGn.kpB hMv (by decide) k6⟩
        clear hHeld hLn hGn hMv m0 m1 m2 m3 m4 m5 f0 f1 f2 f3 f4 f5 h6 k6 hb6
        go_wp2
        go_meet
        exact ⟨HV.out, hfin⟩
    · go_simp
      obtain ⟨Z1, hYe, hMv, hb⟩ : ∃ Y, Y = Z0.alloc (.cells #[.slice none 0 0, .slice none 0 0, .slice none 0 0, .slice none 0 0, .slice none 0 0, .slice none 0 0] 61) ∧ Bk 61 Y Z0.heap.size [.slice none 0 0, .slice none 0 0, .slice none 0 0, .slice none 0 0, .slice none 0 0, .slice none 0 0] ∧ Below Z0.heap.size Z0 Y := ⟨_, rfl, Bk.new _ _ _, bl1 _⟩
      have hMw : W.heap.size ≤ Z0.heap.size := hZ0.size
      have hZ1 := hZ0.trans (hb.mono hZ0.size)
      rw [← hYe]
      clear hYe
      refine hK.out _ _ ⟨(hb.cell (p := ⟨w.heap.size, 0, none⟩) (by show w.heap.size < _; have := HS0.out; have := hZ0.size; omega)).trans hHeld.1, (hb.cell (p := ⟨w.heap.size, 1, none⟩) (by show w.heap.size < _; have := HS0.out; have := hZ0.size; omega)).trans hHeld.2.1, (hb.cell (p := ⟨w.heap.size, 2, none⟩) (by show w.heap.size < _; have := HS0.out; have := hZ0.size; omega)).trans hHeld.2.2.1, (hb.cell (p := ⟨w.heap.size, 3, none⟩) (by show w.heap.size < _; have := HS0.out; have := hZ0.size; omega)).trans hHeld.2.2.2⟩ (fun hHeld => ?_)
      clear hK K hb
      try simp only [Act.put, List.setIfInBounds_toArray, List.set_cons_zero, List.set_cons_succ]
      obtain ⟨mb, hmb⟩ : ∃ mb, Z0.heap.size = mb := ⟨_, rfl⟩
      rw [hmb] at hMv hMw ⊢
      clear hmb
      refine hCall (i := 2) rfl (by kernel_rfl) (by rfl) (fun K hK => ?_)
      go_simp
      refine (hcl Z1 hZ1).mono ?_
      rintro e Z2 ⟨⟨v, rfl, hv⟩, hb⟩
      obtain ⟨va, vc, rfl, -, -⟩ := hv.slice
      have hLn : Ln w.heap.size Z2 (.slice va P.length vc) P := Gw.lowB hv (Nat.le_trans hWs hZ1.size)
      replace hMv := hMv.below hb
      have hZ2 := hZ1.trans (hb.mono hZ1.size)
      go_wp2_with fail
      refine hK.out _ _ ⟨(hb.cell (p := ⟨w.heap.size, 0, none⟩) (by show w.heap.size < _; have := HS0.out; have := hZ1.size; omega)).trans hHeld.1, (hb.cell (p := ⟨w.heap.size, 1, none⟩) (by show w.heap.size < _; have := HS0.out; have := hZ1.size; omega)).trans hHeld.2.1, (hb.cell (p := ⟨w.heap.size, 2, none⟩) (by show w.heap.size < _; have := HS0.out; have := hZ1.size; omega)).trans hHeld.2.2.1, (hb.cell (p := ⟨w.heap.size, 3, none⟩) (by show w.heap.size < _; have := HS0.out; have := hZ1.size; omega)).trans hHeld.2.2.2⟩ (fun hHeld => ?_)
      clear hK K hv hb
      try simp only [Act.put, List.setIfInBounds_toArray, List.set_cons_zero, List.set_cons_succ]
      refine hCall (i := 4) rfl (by kernel_rfl) (by rfl) (fun K hK => ?_)
      go_simp
      refine (hgl Z2 hZ2).mono ?_
      rintro e Z3 ⟨⟨v, rfl, hv⟩, hb⟩
      obtain ⟨na, nc, e9, -, -⟩ := hv.slice
      rw [naL_len] at e9
      subst e9
      have hGn : Gi w.heap.size Z3 (.slice na P.length nc) (naL P) := Gw.lowB hv (Nat.le_trans hWs hZ2.size)
      replace hLn := hLn.below hb
      replace hMv := hMv.below hb
      have hZ3 := hZ2.trans (hb.mono hZ2.size)
      go_wp2_with fail
      refine hK.out _ _ ⟨(hb.cell (p := ⟨w.heap.size, 0, none⟩) (by show w.heap.size < _; have := HS0.out; have := hZ2.size; omega)).trans hHeld.1, (hb.cell (p := ⟨w.heap.size, 1, none⟩) (by show w.heap.size < _; have := HS0.out; have := hZ2.size; omega)).trans hHeld.2.1, (hb.cell (p := ⟨w.heap.size, 2, none⟩) (by show w.heap.size < _; have := HS0.out; have := hZ2.size; omega)).trans hHeld.2.2.1, (hb.cell (p := ⟨w.heap.size, 3, none⟩) (by show w.heap.size < _; have := HS0.out; have := hZ2.size; omega)).trans hHeld.2.2.2⟩ (fun hHeld => ?_)
      clear hK K hv hb
      try simp only [Act.put, List.setIfInBounds_toArray, List.set_cons_zero, List.set_cons_succ]
      refine hT 5 hHeld ?_
      obtain ⟨m0, m1, m2, m3, m4, m5⟩ := hMv.six21
      obtain ⟨f0, f1, f2, f3, f4, f5⟩ := hMv.fz6
      have h6 := hMv.setM (.slice ga s.rg.length gc) (.slice ma s.rw.length mc) (.slice ka ms.length kc) (.slice pa cs.length pc) (.slice va P.length vc) (.slice na P.length nc)
      have k6 := (Kp.refl mb Z3).setM (.slice ga s.rg.length gc) (.slice ma s.rw.length mc) (.slice ka ms.length kc) (.slice pa cs.length pc) (.slice va P.length vc) (.slice na P.length nc)
      refine hCall (i := 7) rfl (by kernel_rfl) (by rfl) (fun K hK => ?_)
      go_simp
      have hb6 := k6.below (B := W.heap.size) hZ3.size hMw
      have hfin := hZ3.trans hb6
      refine hK.out _ _ ⟨(hfin.cell (p := ⟨w.heap.size, 0, none⟩) HS0.out).trans HSC.out.1, (hfin.cell (p := ⟨w.heap.size, 1, none⟩) HS0.out).trans HSC.out.2.1, (hfin.cell (p := ⟨w.heap.size, 2, none⟩) HS0.out).trans HSC.out.2.2.1, (hfin.cell (p := ⟨w.heap.size, 3, none⟩) HS0.out).trans HSC.out.2.2.2⟩ (fun hHeld => ?_)
      clear hK K
      try simp only [Act.put, List.setIfInBounds_toArray, List.set_cons_zero, List.set_cons_succ]
      refine wpAnyH_done (by kernel_rfl) ?_ _
      have HV : Hid (MvS ga gc ma mc s ka kc ms pa pc cs P w.heap.size (.pointer (some ⟨mb, 0, none⟩)) _) := ⟨mb, va, vc, na, nc, rfl, Nat.le_trans hWs hMw, h6, hLn.kpB hMv (by decide) k6, hGn.kpB hMv (by decide) k6⟩
      clear hHeld hLn hGn hMv m0 m1 m2 m3 m4 m5 f0 f1 f2 f3 f4 f5 h6 k6 hb6
      go_wp2
      go_meet
      exact ⟨HV.out, hfin⟩
  case rest =>
    obtain ⟨⟨mb, va, vc, na, nc, rfl, hmb, hMb, hLn, hGn⟩, hBc⟩ := hcut
    have HBC : Hid (Below w.heap.size w wc) := hU.trans (hBc.mono hU.size)
    clear x0 x1 x2 x3 X1 hU hBc HS0 HSC HBU
    by_cases hP0 : P = []
    · subst hP0
      have e00 : ((0 : Nat) : Int) = 0 := rfl
      have e01 : decide ((100 : Int) < 0) = false := rfl
      simp only [List.length_nil, e00, e01]
      clear e00 e01
      have HMb : Hid (Bk 61 wc mb [.slice ga s.rg.length gc, .slice ma s.rw.length mc, .slice ka ms.length kc, .slice pa cs.length pc, .slice va 0 vc, .slice na 0 nc]) := hMb
      have HLZ : Hid (Ln w.heap.size wc (.slice va 0 vc) []) := hLn
      clear hMb hLn hGn
      go_wp2
      go_loopw [32] (fun v wr => ∃ r : Nat, r ≤ ks.length ∧ v = .int .i64 r ∧ Hid (PR = alM (rO s cs) (rE s cs) ms l (ks.drop r) []) ∧ Below wc.heap.size wc wr) (fun v _ => ks.length - (intOf v).toNat)
      case atStart => exact ⟨0, Nat.zero_le _, rfl, HPR.out, Below.refl _ _⟩
      case round =>
        obtain ⟨r, hr, rfl, HPQ, hB⟩ := hrel
        have hBw := HBC.out.trans (hB.mono HBC.out.size)
        have hMr := HMb.out.below hB
        by_cases hrn : r < ks.length
        rotate_left
        · have HV : Hid (PaA PR w.heap.size wr (.returned (.tuple #[.slice va 0 vc, .int .i64 0]))) := PaA.yes (by rw [HPQ.out, show r = ks.length by omega]; exact alM_end) (HLZ.out.below hB)
          have g4 : ¬ (r : Int) < (ks.length : Int) := by omega
          obtain ⟨m0, m1, m2, m3, m4, m5⟩ := hMr.six21
          clear HPQ hMr
          go_wp2
          go_ret2
          exact ⟨HV.out, hBw⟩
        · obtain ⟨jb, jo, rfl, hjb, c0⟩ := HXK.out.at hBw r hrn
          have hz := HXK.out.i64 hrn
          have i1 : (0 : Int) ≤ (r : Int) := by omega
          have i2 : (r : Int) < (ks.length : Int) := by omega
          by_cases h01 : 0 ≤ ks.getD r 0 ∧ ks.getD r 0 < (l.length : Int)
          rotate_left
          · have HV : Hid (∀ U, PaA PR w.heap.size U (.returned (.tuple #[.slice none 0 0, .int .i64 5]))) := fun U => PaA.nil (by rw [HPQ.out]; exact alM_none hrn h01)
            obtain ⟨z, hzz⟩ : ∃ z, ks.getD r 0 = z := ⟨_, rfl⟩
            rw [hzz] at c0 hz h01
            clear HPQ hMr hzz
            by_cases h0 : z < 0
            · have d0 : decide (z < 0) = true := decide_eq_true h0
              clear h0 h01
              go_wp2
              go_ret2
              exact ⟨HV.out _, hBw⟩
            · have d0 : decide (z < 0) = false := decide_eq_false h0
              have d1 : decide ((l.length : Int) ≤ z) = true := decide_eq_true (by omega)
              clear h0 h01
              go_wp2
              go_ret2
              exact ⟨HV.out _, hBw⟩
          · obtain ⟨k, hk⟩ : ∃ k : Nat, ks.getD r 0 = (k : Int) := ⟨(ks.getD r 0).toNat, by omega⟩
            have hkl : k < l.length := by omega
            rw [hk] at c0
            obtain ⟨kb, ko, ra, rc, ela, hkd, hall⟩ := HL.out.lkAll k hkl
            have HBD : Hid (thQ (rO s cs) (rE s cs) ms (l.getD k Lk.none) [] = none → PR = (4, [])) := fun h => by rw [HPQ.out]; exact alM_thB hrn hk hkl h
            have HON : Hid (∀ R, thQ (rO s cs) (rE s cs) ms (l.getD k Lk.none) [] = some R → PR = alM (rO s cs) (rE s cs) ms l (ks.drop (r + 1)) R ∧ R.length = [].length ∧ naL R = naL []) := fun R h => ⟨by rw [HPQ.out]; exact alM_thO hrn hk hkl h, th_keep HFM.out hkl h⟩
            have HPM : Hid (mvB (l.getD k Lk.none).kd = true → ∀ q ∈ (l.getD k Lk.none).rs, PrF (fiS s) (l.getD k Lk.none).kd (l.getD k Lk.none).sk q) := fun h q hq => pr_mem HFM.out hkl h hq
            obtain ⟨x, hx⟩ : ∃ x, l.getD k Lk.none = x := ⟨_, rfl⟩
            rw [hx] at hkd hall HBD HON HPM
            clear hx HPQ hz
            obtain ⟨kd, sk, rs⟩ := x
            dsimp only at hkd hall HPM
            subst ela
            have i3 : (0 : Int) ≤ (k : Int) := by omega
            have i4 : (k : Int) < (l.length : Int) := by omega
            have d0 : decide ((k : Int) < 0) = false := decide_eq_false (by omega)
            have d1 : decide ((l.length : Int) ≤ (k : Int)) = false := decide_eq_false (by omega)
            have d1n : decide (l.length ≤ k) = false := decide_eq_false (by omega)
            clear h01 hk
            go_upto_region 11 with fail
            obtain ⟨hRr, e0, e1, e2⟩ := hall wr hBw
            have hkb := cell_ltL e0
            obtain ⟨m0, m1, m2, m3, m4, m5⟩ := hMr.six21
            have hRw := (hall w (Below.refl _ _)).1
            have hkbw : kb < w.heap.size := cell_ltL (hall w (Below.refl _ _)).2.1
            clear hall hRr c0
            refine wp_region_held_drew (S := (fun u => (u.cell? ⟨mb, 0, none⟩ = some (.slice ga s.rg.length gc) ∧ u.cell? ⟨mb, 1, none⟩ = some (.slice ma s.rw.length mc) ∧ u.cell? ⟨mb, 2, none⟩ = some (.slice ka ms.length kc) ∧ u.cell? ⟨mb, 3, none⟩ = some (.slice pa cs.length pc) ∧ u.cell? ⟨mb, 4, none⟩ = some (.slice va 0 vc) ∧ u.cell? ⟨mb, 5, none⟩ = some (.slice na 0 nc)) ∧ u.cell? ⟨kb, ko + k * 3, none⟩ = some (.int .i64 kd) ∧ u.cell? ⟨kb, ko + k * 3 + 1, none⟩ = some (.bool sk) ∧ u.cell? ⟨kb, ko + k * 3 + 2, none⟩ = some (.slice ra rs.length rc))) (by kernel_rfl) ⟨⟨m0, m1, m2, m3, m4, m5⟩, e0, e1, e2⟩ (fun hHeld => ?_)
            have hdr : Below wr.heap.size wr wr.drew := (Below.refl _ _).drew
            have hBZ := hBw.trans (hdr.mono hBw.size)
            have hMZ := hMr.below hdr
            have hBZc := hB.trans (hdr.mono hB.size)
            have hth := mthrough_nil ga gc ma mc s ka kc ms pa pc cs va vc na 0 nc kd sk ra rc rs wr.drew hkd
            have HRR : Hid (∃ R, thQ (rO s cs) (rE s cs) ms ⟨kd, sk, rs⟩ [] = some R ∧ R = []) := ⟨[], th_nil, rfl⟩
            clear m0 m1 m2 m3 m4 m5 e0 e1 e2 hMr hdr hRw HPM
            generalize wr.drew = Z at hHeld hBZ hMZ hBZc hth ⊢
            refine hT 0 hHeld ?_
            refine hT 1 hHeld ?_
            refine hT 2 hHeld ?_
            refine hT 3 hHeld ?_
            refine hT 4 hHeld ?_
            refine hCall (i := 5) rfl (by kernel_rfl) (by rfl) (fun K hK => ?_)
            go_simp
            refine hth.mono ?_
            rintro e u ⟨rfl, hb⟩
            have hBu := hBZ.trans (hb.mono hBZ.size)
            have hBuc := hBZc.trans (hb.mono hBZc.size)
            have hMu := hMZ.below hb
            obtain ⟨m0, m1, m2, m3, m4, m5⟩ := hMu.six21
            have hcu : ∀ j v, Z.cell? ⟨kb, j, none⟩ = some v → u.cell? ⟨kb, j, none⟩ = some v := fun j v h => (hb.cell (p := ⟨kb, j, none⟩) (cell_ltL h)).trans h
            clear hth
            go_wp2_with fail
            refine hK.out _ _ ⟨⟨m0, m1, m2, m3, m4, m5⟩, hcu _ _ hHeld.2.1, hcu _ _ hHeld.2.2.1, hcu _ _ hHeld.2.2.2⟩ (fun hHeld => ?_)
            clear hK K hcu hb
            try simp only [Act.put, List.setIfInBounds_toArray, List.set_cons_zero, List.set_cons_succ]
            refine hT 6 hHeld ?_
            refine wpAnyH_done (by kernel_rfl) ?_ _
            clear hHeld m0 m1 m2 m3 m4 m5 hMu hMZ hBZ hBZc
            obtain ⟨R, hR, rfl⟩ := HRR.out
            have HPN : Hid (PR = alM (rO s cs) (rE s cs) ms l (ks.drop (r + 1)) []) := (HON.out _ hR).1
            clear HBD HON HRR hR
            go_wp2
            go_roundw
            case rel => exact ⟨r + 1, by omega, by go_num, HPN, hBuc⟩
            case measure => simp [intOf]; omega
    · obtain ⟨lb, cap, ev, hlb1, hlb2, -, -, -, -⟩ := Gw.own hLn hP0
      injection ev with ev1 ev2 ev3
      subst ev1 ev3
      have hne : mb ≠ lb := fun e => hLn.neB hMb (by decide) (by rw [e]; rfl)
      have HMb : Hid (Bk 61 wc mb [.slice ga s.rg.length gc, .slice ma s.rw.length mc, .slice ka ms.length kc, .slice pa cs.length pc, .slice (some ⟨lb, 0, none⟩) P.length vc, .slice na P.length nc]) := hMb
      have HLn : Hid (Ln w.heap.size wc (.slice (some ⟨lb, 0, none⟩) P.length vc) P) := hLn
      have HGn : Hid (Gi w.heap.size wc (.slice na P.length nc) (naL P)) := hGn
      clear hMb hLn hGn hP0 ev2
      go_wp2
      go_loopw [32] (fun v wr => ∃ (r : Nat) (Q : List Pd), r ≤ ks.length ∧ v = .int .i64 r ∧ Hid (PR = alM (rO s cs) (rE s cs) ms l (ks.drop r) Q) ∧ Hid (Q.length = P.length ∧ naL Q = naL P) ∧ Hid (Ln w.heap.size wr (.slice (some ⟨lb, 0, none⟩) P.length vc) Q) ∧ Hid (Gi w.heap.size wr (.slice na P.length nc) (naL P)) ∧ Hid (Kp lb wc wr)) (fun v _ => ks.length - (intOf v).toNat)
      case atStart => exact ⟨0, P, Nat.zero_le _, rfl, HPR.out, ⟨rfl, rfl⟩, HLn.out, HGn.out, Kp.refl _ _⟩
      case round =>
        obtain ⟨r, Q, hr, rfl, HPQ, HQQ, HL2, HG2, HK2⟩ := hrel
        have hBw := HBC.out.trans (HK2.out.below HBC.out.size hlb1)
        have hMr := HMb.out.kp HK2.out hne
        by_cases hrn : r < ks.length
        rotate_left
        · have HV : Hid (PaA PR w.heap.size wr (.returned (.tuple #[.slice (some ⟨lb, 0, none⟩) P.length vc, .int .i64 0]))) := PaA.yes (by rw [HPQ.out, show r = ks.length by omega]; exact alM_end) HL2.out
          have g4 : ¬ (r : Int) < (ks.length : Int) := by omega
          obtain ⟨m0, m1, m2, m3, m4, m5⟩ := hMr.six21
          clear HPQ hMr
          go_wp2
          go_ret2
          exact ⟨HV.out, hBw⟩
        · obtain ⟨jb, jo, rfl, hjb, c0⟩ := HXK.out.at hBw r hrn
          have hz := HXK.out.i64 hrn
          have i1 : (0 : Int) ≤ (r : Int) := by omega
          have i2 : (r : Int) < (ks.length : Int) := by omega
          by_cases h01 : 0 ≤ ks.getD r 0 ∧ ks.getD r 0 < (l.length : Int)
          rotate_left
          · have HV : Hid (∀ U, PaA PR w.heap.size U (.returned (.tuple #[.slice none 0 0, .int .i64 5]))) := fun U => PaA.nil (by rw [HPQ.out]; exact alM_none hrn h01)
            obtain ⟨z, hzz⟩ : ∃ z, ks.getD r 0 = z := ⟨_, rfl⟩
            rw [hzz] at c0 hz h01
            clear HPQ hMr hzz
            by_cases h0 : z < 0
            · have d0 : decide (z < 0) = true := decide_eq_true h0
              clear h0 h01
              go_wp2
              go_ret2
              exact ⟨HV.out _, hBw⟩
            · have d0 : decide (z < 0) = false := decide_eq_false h0
              have d1 : decide ((l.length : Int) ≤ z) = true := decide_eq_true (by omega)
              clear h0 h01
              go_wp2
              go_ret2
              exact ⟨HV.out _, hBw⟩
          · obtain ⟨k, hk⟩ : ∃ k : Nat, ks.getD r 0 = (k : Int) := ⟨(ks.getD r 0).toNat, by omega⟩
            have hkl : k < l.length := by omega
            rw [hk] at c0
            obtain ⟨kb, ko, ra, rc, ela, hkd, hall⟩ := HL.out.lkAll k hkl
            have HBD : Hid (thQ (rO s cs) (rE s cs) ms (l.getD k Lk.none) Q = none → PR = (4, [])) := fun h => by rw [HPQ.out]; exact alM_thB hrn hk hkl h
            have HON : Hid (∀ R, thQ (rO s cs) (rE s cs) ms (l.getD k Lk.none) Q = some R → PR = alM (rO s cs) (rE s cs) ms l (ks.drop (r + 1)) R ∧ R.length = Q.length ∧ naL R = naL Q) := fun R h => ⟨by rw [HPQ.out]; exact alM_thO hrn hk hkl h, th_keep HFM.out hkl h⟩
            have HPM : Hid (mvB (l.getD k Lk.none).kd = true → ∀ q ∈ (l.getD k Lk.none).rs, PrF (fiS s) (l.getD k Lk.none).kd (l.getD k Lk.none).sk q) := fun h q hq => pr_mem HFM.out hkl h hq
            obtain ⟨x, hx⟩ : ∃ x, l.getD k Lk.none = x := ⟨_, rfl⟩
            rw [hx] at hkd hall HBD HON HPM
            clear hx HPQ hz
            obtain ⟨kd, sk, rs⟩ := x
            dsimp only at hkd hall HPM
            subst ela
            have i3 : (0 : Int) ≤ (k : Int) := by omega
            have i4 : (k : Int) < (l.length : Int) := by omega
            have d0 : decide ((k : Int) < 0) = false := decide_eq_false (by omega)
            have d1 : decide ((l.length : Int) ≤ (k : Int)) = false := decide_eq_false (by omega)
            have d1n : decide (l.length ≤ k) = false := decide_eq_false (by omega)
            clear h01 hk
            go_upto_region 11 with fail
            obtain ⟨hRr, e0, e1, e2⟩ := hall wr hBw
            have hkb := cell_ltL e0
            obtain ⟨m0, m1, m2, m3, m4, m5⟩ := hMr.six21
            have hRw := (hall w (Below.refl _ _)).1
            have hkbw : kb < w.heap.size := cell_ltL (hall w (Below.refl _ _)).2.1
            clear hall hRr c0
            refine wp_region_held_drew (S := (fun u => (u.cell? ⟨mb, 0, none⟩ = some (.slice ga s.rg.length gc) ∧ u.cell? ⟨mb, 1, none⟩ = some (.slice ma s.rw.length mc) ∧ u.cell? ⟨mb, 2, none⟩ = some (.slice ka ms.length kc) ∧ u.cell? ⟨mb, 3, none⟩ = some (.slice pa cs.length pc) ∧ u.cell? ⟨mb, 4, none⟩ = some (.slice (some ⟨lb, 0, none⟩) P.length vc) ∧ u.cell? ⟨mb, 5, none⟩ = some (.slice na P.length nc)) ∧ u.cell? ⟨kb, ko + k * 3, none⟩ = some (.int .i64 kd) ∧ u.cell? ⟨kb, ko + k * 3 + 1, none⟩ = some (.bool sk) ∧ u.cell? ⟨kb, ko + k * 3 + 2, none⟩ = some (.slice ra rs.length rc))) (by kernel_rfl) ⟨⟨m0, m1, m2, m3, m4, m5⟩, e0, e1, e2⟩ (fun hHeld => ?_)
            have hdr : Below wr.heap.size wr wr.drew := (Below.refl _ _).drew
            have hBZ := hBw.trans (hdr.mono hBw.size)
            have hMZ := hMr.below hdr
            have hLZ : Ln w.heap.size wr.drew (.slice (some ⟨lb, 0, none⟩) P.length vc) Q := HL2.out.below hdr
            have hGZ : Gi w.heap.size wr.drew (.slice na P.length nc) (naL P) := HG2.out.below hdr
            have HKZ : Hid (Kp lb wc wr.drew) := HK2.out.trans (Kp.of hdr)
            have hth := mthrough_any Sm Sl ga gc ma mc s ka kc ms pa pc cs lb vc Q na nc kd sk ra rc rs w.heap.size w.heap.size w wr.drew HG.out HRW.out HM.out HP.out h40 h8 hRw hBZ hlb1 hkd (by rw [HQQ.out.1]; exact hLZ) (by rw [HQQ.out.1, HQQ.out.2]; exact hGZ) HPM.out
            rw [HQQ.out.1] at hth
            have HGZ : Hid (Gi w.heap.size wr.drew (.slice na P.length nc) (naL P)) := hGZ
            have HLZ : Hid (Ln w.heap.size wr.drew (.slice (some ⟨lb, 0, none⟩) P.length vc) Q) := hLZ
            clear m0 m1 m2 m3 m4 m5 e0 e1 e2 hMr hdr hLZ hGZ hRw HPM HL2 HG2 HK2
            generalize wr.drew = Z at hHeld hBZ hMZ HKZ HGZ HLZ hth ⊢
            refine hT 0 hHeld ?_
            refine hT 1 hHeld ?_
            refine hT 2 hHeld ?_
            refine hT 3 hHeld ?_
            refine hT 4 hHeld ?_
            refine hCall (i := 5) rfl (by kernel_rfl) (by rfl) (fun K hK => ?_)
            go_simp
            refine hth.mono ?_
            intro e u hd
            have hKu := hd.kp
            have HKu : Hid (Kp lb wc u) := HKZ.out.trans hKu
            have hMu := hMZ.kp hKu hne
            obtain ⟨m0, m1, m2, m3, m4, m5⟩ := hMu.six21
            have hcu : ∀ j v, Z.cell? ⟨kb, j, none⟩ = some v → u.cell? ⟨kb, j, none⟩ = some v := fun j v h => ((hKu.below (B := w.heap.size) hBZ.size hlb1).cell (p := ⟨kb, j, none⟩) hkbw).trans h
            have HGu : Hid (Gi w.heap.size u (.slice na P.length nc) (naL P)) := HGZ.out.kpL HLZ.out hKu
            have HBu : Hid (Below w.heap.size w u) := hBZ.trans (hKu.below (B := w.heap.size) hBZ.size hlb1)
            clear hth
            cases hO : thQ (rO s cs) (rE s cs) ms ⟨kd, sk, rs⟩ Q with
            | none =>
              obtain rfl := hd.no hO
              have HV : Hid (∀ U, PaA PR w.heap.size U (.returned (.tuple #[.slice none 0 0, .int .i64 4]))) := fun U => PaA.nil (HBD.out hO)
              clear HBD HON hO hd
              go_wp2_with fail
              refine hK.out _ _ ⟨⟨m0, m1, m2, m3, m4, m5⟩, hcu _ _ hHeld.2.1, hcu _ _ hHeld.2.2.1, hcu _ _ hHeld.2.2.2⟩ (fun hHeld => ?_)
              clear hK K hcu hKu
              try simp only [Act.put, List.setIfInBounds_toArray, List.set_cons_zero, List.set_cons_succ]
              refine hT 6 hHeld ?_
              refine wpAnyH_done (by kernel_rfl) ?_ _
              clear hHeld m0 m1 m2 m3 m4 m5 hMu hMZ HGu HKu HKZ HGZ HLZ
              go_wp2
              go_ret2
              exact ⟨HV.out _, HBu.out⟩
            | some R =>
              obtain ⟨rfl, hl⟩ := hd.ok R hO
              obtain ⟨h1, h2, h3⟩ := HON.out R hO
              have HPN : Hid (PR = alM (rO s cs) (rE s cs) ms l (ks.drop (r + 1)) R) := h1
              have HRR : Hid (R.length = P.length ∧ naL R = naL P) := ⟨by rw [h2]; exact HQQ.out.1, by rw [h3]; exact HQQ.out.2⟩
              have HLu : Hid (Ln w.heap.size u (.slice (some ⟨lb, 0, none⟩) P.length vc) R) := hl
              clear HBD HON hO hd h1 h2 h3 hl
              go_wp2_with fail
              refine hK.out _ _ ⟨⟨m0, m1, m2, m3, m4, m5⟩, hcu _ _ hHeld.2.1, hcu _ _ hHeld.2.2.1, hcu _ _ hHeld.2.2.2⟩ (fun hHeld => ?_)
              clear hK K hcu hKu
              try simp only [Act.put, List.setIfInBounds_toArray, List.set_cons_zero, List.set_cons_succ]
              refine hT 6 hHeld ?_
              refine wpAnyH_done (by kernel_rfl) ?_ _
              clear hHeld m0 m1 m2 m3 m4 m5 hMu hMZ HKZ HGZ HLZ HBu
              go_wp2
              go_roundw
              case rel => exact ⟨r + 1, R, by omega, by go_num, HPN, HRR, HLu, HGu, HKu⟩
              case measure => simp [intOf]; omega

end Go.Proofs.YtchdoakoelfenaaGreat
