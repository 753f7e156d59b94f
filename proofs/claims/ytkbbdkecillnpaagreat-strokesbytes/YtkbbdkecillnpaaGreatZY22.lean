/-
  strokes.rounded: the walk.
  outline.fields, partsFormed, contoursFormed, Formed: the walks.
  outline.Formed, slices.Grow, slices.Concat, outline.Points, outline.Ends: the walks.
  Rows of ints of the call's own (Gi): as Io, but with what is told of where they lie.
  Bytes and a place behind a pointer (Sc), and worlds that are as they were but for one block (Kp).
-/
import Derived.Test.YtkbbdkecillnpaaGreatZY18
import Derived.Test.YtkbbdkecillnpaaGreatZY21
import Derived.Test.YtkbbdkecillnpaaGreatZY8
import Derived.Lib.AppendZerosOnto
import Derived.Deep.CutRange
import Derived.Test.YtkbbdkecillnpaaGreatZY7
namespace Go.Proofs.YtkbbdkecillnpaaGreat
open Go.RowKit Go.Maps
set_option linter.unusedSimpArgs false
set_option linter.unusedVariables false

/-- How slots are read from a store, at coordinates. -/
def RS (s : Sr) (cs : List Int) : Rd18 := ⟨fun b r => roN s b r cs, fun b r => roE s b r cs⟩
theorem roN_in (s : Sr) (x r : Int) (cs : List Int) : -32768 ≤ roN s x r cs ∧ roN s x r cs ≤ 32767 := by
  unfold roN fldN
  repeat' split
  all_goals omega
def c6 (L : List Int) : List Value := [.int .i64 (L.getD 0 0), .int .i64 (L.getD 1 0), .int .i64 (L.getD 2 0), .int .i64 (L.getD 3 0), .int .i64 (L.getD 4 0), .int .i64 (L.getD 5 0)]
theorem c6_snoc {L : List Int} (h : L.length < 6) (z : Int) : c6 (L ++ [z]) = (c6 L).set L.length (.int .i64 z) := by
  rcases L with _ | ⟨a, _ | ⟨b, _ | ⟨c, _ | ⟨d, _ | ⟨e, _ | ⟨f, L⟩⟩⟩⟩⟩⟩
  all_goals rfl
theorem c6_at {L : List Int} {k : Nat} (h : k < 6) : (c6 L)[k]? = some (.int .i64 (L.getD k 0)) := by
  rcases k with _ | _ | _ | _ | _ | _ | k
  all_goals try rfl
  omega
theorem Bk.six6 {t : TypeId} {w : World} {g : Nat} {x y z u v r : Value} (h : Bk t w g [x, y, z, u, v, r]) : (w.cell? ⟨g, 0, none⟩ = some x ∧ w.cell? ⟨g, 1, none⟩ = some y ∧ w.cell? ⟨g, 2, none⟩ = some z ∧ w.cell? ⟨g, 3, none⟩ = some u ∧ w.cell? ⟨g, 4, none⟩ = some v ∧ w.cell? ⟨g, 5, none⟩ = some r) ∧ (w.frozen? ⟨g, 0, none⟩ = false ∧ w.frozen? ⟨g, 1, none⟩ = false ∧ w.frozen? ⟨g, 2, none⟩ = false ∧ w.frozen? ⟨g, 3, none⟩ = false ∧ w.frozen? ⟨g, 4, none⟩ = false ∧ w.frozen? ⟨g, 5, none⟩ = false) :=
  ⟨⟨h.cell 0 (by simp), h.cell 1 (by simp), h.cell 2 (by simp), h.cell 3 (by simp), h.cell 4 (by simp), h.cell 5 (by simp)⟩, h.fz 0, h.fz 1, h.fz 2, h.fz 3, h.fz 4, h.fz 5⟩
theorem Bk.set6 {t : TypeId} {w : World} {g : Nat} {x y z u v r : Value} (h : Bk t w g [x, y, z, u, v, r]) (x' y' z' u' v' r' : Value) : Bk t ((((((w.setCell ⟨g, 0, none⟩ x').setCell ⟨g, 1, none⟩ y').setCell ⟨g, 2, none⟩ z').setCell ⟨g, 3, none⟩ u').setCell ⟨g, 4, none⟩ v').setCell ⟨g, 5, none⟩ r') g [x', y', z', u', v', r'] := (((((h.set 0 x').set 1 y').set 2 z').set 3 u').set 4 v').set 5 r'
theorem below_set6 {B g : Nat} {a w : World} (h : Below B a w) (hb : B ≤ g) (x' y' z' u' v' r' : Value) : Below B a ((((((w.setCell ⟨g, 0, none⟩ x').setCell ⟨g, 1, none⟩ y').setCell ⟨g, 2, none⟩ z').setCell ⟨g, 3, none⟩ u').setCell ⟨g, 4, none⟩ v').setCell ⟨g, 5, none⟩ r') :=
  (((((h.setCell (p := ⟨g, 0, none⟩) hb x').setCell (p := ⟨g, 1, none⟩) hb y').setCell (p := ⟨g, 2, none⟩) hb z').setCell (p := ⟨g, 3, none⟩) hb u').setCell (p := ⟨g, 4, none⟩) hb v').setCell (p := ⟨g, 5, none⟩) hb r'
/-- What a step's numbers are: none, where one has an error. -/
def ru6 (R : Rd18) (l : List (Int × Int)) : List Int := if nuE R l = 0 then nuL R l else []
theorem ru6_yes {R : Rd18} {l : List (Int × Int)} (h : nuE R l = 0) : ru6 R l = nuL R l := by unfold ru6; rw [if_pos h]
theorem ru6_no {R : Rd18} {l : List (Int × Int)} (h : nuE R l ≠ 0) : ru6 R l = [] := by unfold ru6; rw [if_neg h]
theorem nuL_take {R : Rd18} {l : List (Int × Int)} {k : Nat} (hk : k < l.length) : nuL R (l.take (k + 1)) = nuL R (l.take k) ++ [R.ro (l.getD k (0, 0)).1 (l.getD k (0, 0)).2] := by
  have e : l.take (k + 1) = l.take k ++ [l.getD k (0, 0)] := by
    rw [List.take_add_one, List.getElem?_eq_getElem hk]
    simp [List.getD, hk]
  rw [e]
  unfold nuL
  rw [List.map_append]
  rfl
theorem nuL_len (R : Rd18) (l : List (Int × Int)) : (nuL R l).length = l.length := by unfold nuL; rw [List.length_map]

set_option maxHeartbeats 4000000 in
set_option maxRecDepth 100000 in
theorem rounded_any (S : Nat → Prop) (xa : Option Addr) (xc : Nat) (ar : List (Int × Int)) (ga : Option Addr) (gc : Nat) (ma : Option Addr) (mc : Nat) (s : Sr) (pa : Option Addr) (pc : Nat) (cs : List Int) (w : World) (hx : Gr SlE S w xa xc ar) (hg : Tzz w ga gc s.rg) (hm : Rii w ma mc s.rw) (hp : Ri w pa pc cs) (h40 : s.rg.length ≤ 40) (h8 : ∀ l ∈ s.rg, l.length ≤ 8) (h6 : ar.length ≤ 6) :
    Calls Tryz.prog 30 #[.slice xa ar.length xc, .agg #[.slice ga s.rg.length gc, .slice ma s.rw.length mc], .slice pa cs.length pc] w fun e w' => e = .returned (.tuple #[.agg (c6 (ru6 (RS s cs) ar)).toArray, .int .i64 (nuE (RS s cs) ar)]) ∧ Below w.heap.size w w' := by
  have k2 := hm.lenB
  have k3 := hg.lenB
  have k4 := hp.lenB
  obtain ⟨W, hW, X1, X2, X3, hbW⟩ : ∃ W, W = ((w.alloc (.cells #[.slice ga s.rg.length gc, .slice ma s.rw.length mc] 26)).alloc (.cells #[.int .i64 0, .int .i64 0, .int .i64 0, .int .i64 0, .int .i64 0, .int .i64 0] 60)).alloc (.cells #[.int .i64 0, .int .i64 0, .int .i64 0, .int .i64 0, .int .i64 0, .int .i64 0] 60) ∧ Bk 26 W w.heap.size [.slice ga s.rg.length gc, .slice ma s.rw.length mc] ∧ Bk 60 W (w.heap.size + 1) (c6 []) ∧ Bk 60 W (w.heap.size + 2) (c6 []) ∧ Below w.heap.size w W :=
    ⟨_, rfl, (Bk.new _ _ _).below (bl2 _ _), (Bk.new1 _ _ _ (c6 [])).below (bl1 _), by
      have h := Bk.new1 60 (w.alloc (.cells #[.slice ga s.rg.length gc, .slice ma s.rw.length mc] 26)) (.cells #[.int .i64 0, .int .i64 0, .int .i64 0, .int .i64 0, .int .i64 0, .int .i64 0] 60) (c6 [])
      simpa [c6] using h, (bl2 _ _).trans ((bl1 _).mono (by simp; omega))⟩
  have HX : Hid (Gr SlE S w xa xc ar) := hx
  have HG : Hid (Tzz w ga gc s.rg) := hg
  have HM : Hid (Rii w ma mc s.rw) := hm
  have HP : Hid (Ri w pa pc cs) := hp
  obtain ⟨g, hgg⟩ : ∃ g, w.heap.size + 2 = g := ⟨_, rfl⟩
  have HGG : Hid (w.heap.size + 2 = g) := hgg
  clear hx hg hm hp
  go_enter Tryz.func30, Tryz.ntmps30
  go_upto_region 2 with fail
  rw [← hW]
  clear hW
  try rw [hgg]
  rw [hgg] at X3
  clear hgg
  go_wp2
  go_loopw [15] (fun i wr => ∃ k : Nat, k ≤ ar.length ∧ i = .int .i64 k ∧ Hid (nuE (RS s cs) (ar.take k) = 0) ∧ Bk 60 wr g (c6 (nuL (RS s cs) (ar.take k))) ∧ Bk 60 wr (w.heap.size + 1) (c6 []) ∧ Bk 26 wr w.heap.size [.slice ga s.rg.length gc, .slice ma s.rw.length mc] ∧ Below w.heap.size w wr) (fun i _ => ar.length - (intOf i).toNat)
  case atStart => exact ⟨0, Nat.zero_le _, rfl, (by show nuE _ _ = 0; rw [List.take_zero, nuE]), X3, X2, X1, hbW⟩
  case round =>
    clear X1 X2 X3 hbW
    obtain ⟨k, hk, rfl, HOK, hY, hX2, hX1, hB⟩ := hrel
    by_cases hkn : k < ar.length
    · obtain ⟨b1, off, ea, hb1, ⟨m1, m2⟩, d0, d1⟩ := HX.out.sl hB k hkn
      subst ea
      have HNE : Hid (_) := nuE_take (R := RS s cs) hkn
      have HNL : Hid (_) := nuL_take (R := RS s cs) hkn
      rw [HOK.out, if_pos rfl] at HNE
      have hro : ∀ U, Below wr.heap.size wr U → Calls Tryz.prog 48 #[.agg #[.slice ga s.rg.length gc, .slice ma s.rw.length mc], .agg #[.int .i64 (ar.getD k (0, 0)).1, .int .i64 (ar.getD k (0, 0)).2], .slice pa cs.length pc] U fun e w' => e = .returned (.tuple #[.int .i64 ((RS s cs).ro (ar.getD k (0, 0)).1 (ar.getD k (0, 0)).2), .int .i64 ((RS s cs).re (ar.getD k (0, 0)).1 (ar.getD k (0, 0)).2)]) ∧ Below U.heap.size U w' := fun U hU =>
        crounded_any ga gc ma mc s _ _ pa pc cs U ((HG.out.below hB).below hU) ((HM.out.below hB).below hU) ((HP.out.below hB).below hU) m1 m2 h40 h8
      have hnl : (nuL (RS s cs) (ar.take k)).length = k := by rw [nuL_len, List.length_take]; omega
      have HC6 : Hid (_) := c6_snoc (L := nuL (RS s cs) (ar.take k)) (by omega) ((RS s cs).ro (ar.getD k (0, 0)).1 (ar.getD k (0, 0)).2)
      rw [← HNL.out, hnl] at HC6
      have HC7 : Hid ((c6 (nuL (RS s cs) (ar.take k)))[k]? = _) := c6_at (by omega)
      generalize (RS s cs).ro (ar.getD k (0, 0)).1 (ar.getD k (0, 0)).2 = zn at *
      generalize (RS s cs).re (ar.getD k (0, 0)).1 (ar.getD k (0, 0)).2 = ze at *
      generalize ar.getD k (0, 0) = y at *
      have HST : Hid (nuE (RS s cs) (ar.take (k + 1)) ≠ 0 → nuE (RS s cs) ar = nuE (RS s cs) (ar.take (k + 1))) := fun h => nuE_stop (by omega) h
      have i1 : (0 : Int) ≤ (k : Int) := by omega
      have i2 : (k : Int) < (ar.length : Int) := by omega
      have i3 : (k : Int) < 6 := by omega
      obtain ⟨U, hU, XG, hbU⟩ : ∃ U, U = wr.alloc (.cells #[.int .i64 y.1, .int .i64 y.2] 79) ∧ Bk 79 U wr.heap.size [.int .i64 y.1, .int .i64 y.2] ∧ Below wr.heap.size wr U := ⟨_, rfl, Bk.new _ _ _, bl1 _⟩
      have hro2 := hro U hbU
      replace hY := hY.below hbU
      replace hX2 := hX2.below hbU
      replace hX1 := hX1.below hbU
      replace hB := hB.trans (hbU.mono hB.size)
      obtain ⟨y0, y1, -⟩ := XG.two
      obtain ⟨x0, x1, -⟩ := hX1.two
      clear hro
      go_upto_region 5 with fail
      rw [← hU]
      clear hU d0 d1 hbU hnl
      go_wp2_with fail
      refine hro2.mono ?_
      rintro e u4 ⟨rfl, hb⟩
      replace hY := hY.below hb
      replace hX2 := hX2.below hb
      replace hX1 := hX1.below hb
      replace hB := hB.trans (hb.mono hB.size)
      clear hro2 hb y0 y1 x0 x1 XG
      by_cases hze : ze = 0
      rotate_left
      · have HF : Hid (nuE (RS s cs) ar = ze ∧ ru6 (RS s cs) ar = []) := by
          have h1 := HST.out (by rw [HNE.out]; exact hze)
          rw [HNE.out] at h1
          exact ⟨h1, ru6_no (by rw [h1]; exact hze)⟩
        have g1 : (ze != 0) = true := bne_iff_ne.2 hze
        obtain ⟨⟨z0, z1, z2, z3, z4, z5⟩, f0, f1, f2, f3, f4, f5⟩ := hX2.six6
        obtain ⟨V, hV⟩ : ∃ V, V = ((((((u4.setCell ⟨w.heap.size + 1, 0, none⟩ (.int .i64 0)).setCell ⟨w.heap.size + 1, 1, none⟩ (.int .i64 0)).setCell ⟨w.heap.size + 1, 2, none⟩ (.int .i64 0)).setCell ⟨w.heap.size + 1, 3, none⟩ (.int .i64 0)).setCell ⟨w.heap.size + 1, 4, none⟩ (.int .i64 0)).setCell ⟨w.heap.size + 1, 5, none⟩ (.int .i64 0)) := ⟨_, rfl⟩
        have A := hX2.set6 (.int .i64 0) (.int .i64 0) (.int .i64 0) (.int .i64 0) (.int .i64 0) (.int .i64 0)
        have hbV := below_set6 hB (g := w.heap.size + 1) (Nat.le_succ _) (.int .i64 0) (.int .i64 0) (.int .i64 0) (.int .i64 0) (.int .i64 0) (.int .i64 0)
        rw [← hV] at A hbV
        clear HNE HNL HC6 HC7 HST HOK hze hY hX1
        go_wp2
        rw [← hV]
        clear hV
        (try simp only [Exit.inBlock, Exit.then])
        refine bodyPost_ret (v := .tuple #[.agg (c6 []).toArray, .int .i64 ze]) (by obtain ⟨⟨r0, r1, r2, r3, r4, r5⟩, _⟩ := A.six6; simp [results, Tryz.results30, go_sem, r0, r1, r2, r3, r4, r5, c6]) rfl ⟨by rw [HF.out.1, HF.out.2], hbV⟩
      subst hze
      have hfz := hY.fz k
      have hcl := hY.cell k (by show k < 6; omega)
      rw [HC7.out] at hcl
      have HY2 : Hid (Bk 60 (u4.setCell ⟨g, k, none⟩ (.int .i64 zn)) g (c6 (nuL (RS s cs) (ar.take (k + 1))))) := by
        show Bk _ _ _ _
        rw [HC6.out]
        exact hY.set k _
      have HX22 : Hid (Bk 60 (u4.setCell ⟨g, k, none⟩ (.int .i64 zn)) (w.heap.size + 1) (c6 [])) := hX2.other k _ (by have := HGG.out; omega)
      have HX12 : Hid (Bk 26 (u4.setCell ⟨g, k, none⟩ (.int .i64 zn)) w.heap.size [.slice ga s.rg.length gc, .slice ma s.rw.length mc]) := hX1.other k _ (by have := HGG.out; omega)
      have HB2 : Hid (Below w.heap.size w (u4.setCell ⟨g, k, none⟩ (.int .i64 zn))) := hB.setCell (p := ⟨g, k, none⟩) (by show w.heap.size ≤ g; have := HGG.out; omega) _
      have HOK2 : Hid (nuE (RS s cs) (ar.take (k + 1)) = 0) := HNE.out
      clear HNE HNL HC6 HC7 HST HOK hY hX2 hX1 hB
      go_wp2
      go_roundw
      case rel => exact ⟨k + 1, by omega, by go_num, HOK2, HY2.out, HX22.out, HX12.out, HB2.out⟩
      case measure => simp [intOf]; omega
    · obtain rfl : k = ar.length := by omega
      have g4 : ¬ (ar.length : Int) < (ar.length : Int) := by omega
      rw [List.take_length] at HOK hY
      have HRU : Hid (_) := ru6_yes HOK.out
      obtain ⟨m0, hm0⟩ : ∃ z, (nuL (RS s cs) ar).getD 0 0 = z := ⟨_, rfl⟩
      obtain ⟨m1, hm1⟩ : ∃ z, (nuL (RS s cs) ar).getD 1 0 = z := ⟨_, rfl⟩
      obtain ⟨m2, hm2⟩ : ∃ z, (nuL (RS s cs) ar).getD 2 0 = z := ⟨_, rfl⟩
      obtain ⟨m3, hm3⟩ : ∃ z, (nuL (RS s cs) ar).getD 3 0 = z := ⟨_, rfl⟩
      obtain ⟨m4, hm4⟩ : ∃ z, (nuL (RS s cs) ar).getD 4 0 = z := ⟨_, rfl⟩
      obtain ⟨m5, hm5⟩ : ∃ z, (nuL (RS s cs) ar).getD 5 0 = z := ⟨_, rfl⟩
      unfold c6 at hY
      rw [hm0, hm1, hm2, hm3, hm4, hm5] at hY
      have HCC : Hid (c6 (nuL (RS s cs) ar) = [.int .i64 m0, .int .i64 m1, .int .i64 m2, .int .i64 m3, .int .i64 m4, .int .i64 m5]) := by
        show _ = _
        unfold c6
        rw [hm0, hm1, hm2, hm3, hm4, hm5]
      clear hm0 hm1 hm2 hm3 hm4 hm5
      obtain ⟨⟨s0, s1, s2, s3, s4, s5⟩, -⟩ := hY.six6
      obtain ⟨⟨z0, z1, z2, z3, z4, z5⟩, f0, f1, f2, f3, f4, f5⟩ := hX2.six6
      obtain ⟨V, hV⟩ : ∃ V, V = ((((((wr.setCell ⟨w.heap.size + 1, 0, none⟩ (.int .i64 m0)).setCell ⟨w.heap.size + 1, 1, none⟩ (.int .i64 m1)).setCell ⟨w.heap.size + 1, 2, none⟩ (.int .i64 m2)).setCell ⟨w.heap.size + 1, 3, none⟩ (.int .i64 m3)).setCell ⟨w.heap.size + 1, 4, none⟩ (.int .i64 m4)).setCell ⟨w.heap.size + 1, 5, none⟩ (.int .i64 m5)) := ⟨_, rfl⟩
      have A := hX2.set6 (.int .i64 m0) (.int .i64 m1) (.int .i64 m2) (.int .i64 m3) (.int .i64 m4) (.int .i64 m5)
      have hbV := below_set6 hB (g := w.heap.size + 1) (Nat.le_succ _) (.int .i64 m0) (.int .i64 m1) (.int .i64 m2) (.int .i64 m3) (.int .i64 m4) (.int .i64 m5)
      rw [← hV] at A hbV
      clear hY hX1 hX2 hB
      go_wp2
      rw [← hV]
      clear hV
      (try simp only [Exit.inBlock, Exit.then])
      refine bodyPost_ret (v := .tuple #[.agg #[.int .i64 m0, .int .i64 m1, .int .i64 m2, .int .i64 m3, .int .i64 m4, .int .i64 m5], .int .i64 0]) (by obtain ⟨⟨r0, r1, r2, r3, r4, r5⟩, _⟩ := A.six6; simp [results, Tryz.results30, go_sem, r0, r1, r2, r3, r4, r5]) rfl ⟨by rw [HRU.out, HOK.out, HCC.out], hbV⟩

end Go.Proofs.YtkbbdkecillnpaaGreat

namespace Go.Proofs.YtkbbdkecillnpaaGreat
open Go.RowKit Go.Maps
set_option linter.unusedSimpArgs false
set_option linter.unusedVariables false

theorem wrap_i16' (z : Int) : IntKind.i16.wrap z = if 32768 ≤ z % 65536 then z % 65536 - 65536 else z % 65536 := by
  simp [IntKind.wrap, IntKind.bits, IntKind.signed]

set_option maxHeartbeats 400000 in
set_option maxRecDepth 100000 in
theorem wrap16_fd' (z : Int) : (IntKind.i16.wrap z != z) = !fdB z := by
  rw [wrap_i16', fdB, Bool.eq_iff_iff, bne_iff_ne, Bool.not_eq_true', decide_eq_false_iff_not]
  split <;> omega
theorem wrap64_16 (z : Int) : IntKind.i64.wrap (IntKind.i16.wrap z) = IntKind.i16.wrap z := by
  rw [wrap_i16']
  simp only [IntKind.wrap, IntKind.bits, IntKind.signed]
  split <;> (simp; omega)
theorem all_no' {α : Type} {p : α → Bool} {r : List α} {d : α} {k : Nat} (hk : k < r.length) (h : p (r.getD k d) = false) : r.all p = false := by
  rw [Bool.eq_false_iff]
  intro e
  have := List.all_eq_true.1 e (r.getD k d) (get_mem hk)
  rw [h] at this
  cases this
theorem all_yes' {α : Type} {p : α → Bool} {r : List α} {d : α} (h : ∀ j, j < r.length → p (r.getD j d) = true) : r.all p = true := by
  rw [List.all_eq_true]
  exact of_get h
theorem upto_succ {p : Nat → Prop} {k : Nat} (h : ∀ j, j < k → p j) (h1 : p k) : ∀ j, j < k + 1 → p j := fun j hj => by
  rcases Nat.lt_or_ge j k with h2 | h2
  · exact h j h2
  · rw [show j = k by omega]; exact h1

/-- Two ints laid in a block. -/
theorem ri_two (w : World) (x y : Int) (hx : I64 x) (hy : I64 y) : Ri (w.alloc (.cells #[.int .i64 x, .int .i64 y] 3)) (some ⟨w.heap.size, 0, none⟩) 2 [x, y] := by
  have hN := heap_alloc_new w (.cells #[.int .i64 x, .int .i64 y] 3)
  refine ⟨fun z hz => ?_, Nat.le_refl _, by unfold maxLen; omega, .inr ⟨w.heap.size, 0, rfl, by simp, fun i hi => ?_⟩⟩
  · simp at hz
    rcases hz with rfl | rfl
    · exact hx
    · exact hy
  · match i, hi with
    | 0, _ => exact cell_of_row _ w.heap.size 0 _ _ (0, 0) hN
    | 1, _ => exact cell_of_row _ w.heap.size 1 _ _ (0, 0) hN
theorem two_all (x y : Int) : [x, y].all fdB = (fdB x && fdB y) := by simp

theorem flat_take_succ {cs : List (List Pn)} {k : Nat} (hk : k < cs.length) : ((cs.take (k + 1)).flatten).length = ((cs.take k).flatten).length + (cs.getD k []).length := by
  rw [take_snoc (d := []) hk, List.flatten_append, List.length_append, List.flatten_singleton]
theorem flat_take_le (cs : List (List Pn)) (k : Nat) : ((cs.take k).flatten).length ≤ cs.flatten.length := by
  conv => rhs; rw [← List.take_append_drop k cs, List.flatten_append, List.length_append]
  omega
/-- Whether contours are formed. -/
def coF (cs : List (List Pn)) : Bool := decide (cs.length ≤ 10) && (cs.all (fun c => decide (0 < c.length)) && (decide (cs.flatten.length ≤ 80) && cs.flatten.all pnF))
theorem coF_no {cs : List (List Pn)} (h : ¬ (cs.length ≤ 10 ∧ (∀ c ∈ cs, 0 < c.length) ∧ cs.flatten.length ≤ 80 ∧ ∀ c ∈ cs, c.all pnF = true)) : coF cs = false := by
  rw [Bool.eq_false_iff]
  intro e
  unfold coF at e
  simp only [Bool.and_eq_true, decide_eq_true_iff, List.all_eq_true] at e
  refine h ⟨e.1, e.2.1, e.2.2.1, fun c hc => List.all_eq_true.2 fun p hp => e.2.2.2 p (List.mem_flatten.2 ⟨c, hc, hp⟩)⟩
theorem coF_yes {cs : List (List Pn)} (h1 : cs.length ≤ 10) (h2 : ∀ j, j < cs.length → 0 < (cs.getD j []).length ∧ (cs.getD j []).all pnF = true) (h3 : cs.flatten.length ≤ 80) : coF cs = true := by
  unfold coF
  simp only [Bool.and_eq_true, decide_eq_true_iff, List.all_eq_true]
  refine ⟨h1, fun c hc => (of_get (p := fun c => 0 < c.length ∧ c.all pnF = true) h2 c hc).1, h3, fun p hp => ?_⟩
  obtain ⟨c, hc, hpc⟩ := List.mem_flatten.1 hp
  exact List.all_eq_true.1 (of_get (p := fun c => 0 < c.length ∧ c.all pnF = true) h2 c hc).2 p hpc

end Go.Proofs.YtkbbdkecillnpaaGreat

namespace Go.Proofs.YtkbbdkecillnpaaGreat
open Go.RowKit Go.Maps
set_option linter.unusedSimpArgs false
set_option linter.unusedVariables false

theorem foB_eq (o : Ol) : foB o = (!(decide (0 < o.ps.length) && decide (0 < o.cs.length)) && (coF o.cs && (decide (o.ps.length ≤ 6) && o.ps.all paF))) := by
  unfold foB coF
  generalize decide (0 < o.cs.length) = b1
  generalize decide (0 < o.ps.length) = b2
  generalize decide (o.cs.length ≤ 10) = b3
  generalize decide (o.ps.length ≤ 6) = b4
  generalize o.cs.all _ = b5
  generalize decide (o.cs.flatten.length ≤ 80) = b6
  generalize o.cs.flatten.all pnF = b7
  generalize o.ps.all paF = b8
  revert b1 b2 b3 b4 b5 b6 b7 b8
  decide

theorem zero_size (z : Array Value) (n : Nat) : (Builtin.zeroCells z n).size = n * z.size := by simp [Builtin.zeroCells]

theorem Gr.anyP {S S' : Nat → Prop} {w : World} {a : Option Addr} {cap : Nat} {l : List Pn} (h : Gr PnE S w a cap l) : Gr PnE S' w a cap l := by
  refine ⟨h.1, h.2.1, h.2.2.1, fun i hi => ?_⟩
  obtain ⟨b, off, vs, e, hb, hr, hc⟩ := h.2.2.2 i hi
  exact ⟨b, off, vs, e, hb, PnE_rep.2 (PnE_rep.1 hr), hc⟩
theorem Gr.anyA {S S' : Nat → Prop} {w : World} {a : Option Addr} {cap : Nat} {l : List Pa} (h : Gr PaE S w a cap l) : Gr PaE S' w a cap l := by
  refine ⟨h.1, h.2.1, h.2.2.1, fun i hi => ?_⟩
  obtain ⟨b, off, vs, e, hb, hr, hc⟩ := h.2.2.2 i hi
  exact ⟨b, off, vs, e, hb, PaE_rep.2 (PaE_rep.1 hr), hc⟩
theorem flat_take_snoc {cs : List (List Pn)} {k : Nat} {c : List Pn} (hk : k < cs.length) (hc : cs.getD k [] = c) : (cs.take (k + 1)).flatten = (cs.take k).flatten ++ c := by
  rw [take_snoc (d := []) hk, List.flatten_append, List.flatten_singleton, hc]

theorem endF_take {cs : List (List Pn)} {k : Nat} {c : List Pn} (hk : k < cs.length) (hc : cs.getD k [] = c) : endF 0 (cs.take (k + 1)) = endF 0 (cs.take k) ++ [(((cs.take k).flatten).length : Int) + (c.length : Int) - 1] := by
  rw [take_snoc (d := []) hk, endF_append, hc]
  simp [endF]

end Go.Proofs.YtkbbdkecillnpaaGreat

namespace Go.Proofs.YtkbbdkecillnpaaGreat
open Go.RowKit Go.Maps
set_option linter.unusedSimpArgs false
set_option linter.unusedVariables false

/-- A row of ints of the call's own. -/
def Gi (base : Nat) (w : World) (v : Value) (l : List Int) : Prop := Gw El.int 3 base (fun _ => False) w v l
theorem Gi.nil (base : Nat) (w : World) : Gi base w (.slice none 0 0) [] := Gw.nil _ _ _ _ _
theorem Gi.lo {base : Nat} {w : World} {v : Value} {l : List Int} (h : Gi base w v l) {g : Nat} (hg : v.ownBlock = some g) : base ≤ g ∧ g < w.heap.size := Gw.lo h hg
theorem Gr.ri {S : Nat → Prop} {w : World} {a : Option Addr} {cap : Nat} {l : List Int} (h : Gr El.int S w a cap l) : Ri w a cap l := by
  have hz : ∀ i, i < l.length → I64 (l.getD i 0) := fun i hi => by
    obtain ⟨b, off, vs, e, hb, hr, hc⟩ := h.2.2.2 i hi
    exact hr.2
  refine ⟨fun z hz1 => ?_, h.1, h.2.1, ?_⟩
  · obtain ⟨i, hi, e⟩ := List.getElem_of_mem hz1
    have := hz i hi
    rw [List.getD_eq_getElem?_getD, List.getElem?_eq_getElem hi, Option.getD_some, e] at this
    exact this
  · by_cases h0 : l = []
    · exact .inl h0
    · obtain ⟨b, off, e, hb⟩ := h.blk h0
      refine .inr ⟨b, off, e, hb, fun i hi => ?_⟩
      obtain ⟨b', off', vs, e', hb', hr, hc⟩ := h.2.2.2 i hi
      rw [e] at e'
      cases e'
      have := hc 0 Nat.one_pos
      rw [hr.1, show i * El.int.sz = i from Nat.mul_one i] at this
      exact this
theorem Gi.slice {base : Nat} {w : World} {v : Value} {l : List Int} (h : Gi base w v l) : ∃ a cap, v = .slice a l.length cap ∧ Ri w a cap l ∧ ∀ b o, a = some ⟨b, o, none⟩ → base ≤ b ∧ b < w.heap.size := by
  obtain ⟨a, cap, e, hg, hb⟩ := Gw.slice h
  exact ⟨a, cap, e, hg.ri, hb⟩
theorem Gi.stay {base : Nat} {w w' : World} {v : Value} {l : List Int} (h : Gi base w v l) (hs : w.heap.size ≤ w'.heap.size) (ho : ∀ k, v.ownBlock = some k → w'.heap[k]? = w.heap[k]?) : Gi base w' v l :=
  Gw.stay h hs (fun k hk => hk.elim) ho
theorem Gi.below {base : Nat} {w w' : World} {v : Value} {l : List Int} (h : Gi base w v l) (hb : Below w.heap.size w w') : Gi base w' v l := Gw.below h hb
theorem Gi.grown {base : Nat} {w w' : World} {v : Value} {l : List Int} {r : Option Nat} (h : Gi base w v l) (hg : w.grownBy w' r) (hr : ∀ k, v.ownBlock = some k → r ≠ some k) : Gi base w' v l :=
  h.stay hg.size (fun k hk => hg.block k (h.lo hk).2 (fun e => hr k hk e.symm))
/-- Such a row, and a block of another type. -/
theorem Gi.ne {base : Nat} {w : World} {v : Value} {l : List Int} {t : TypeId} {g : Nat} {cs : List Value} (h : Gi base w v l) (hb : Bk t w g cs) (ht : t ≠ 3) : v.ownBlock ≠ some g := by
  intro e
  obtain ⟨cur, k⟩ := Gw.ty h e
  rw [hb] at k
  simp at k
  exact ht k.2
theorem Gi.set {base : Nat} {w : World} {v : Value} {l : List Int} {t : TypeId} {g : Nat} {cs : List Value} (h : Gi base w v l) (hb : Bk t w g cs) (ht : t ≠ 3) (j : Nat) (z : Value) : Gi base (w.setCell ⟨g, j, none⟩ z) v l :=
  h.stay (by simp [World.setCell]) (fun k hk => Below.heap_setCell _ _ _ _ (fun e => h.ne hb ht (by rw [hk, e])))
/-- 'append(v, z)': z is laid in a block of its own first. -/
theorem wpList_append_gi {w : World} {ops : Array Oper} {rest : List Oper} {o : Oper} {a : Act} {Q : Exit → Act → World → Prop}
    (hgd : o.guard = none) (s x : Operand) (ho : o.op = .call { callee := .builtin .append, args := #[s, x], argTypes := #[29, 29] })
    (base : Nat) (v : Value) (l : List Int) (hs : a.eval s = v) (hown : Gi base w v l) (g : Nat) (z : Int) (hx : a.eval x = .slice (some ⟨g, 0, none⟩) 1 1)
    (hg : g < w.heap.size) (c0 : w.cell? ⟨g, 0, none⟩ = some (.int .i64 z)) (hz : I64 z) (hlen : l.length + 1 ≤ 1000000) (hbase : base ≤ w.heap.size)
    (h : ∀ v' w', Gi base w' v' (l ++ [z]) → w.grownBy w' v.ownBlock → (v'.ownBlock = v.ownBlock ∨ v'.ownBlock = some w.heap.size) → wpList Tryz.prog ops Q rest (a.put o.dst v') w') : wpList Tryz.prog ops Q (o :: rest) a w := by
  refine wpList_append_el 29 3 Tryz.underlying29 infoA_i64 rfl Nat.one_pos (by decide) hgd s x ho base (fun _ => False) v l hs hown (some ⟨g, 0, none⟩) 1 1 [z] rfl hx ?_ hlen hbase (fun v' w' k1 k2 k3 => h v' w' k1 k2 k3)
  refine Gr.one (vs := [.int .i64 z]) ⟨rfl, hz⟩ hg (fun j hj => ?_)
  obtain rfl : j = 0 := by simp [El.int, El.num] at hj; exact hj
  exact c0

end Go.Proofs.YtkbbdkecillnpaaGreat

namespace Go.Proofs.YtkbbdkecillnpaaGreat
open Go.RowKit Go.Maps
set_option linter.unusedSimpArgs false
set_option linter.unusedVariables false

/-- All that was there is as it was, but for block g. -/
def Kp (g : Nat) (w w' : World) : Prop := Keep (fun k => k < w.heap.size ∧ k ≠ g) w w'
theorem Kp.refl (g : Nat) (w : World) : Kp g w w := Keep.refl _ _
theorem Kp.size {g : Nat} {w w' : World} (h : Kp g w w') : w.heap.size ≤ w'.heap.size := Keep.size h
theorem Kp.trans {g : Nat} {a b c : World} (h : Kp g a b) (k : Kp g b c) : Kp g a c :=
  Keep.trans h (Keep.mono k (fun i hi => ⟨Nat.lt_of_lt_of_le hi.1 h.size, hi.2⟩))
theorem Kp.of {g : Nat} {w w' : World} (h : Below w.heap.size w w') : Kp g w w' := Keep.of_below h (fun k hk => hk.1)
theorem Kp.setCell {g : Nat} {a w : World} (h : Kp g a w) (j : Nat) (z : Value) : Kp g a (w.setCell ⟨g, j, none⟩ z) := Keep.setCell h (p := ⟨g, j, none⟩) (fun e => e.2 rfl) z
theorem Kp.below {g B : Nat} {w w' : World} (h : Kp g w w') (h1 : B ≤ w.heap.size) (h2 : B ≤ g) : Below B w w' := Keep.below h (fun k hk => ⟨by omega, by omega⟩)
theorem Kp.alloc {g : Nat} {a w : World} (h : Kp g a w) (o : Obj) : Kp g a (w.alloc o) := h.trans (Kp.of (bl1 o))
theorem Kp.drew {g : Nat} {a w : World} (h : Kp g a w) : Kp g a w.drew := h.trans (Kp.of (Below.refl _ _).drew)
theorem Kp.grown {g : Nat} {a w w' : World} {r : Option Nat} (h : Kp g a w) (hg : w.grownBy w' r) (hr : ∀ k, r = some k → a.heap.size ≤ k) : Kp g a w' :=
  Keep.trans h ⟨hg.os, hg.tape, hg.output, hg.size, fun k hk => hg.block k (Nat.lt_of_lt_of_le hk.1 h.size) (fun e => by have := hr k e.symm; omega)⟩
theorem Kp.block {g : Nat} {w w' : World} (h : Kp g w w') {k : Nat} (h1 : k < w.heap.size) (h2 : k ≠ g) : w'.heap[k]? = w.heap[k]? := Keep.block h k ⟨h1, h2⟩
theorem Bk.kp {t : TypeId} {g b : Nat} {w w' : World} {cs : List Value} (h : Bk t w b cs) (hk : Kp g w w') (hb : b ≠ g) : Bk t w' b cs := (hk.block h.lt hb).trans h
theorem Bk.ne {t u : TypeId} {w : World} {g b : Nat} {cs ds : List Value} (h : Bk t w b cs) (h2 : Bk u w g ds) (ht : t ≠ u) : b ≠ g := by
  intro e
  subst e
  unfold Bk at h h2
  rw [h] at h2
  simp at h2
  exact ht h2.2
theorem Gw.kp {α : Type} {E : El α} {t u : TypeId} {base g : Nat} {w w' : World} {v : Value} {l : List α} {cs : List Value} (h : Gw E t base (fun _ => False) w v l) (hb : Bk u w g cs) (ht : u ≠ t) (hk : Kp g w w') : Gw E t base (fun _ => False) w' v l := by
  refine h.stay hk.size (fun k h1 => h1.elim) (fun k hv => hk.block (h.lo hv).2 (fun e => ?_))
  obtain ⟨cur, k1⟩ := h.ty hv
  rw [e, hb] at k1
  simp at k1
  exact ht k1.2
theorem Gi.kp {u : TypeId} {base g : Nat} {w w' : World} {v : Value} {l : List Int} {cs : List Value} (h : Gi base w v l) (hb : Bk u w g cs) (ht : u ≠ 3) (hk : Kp g w w') : Gi base w' v l := Gw.kp h hb ht hk
theorem Rb.keep' {w w' : World} {a : Option Addr} {cap : Nat} {xs : List Nat} (h : Rb w a cap xs) (hs : w.heap.size ≤ w'.heap.size) (hb : ∀ b o, b < w.heap.size → a = some ⟨b, o, none⟩ → xs ≠ [] → w'.heap[b]? = w.heap[b]?) : Rb w' a cap xs := by
  by_cases h0 : xs = []
  · exact ⟨h.1, h.2.1, h.2.2.1, h.2.2.2.1, .inl h0⟩
  · exact h.keep hs (fun b hb1 ⟨o, e⟩ => hb b o hb1 e h0)
/-- Bytes and a place: a block of two cells. -/
def Sc (t : TypeId) (w : World) (g : Nat) (pa : Option Addr) (pc : Nat) (xs : List Nat) (p : Nat) : Prop :=
  Bk t w g [.slice pa xs.length pc, .int .i64 (p : Int)] ∧ Rb w pa pc xs ∧ ∀ b o, pa = some ⟨b, o, none⟩ → xs ≠ [] → b ≠ g
theorem Sc.bk {t : TypeId} {w : World} {g : Nat} {pa : Option Addr} {pc : Nat} {xs : List Nat} {p : Nat} (h : Sc t w g pa pc xs p) : Bk t w g [.slice pa xs.length pc, .int .i64 (p : Int)] := h.1
theorem Sc.rb {t : TypeId} {w : World} {g : Nat} {pa : Option Addr} {pc : Nat} {xs : List Nat} {p : Nat} (h : Sc t w g pa pc xs p) : Rb w pa pc xs := h.2.1
theorem Sc.below {t : TypeId} {w w' : World} {g : Nat} {pa : Option Addr} {pc : Nat} {xs : List Nat} {p : Nat} (h : Sc t w g pa pc xs p) (hb : Below w.heap.size w w') : Sc t w' g pa pc xs p := ⟨h.1.below hb, h.2.1.below hb, h.2.2⟩
theorem Sc.step {t : TypeId} {w : World} {g : Nat} {pa : Option Addr} {pc : Nat} {xs : List Nat} {p : Nat} (h : Sc t w g pa pc xs p) (q : Nat) : Sc t (w.setCell ⟨g, 1, none⟩ (.int .i64 (q : Int))) g pa pc xs q :=
  ⟨h.1.set 1 _, h.2.1.keep' (by simp [World.setCell]) (fun b o _ e hne => Below.heap_setCell _ _ _ _ (fun e2 => h.2.2 b o e hne e2)), h.2.2⟩
/-- A row of the call's own that grows leaves it. -/
theorem Sc.grown {t : TypeId} {w w' : World} {g : Nat} {pa : Option Addr} {pc : Nat} {xs : List Nat} {p : Nat} {r : Option Nat} (h : Sc t w g pa pc xs p) (hg : w.grownBy w' r) (hr : r ≠ some g) (hb : ∀ b o, pa = some ⟨b, o, none⟩ → xs ≠ [] → r ≠ some b) : Sc t w' g pa pc xs p :=
  ⟨h.1.grown hg hr, h.2.1.keep' hg.size (fun b o hb1 e hne => hg.block b hb1 (fun e2 => hb b o e hne e2.symm)), h.2.2⟩
theorem Sc.base {t : TypeId} {w w0 : World} {g : Nat} {pa : Option Addr} {pc : Nat} {xs : List Nat} {p : Nat} (h : Sc t w g pa pc xs p) : g < w.heap.size := h.1.lt

end Go.Proofs.YtkbbdkecillnpaaGreat
