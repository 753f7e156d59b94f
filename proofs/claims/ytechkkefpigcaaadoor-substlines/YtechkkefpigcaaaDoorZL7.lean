/-
  subst.listsFit: the walk.
  subst.lookupFits, Formed: the walks. The package's own table spans is read.
  classes.Next: the walk.
  What is met: the first one, and how it ends; a row of one int of the call's own (no walks).
  classes.Meet: the walk.
-/
import Derived.Test.YtechkkefpigcaaaDoorZL6
import Derived.Test.YtechkkefpigcaaaDoorZL2
import Derived.Test.YtechkkefpigcaaaDoorZL1
import Derived.BigQuiet
import Derived.Deep.QuietTactic
import Derived.Outline
namespace Go.Proofs.YtechkkefpigcaaaDoor
open Go.RowKit Go.Maps
set_option linter.unusedSimpArgs false
set_option linter.unusedVariables false

theorem cell_ltL {w : World} {b p : Nat} {v : Value} (h : w.cell? ⟨b, p, none⟩ = some v) : b < w.heap.size := by
  by_cases hb : b < w.heap.size
  · exact hb
  · unfold World.cell? at h
    rw [Array.getElem?_eq_none (show w.heap.size ≤ b by omega)] at h
    simp at h

set_option maxHeartbeats 8000000 in
set_option maxRecDepth 100000 in
theorem listF_any (p q s t : Nat) (a1 : Option Addr) (c1 : Nat) (a2 : Option Addr) (c2 : Nat) (inn out : List Int) (ap lk x1 x2 y1 y2 w1 w2 : Int) (g : Int) (w : World)
    (hi : Ri w a1 c1 inn) (ho : Ri w a2 c2 out) (hg : I64 g) (x y z : Int × Int) :
    Calls Tryd.prog 38 #[.agg #[.int .i64 p, .int .i64 q, .int .i64 s, .int .i64 t], .agg #[.slice a1 inn.length c1, .slice a2 out.length c2, .int .i64 ap, .int .i64 lk, .int .i64 x1, .int .i64 x2, .int .i64 y1, .int .i64 y2, .int .i64 w1, .int .i64 w2], .int .i64 g] w fun e w' =>
      e = .returned (.bool (lsB p q s t ⟨inn, out, ap, lk, x, y, z⟩ g)) ∧ Below w.heap.size w w' := by
  have ki := hi.lenB
  have ko := ho.lenB
  obtain ⟨W, hW, X1, X2, hbW⟩ : ∃ W, W = (w.alloc (.cells #[.int .i64 p, .int .i64 q, .int .i64 s, .int .i64 t] 69)).alloc (.cells #[.slice a1 inn.length c1, .slice a2 out.length c2, .int .i64 ap, .int .i64 lk, .int .i64 x1, .int .i64 x2, .int .i64 y1, .int .i64 y2, .int .i64 w1, .int .i64 w2] 46) ∧ Bk 69 W w.heap.size [.int .i64 p, .int .i64 q, .int .i64 s, .int .i64 t] ∧ Bk 46 W (w.heap.size + 1) (ruV a1 c1 a2 c2 ⟨inn, out, ap, lk, (x1, x2), (y1, y2), (w1, w2)⟩) ∧ Below w.heap.size w W := ⟨_, rfl, (Bk.new _ _ _).below (bl1 _), Bk.new1 _ _ _ (ruV a1 c1 a2 c2 ⟨inn, out, ap, lk, (x1, x2), (y1, y2), (w1, w2)⟩), bl2 _ _⟩
  obtain ⟨q0, q1, -⟩ := X2.ru
  dsimp only at q0 q1
  have HF : Hid (lsB p q s t ⟨inn, out, ap, lk, x, y, z⟩ g = (((decide (p ≤ inn.length) && decide (inn.length ≤ q)) && (decide (s ≤ out.length) && decide (out.length ≤ t))) && (inn.all (gyB g) && out.all (gyB g)))) := rfl
  obtain ⟨R, hR⟩ : ∃ R, lsB p q s t ⟨inn, out, ap, lk, x, y, z⟩ g = R := ⟨_, rfl⟩
  rw [hR] at HF ⊢
  have h1 := fun U (hU : Below w.heap.size w U) => allB_any a1 c1 inn g U (hi.below hU) hg
  have h2 := fun U (hU : Below w.heap.size w U) => allB_any a2 c2 out g U (ho.below hU) hg
  have f1 : decide ((p : Int) ≤ (inn.length : Int)) = decide (p ≤ inn.length) := by rw [Bool.eq_iff_iff, decide_eq_true_iff, decide_eq_true_iff]; omega
  have f2 : decide ((inn.length : Int) ≤ (q : Int)) = decide (inn.length ≤ q) := by rw [Bool.eq_iff_iff, decide_eq_true_iff, decide_eq_true_iff]; omega
  have f3 : decide ((s : Int) ≤ (out.length : Int)) = decide (s ≤ out.length) := by rw [Bool.eq_iff_iff, decide_eq_true_iff, decide_eq_true_iff]; omega
  have f4 : decide ((out.length : Int) ≤ (t : Int)) = decide (out.length ≤ t) := by rw [Bool.eq_iff_iff, decide_eq_true_iff, decide_eq_true_iff]; omega
  have HX1 : Hid (Bk 69 W w.heap.size [.int .i64 p, .int .i64 q, .int .i64 s, .int .i64 t]) := X1
  have HX2 : Hid (Bk 46 W (w.heap.size + 1) (ruV a1 c1 a2 c2 ⟨inn, out, ap, lk, (x1, x2), (y1, y2), (w1, w2)⟩)) := X2
  clear hi ho hR X1 X2
  go_enter Tryd.func38, Tryd.ntmps38
  go_upto_region 1 with fail
  rw [← hW]
  clear hW
  go_quiet (fail)
  obtain ⟨V, hV⟩ : ∃ V, V = W.drewN nq := ⟨_, rfl⟩
  have hWV : Below W.heap.size W V := by rw [hV]; exact below_drewN (Below.refl _ _) _
  rw [← hV]
  have hbV := hbW.trans (hWV.mono hbW.size)
  have X1 := HX1.out.below hWV
  have X2 := HX2.out.below hWV
  clear q0 q1 hV HX1 HX2 hWV hbW
  obtain ⟨q0, q1, -⟩ := X2.ru
  obtain ⟨z0, z1, z2, z3, -⟩ := X1.four
  dsimp only at q0 q1
  clear X1 X2
  by_cases n1 : p ≤ inn.length
  rotate_left
  · have d1 : decide (p ≤ inn.length) = false := decide_eq_false n1
    rw [d1] at f1 HF
    rw [Bool.false_and, Bool.false_and, Bool.false_and] at HF
    clear n1 f2 f3 f4
    go_wp2
    go_ret
    exact ⟨rt_bool HF.out.symm, hbV⟩
  have d1 : decide (p ≤ inn.length) = true := decide_eq_true n1
  rw [d1] at f1 HF
  by_cases n2 : inn.length ≤ q
  rotate_left
  · have d2 : decide (inn.length ≤ q) = false := decide_eq_false n2
    rw [d2] at f2 HF
    rw [Bool.and_false, Bool.false_and, Bool.false_and] at HF
    clear n1 n2 f3 f4
    go_wp2
    go_ret
    exact ⟨rt_bool HF.out.symm, hbV⟩
  have d2 : decide (inn.length ≤ q) = true := decide_eq_true n2
  rw [d2] at f2 HF
  by_cases n3 : s ≤ out.length
  rotate_left
  · have d3 : decide (s ≤ out.length) = false := decide_eq_false n3
    rw [d3] at f3 HF
    rw [Bool.false_and, Bool.and_false, Bool.false_and] at HF
    clear n1 n2 n3 f4
    go_wp2
    go_ret
    exact ⟨rt_bool HF.out.symm, hbV⟩
  have d3 : decide (s ≤ out.length) = true := decide_eq_true n3
  rw [d3] at f3 HF
  by_cases n4 : out.length ≤ t
  rotate_left
  · have d4 : decide (out.length ≤ t) = false := decide_eq_false n4
    rw [d4] at f4 HF
    rw [Bool.and_false, Bool.and_false, Bool.false_and] at HF
    clear n1 n2 n3 n4
    go_wp2
    go_ret
    exact ⟨rt_bool HF.out.symm, hbV⟩
  have d4 : decide (out.length ≤ t) = true := decide_eq_true n4
  rw [d4] at f4 HF
  rw [Bool.and_self, Bool.and_self, Bool.true_and] at HF
  clear n1 n2 n3 n4
  have hc1 := h1 V hbV
  clear h1
  generalize inn.all (gyB g) = A1 at hc1 HF
  generalize out.all (gyB g) = A2 at h2 HF
  go_wp2_with fail
  refine hc1.mono ?_
  rintro e u ⟨rfl, hbu⟩
  have hbU := hbV.trans (hbu.mono hbV.size)
  clear hc1
  cases A1 with
  | false =>
    rw [Bool.false_and] at HF
    clear h2 hbu
    go_wp2
    go_ret
    exact ⟨rt_bool HF.out.symm, hbU⟩
  | true =>
    rw [Bool.true_and] at HF
    have e1 : u.cell? ⟨w.heap.size + 1, 1, none⟩ = some (.slice a2 out.length c2) := (hbu.cell (p := ⟨w.heap.size + 1, 1, none⟩) (cell_ltL q1)).trans q1
    have hc2 := h2 u hbU
    clear h2 hbu q0 q1 z0 z1 z2 z3
    go_wp2_with fail
    refine hc2.mono ?_
    rintro e u2 ⟨rfl, hbu⟩
    have hbU2 := hbU.trans (hbu.mono hbU.size)
    clear hc2
    go_wp2
    go_ret
    exact ⟨rt_bool HF.out.symm, hbU2⟩

end Go.Proofs.YtechkkefpigcaaaDoor

namespace Go.Proofs.YtechkkefpigcaaaDoor
open Go.RowKit Go.Maps
set_option linter.unusedSimpArgs false
set_option linter.unusedVariables false

/-- The table of what each kind may have. -/
def Spn (w : World) : Prop := 0 < w.heap.size ∧ ∀ i, i < 20 → w.cell? ⟨0, i, none⟩ = some (.int .i64 ((spN.getD i 0 : Nat) : Int))
theorem Spn.below {w w' : World} (h : Spn w) (hb : Below w.heap.size w w') : Spn w' := ⟨Nat.lt_of_lt_of_le h.1 hb.size, fun i hi => (hb.cell (p := ⟨0, i, none⟩) h.1).trans (h.2 i hi)⟩
/-- A lookup that puts fits. -/
def lkB (l : List Lk) (g : Int) (x : Lk) : Bool := decide (x.rs.length ≤ 40) && x.rs.all (fun r => ruB l x.kd r g)
theorem loB_lk {l : List Lk} {g : Int} {x : Lk} (h : puB x.kd = true) : loB l g x = lkB l g x := by unfold loB lkB; rw [h]; rfl
theorem lkB_bad {l : List Lk} {g : Int} {x : Lk} {k : Nat} (hk : k < x.rs.length) (hr : ruB l x.kd (x.rs.getD k Ru.none) g = false) : lkB l g x = false := by
  unfold lkB
  cases hf : x.rs.all (fun r => ruB l x.kd r g) with
  | false => rw [Bool.and_false]
  | true =>
    rw [List.all_eq_true] at hf
    have := hf (x.rs.getD k Ru.none) (by rw [List.getD_eq_getElem?_getD, List.getElem?_eq_getElem hk]; exact List.getElem_mem hk)
    rw [hr] at this
    cases this
theorem lkB_yes {l : List Lk} {g : Int} {x : Lk} (hl : x.rs.length ≤ 40) (h : ∀ k, k < x.rs.length → ruB l x.kd (x.rs.getD k Ru.none) g = true) : lkB l g x = true := by
  unfold lkB
  rw [decide_eq_true hl, Bool.true_and, List.all_eq_true]
  intro r hr
  obtain ⟨k, hk, e⟩ := List.getElem_of_mem hr
  have := h k hk
  rw [List.getD_eq_getElem?_getD, List.getElem?_eq_getElem hk, Option.getD_some, e] at this
  exact this
/-- A rule of a row, cell by cell. -/
theorem Gr.ru10 {S : Nat → Prop} {w wr : World} {a : Option Addr} {cap : Nat} {l : List Ru} (h : Gr RuE S w a cap l) (hb : Below w.heap.size w wr) (k : Nat) (hk : k < l.length) :
    ∃ b off a1 c1 a2 c2, a = some ⟨b, off, none⟩ ∧ b < w.heap.size ∧ RuI (l.getD k Ru.none) ∧ Gr El.int S wr a1 c1 (l.getD k Ru.none).inn ∧ Gr El.int S wr a2 c2 (l.getD k Ru.none).out ∧
      (wr.cell? ⟨b, off + k * 10, none⟩ = some (.slice a1 (l.getD k Ru.none).inn.length c1) ∧ wr.cell? ⟨b, off + k * 10 + 1, none⟩ = some (.slice a2 (l.getD k Ru.none).out.length c2) ∧ wr.cell? ⟨b, off + k * 10 + 2, none⟩ = some (.int .i64 (l.getD k Ru.none).ap) ∧ wr.cell? ⟨b, off + k * 10 + 3, none⟩ = some (.int .i64 (l.getD k Ru.none).lk) ∧
       wr.cell? ⟨b, off + k * 10 + 4, none⟩ = some (.int .i64 (l.getD k Ru.none).x.1) ∧ wr.cell? ⟨b, off + k * 10 + 5, none⟩ = some (.int .i64 (l.getD k Ru.none).x.2) ∧ wr.cell? ⟨b, off + k * 10 + 6, none⟩ = some (.int .i64 (l.getD k Ru.none).y.1) ∧ wr.cell? ⟨b, off + k * 10 + 7, none⟩ = some (.int .i64 (l.getD k Ru.none).y.2) ∧
       wr.cell? ⟨b, off + k * 10 + 8, none⟩ = some (.int .i64 (l.getD k Ru.none).w.1) ∧ wr.cell? ⟨b, off + k * 10 + 9, none⟩ = some (.int .i64 (l.getD k Ru.none).w.2)) := by
  obtain ⟨b, off, a1, c1, a2, c2, e, hlt, hI, h1, h2, hc⟩ := h.ru hb k hk
  exact ⟨b, off, a1, c1, a2, c2, e, hlt, hI, h1, h2, hc 0 (by decide), hc 1 (by decide), hc 2 (by decide), hc 3 (by decide), hc 4 (by decide), hc 5 (by decide), hc 6 (by decide), hc 7 (by decide), hc 8 (by decide), hc 9 (by decide)⟩

/-- A lookup's cells, wherever the walk has come to. -/
theorem Gr.lkAll {S : Nat → Prop} {w : World} {a : Option Addr} {cap : Nat} {l : List Lk} (h : Gr LkE S w a cap l) (k : Nat) (hk : k < l.length) :
    ∃ b off a1 c1, a = some ⟨b, off, none⟩ ∧ I64 (l.getD k Lk.none).kd ∧ ∀ u, Below w.heap.size w u → Gr RuE S u a1 c1 (l.getD k Lk.none).rs ∧ u.cell? ⟨b, off + k * 3, none⟩ = some (.int .i64 (l.getD k Lk.none).kd) ∧ u.cell? ⟨b, off + k * 3 + 1, none⟩ = some (.bool (l.getD k Lk.none).sk) ∧ u.cell? ⟨b, off + k * 3 + 2, none⟩ = some (.slice a1 (l.getD k Lk.none).rs.length c1) := by
  obtain ⟨b, off, a1, c1, e, hb, hi, hr, d0, d1, d2⟩ := h.lk (Below.refl _ _) k hk
  exact ⟨b, off, a1, c1, e, hi, fun u hu => ⟨hr.below hu, (hu.cell (p := ⟨b, off + k * 3, none⟩) hb).trans d0, (hu.cell (p := ⟨b, off + k * 3 + 1, none⟩) hb).trans d1, (hu.cell (p := ⟨b, off + k * 3 + 2, none⟩) hb).trans d2⟩⟩

set_option maxHeartbeats 8000000 in
set_option maxRecDepth 100000 in
theorem lookF_any (S : Nat → Prop) (a : Option Addr) (ca : Nat) (l : List Lk) (kd : Nat) (sk : Bool) (ra : Option Addr) (rc : Nat) (rs : List Ru) (g : Int) (w : World)
    (hl : Gr LkE S w a ca l) (h1 : 1 ≤ kd) (h4 : kd ≤ 4) (hr : Gr RuE S w ra rc rs) (hg : I64 g) (hT : Spn w) :
    Calls Tryd.prog 28 #[.slice a l.length ca, .agg #[.int .i64 kd, .bool sk, .slice ra rs.length rc], .int .i64 g] w fun e w' =>
      e = .returned (.bool (lkB l g ⟨(kd : Int), sk, rs⟩)) ∧ Below w.heap.size w w' := by
  have kl := hl.lenB
  have kr := hr.lenB
  obtain ⟨W, hW, X1, hbW⟩ : ∃ W, W = w.alloc (.cells #[.int .i64 kd, .bool sk, .slice ra rs.length rc] 41) ∧ Bk 41 W w.heap.size [.int .i64 kd, .bool sk, .slice ra rs.length rc] ∧ Below w.heap.size w W := ⟨_, rfl, Bk.new _ _ _, bl1 _⟩
  obtain ⟨x0, x1, x2, -⟩ := X1.three
  by_cases hn1 : 40 < rs.length
  · have HF : Hid (lkB l g ⟨(kd : Int), sk, rs⟩ = false) := by show _ = _; unfold lkB; rw [decide_eq_false (show ¬ rs.length ≤ 40 by omega)]; rfl
    have g2 : (40 : Int) < (rs.length : Int) := by omega
    clear hl hr hT X1 hn1
    go_enter Tryd.func28, Tryd.ntmps28
    go_upto_region 1 with fail
    rw [← hW]
    clear hW
    go_wp2
    go_ret
    exact ⟨rt_bool HF.out.symm, hbW⟩
  have g2 : ¬ (40 : Int) < (rs.length : Int) := by omega
  have HL : Hid (Gr LkE S W a ca l) := hl.below hbW
  have HR : Hid (Gr RuE S W ra rc rs) := hr.below hbW
  have HT : Hid (Spn W) := hT.below hbW
  have HX1 : Hid (Bk 41 W w.heap.size [.int .i64 kd, .bool sk, .slice ra rs.length rc]) := X1
  have HBW : Hid (Below w.heap.size w W) := hbW
  obtain ⟨R, hR⟩ : ∃ R, lkB l g ⟨(kd : Int), sk, rs⟩ = R := ⟨_, rfl⟩
  have HBD : Hid (∀ k, k < rs.length → ruB l (kd : Int) (rs.getD k Ru.none) g = false → R = false) := fun k hk h => by rw [← hR]; exact lkB_bad (x := ⟨(kd : Int), sk, rs⟩) hk h
  have HYS : Hid ((∀ k, k < rs.length → ruB l (kd : Int) (rs.getD k Ru.none) g = true) → R = true) := fun h => by rw [← hR]; exact lkB_yes (x := ⟨(kd : Int), sk, rs⟩) (show rs.length ≤ 40 by omega) h
  rw [hR]
  clear hR hn1
  go_enter Tryd.func28, Tryd.ntmps28
  go_upto_region 1 with fail
  rw [← hW]
  clear hW hl hr hT X1 hbW
  go_wp2
  clear g2 x0 x1 x2
  go_loopw [16] (fun i wr => ∃ k : Nat, k ≤ rs.length ∧ i = .int .i64 k ∧ Hid (∀ j, j < k → ruB l (kd : Int) (rs.getD j Ru.none) g = true) ∧ Below W.heap.size W wr) (fun i _ => rs.length - (intOf i).toNat)
  case atStart => exact ⟨0, Nat.zero_le _, rfl, (fun j hj => by omega), Below.refl _ _⟩
  case round =>
    obtain ⟨k, hk, rfl, HOK, hB⟩ := hrel
    have hBw : Below w.heap.size w wr := HBW.out.trans (hB.mono HBW.out.size)
    by_cases hkn : k < rs.length
    · obtain ⟨b, off, a1, c1, a2, c2, ea, hb1, hI, hin, hou, d0, d1, d2, d3, d4, d5, d6, d7, d8, d9⟩ := HR.out.ru10 hB k hkn
      obtain ⟨r, hrr⟩ : ∃ r, rs.getD k Ru.none = r := ⟨_, rfl⟩
      have HRR : Hid (rs.getD k Ru.none = r) := hrr
      rw [hrr] at hI hin hou d0 d1 d2 d3 d4 d5 d6 d7 d8 d9
      clear hrr
      obtain ⟨inn, out, ap, lk, ⟨x1, x2⟩, ⟨y1, y2⟩, ⟨w1, w2⟩⟩ := r
      dsimp only at d0 d1 d2 d3 d4 d5 d6 d7 d8 d9 hin hou
      obtain ⟨j1, j2, ⟨j3, j4⟩, ⟨j5, j6⟩, j7, j8⟩ := hI
      dsimp only at j1 j2 j3 j4 j5 j6 j7 j8
      have i1 : (0 : Int) ≤ (k : Int) := by omega
      have i2 : (k : Int) < (rs.length : Int) := by omega
      subst ea
      obtain ⟨U, hU, XG, hbU⟩ : ∃ U, U = wr.alloc (.cells #[.slice a1 inn.length c1, .slice a2 out.length c2, .int .i64 ap, .int .i64 lk, .int .i64 x1, .int .i64 x2, .int .i64 y1, .int .i64 y2, .int .i64 w1, .int .i64 w2] 46) ∧ Bk 46 U wr.heap.size (ruV a1 c1 a2 c2 ⟨inn, out, ap, lk, (x1, x2), (y1, y2), (w1, w2)⟩) ∧ Below wr.heap.size wr U := ⟨_, rfl, Bk.new _ _ (ruV a1 c1 a2 c2 ⟨inn, out, ap, lk, (x1, x2), (y1, y2), (w1, w2)⟩), bl1 _⟩
      go_upto_region 6 with fail
      rw [← hU]
      have hWU := hB.trans (hbU.mono hB.size)
      have hwU := hBw.trans (hbU.mono hBw.size)
      have hI2 := (hin.below hbU).ri
      have hO2 := (hou.below hbU).ri
      have kin := hI2.lenB
      have HT2 : Spn U := HT.out.below hWU
      have HL2 : Gr LkE S U a ca l := HL.out.below hWU
      have y0 : U.cell? ⟨w.heap.size, 0, none⟩ = some (.int .i64 kd) := by
        have := (HX1.out.below hWU).three.1
        exact this
      obtain ⟨q0, q1, q2, q3, q4, q5, q6, q7, q8, q9⟩ := XG.ru
      dsimp only at q0 q1 q2 q3 q4 q5 q6 q7 q8 q9
      have s0 := HT2.2 (kd * 4) (by omega)
      have s1 := HT2.2 (kd * 4 + 1) (by omega)
      have s2 := HT2.2 (kd * 4 + 2) (by omega)
      have s3 := HT2.2 (kd * 4 + 3) (by omega)
      have HE : Hid (ruB l (kd : Int) ⟨inn, out, ap, lk, (x1, x2), (y1, y2), (w1, w2)⟩ g = (lsB (spN.getD (kd * 4) 0) (spN.getD (kd * 4 + 1) 0) (spN.getD (kd * 4 + 2) 0) (spN.getD (kd * 4 + 3) 0) ⟨inn, out, ap, lk, (x1, x2), (y1, y2), (w1, w2)⟩ g && reB l (kd : Int) ⟨inn, out, ap, lk, (x1, x2), (y1, y2), (w1, w2)⟩)) := ruB_eq h1 h4
      generalize spN.getD (kd * 4) 0 = p at s0 HE
      generalize spN.getD (kd * 4 + 1) 0 = q at s1 HE
      generalize spN.getD (kd * 4 + 2) 0 = s at s2 HE
      generalize spN.getD (kd * 4 + 3) 0 = t at s3 HE
      have hlf := fun Z (hZ : Below U.heap.size U Z) => listF_any p q s t a1 c1 a2 c2 inn out ap lk x1 x2 y1 y2 w1 w2 g Z (hI2.below hZ) (hO2.below hZ) hg (x1, x2) (y1, y2) (w1, w2)
      have hrf := fun Z (hZ : Below U.heap.size U Z) => restF_any S a ca l (kd : Int) a1 c1 a2 c2 inn out ap lk x1 x2 y1 y2 w1 w2 Z (HL2.below hZ) ⟨by omega, by omega⟩ j1 j2 kin
      generalize lsB p q s t ⟨inn, out, ap, lk, (x1, x2), (y1, y2), (w1, w2)⟩ g = A1 at hlf HE
      generalize reB l (kd : Int) ⟨inn, out, ap, lk, (x1, x2), (y1, y2), (w1, w2)⟩ = A2 at hrf HE
      have HBad : Hid (ruB l (kd : Int) ⟨inn, out, ap, lk, (x1, x2), (y1, y2), (w1, w2)⟩ g = false → R = false) := fun h => HBD.out k hkn (by rw [HRR.out]; exact h)
      have HOK2 : Hid (ruB l (kd : Int) ⟨inn, out, ap, lk, (x1, x2), (y1, y2), (w1, w2)⟩ g = true → ∀ j, j < k + 1 → ruB l (kd : Int) (rs.getD j Ru.none) g = true) := fun h j hj => by
        rcases Nat.lt_or_ge j k with h1 | h1
        · exact HOK.out j h1
        · rw [show j = k by omega, HRR.out]; exact h
      have HSU : Hid (Spn U ∧ Bk 41 U w.heap.size [.int .i64 kd, .bool sk, .slice (some ⟨b, off, none⟩) rs.length rc] ∧ Bk 46 U wr.heap.size (ruV a1 c1 a2 c2 ⟨inn, out, ap, lk, (x1, x2), (y1, y2), (w1, w2)⟩)) := ⟨HT2, HX1.out.below hWU, XG⟩
      have hK4 : kd < 5 := by omega
      have i3 : (0 : Int) ≤ (kd : Int) := by omega
      have i4 : (kd : Int) < 5 := by omega
      have lb : w.heap.size < U.heap.size := HSU.out.2.1.lt
      have lg : wr.heap.size < U.heap.size := XG.lt
      have l0 : 0 < U.heap.size := HT2.1
      clear hU hin hou hI2 hO2 HT2 HL2 XG d0 d1 d2 d3 d4 d5 d6 d7 d8 d9 HRR HOK
      refine wp_region_held_drew (S := fun u => u.cell? ⟨w.heap.size, 0, none⟩ = some (.int .i64 kd) ∧ (u.cell? ⟨0, kd * 4, none⟩ = some (.int .i64 p) ∧ u.cell? ⟨0, kd * 4 + 1, none⟩ = some (.int .i64 q) ∧ u.cell? ⟨0, kd * 4 + 2, none⟩ = some (.int .i64 s) ∧ u.cell? ⟨0, kd * 4 + 3, none⟩ = some (.int .i64 t)) ∧
        (u.cell? ⟨wr.heap.size, 0, none⟩ = some (.slice a1 inn.length c1) ∧ u.cell? ⟨wr.heap.size, 1, none⟩ = some (.slice a2 out.length c2) ∧ u.cell? ⟨wr.heap.size, 2, none⟩ = some (.int .i64 ap) ∧ u.cell? ⟨wr.heap.size, 3, none⟩ = some (.int .i64 lk) ∧ u.cell? ⟨wr.heap.size, 4, none⟩ = some (.int .i64 x1) ∧ u.cell? ⟨wr.heap.size, 5, none⟩ = some (.int .i64 x2) ∧ u.cell? ⟨wr.heap.size, 6, none⟩ = some (.int .i64 y1) ∧ u.cell? ⟨wr.heap.size, 7, none⟩ = some (.int .i64 y2) ∧ u.cell? ⟨wr.heap.size, 8, none⟩ = some (.int .i64 w1) ∧ u.cell? ⟨wr.heap.size, 9, none⟩ = some (.int .i64 w2)))
        (by kernel_rfl) ⟨y0, ⟨s0, s1, s2, s3⟩, q0, q1, q2, q3, q4, q5, q6, q7, q8, q9⟩ (fun hHeld => ?_)
      have hdr : Below U.heap.size U U.drew := (Below.refl _ _).drew
      generalize U.drew = Z at hdr hHeld ⊢
      refine hT 0 hHeld ?_
      refine hT 1 hHeld ?_
      refine hT 2 hHeld ?_
      refine hT 3 hHeld ?_
      refine hT 4 hHeld ?_
      refine hT 5 hHeld ?_
      refine hCall (i := 6) rfl (by kernel_rfl) (by rfl) (fun K hK => ?_)
      go_simp
      refine (hlf Z hdr).mono ?_
      rintro e u ⟨rfl, hbu⟩
      have hUu := hdr.trans (hbu.mono hdr.size)
      clear hlf
      go_wp2_with fail
      refine hK.out _ _ ⟨(hUu.cell (p := ⟨w.heap.size, 0, none⟩) lb).trans y0, ⟨(hUu.cell (p := ⟨0, kd * 4, none⟩) l0).trans s0, (hUu.cell (p := ⟨0, kd * 4 + 1, none⟩) l0).trans s1, (hUu.cell (p := ⟨0, kd * 4 + 2, none⟩) l0).trans s2, (hUu.cell (p := ⟨0, kd * 4 + 3, none⟩) l0).trans s3⟩,
        (hUu.cell (p := ⟨wr.heap.size, 0, none⟩) lg).trans q0, (hUu.cell (p := ⟨wr.heap.size, 1, none⟩) lg).trans q1, (hUu.cell (p := ⟨wr.heap.size, 2, none⟩) lg).trans q2, (hUu.cell (p := ⟨wr.heap.size, 3, none⟩) lg).trans q3, (hUu.cell (p := ⟨wr.heap.size, 4, none⟩) lg).trans q4, (hUu.cell (p := ⟨wr.heap.size, 5, none⟩) lg).trans q5, (hUu.cell (p := ⟨wr.heap.size, 6, none⟩) lg).trans q6, (hUu.cell (p := ⟨wr.heap.size, 7, none⟩) lg).trans q7, (hUu.cell (p := ⟨wr.heap.size, 8, none⟩) lg).trans q8, (hUu.cell (p := ⟨wr.heap.size, 9, none⟩) lg).trans q9⟩ (fun hHeld => ?_)
      clear hK K
      try simp only [Act.put, List.setIfInBounds_toArray, List.set_cons_zero, List.set_cons_succ]
      cases A1 with
      | false =>
        have HF : Hid (R = false) := HBad.out (by rw [HE.out]; rfl)
        refine hT 7 hHeld ?_
        refine hT 8 hHeld ?_
        refine hN 9 hHeld ?_
        refine hN 10 hHeld ?_
        refine hN 11 hHeld ?_
        refine hN 12 hHeld ?_
        refine hN 13 hHeld ?_
        refine hN 14 hHeld ?_
        refine hT 15 hHeld ?_
        refine wpAnyH_done (by kernel_rfl) ?_ _
        have hfin := hwU.trans (hUu.mono hwU.size)
        clear hrf HBad HOK2 hHeld
        go_wp2
        go_ret
        exact ⟨rt_bool HF.out.symm, hfin⟩
      | true =>
        rw [Bool.true_and] at HE
        refine hT 7 hHeld ?_
        refine hT 8 hHeld ?_
        refine hT 9 hHeld ?_
        refine hT 10 hHeld ?_
        refine hT 11 hHeld ?_
        refine hT 12 hHeld ?_
        refine hCall (i := 13) rfl (by kernel_rfl) (by rfl) (fun K hK => ?_)
        go_simp
        refine (hrf u hUu).mono ?_
        rintro e u2 ⟨rfl, hbu2⟩
        have hUu2 := hUu.trans (hbu2.mono hUu.size)
        clear hrf
        go_wp2_with fail
        refine hK.out _ _ ⟨(hUu2.cell (p := ⟨w.heap.size, 0, none⟩) lb).trans y0, ⟨(hUu2.cell (p := ⟨0, kd * 4, none⟩) l0).trans s0, (hUu2.cell (p := ⟨0, kd * 4 + 1, none⟩) l0).trans s1, (hUu2.cell (p := ⟨0, kd * 4 + 2, none⟩) l0).trans s2, (hUu2.cell (p := ⟨0, kd * 4 + 3, none⟩) l0).trans s3⟩,
          (hUu2.cell (p := ⟨wr.heap.size, 0, none⟩) lg).trans q0, (hUu2.cell (p := ⟨wr.heap.size, 1, none⟩) lg).trans q1, (hUu2.cell (p := ⟨wr.heap.size, 2, none⟩) lg).trans q2, (hUu2.cell (p := ⟨wr.heap.size, 3, none⟩) lg).trans q3, (hUu2.cell (p := ⟨wr.heap.size, 4, none⟩) lg).trans q4, (hUu2.cell (p := ⟨wr.heap.size, 5, none⟩) lg).trans q5, (hUu2.cell (p := ⟨wr.heap.size, 6, none⟩) lg).trans q6, (hUu2.cell (p := ⟨wr.heap.size, 7, none⟩) lg).trans q7, (hUu2.cell (p := ⟨wr.heap.size, 8, none⟩) lg).trans q8, (hUu2.cell (p := ⟨wr.heap.size, 9, none⟩) lg).trans q9⟩ (fun hHeld => ?_)
        clear hK K
        try simp only [Act.put, List.setIfInBounds_toArray, List.set_cons_zero, List.set_cons_succ]
        refine hT 14 hHeld ?_
        refine hT 15 hHeld ?_
        refine wpAnyH_done (by kernel_rfl) ?_ _
        cases A2 with
        | false =>
          have HF : Hid (R = false) := HBad.out HE.out
          have hfin := hwU.trans (hUu2.mono hwU.size)
          clear HBad HOK2 hHeld
          go_wp2
          go_ret
          exact ⟨rt_bool HF.out.symm, hfin⟩
        | true =>
          have HOK3 : Hid (∀ j, j < k + 1 → ruB l (kd : Int) (rs.getD j Ru.none) g = true) := HOK2.out HE.out
          have hfin := hWU.trans (hUu2.mono hWU.size)
          clear HBad HOK2 hHeld HE HSU y0 s0 s1 s2 s3 q0 q1 q2 q3 q4 q5 q6 q7 q8 q9 lb lg l0 hUu hUu2 hbu hbu2 hdr hwU hWU hbU
          go_wp2
          go_roundw
          case rel => exact ⟨k + 1, by omega, by go_num, HOK3, hfin⟩
          case measure => simp [intOf]; omega
    · have HF : Hid (R = true) := HYS.out (fun j hj => HOK.out j (by omega))
      have g4 : ¬ (k : Int) < (rs.length : Int) := by omega
      clear HOK
      go_wp2
      go_ret
      exact ⟨rt_bool HF.out.symm, hBw⟩

end Go.Proofs.YtechkkefpigcaaaDoor

namespace Go.Proofs.YtechkkefpigcaaaDoor
open Go.RowKit Go.Maps
set_option linter.unusedSimpArgs false
set_option linter.unusedVariables false

theorem psB_sk {ms : List Bool} {L : List Int} {sk : Bool} {i : Nat} (h : sk = false) : psB ms L sk i = false := by unfold psB; rw [h]; rfl
theorem psB_yes {ms : List Bool} {L : List Int} {i : Nat} {g : Int} (h : L.getD i 0 = g) : psB ms L true i = mkB ms g := by unfold psB; rw [h]; rfl

set_option maxHeartbeats 2000000 in
set_option maxRecDepth 100000 in
theorem cnext_any (S : Nat → Prop) (a : Option Addr) (ca : Nat) (L : List Int) (b : Option Addr) (cb : Nat) (ms : List Bool) (i : Int) (sk : Bool) (w : World) (hL : Ri w a ca L) (hm : Gr El.bool S w b cb ms) (hi : I64 i) :
    Calls Tryd.prog 42 #[.slice a L.length ca, .slice b ms.length cb, .int .i64 i, .bool sk] w fun e w' => e = .returned (.int .i64 (nxQ ms L sk i)) ∧ Below w.heap.size w w' := by
  have kl := hL.lenB
  obtain ⟨hi1, hi2⟩ := hi
  have hpl := cplace_any a ca L i w kl
  cases hp : plB L i with
  | false =>
    rw [hp] at hpl
    have HF : Hid (nxQ ms L sk i = -1) := nxQ_no hp
    clear hp hL hm
    go_enter Tryd.func42, Tryd.ntmps42
    go_wp2_with fail
    refine hpl.mono ?_
    rintro e u ⟨rfl, rfl⟩
    clear hpl
    go_wp2
    go_ret
    exact ⟨rt_int HF.out.symm, Below.refl _ _⟩
  | true =>
  rw [hp] at hpl
  obtain ⟨p1, p2⟩ := plB_iff.1 hp
  obtain ⟨k, rfl⟩ : ∃ k : Nat, i = (k : Int) := ⟨i.toNat, by omega⟩
  have hk : k < L.length := by omega
  have HX : Hid (nxQ ms L sk (k : Int) = nxF ms L sk (L.length - (k + 1)) (k + 1)) := nxQ_yes hk
  obtain ⟨b0, off, rfl, hb0, _⟩ := hL.at (Below.refl _ _) k hk
  have hcap := hL.2.1
  have hcap2 := hL.2.2.1
  unfold maxLen at hcap2
  clear hp
  by_cases hlast : k + 1 = L.length
  · have HF : Hid (nxQ ms L sk (k : Int) = -1) := by show _ = _; rw [HX.out]; exact nxF_end (by omega)
    have hn0 : L.length - (k + 1) = 0 := by omega
    clear HX hlast hL hm
    by_cases hc1 : ca = k + 1
    · subst hc1
      go_enter Tryd.func42, Tryd.ntmps42
      go_wp2_with fail
      refine hpl.mono ?_
      rintro e u ⟨rfl, rfl⟩
      clear hpl
      go_wp2
      go_loopw [20] (fun i wr => i = .int .i64 0 ∧ wr = w) (fun _ _ => 0)
      case atStart => exact ⟨rfl, rfl⟩
      case round =>
        obtain ⟨rfl, rfl⟩ := hrel
        go_wp2
        go_ret
        exact ⟨rt_int HF.out.symm, Below.refl _ _⟩
    · go_enter Tryd.func42, Tryd.ntmps42
      go_wp2_with fail
      refine hpl.mono ?_
      rintro e u ⟨rfl, rfl⟩
      clear hpl
      go_wp2
      go_loopw [20] (fun i wr => i = .int .i64 0 ∧ wr = w) (fun _ _ => 0)
      case atStart => exact ⟨rfl, rfl⟩
      case round =>
        obtain ⟨rfl, rfl⟩ := hrel
        go_wp2
        go_ret
        exact ⟨rt_int HF.out.symm, Below.refl _ _⟩
  · have hc1 : ¬ ca = k + 1 := by omega
    obtain ⟨n, hn⟩ : ∃ n, L.length - (k + 1) = n := ⟨_, rfl⟩
    have hn1 : n + (k + 1) ≤ L.length := by omega
    have hn2 : L.length ≤ n + (k + 1) := by omega
    have HN : Hid (L.length - (k + 1) = n) := hn
    have HL : Hid (Ri w (some ⟨b0, off, none⟩) ca L) := hL
    have HM : Hid (Gr El.bool S w b cb ms) := hm
    clear hlast hL hm
    go_enter Tryd.func42, Tryd.ntmps42
    go_wp2_with fail
    refine hpl.mono ?_
    rintro e u ⟨rfl, rfl⟩
    clear hpl
    go_wp2
    clear hn
    go_loopw [20] (fun i wr => ∃ j : Nat, j ≤ n ∧ i = .int .i64 j ∧ Hid (nxQ ms L sk (k : Int) = nxF ms L sk (L.length - (k + 1 + j)) (k + 1 + j)) ∧ Below w.heap.size w wr) (fun i _ => n - (intOf i).toNat)
    case atStart => exact ⟨0, Nat.zero_le _, rfl, HX, Below.refl _ _⟩
    case round =>
      obtain ⟨j, hj, rfl, HJ, hB⟩ := hrel
      by_cases hjn : j < n
      · obtain ⟨b1, o1, e1, _, c0⟩ := HL.out.at hB (k + 1 + j) (by omega)
        cases e1
        have HG : Hid (I64 (L.getD (k + 1 + j) 0)) := HL.out.i64 (by omega)
        have HON : Hid (_) := nxF_on (ms := ms) (sk := sk) (show k + 1 + j < L.length by omega)
        have HOF : Hid (_) := nxF_off (ms := ms) (sk := sk) (show k + 1 + j < L.length by omega)
        have HPS : Hid (∀ q, mkB ms (L.getD (k + 1 + j) 0) = q → psB ms L true (k + 1 + j) = q) := fun q hq => by rw [psB_yes rfl]; exact hq
        obtain ⟨g, hg⟩ : ∃ g, L.getD (k + 1 + j) 0 = g := ⟨_, rfl⟩
        rw [hg] at c0 HG HPS
        have hadd : off + (k + 1 + j) = off + (k + 1) + j := by omega
        rw [hadd] at c0
        have i1 : (0 : Int) ≤ (j : Int) := by omega
        have i2 : (j : Int) < (n : Int) := by omega
        have i3 : (k : Int) + 1 + (j : Int) ≤ 9223372036854775807 := by omega
        clear hadd hg
        cases sk with
        | false =>
          have HF : Hid (nxQ ms L false (k : Int) = (k : Int) + 1 + (j : Int)) := by show _ = _; rw [HJ.out, HOF.out (psB_sk rfl)]; omega
          clear HJ HON HOF HPS
          go_wp2
          go_ret
          exact ⟨rt_int HF.out.symm, hB⟩
        | true =>
        have hmk := cmark_any S b cb ms g wr (HM.out.below hB) HG.out
        cases hq : mkB ms g with
        | true =>
          rw [hq] at hmk
          have HJ2 : Hid (nxQ ms L true (k : Int) = nxF ms L true (L.length - (k + 1 + (j + 1))) (k + 1 + (j + 1))) := by show _ = _; rw [HJ.out]; exact HON.out (HPS.out _ hq)
          clear HJ HON HOF HPS hq
          go_wp2_with fail
          refine hmk.mono ?_
          rintro e u ⟨rfl, hb1⟩
          have hB2 := hB.trans (hb1.mono hB.size)
          clear hmk hb1 hB
          go_wp2
          go_roundw
          case rel => exact ⟨j + 1, by omega, by go_num, HJ2, hB2⟩
          case measure => simp [intOf]; omega
        | false =>
          rw [hq] at hmk
          have HF : Hid (nxQ ms L true (k : Int) = (k : Int) + 1 + (j : Int)) := by show _ = _; rw [HJ.out, HOF.out (HPS.out _ hq)]; omega
          clear HJ HON HOF HPS hq
          go_wp2_with fail
          refine hmk.mono ?_
          rintro e u ⟨rfl, hb1⟩
          have hB2 := hB.trans (hb1.mono hB.size)
          clear hmk hb1 hB
          go_wp2
          go_ret
          exact ⟨rt_int HF.out.symm, hB2⟩
      · have HF : Hid (nxQ ms L sk (k : Int) = -1) := by show _ = _; rw [HJ.out]; exact nxF_end (by omega)
        have g4 : ¬ (j : Int) < (n : Int) := by omega
        clear HJ
        go_wp2
        go_ret
        exact ⟨rt_int HF.out.symm, hB⟩

end Go.Proofs.YtechkkefpigcaaaDoor

namespace Go.Proofs.YtechkkefpigcaaaDoor
open Go.RowKit Go.Maps
set_option linter.unusedSimpArgs false
set_option linter.unusedVariables false

theorem meQ_not {ms : List Bool} {L : List Int} {sk : Bool} {i : Int} {A : List Int} (h : ¬ (plB L i = true ∧ L.getD i.toNat 0 = A.getD 0 0)) : meQ ms L sk i A = none := by
  cases A with
  | nil => rfl
  | cons g t => exact meQ_no h
theorem meQ_nil0 {ms : List Bool} {L : List Int} {sk : Bool} {i : Int} {A : List Int} (h : A.length = 0) : meQ ms L sk i A = none := by
  cases A with
  | nil => rfl
  | cons g t => simp at h
theorem MeI.one {ms : List Bool} {L : List Int} {sk : Bool} {i : Int} {A : List Int} (hA : 0 < A.length) (h1 : plB L i = true) (h2 : L.getD i.toNat 0 = A.getD 0 0) : MeI ms L sk i A 1 [i] i := by
  cases A with
  | nil => simp at hA
  | cons g t => exact MeI.first h1 h2
/-- What Meet answers, and where. -/
structure MetA (ms : List Bool) (L : List Int) (sk : Bool) (i : Int) (A : List Int) (base : Nat) (w' : World) (e : Ending) : Prop where
  out : ∃ v, e = .returned (.tuple #[v, .bool (meB ms L sk i A)]) ∧ Io base w' v (meL ms L sk i A)
theorem MetA.no {ms : List Bool} {L : List Int} {sk : Bool} {i : Int} {A : List Int} {base : Nat} {w' : World} (h : meQ ms L sk i A = none) : MetA ms L sk i A base w' (.returned (.tuple #[.slice none 0 0, .bool false])) := by
  refine ⟨.slice none 0 0, ?_, ?_⟩
  · unfold meB; rw [h]; rfl
  · unfold meL; rw [h]; exact Io.nil _ _
theorem MetA.yes {ms : List Bool} {L : List Int} {sk : Bool} {i : Int} {A : List Int} {base : Nat} {w' : World} {v : Value} {l : List Int} (h : meQ ms L sk i A = some l) (hv : Io base w' v l) : MetA ms L sk i A base w' (.returned (.tuple #[v, .bool true])) := by
  refine ⟨v, ?_, ?_⟩
  · unfold meB; rw [h]; rfl
  · unfold meL; rw [h]; exact hv
theorem Io.one {base : Nat} {w : World} {z : Int} (hz : I64 z) (hb : base ≤ w.heap.size) : Io base (w.alloc (.cells #[.int .i64 z] 3)) (.slice (some ⟨w.heap.size, 0, none⟩) 1 1) [z] :=
  ⟨fun s hs => by rw [List.mem_singleton.1 hs]; exact hz, rfl, .inr ⟨w.heap.size, 1, #[.int .i64 z], rfl, hb, heap_alloc_new w _, Nat.le_refl _, by unfold maxLen; omega, rfl, rfl⟩⟩
/-- The next place is a place. -/
theorem nx_pl {ms : List Bool} {L : List Int} {sk : Bool} {i : Int} (h : plB L i = true) : nxQ ms L sk i = -1 ∨ ∃ m : Nat, nxQ ms L sk i = (m : Int) ∧ m < L.length := by
  have hp := plB_iff.1 h
  obtain ⟨j, rfl⟩ : ∃ j : Nat, i = (j : Int) := ⟨i.toNat, by omega⟩
  rcases nxQ_is (ms := ms) (sk := sk) (show j < L.length by omega) with ⟨h1, _⟩ | ⟨m, h1, _, h3, _⟩
  · exact .inl h1
  · exact .inr ⟨m, h1, h3⟩

end Go.Proofs.YtechkkefpigcaaaDoor

namespace Go.Proofs.YtechkkefpigcaaaDoor
open Go.RowKit Go.Maps
set_option linter.unusedSimpArgs false
set_option linter.unusedVariables false

set_option maxHeartbeats 4000000 in
set_option maxRecDepth 100000 in
theorem cmeet_any (S : Nat → Prop) (a : Option Addr) (ca : Nat) (L : List Int) (b : Option Addr) (cb : Nat) (ms : List Bool) (i : Int) (q : Option Addr) (cq : Nat) (A : List Int) (sk : Bool) (w : World)
    (hL : Ri w a ca L) (hm : Gr El.bool S w b cb ms) (hi : I64 i) (hA : Ri w q cq A) (hA2 : A.length ≤ 1000) :
    Calls Tryd.prog 31 #[.slice a L.length ca, .slice b ms.length cb, .int .i64 i, .slice q A.length cq, .bool sk] w fun e w' => MetA ms L sk i A w.heap.size w' e ∧ Below w.heap.size w w' := by
  have kl := hL.lenB
  obtain ⟨hi1, hi2⟩ := hi
  by_cases h0 : A.length = 0
  · have HF : Hid (meQ ms L sk i A = none) := meQ_nil0 h0
    have HNO : Hid (∀ U, MetA ms L sk i A w.heap.size U (.returned (.tuple #[.slice none 0 0, .bool false]))) := fun U => MetA.no HF.out
    clear hL hm hA
    go_enter Tryd.func31, Tryd.ntmps31
    go_wp2_with fail
    go_quiet (fail)
    go_wp2
    go_ret2
    exact ⟨HNO.out _, below_drewN (Below.refl _ _) _⟩
  have e0 : ((A.length : Int) == 0) = false := by rw [beq_eq_false_iff_ne]; omega
  cases hp : plB L i with
  | false =>
    have hpl := fun W => cplace_any a ca L i W kl
    rw [hp] at hpl
    have HPL : ∀ W, Calls Tryd.prog 41 #[.slice a L.length ca, .int .i64 i] W fun e w' => e = .returned (.bool false) ∧ w' = W := fun W => (hpl W).mono fun _ _ h => ⟨h.1, h.2.symm⟩
    have HF : Hid (meQ ms L sk i A = none) := meQ_not (fun h => by rw [hp] at h; cases h.1)
    have HNO : Hid (∀ U, MetA ms L sk i A w.heap.size U (.returned (.tuple #[.slice none 0 0, .bool false]))) := fun U => MetA.no HF.out
    clear hL hm hA hpl hp HF
    go_enter Tryd.func31, Tryd.ntmps31
    go_wp2_with fail
    go_quiet ((go_at_call 41; exact Calls.quiet_of_same (HPL _)))
    go_wp2
    go_ret2
    exact ⟨HNO.out _, below_drewN (Below.refl _ _) _⟩
  | true =>
  have hpl := fun W => cplace_any a ca L i W kl
  rw [hp] at hpl
  have HPL : ∀ W, Calls Tryd.prog 41 #[.slice a L.length ca, .int .i64 i] W fun e w' => e = .returned (.bool true) ∧ w' = W := fun W => (hpl W).mono fun _ _ h => ⟨h.1, h.2.symm⟩
  obtain ⟨p1, p2⟩ := plB_iff.1 hp
  obtain ⟨k, rfl⟩ : ∃ k : Nat, i = (k : Int) := ⟨i.toNat, by omega⟩
  have hk : k < L.length := by omega
  have hA0 : 0 < A.length := by omega
  obtain ⟨b0, o0, rfl, hb0, c0⟩ := hL.at (Below.refl _ _) k hk
  obtain ⟨b1, o1, rfl, hb1, c1⟩ := hA.at (Below.refl _ _) 0 hA0
  rw [Nat.add_zero] at c1
  have HNE : Hid (¬ L.getD k 0 = A.getD 0 0 → meQ ms L sk (k : Int) A = none) := fun h => meQ_not (fun h1 => h h1.2)
  have HEQ : Hid (L.getD k 0 = A.getD 0 0 → MeI ms L sk (k : Int) A 1 [(k : Int)] (k : Int)) := fun h => MeI.one hA0 hp h
  have HIK : Hid (I64 (k : Int)) := ⟨by omega, by omega⟩
  have HL : Hid (Ri w (some ⟨b0, o0, none⟩) ca L) := hL
  have HM : Hid (Gr El.bool S w b cb ms) := hm
  have HA : Hid (Ri w (some ⟨b1, o1, none⟩) cq A) := hA
  obtain ⟨x, hx⟩ : ∃ x, L.getD k 0 = x := ⟨_, rfl⟩
  obtain ⟨y, hy⟩ : ∃ y, A.getD 0 0 = y := ⟨_, rfl⟩
  rw [hx] at c0 HNE HEQ
  rw [hy] at c1 HNE HEQ
  have i1 : (0 : Int) ≤ (k : Int) := by omega
  have i2 : (0 : Int) < (A.length : Int) := by omega
  clear hL hm hA hpl hp hx hy
  by_cases hxy : x = y
  rotate_left
  · have d1 : ((x : Int) != (y : Int)) = true := by simp; exact hxy
    have HNO : Hid (∀ U, MetA ms L sk (k : Int) A w.heap.size U (.returned (.tuple #[.slice none 0 0, .bool false]))) := fun U => MetA.no (HNE.out hxy)
    clear HNE HEQ HL HM HA hxy
    go_enter Tryd.func31, Tryd.ntmps31
    go_wp2_with fail
    go_quiet ((go_at_call 41; exact Calls.quiet_of_same (HPL _)))
    go_wp2
    go_ret2
    exact ⟨HNO.out _, below_drewN (Below.refl _ _) _⟩
  subst hxy
  have d1 : ((x : Int) != (x : Int)) = false := by simp
  have HI1 : Hid (_) := HEQ.out rfl
  have hcap := HA.out.2.1
  have hcap2 := HA.out.2.2.1
  unfold maxLen at hcap2
  clear HNE HEQ h0
  by_cases hlast : A.length = 1
  · have HY : Hid (∀ U v, Io w.heap.size U v [(k : Int)] → MetA ms L sk (k : Int) A w.heap.size U (.returned (.tuple #[v, .bool true]))) := fun U v hv => MetA.yes (MeI.done (by rw [hlast]; exact HI1.out)) hv
    have hn0 : A.length - 1 = 0 := by omega
    clear hlast HI1 HL HM HA
    by_cases hc1 : cq = 1
    · subst hc1
      go_enter Tryd.func31, Tryd.ntmps31
      go_wp2_with fail
      go_quiet ((go_at_call 41; exact Calls.quiet_of_same (HPL _)))
      have hBW : Below w.heap.size w (w.drewN nq) := below_drewN (Below.refl _ _) _
      clear c0 c1 HPL
      generalize w.drewN nq = W at hBW ⊢
      have HI0 : Hid (Io w.heap.size (W.alloc (.cells #[.int .i64 (k : Int)] 3)) (.slice (some ⟨W.heap.size, 0, none⟩) 1 1) [(k : Int)]) := Io.one HIK.out hBW.size
      have HB0 : Hid (Below w.heap.size w (W.alloc (.cells #[.int .i64 (k : Int)] 3))) := hBW.trans ((bl1 _).mono hBW.size)
      clear hBW
      go_wp2
      go_loopw [12, 39] (fun v i wr => v = .slice (some ⟨W.heap.size, 0, none⟩) 1 1 ∧ i = .int .i64 0 ∧ wr = W.alloc (.cells #[.int .i64 (k : Int)] 3)) (fun _ _ _ => 0)
      case atStart => exact ⟨rfl, rfl, rfl⟩
      case round =>
        obtain ⟨rfl, rfl, rfl⟩ := hrel
        go_wp2
        go_ret2
        exact ⟨HY.out _ _ HI0.out, HB0.out⟩
    · go_enter Tryd.func31, Tryd.ntmps31
      go_wp2_with fail
      go_quiet ((go_at_call 41; exact Calls.quiet_of_same (HPL _)))
      have hBW : Below w.heap.size w (w.drewN nq) := below_drewN (Below.refl _ _) _
      clear c0 c1 HPL
      generalize w.drewN nq = W at hBW ⊢
      have HI0 : Hid (Io w.heap.size (W.alloc (.cells #[.int .i64 (k : Int)] 3)) (.slice (some ⟨W.heap.size, 0, none⟩) 1 1) [(k : Int)]) := Io.one HIK.out hBW.size
      have HB0 : Hid (Below w.heap.size w (W.alloc (.cells #[.int .i64 (k : Int)] 3))) := hBW.trans ((bl1 _).mono hBW.size)
      clear hBW
      go_wp2
      go_loopw [12, 39] (fun v i wr => v = .slice (some ⟨W.heap.size, 0, none⟩) 1 1 ∧ i = .int .i64 0 ∧ wr = W.alloc (.cells #[.int .i64 (k : Int)] 3)) (fun _ _ _ => 0)
      case atStart => exact ⟨rfl, rfl, rfl⟩
      case round =>
        obtain ⟨rfl, rfl, rfl⟩ := hrel
        go_wp2
        go_ret2
        exact ⟨HY.out _ _ HI0.out, HB0.out⟩
  have hc1 : ¬ cq = 1 := by omega
  obtain ⟨n, hn⟩ : ∃ n, A.length - 1 = n := ⟨_, rfl⟩
  have hn1 : n + 1 ≤ A.length := by omega
  have hn2 : A.length ≤ n + 1 := by omega
  clear hlast
  go_enter Tryd.func31, Tryd.ntmps31
  go_wp2_with fail
  go_quiet ((go_at_call 41; exact Calls.quiet_of_same (HPL _)))
  have hBW : Below w.heap.size w (w.drewN nq) := below_drewN (Below.refl _ _) _
  clear c0 c1 HPL
  generalize w.drewN nq = W at hBW ⊢
  have HI0 : Hid (Io w.heap.size (W.alloc (.cells #[.int .i64 (k : Int)] 3)) (.slice (some ⟨W.heap.size, 0, none⟩) 1 1) [(k : Int)]) := Io.one HIK.out hBW.size
  have HB0 : Hid (Below w.heap.size w (W.alloc (.cells #[.int .i64 (k : Int)] 3))) := hBW.trans ((bl1 _).mono hBW.size)
  clear hBW
  go_wp2
  clear hn
  go_loopw [2, 12, 39] (fun z v i wr => ∃ (j : Nat) (at' : Int) (l : List Int), j ≤ n ∧ i = .int .i64 (j : Int) ∧ z = .int .i64 at' ∧ Hid (MeI ms L sk (k : Int) A (j + 1) l at') ∧ Io w.heap.size wr v l ∧ Below w.heap.size w wr) (fun _ _ i _ => n - (intOf i).toNat)
  case atStart => exact ⟨0, (k : Int), [(k : Int)], Nat.zero_le _, rfl, rfl, HI1, HI0.out, HB0.out⟩
  case round =>
    clear HI1 HI0 HB0
    obtain ⟨j, z, l, hj, rfl, rfl, HI, hIo, hB⟩ := hrel
    obtain ⟨av, cv, rfl, hri⟩ := hIo.slice
    have HLEN : Hid (l.length = j + 1) := HI.out.len
    have hl1 : l.length ≤ j + 1 := by rw [HLEN.out]; exact Nat.le_refl _
    have hpz := plB_iff.1 HI.out.pl
    by_cases hjn0 : j < n
    · have hjn : j + 1 < A.length := by omega
      obtain ⟨b2, o2, e2, _, c2⟩ := HA.out.at hB (j + 1) hjn
      cases e2
      have HST : Hid (_) := HI.out.stop hjn
      have HMO : Hid (_) := HI.out.more hjn
      have HNX : Hid (_) := nx_pl (ms := ms) (sk := sk) HI.out.pl
      have hnx := cnext_any S (some ⟨b0, o0, none⟩) ca L b cb ms z sk wr (HL.out.below hB) (HM.out.below hB) ⟨by omega, by omega⟩
      obtain ⟨r, hr⟩ : ∃ r, nxQ ms L sk z = r := ⟨_, rfl⟩
      obtain ⟨g, hg⟩ : ∃ g, A.getD (j + 1) 0 = g := ⟨_, rfl⟩
      rw [hr] at hnx HST HMO HNX
      rw [hg] at c2 HST HMO
      have hadd : o1 + (j + 1) = o1 + 1 + j := by omega
      rw [hadd] at c2
      have i3 : (j : Int) < (n : Int) := by omega
      have i4 : (0 : Int) ≤ (j : Int) := by omega
      clear hr hg HI hri hpz hadd
      go_wp2_with fail
      refine hnx.mono ?_
      rintro e u ⟨rfl, hbu⟩
      have hBu := hB.trans (hbu.mono hB.size)
      have hIu := hIo.below hbu
      clear hnx hbu hB c2 hIo
      rcases HNX.out with rfl | ⟨m, rfl, hm⟩
      · have HNO : Hid (∀ U, MetA ms L sk (k : Int) A w.heap.size U (.returned (.tuple #[.slice none 0 0, .bool false]))) := fun U => MetA.no (HST.out (.inl rfl))
        clear HST HMO HNX hIu
        go_wp2
        go_ret2
        exact ⟨HNO.out _, hBu⟩
      · obtain ⟨b4, o4, e4, _, c4⟩ := HL.out.at hBu m hm
        cases e4
        rw [Int.toNat_natCast] at HST HMO
        obtain ⟨x2, hx2⟩ : ∃ x, L.getD m 0 = x := ⟨_, rfl⟩
        rw [hx2] at c4 HST HMO
        have e5 : ((m : Int) == -1) = false := by rw [beq_eq_false_iff_ne]; omega
        have i5 : (0 : Int) ≤ (m : Int) := by omega
        have i6 : (m : Int) < (L.length : Int) := by omega
        clear hx2 HNX
        by_cases hxg : x2 = g
        rotate_left
        · have d2 : ((x2 : Int) != (g : Int)) = true := by simp; exact hxg
          have HNO : Hid (∀ U, MetA ms L sk (k : Int) A w.heap.size U (.returned (.tuple #[.slice none 0 0, .bool false]))) := fun U => MetA.no (HST.out (.inr hxg))
          clear HST HMO hIu hxg
          go_wp2
          go_ret2
          exact ⟨HNO.out _, hBu⟩
        subst hxg
        have d2 : ((x2 : Int) != (x2 : Int)) = false := by simp
        have HMI : Hid (_) := HMO.out (fun h => by
          rcases h with h | h
          · omega
          · exact h rfl)
        have HIM : Hid (I64 (m : Int)) := ⟨by omega, by omega⟩
        clear HST HMO
        have hT5 := hIu.below (bl1 (.cells #[.int .i64 (m : Int)] 3))
        have hN := heap_alloc_new u (.cells #[.int .i64 (m : Int)] 3)
        have n0 := cell_of_row _ u.heap.size 0 _ _ (0, 0) hN
        have hll : l.length + 1 ≤ 1000000 := by omega
        have hB6 : Below w.heap.size w (u.alloc (.cells #[.int .i64 (m : Int)] 3)) := hBu.alloc hBu.size _
        clear hN hIu
        go_wp2_with (at_builtin; refine wpList_append_int rfl _ _ rfl w.heap.size _ l rfl hT5 u.heap.size (m : Int) rfl n0 HIM.out hll hB6.size ?_)
        intro v' w9 hT9 hgrow
        have hB9 : Below w.heap.size w w9 := hB6.grown hgrow hB6.size (fun k hk => hT5.lo hk)
        clear hgrow hT5 n0 hB6 hBu hll
        go_wp2
        go_roundw
        case rel => exact ⟨j + 1, (m : Int), _, hjn0, by go_num, rfl, HMI, hT9, hB9⟩
        case measure => simp [intOf]; omega
    · have HY : Hid (MetA ms L sk (k : Int) A w.heap.size wr (.returned (.tuple #[.slice av l.length cv, .bool true]))) := MetA.yes (MeI.done (by rw [show A.length = j + 1 by omega]; exact HI.out)) hIo
      have g4 : ¬ (j : Int) < (n : Int) := by omega
      clear HI hri hpz hIo
      go_wp2
      go_ret2
      exact ⟨HY.out, hB⟩

end Go.Proofs.YtechkkefpigcaaaDoor
