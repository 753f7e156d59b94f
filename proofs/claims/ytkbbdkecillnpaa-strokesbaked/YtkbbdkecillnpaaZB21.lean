/-
  store.Value, store.Rounded: the walks.
  strokes.rounded: the walk.
  outline.fields, partsFormed, contoursFormed, Formed: the walks.
  outline.Formed, slices.Grow, slices.Concat, outline.Points, outline.Ends: the walks.
  Rows of ints of the call's own (Gi): as Io, but with what is told of where they lie.
-/
import Derived.Test.YtkbbdkecillnpaaZB18
import Derived.Test.YtkbbdkecillnpaaZB20
import Derived.Test.YtkbbdkecillnpaaZB8
import Derived.Lib.AppendZerosOnto
import Derived.Deep.CutRange
import Derived.Test.YtkbbdkecillnpaaZB7
namespace Go.Proofs.Ytkbbdkecillnpaa
open Go.RowKit Go.Maps
set_option linter.unusedSimpArgs false
set_option linter.unusedVariables false

theorem Box.new2S (t : TypeId) (w : World) (o o' : Obj) (x y z : Value) : Box t (((w.alloc o).alloc o').alloc (.cells #[x, y, z] t)) (w.heap.size + 2) x y z := by
  have h := Box.new t ((w.alloc o).alloc o') x y z
  simpa using h
/-- What a slot is rounded to. -/
def roN (s : Sr) (x r : Int) (cs : List Int) : Int := if fiS s x r then fldN (vaQ s x r cs + 1 / 2).floor else 0
def roE (s : Sr) (x r : Int) (cs : List Int) : Int := if fiS s x r then fldE (vaQ s x r cs + 1 / 2).floor else 1

set_option maxHeartbeats 4000000 in
set_option maxRecDepth 100000 in
theorem cvalue_any (a : Option Addr) (ca : Nat) (b : Option Addr) (cb : Nat) (s : Sr) (x r : Int) (pa : Option Addr) (pc : Nat) (cs : List Int) (w : World) (hg : Tzz w a ca s.rg) (hm : Rii w b cb s.rw) (hp : Ri w pa pc cs) (hx : I64 x) (hr : I64 r) (hl : s.rg.length ≤ 40) (h8 : ∀ l ∈ s.rg, l.length ≤ 8) :
    Calls Try.prog 46 #[.agg #[.slice a s.rg.length ca, .slice b s.rw.length cb], .agg #[.int .i64 x, .int .i64 r], .slice pa cs.length pc] w fun e w' => ∃ v', e = .returned v' ∧ Fr w' v' 1003 (vaQ s x r cs) ∧ Below w.heap.size w w' := by
  have k3 := hp.lenB
  have HV : Hid (((x : Int) : Rat) + chQ s r cs = vaQ s x r cs) := rfl
  have hch := fun U h1 h2 h3 => cchange_any a ca b cb s r pa pc cs U h1 h2 h3 hl h8
  obtain ⟨W, hW, X1, X2, B0, hbW⟩ : ∃ W, W = ((w.alloc (.cells #[.slice a s.rg.length ca, .slice b s.rw.length cb] 26)).alloc (.cells #[.int .i64 x, .int .i64 r] 50)).alloc (.cells #[.bool false, .slice none 0 0, .slice none 0 0] 110) ∧ BxS W w.heap.size (.slice a s.rg.length ca) (.slice b s.rw.length cb) ∧ BxL W (w.heap.size + 1) (.int .i64 x) (.int .i64 r) ∧ Box 110 W (w.heap.size + 2) (.bool false) (.slice none 0 0) (.slice none 0 0) ∧ Below w.heap.size w W := ⟨_, rfl, ((BxS.new _ _ _).below (bl1 _)).below (bl1 _), (BxL.new1 _ _ _ _).below (bl1 _), Box.new2S _ _ _ _ _ _ _, (bl2 _ _).trans ((bl1 _).mono (by simp; omega))⟩
  replace hg := hg.below hbW
  replace hm := hm.below hbW
  replace hp := hp.below hbW
  generalize chQ s r cs = qc at *
  clear h8
  go_enter Try.func46, Try.ntmps46
  go_upto_region 1 with fail
  rw [← hW]
  clear hW
  obtain ⟨p00, p01, _⟩ := X1.cells
  obtain ⟨p10, p11, _⟩ := X2.cells
  refine wp_region_held_drew (S := (fun u => u.cell? ⟨w.heap.size, 0, none⟩ = some (.slice a s.rg.length ca) ∧ u.cell? ⟨w.heap.size, 1, none⟩ = some (.slice b s.rw.length cb) ∧ u.cell? ⟨w.heap.size + 1, 0, none⟩ = some (.int .i64 x) ∧ u.cell? ⟨w.heap.size + 1, 1, none⟩ = some (.int .i64 r))) (by kernel_rfl) ?_ (fun hHeld => ?_)
  · (try dsimp only)
    go_keep
  have hdr : Below W.heap.size W W.drew := Below.drew1
  generalize W.drew = ud1 at hdr hHeld ⊢
  replace hg := hg.below hdr
  replace hm := hm.below hdr
  replace hp := hp.below hdr
  replace B0 := B0.below hdr
  replace X1 := X1.below hdr
  replace X2 := X2.below hdr
  replace hbW : Below w.heap.size w ud1 := hbW.trans (hdr.mono hbW.size)
  clear hdr
  clear p00 p01 p10 p11
  obtain ⟨p00, p01, _⟩ := X1.cells
  obtain ⟨p10, p11, _⟩ := X2.cells
  refine hT 0 hHeld ?_
  refine hT 1 hHeld ?_
  refine hT 3 hHeld ?_
  refine hT 4 hHeld ?_
  refine hT 5 hHeld ?_
  refine hT 6 hHeld ?_
  refine hCall (i := 2) rfl (by kernel_rfl) (by rfl) (fun K hK => ?_)
  go_simp
  refine (whole_any x _ hx.1 (by have := hx.2; omega)).mono ?_
  rintro e u1 ⟨v5, rfl, hF5, hb1⟩
  replace hg := hg.below hb1
  replace hm := hm.below hb1
  replace hp := hp.below hb1
  replace B0 := B0.below hb1
  replace X1 := X1.below hb1
  replace X2 := X2.below hb1
  replace hbW : Below w.heap.size w u1 := hbW.trans (hb1.mono hbW.size)
  clear hb1
  clear p00 p01 p10 p11
  obtain ⟨p00, p01, _⟩ := X1.cells
  obtain ⟨p10, p11, _⟩ := X2.cells
  go_wp2_with fail
  refine hK.out _ _ ?_ (fun hHeld => ?_)
  · (try dsimp only)
    exact ⟨p00, p01, p10, p11⟩
  clear hK K
  try simp only [Act.put, List.setIfInBounds_toArray, List.set_cons_zero, List.set_cons_succ]
  refine hCall (i := 7) rfl (by kernel_rfl) (by rfl) (fun K hK => ?_)
  go_simp
  refine (hch _ hg hm hp).mono ?_
  rintro e u2 ⟨v6, rfl, hF6, hb2⟩
  replace hg := hg.below hb2
  replace hm := hm.below hb2
  replace hp := hp.below hb2
  replace B0 := B0.below hb2
  replace hF5 := hF5.below hb2
  replace X1 := X1.below hb2
  replace X2 := X2.below hb2
  replace hbW : Below w.heap.size w u2 := hbW.trans (hb2.mono hbW.size)
  clear hb2
  clear p00 p01 p10 p11
  obtain ⟨p00, p01, _⟩ := X1.cells
  obtain ⟨p10, p11, _⟩ := X2.cells
  go_wp2_with fail
  refine hK.out _ _ ?_ (fun hHeld => ?_)
  · (try dsimp only)
    exact ⟨p00, p01, p10, p11⟩
  clear hK K
  try simp only [Act.put, List.setIfInBounds_toArray, List.set_cons_zero, List.set_cons_succ]
  refine hCall (i := 8) rfl (by kernel_rfl) (by rfl) (fun K hK => ?_)
  go_simp
  refine (qadd_any 2 1000 _ _ _ _ _ hF5.ct hF6.ct (by decide) (by decide) (by decide) (by decide)).mono ?_
  rintro e u3 ⟨v9, rfl, hF9, hb3⟩
  replace hg := hg.below hb3
  replace hm := hm.below hb3
  replace hp := hp.below hb3
  replace B0 := B0.below hb3
  replace hF5 := hF5.below hb3
  replace hF6 := hF6.below hb3
  replace X1 := X1.below hb3
  replace X2 := X2.below hb3
  replace hbW : Below w.heap.size w u3 := hbW.trans (hb3.mono hbW.size)
  clear hb3
  rw [HV.out] at hF9
  obtain ⟨n9, x9, y9, ⟨a9, c9, b9, d9, rfl, hx9, hy9⟩, hF9⟩ := hF9
  clear p00 p01 p10 p11
  obtain ⟨p00, p01, _⟩ := X1.cells
  obtain ⟨p10, p11, _⟩ := X2.cells
  go_wp2_with fail
  refine hK.out _ _ ?_ (fun hHeld => ?_)
  · (try dsimp only)
    exact ⟨p00, p01, p10, p11⟩
  clear hK K
  try simp only [Act.put, List.setIfInBounds_toArray, List.set_cons_zero, List.set_cons_succ]
  refine hCall (i := 9) rfl (by kernel_rfl) (by rfl) (fun K hK => ?_)
  go_simp
  have hs := B0.lt
  obtain ⟨f1, f2, f3, f4, f5, f6⟩ := B0.cells
  try go_simp
  obtain ⟨u64, hU, C9, hbU, hK9, ho⟩ := set3_world B0 (.bool n9) (.slice a9 x9.length c9) (.slice b9 y9.length d9)
  rw [← hU]
  clear hU f1 f2 f3 f4 f5 f6
  replace hbW := hbU _ _ hbW (by omega)
  replace hx9 := hK9 _ _ _ hx9
  replace hy9 := hK9 _ _ _ hy9
  replace X1 : BxS u64 w.heap.size (.slice a s.rg.length ca) (.slice b s.rw.length cb) := (ho _ (by omega)).trans X1
  replace X2 : BxL u64 (w.heap.size + 1) (.int .i64 x) (.int .i64 r) := (ho _ (by omega)).trans X2
  clear hbU hK9 ho
  clear p00 p01 p10 p11
  obtain ⟨p00, p01, _⟩ := X1.cells
  obtain ⟨p10, p11, _⟩ := X2.cells
  refine hK.out _ _ ?_ (fun hHeld => ?_)
  · (try dsimp only)
    exact ⟨p00, p01, p10, p11⟩
  clear hK K
  try simp only [Act.put, List.setIfInBounds_toArray, List.set_cons_zero, List.set_cons_succ]
  refine wpAnyH_done (by kernel_rfl) ?_ _
  clear hHeld
  go_wp2
  refine bodyPost_ret (by obtain ⟨r1, r2, r3, _⟩ := C9.cells; simp [results, Try.results46, go_sem, r1, r2, r3]) rfl ⟨_, rfl, ⟨_, _, _, ⟨_, _, _, _, rfl, hx9, hy9⟩, hF9⟩, hbW⟩

set_option maxHeartbeats 2000000 in
set_option maxRecDepth 100000 in
theorem crounded_any (a : Option Addr) (ca : Nat) (b : Option Addr) (cb : Nat) (s : Sr) (x r : Int) (pa : Option Addr) (pc : Nat) (cs : List Int) (w : World) (hg : Tzz w a ca s.rg) (hm : Rii w b cb s.rw) (hp : Ri w pa pc cs) (hx : I64 x) (hr : I64 r) (hl : s.rg.length ≤ 40) (h8 : ∀ l ∈ s.rg, l.length ≤ 8) :
    Calls Try.prog 37 #[.agg #[.slice a s.rg.length ca, .slice b s.rw.length cb], .agg #[.int .i64 x, .int .i64 r], .slice pa cs.length pc] w fun e w' => e = .returned (.tuple #[.int .i64 (roN s x r cs), .int .i64 (roE s x r cs)]) ∧ Below w.heap.size w w' := by
  have k2 := hm.lenB
  have k3 := hp.lenB
  have hfi := fun U => cfits_any a ca b cb s x r U k2 hx hr
  have hva := fun U h1 h2 h3 => cvalue_any a ca b cb s x r pa pc cs U h1 h2 h3 hx hr hl h8
  obtain ⟨W, hW, X1, X2, hbW⟩ : ∃ W, W = (w.alloc (.cells #[.slice a s.rg.length ca, .slice b s.rw.length cb] 26)).alloc (.cells #[.int .i64 x, .int .i64 r] 50) ∧ BxS W w.heap.size (.slice a s.rg.length ca) (.slice b s.rw.length cb) ∧ BxL W (w.heap.size + 1) (.int .i64 x) (.int .i64 r) ∧ Below w.heap.size w W := ⟨_, rfl, (BxS.new _ _ _).below (bl1 _), BxL.new1 _ _ _ _, bl2 _ _⟩
  replace hg := hg.below hbW
  replace hm := hm.below hbW
  replace hp := hp.below hbW
  clear h8 hx hr
  cases hf : fiS s x r with
  | false =>
    have HE : Hid (roN s x r cs = 0 ∧ roE s x r cs = 1) := by
      show _ ∧ _
      constructor
      · rw [roN, hf]; rfl
      · rw [roE, hf]; rfl
    simp only [hf] at hfi
    clear hf hg hm hp hva
    go_enter Try.func37, Try.ntmps37
    go_wp2_with fail
    rw [← hW]
    clear hW
    refine (hfi _).mono ?_
    rintro e u1 ⟨rfl, hb1⟩
    replace hbW := hbW.trans (hb1.mono hbW.size)
    clear hb1 hfi
    go_wp2
    go_ret2
    exact ⟨by rw [HE.out.1, HE.out.2]; rfl, hbW⟩
  | true =>
    have HE : Hid (roN s x r cs = fldN (vaQ s x r cs + 1 / 2).floor ∧ roE s x r cs = fldE (vaQ s x r cs + 1 / 2).floor) := by
      show _ ∧ _
      constructor
      · rw [roN, hf]; rfl
      · rw [roE, hf]; rfl
    simp only [hf] at hfi
    clear hf
    go_enter Try.func37, Try.ntmps37
    go_wp2_with fail
    rw [← hW]
    clear hW
    refine (hfi _).mono ?_
    rintro e u1 ⟨rfl, hb1⟩
    replace hg := hg.below hb1
    replace hm := hm.below hb1
    replace hp := hp.below hb1
    replace X1 := X1.below hb1
    replace X2 := X2.below hb1
    replace hbW := hbW.trans (hb1.mono hbW.size)
    clear hb1 hfi
    obtain ⟨p0, p1, _⟩ := X1.cells
    obtain ⟨p2, p3, _⟩ := X2.cells
    go_wp2_with fail
    refine (hva _ hg hm hp).mono ?_
    rintro e u2 ⟨v2, rfl, hF2, hb2⟩
    replace hbW := hbW.trans (hb2.mono hbW.size)
    clear hb2 hva hg hm hp X1 X2 p0 p1 p2 p3
    generalize vaQ s x r cs = q at *
    go_wp2_with fail
    refine (field_any 1003 q _ _ hF2.ct (by decide) (by decide)).mono ?_
    rintro e u3 ⟨rfl, hb3⟩
    replace hbW := hbW.trans (hb3.mono hbW.size)
    rw [← HE.out.1, ← HE.out.2]
    clear hb3 hF2
    go_wp2
    go_ret2
    exact ⟨rfl, hbW⟩

end Go.Proofs.Ytkbbdkecillnpaa

namespace Go.Proofs.Ytkbbdkecillnpaa
open Go.RowKit Go.Maps
set_option linter.unusedSimpArgs false
set_option linter.unusedVariables false

/-- How slots are read from a store, at coordinates. -/
def RS (s : Sr) (cs : List Int) : Rd18 := ⟨fun b r => roN s b r cs, fun b r => roE s b r cs⟩
theorem roN_in (s : Sr) (x r : Int) (cs : List Int) : -32768 ≤ roN s x r cs ∧ roN s x r cs ≤ 32767 := by
  unfold roN fldN
  repeat' split
  all_goals omega
def c6 (L : List Int) : List Value := [.int .i64 (L.getD 0 0), .int .i64 (L.getD 1 0), .int .i64 (L.getD 2 0), .int .i64 (L.getD 3 0), .int .i64 (L.getD 4 0), .int .i64 (L.getD 5 0)]
theorem c6_snoc {L : List Int} (h : L.length < 6) (z : Int) : c6 (L ++ [z]) = (c6 L).set L.length (.int .i64 z) := by
  rcases L with _ | ⟨a, _ | ⟨b, _ | ⟨c, _ | ⟨d, _ | ⟨e, _ | ⟨f, L⟩⟩⟩⟩⟩⟩
  all_goals rfl
theorem c6_at {L : List Int} {k : Nat} (h : k < 6) : (c6 L)[k]? = some (.int .i64 (L.getD k 0)) := by
  rcases k with _ | _ | _ | _ | _ | _ | k
  all_goals try rfl
  omega
theorem Bk.six6 {t : TypeId} {w : World} {g : Nat} {x y z u v r : Value} (h : Bk t w g [x, y, z, u, v, r]) : (w.cell? ⟨g, 0, none⟩ = some x ∧ w.cell? ⟨g, 1, none⟩ = some y ∧ w.cell? ⟨g, 2, none⟩ = some z ∧ w.cell? ⟨g, 3, none⟩ = some u ∧ w.cell? ⟨g, 4, none⟩ = some v ∧ w.cell? ⟨g, 5, none⟩ = some r) ∧ (w.frozen? ⟨g, 0, none⟩ = false ∧ w.frozen? ⟨g, 1, none⟩ = false ∧ w.frozen? ⟨g, 2, none⟩ = false ∧ w.frozen? ⟨g, 3, none⟩ = false ∧ w.frozen? ⟨g, 4, none⟩ = false ∧ w.frozen? ⟨g, 5, none⟩ = false) :=
  ⟨⟨h.cell 0 (by simp), h.cell 1 (by simp), h.cell 2 (by simp), h.cell 3 (by simp), h.cell 4 (by simp), h.cell 5 (by simp)⟩, h.fz 0, h.fz 1, h.fz 2, h.fz 3, h.fz 4, h.fz 5⟩
theorem Bk.set6 {t : TypeId} {w : World} {g : Nat} {x y z u v r : Value} (h : Bk t w g [x, y, z, u, v, r]) (x' y' z' u' v' r' : Value) : Bk t ((((((w.setCell ⟨g, 0, none⟩ x').setCell ⟨g, 1, none⟩ y').setCell ⟨g, 2, none⟩ z').setCell ⟨g, 3, none⟩ u').setCell ⟨g, 4, none⟩ v').setCell ⟨g, 5, none⟩ r') g [x', y', z', u', v', r'] := (((((h.set 0 x').set 1 y').set 2 z').set 3 u').set 4 v').set 5 r'
theorem below_set6 {B g : Nat} {a w : World} (h : Below B a w) (hb : B ≤ g) (x' y' z' u' v' r' : Value) : Below B a ((((((w.setCell ⟨g, 0, none⟩ x').setCell ⟨g, 1, none⟩ y').setCell ⟨g, 2, none⟩ z').setCell ⟨g, 3, none⟩ u').setCell ⟨g, 4, none⟩ v').setCell ⟨g, 5, none⟩ r') :=
  (((((h.setCell (p := ⟨g, 0, none⟩) hb x').setCell (p := ⟨g, 1, none⟩) hb y').setCell (p := ⟨g, 2, none⟩) hb z').setCell (p := ⟨g, 3, none⟩) hb u').setCell (p := ⟨g, 4, none⟩) hb v').setCell (p := ⟨g, 5, none⟩) hb r'
/-- What a step's numbers are: none, where one has an error. -/
def ru6 (R : Rd18) (l : List (Int × Int)) : List Int := if nuE R l = 0 then nuL R l else []
theorem ru6_yes {R : Rd18} {l : List (Int × Int)} (h : nuE R l = 0) : ru6 R l = nuL R l := by unfold ru6; rw [if_pos h]
theorem ru6_no {R : Rd18} {l : List (Int × Int)} (h : nuE R l ≠ 0) : ru6 R l = [] := by unfold ru6; rw [if_neg h]
theorem nuL_take {R : Rd18} {l : List (Int × Int)} {k : Nat} (hk : k < l.length) : nuL R (l.take (k + 1)) = nuL R (l.take k) ++ [R.ro (l.getD k (0, 0)).1 (l.getD k (0, 0)).2] := by
  have e : l.take (k + 1) = l.take k ++ [l.getD k (0, 0)] := by
    rw [List.take_add_one, List.getElem?_eq_getElem hk]
    simp [List.getD, hk]
  rw [e]
  unfold nuL
  rw [List.map_append]
  rfl
theorem nuL_len (R : Rd18) (l : List (Int × Int)) : (nuL R l).length = l.length := by unfold nuL; rw [List.length_map]

set_option maxHeartbeats 4000000 in
set_option maxRecDepth 100000 in
theorem rounded_any (S : Nat → Prop) (xa : Option Addr) (xc : Nat) (ar : List (Int × Int)) (ga : Option Addr) (gc : Nat) (ma : Option Addr) (mc : Nat) (s : Sr) (pa : Option Addr) (pc : Nat) (cs : List Int) (w : World) (hx : Gr SlE S w xa xc ar) (hg : Tzz w ga gc s.rg) (hm : Rii w ma mc s.rw) (hp : Ri w pa pc cs) (h40 : s.rg.length ≤ 40) (h8 : ∀ l ∈ s.rg, l.length ≤ 8) (h6 : ar.length ≤ 6) :
    Calls Try.prog 24 #[.slice xa ar.length xc, .agg #[.slice ga s.rg.length gc, .slice ma s.rw.length mc], .slice pa cs.length pc] w fun e w' => e = .returned (.tuple #[.agg (c6 (ru6 (RS s cs) ar)).toArray, .int .i64 (nuE (RS s cs) ar)]) ∧ Below w.heap.size w w' := by
  have k2 := hm.lenB
  have k3 := hg.lenB
  have k4 := hp.lenB
  obtain ⟨W, hW, X1, X2, X3, hbW⟩ : ∃ W, W = ((w.alloc (.cells #[.slice ga s.rg.length gc, .slice ma s.rw.length mc] 26)).alloc (.cells #[.int .i64 0, .int .i64 0, .int .i64 0, .int .i64 0, .int .i64 0, .int .i64 0] 76)).alloc (.cells #[.int .i64 0, .int .i64 0, .int .i64 0, .int .i64 0, .int .i64 0, .int .i64 0] 76) ∧ Bk 26 W w.heap.size [.slice ga s.rg.length gc, .slice ma s.rw.length mc] ∧ Bk 76 W (w.heap.size + 1) (c6 []) ∧ Bk 76 W (w.heap.size + 2) (c6 []) ∧ Below w.heap.size w W :=
    ⟨_, rfl, (Bk.new _ _ _).below (bl2 _ _), (Bk.new1 _ _ _ (c6 [])).below (bl1 _), by
      have h := Bk.new1 76 (w.alloc (.cells #[.slice ga s.rg.length gc, .slice ma s.rw.length mc] 26)) (.cells #[.int .i64 0, .int .i64 0, .int .i64 0, .int .i64 0, .int .i64 0, .int .i64 0] 76) (c6 [])
      simpa [c6] using h, (bl2 _ _).trans ((bl1 _).mono (by simp; omega))⟩
  have HX : Hid (Gr SlE S w xa xc ar) := hx
  have HG : Hid (Tzz w ga gc s.rg) := hg
  have HM : Hid (Rii w ma mc s.rw) := hm
  have HP : Hid (Ri w pa pc cs) := hp
  obtain ⟨g, hgg⟩ : ∃ g, w.heap.size + 2 = g := ⟨_, rfl⟩
  have HGG : Hid (w.heap.size + 2 = g) := hgg
  clear hx hg hm hp
  go_enter Try.func24, Try.ntmps24
  go_upto_region 2 with fail
  rw [← hW]
  clear hW
  try rw [hgg]
  rw [hgg] at X3
  clear hgg
  go_wp2
  go_loopw [15] (fun i wr => ∃ k : Nat, k ≤ ar.length ∧ i = .int .i64 k ∧ Hid (nuE (RS s cs) (ar.take k) = 0) ∧ Bk 76 wr g (c6 (nuL (RS s cs) (ar.take k))) ∧ Bk 76 wr (w.heap.size + 1) (c6 []) ∧ Bk 26 wr w.heap.size [.slice ga s.rg.length gc, .slice ma s.rw.length mc] ∧ Below w.heap.size w wr) (fun i _ => ar.length - (intOf i).toNat)
  case atStart => exact ⟨0, Nat.zero_le _, rfl, (by show nuE _ _ = 0; rw [List.take_zero, nuE]), X3, X2, X1, hbW⟩
  case round =>
    clear X1 X2 X3 hbW
    obtain ⟨k, hk, rfl, HOK, hY, hX2, hX1, hB⟩ := hrel
    by_cases hkn : k < ar.length
    · obtain ⟨b1, off, ea, hb1, ⟨m1, m2⟩, d0, d1⟩ := HX.out.sl hB k hkn
      subst ea
      have HNE : Hid (_) := nuE_take (R := RS s cs) hkn
      have HNL : Hid (_) := nuL_take (R := RS s cs) hkn
      rw [HOK.out, if_pos rfl] at HNE
      have hro : ∀ U, Below wr.heap.size wr U → Calls Try.prog 37 #[.agg #[.slice ga s.rg.length gc, .slice ma s.rw.length mc], .agg #[.int .i64 (ar.getD k (0, 0)).1, .int .i64 (ar.getD k (0, 0)).2], .slice pa cs.length pc] U fun e w' => e = .returned (.tuple #[.int .i64 ((RS s cs).ro (ar.getD k (0, 0)).1 (ar.getD k (0, 0)).2), .int .i64 ((RS s cs).re (ar.getD k (0, 0)).1 (ar.getD k (0, 0)).2)]) ∧ Below U.heap.size U w' := fun U hU =>
        crounded_any ga gc ma mc s _ _ pa pc cs U ((HG.out.below hB).below hU) ((HM.out.below hB).below hU) ((HP.out.below hB).below hU) m1 m2 h40 h8
      have hnl : (nuL (RS s cs) (ar.take k)).length = k := by rw [nuL_len, List.length_take]; omega
      have HC6 : Hid (_) := c6_snoc (L := nuL (RS s cs) (ar.take k)) (by omega) ((RS s cs).ro (ar.getD k (0, 0)).1 (ar.getD k (0, 0)).2)
      rw [← HNL.out, hnl] at HC6
      have HC7 : Hid ((c6 (nuL (RS s cs) (ar.take k)))[k]? = _) := c6_at (by omega)
      generalize (RS s cs).ro (ar.getD k (0, 0)).1 (ar.getD k (0, 0)).2 = zn at *
      generalize (RS s cs).re (ar.getD k (0, 0)).1 (ar.getD k (0, 0)).2 = ze at *
      generalize ar.getD k (0, 0) = y at *
      have HST : Hid (nuE (RS s cs) (ar.take (k + 1)) ≠ 0 → nuE (RS s cs) ar = nuE (RS s cs) (ar.take (k + 1))) := fun h => nuE_stop (by omega) h
      have i1 : (0 : Int) ≤ (k : Int) := by omega
      have i2 : (k : Int) < (ar.length : Int) := by omega
      have i3 : (k : Int) < 6 := by omega
      obtain ⟨U, hU, XG, hbU⟩ : ∃ U, U = wr.alloc (.cells #[.int .i64 y.1, .int .i64 y.2] 50) ∧ Bk 50 U wr.heap.size [.int .i64 y.1, .int .i64 y.2] ∧ Below wr.heap.size wr U := ⟨_, rfl, Bk.new _ _ _, bl1 _⟩
      have hro2 := hro U hbU
      replace hY := hY.below hbU
      replace hX2 := hX2.below hbU
      replace hX1 := hX1.below hbU
      replace hB := hB.trans (hbU.mono hB.size)
      obtain ⟨y0, y1, -⟩ := XG.two
      obtain ⟨x0, x1, -⟩ := hX1.two
      clear hro
      go_upto_region 5 with fail
      rw [← hU]
      clear hU d0 d1 hbU hnl
      go_wp2_with fail
      refine hro2.mono ?_
      rintro e u4 ⟨rfl, hb⟩
      replace hY := hY.below hb
      replace hX2 := hX2.below hb
      replace hX1 := hX1.below hb
      replace hB := hB.trans (hb.mono hB.size)
      clear hro2 hb y0 y1 x0 x1 XG
      by_cases hze : ze = 0
      rotate_left
      · have HF : Hid (nuE (RS s cs) ar = ze ∧ ru6 (RS s cs) ar = []) := by
          have h1 := HST.out (by rw [HNE.out]; exact hze)
          rw [HNE.out] at h1
          exact ⟨h1, ru6_no (by rw [h1]; exact hze)⟩
        have g1 : (ze != 0) = true := bne_iff_ne.2 hze
        obtain ⟨⟨z0, z1, z2, z3, z4, z5⟩, f0, f1, f2, f3, f4, f5⟩ := hX2.six6
        obtain ⟨V, hV⟩ : ∃ V, V = ((((((u4.setCell ⟨w.heap.size + 1, 0, none⟩ (.int .i64 0)).setCell ⟨w.heap.size + 1, 1, none⟩ (.int .i64 0)).setCell ⟨w.heap.size + 1, 2, none⟩ (.int .i64 0)).setCell ⟨w.heap.size + 1, 3, none⟩ (.int .i64 0)).setCell ⟨w.heap.size + 1, 4, none⟩ (.int .i64 0)).setCell ⟨w.heap.size + 1, 5, none⟩ (.int .i64 0)) := ⟨_, rfl⟩
        have A := hX2.set6 (.int .i64 0) (.int .i64 0) (.int .i64 0) (.int .i64 0) (.int .i64 0) (.int .i64 0)
        have hbV := below_set6 hB (g := w.heap.size + 1) (Nat.le_succ _) (.int .i64 0) (.int .i64 0) (.int .i64 0) (.int .i64 0) (.int .i64 0) (.int .i64 0)
        rw [← hV] at A hbV
        clear HNE HNL HC6 HC7 HST HOK hze hY hX1
        go_wp2
        rw [← hV]
        clear hV
        (try simp only [Exit.inBlock, Exit.then])
        refine bodyPost_ret (v := .tuple #[.agg (c6 []).toArray, .int .i64 ze]) (by obtain ⟨⟨r0, r1, r2, r3, r4, r5⟩, _⟩ := A.six6; simp [results, Try.results24, go_sem, r0, r1, r2, r3, r4, r5, c6]) rfl ⟨by rw [HF.out.1, HF.out.2], hbV⟩
      subst hze
      have hfz := hY.fz k
      have hcl := hY.cell k (by show k < 6; omega)
      rw [HC7.out] at hcl
      have HY2 : Hid (Bk 76 (u4.setCell ⟨g, k, none⟩ (.int .i64 zn)) g (c6 (nuL (RS s cs) (ar.take (k + 1))))) := by
        show Bk _ _ _ _
        rw [HC6.out]
        exact hY.set k _
      have HX22 : Hid (Bk 76 (u4.setCell ⟨g, k, none⟩ (.int .i64 zn)) (w.heap.size + 1) (c6 [])) := hX2.other k _ (by have := HGG.out; omega)
      have HX12 : Hid (Bk 26 (u4.setCell ⟨g, k, none⟩ (.int .i64 zn)) w.heap.size [.slice ga s.rg.length gc, .slice ma s.rw.length mc]) := hX1.other k _ (by have := HGG.out; omega)
      have HB2 : Hid (Below w.heap.size w (u4.setCell ⟨g, k, none⟩ (.int .i64 zn))) := hB.setCell (p := ⟨g, k, none⟩) (by show w.heap.size ≤ g; have := HGG.out; omega) _
      have HOK2 : Hid (nuE (RS s cs) (ar.take (k + 1)) = 0) := HNE.out
      clear HNE HNL HC6 HC7 HST HOK hY hX2 hX1 hB
      go_wp2
      go_roundw
      case rel => exact ⟨k + 1, by omega, by go_num, HOK2, HY2.out, HX22.out, HX12.out, HB2.out⟩
      case measure => simp [intOf]; omega
    · obtain rfl : k = ar.length := by omega
      have g4 : ¬ (ar.length : Int) < (ar.length : Int) := by omega
      rw [List.take_length] at HOK hY
      have HRU : Hid (_) := ru6_yes HOK.out
      obtain ⟨m0, hm0⟩ : ∃ z, (nuL (RS s cs) ar).getD 0 0 = z := ⟨_, rfl⟩
      obtain ⟨m1, hm1⟩ : ∃ z, (nuL (RS s cs) ar).getD 1 0 = z := ⟨_, rfl⟩
      obtain ⟨m2, hm2⟩ : ∃ z, (nuL (RS s cs) ar).getD 2 0 = z := ⟨_, rfl⟩
      obtain ⟨m3, hm3⟩ : ∃ z, (nuL (RS s cs) ar).getD 3 0 = z := ⟨_, rfl⟩
      obtain ⟨m4, hm4⟩ : ∃ z, (nuL (RS s cs) ar).getD 4 0 = z := ⟨_, rfl⟩
      obtain ⟨m5, hm5⟩ : ∃ z, (nuL (RS s cs) ar).getD 5 0 = z := ⟨_, rfl⟩
      unfold c6 at hY
      rw [hm0, hm1, hm2, hm3, hm4, hm5] at hY
      have HCC : Hid (c6 (nuL (RS s cs) ar) = [.int .i64 m0, .int .i64 m1, .int .i64 m2, .int .i64 m3, .int .i64 m4, .int .i64 m5]) := by
        show _ = _
        unfold c6
        rw [hm0, hm1, hm2, hm3, hm4, hm5]
      clear hm0 hm1 hm2 hm3 hm4 hm5
      obtain ⟨⟨s0, s1, s2, s3, s4, s5⟩, -⟩ := hY.six6
      obtain ⟨⟨z0, z1, z2, z3, z4, z5⟩, f0, f1, f2, f3, f4, f5⟩ := hX2.six6
      obtain ⟨V, hV⟩ : ∃ V, V = ((((((wr.setCell ⟨w.heap.size + 1, 0, none⟩ (.int .i64 m0)).setCell ⟨w.heap.size + 1, 1, none⟩ (.int .i64 m1)).setCell ⟨w.heap.size + 1, 2, none⟩ (.int .i64 m2)).setCell ⟨w.heap.size + 1, 3, none⟩ (.int .i64 m3)).setCell ⟨w.heap.size + 1, 4, none⟩ (.int .i64 m4)).setCell ⟨w.heap.size + 1, 5, none⟩ (.int .i64 m5)) := ⟨_, rfl⟩
      have A := hX2.set6 (.int .i64 m0) (.int .i64 m1) (.int .i64 m2) (.int .i64 m3) (.int .i64 m4) (.int .i64 m5)
      have hbV := below_set6 hB (g := w.heap.size + 1) (Nat.le_succ _) (.int .i64 m0) (.int .i64 m1) (.int .i64 m2) (.int .i64 m3) (.int .i64 m4) (.int .i64 m5)
      rw [← hV] at A hbV
      clear hY hX1 hX2 hB
      go_wp2
      rw [← hV]
      clear hV
      (try simp only [Exit.inBlock, Exit.then])
      refine bodyPost_ret (v := .tuple #[.agg #[.int .i64 m0, .int .i64 m1, .int .i64 m2, .int .i64 m3, .int .i64 m4, .int .i64 m5], .int .i64 0]) (by obtain ⟨⟨r0, r1, r2, r3, r4, r5⟩, _⟩ := A.six6; simp [results, Try.results24, go_sem, r0, r1, r2, r3, r4, r5]) rfl ⟨by rw [HRU.out, HOK.out, HCC.out], hbV⟩

end Go.Proofs.Ytkbbdkecillnpaa

namespace Go.Proofs.Ytkbbdkecillnpaa
open Go.RowKit Go.Maps
set_option linter.unusedSimpArgs false
set_option linter.unusedVariables false

theorem wrap_i16' (z : Int) : IntKind.i16.wrap z = if 32768 ≤ z % 65536 then z % 65536 - 65536 else z % 65536 := by
  simp [IntKind.wrap, IntKind.bits, IntKind.signed]

set_option maxHeartbeats 400000 in
set_option maxRecDepth 100000 in
theorem wrap16_fd' (z : Int) : (IntKind.i16.wrap z != z) = !fdB z := by
  rw [wrap_i16', fdB, Bool.eq_iff_iff, bne_iff_ne, Bool.not_eq_true', decide_eq_false_iff_not]
  split <;> omega
theorem wrap64_16 (z : Int) : IntKind.i64.wrap (IntKind.i16.wrap z) = IntKind.i16.wrap z := by
  rw [wrap_i16']
  simp only [IntKind.wrap, IntKind.bits, IntKind.signed]
  split <;> (simp; omega)
theorem all_no' {α : Type} {p : α → Bool} {r : List α} {d : α} {k : Nat} (hk : k < r.length) (h : p (r.getD k d) = false) : r.all p = false := by
  rw [Bool.eq_false_iff]
  intro e
  have := List.all_eq_true.1 e (r.getD k d) (get_mem hk)
  rw [h] at this
  cases this
theorem all_yes' {α : Type} {p : α → Bool} {r : List α} {d : α} (h : ∀ j, j < r.length → p (r.getD j d) = true) : r.all p = true := by
  rw [List.all_eq_true]
  exact of_get h
theorem upto_succ {p : Nat → Prop} {k : Nat} (h : ∀ j, j < k → p j) (h1 : p k) : ∀ j, j < k + 1 → p j := fun j hj => by
  rcases Nat.lt_or_ge j k with h2 | h2
  · exact h j h2
  · rw [show j = k by omega]; exact h1

/-- Two ints laid in a block. -/
theorem ri_two (w : World) (x y : Int) (hx : I64 x) (hy : I64 y) : Ri (w.alloc (.cells #[.int .i64 x, .int .i64 y] 3)) (some ⟨w.heap.size, 0, none⟩) 2 [x, y] := by
  have hN := heap_alloc_new w (.cells #[.int .i64 x, .int .i64 y] 3)
  refine ⟨fun z hz => ?_, Nat.le_refl _, by unfold maxLen; omega, .inr ⟨w.heap.size, 0, rfl, by simp, fun i hi => ?_⟩⟩
  · simp at hz
    rcases hz with rfl | rfl
    · exact hx
    · exact hy
  · match i, hi with
    | 0, _ => exact cell_of_row _ w.heap.size 0 _ _ (0, 0) hN
    | 1, _ => exact cell_of_row _ w.heap.size 1 _ _ (0, 0) hN
theorem two_all (x y : Int) : [x, y].all fdB = (fdB x && fdB y) := by simp

theorem flat_take_succ {cs : List (List Pn)} {k : Nat} (hk : k < cs.length) : ((cs.take (k + 1)).flatten).length = ((cs.take k).flatten).length + (cs.getD k []).length := by
  rw [take_snoc (d := []) hk, List.flatten_append, List.length_append, List.flatten_singleton]
theorem flat_take_le (cs : List (List Pn)) (k : Nat) : ((cs.take k).flatten).length ≤ cs.flatten.length := by
  conv => rhs; rw [← List.take_append_drop k cs, List.flatten_append, List.length_append]
  omega
/-- Whether contours are formed. -/
def coF (cs : List (List Pn)) : Bool := decide (cs.length ≤ 10) && (cs.all (fun c => decide (0 < c.length)) && (decide (cs.flatten.length ≤ 80) && cs.flatten.all pnF))
theorem coF_no {cs : List (List Pn)} (h : ¬ (cs.length ≤ 10 ∧ (∀ c ∈ cs, 0 < c.length) ∧ cs.flatten.length ≤ 80 ∧ ∀ c ∈ cs, c.all pnF = true)) : coF cs = false := by
  rw [Bool.eq_false_iff]
  intro e
  unfold coF at e
  simp only [Bool.and_eq_true, decide_eq_true_iff, List.all_eq_true] at e
  refine h ⟨e.1, e.2.1, e.2.2.1, fun c hc => List.all_eq_true.2 fun p hp => e.2.2.2 p (List.mem_flatten.2 ⟨c, hc, hp⟩)⟩
theorem coF_yes {cs : List (List Pn)} (h1 : cs.length ≤ 10) (h2 : ∀ j, j < cs.length → 0 < (cs.getD j []).length ∧ (cs.getD j []).all pnF = true) (h3 : cs.flatten.length ≤ 80) : coF cs = true := by
  unfold coF
  simp only [Bool.and_eq_true, decide_eq_true_iff, List.all_eq_true]
  refine ⟨h1, fun c hc => (of_get (p := fun c => 0 < c.length ∧ c.all pnF = true) h2 c hc).1, h3, fun p hp => ?_⟩
  obtain ⟨c, hc, hpc⟩ := List.mem_flatten.1 hp
  exact List.all_eq_true.1 (of_get (p := fun c => 0 < c.length ∧ c.all pnF = true) h2 c hc).2 p hpc

end Go.Proofs.Ytkbbdkecillnpaa

namespace Go.Proofs.Ytkbbdkecillnpaa
open Go.RowKit Go.Maps
set_option linter.unusedSimpArgs false
set_option linter.unusedVariables false

theorem foB_eq (o : Ol) : foB o = (!(decide (0 < o.ps.length) && decide (0 < o.cs.length)) && (coF o.cs && (decide (o.ps.length ≤ 6) && o.ps.all paF))) := by
  unfold foB coF
  generalize decide (0 < o.cs.length) = b1
  generalize decide (0 < o.ps.length) = b2
  generalize decide (o.cs.length ≤ 10) = b3
  generalize decide (o.ps.length ≤ 6) = b4
  generalize o.cs.all _ = b5
  generalize decide (o.cs.flatten.length ≤ 80) = b6
  generalize o.cs.flatten.all pnF = b7
  generalize o.ps.all paF = b8
  revert b1 b2 b3 b4 b5 b6 b7 b8
  decide

theorem zero_size (z : Array Value) (n : Nat) : (Builtin.zeroCells z n).size = n * z.size := by simp [Builtin.zeroCells]

theorem Gr.anyP {S S' : Nat → Prop} {w : World} {a : Option Addr} {cap : Nat} {l : List Pn} (h : Gr PnE S w a cap l) : Gr PnE S' w a cap l := by
  refine ⟨h.1, h.2.1, h.2.2.1, fun i hi => ?_⟩
  obtain ⟨b, off, vs, e, hb, hr, hc⟩ := h.2.2.2 i hi
  exact ⟨b, off, vs, e, hb, PnE_rep.2 (PnE_rep.1 hr), hc⟩
theorem Gr.anyA {S S' : Nat → Prop} {w : World} {a : Option Addr} {cap : Nat} {l : List Pa} (h : Gr PaE S w a cap l) : Gr PaE S' w a cap l := by
  refine ⟨h.1, h.2.1, h.2.2.1, fun i hi => ?_⟩
  obtain ⟨b, off, vs, e, hb, hr, hc⟩ := h.2.2.2 i hi
  exact ⟨b, off, vs, e, hb, PaE_rep.2 (PaE_rep.1 hr), hc⟩
theorem flat_take_snoc {cs : List (List Pn)} {k : Nat} {c : List Pn} (hk : k < cs.length) (hc : cs.getD k [] = c) : (cs.take (k + 1)).flatten = (cs.take k).flatten ++ c := by
  rw [take_snoc (d := []) hk, List.flatten_append, List.flatten_singleton, hc]

theorem endF_take {cs : List (List Pn)} {k : Nat} {c : List Pn} (hk : k < cs.length) (hc : cs.getD k [] = c) : endF 0 (cs.take (k + 1)) = endF 0 (cs.take k) ++ [(((cs.take k).flatten).length : Int) + (c.length : Int) - 1] := by
  rw [take_snoc (d := []) hk, endF_append, hc]
  simp [endF]

end Go.Proofs.Ytkbbdkecillnpaa

namespace Go.Proofs.Ytkbbdkecillnpaa
open Go.RowKit Go.Maps
set_option linter.unusedSimpArgs false
set_option linter.unusedVariables false

/-- A row of ints of the call's own. -/
def Gi (base : Nat) (w : World) (v : Value) (l : List Int) : Prop := Gw El.int 3 base (fun _ => False) w v l
theorem Gi.nil (base : Nat) (w : World) : Gi base w (.slice none 0 0) [] := Gw.nil _ _ _ _ _
theorem Gi.lo {base : Nat} {w : World} {v : Value} {l : List Int} (h : Gi base w v l) {g : Nat} (hg : v.ownBlock = some g) : base ≤ g ∧ g < w.heap.size := Gw.lo h hg
theorem Gr.ri {S : Nat → Prop} {w : World} {a : Option Addr} {cap : Nat} {l : List Int} (h : Gr El.int S w a cap l) : Ri w a cap l := by
  have hz : ∀ i, i < l.length → I64 (l.getD i 0) := fun i hi => by
    obtain ⟨b, off, vs, e, hb, hr, hc⟩ := h.2.2.2 i hi
    exact hr.2
  refine ⟨fun z hz1 => ?_, h.1, h.2.1, ?_⟩
  · obtain ⟨i, hi, e⟩ := List.getElem_of_mem hz1
    have := hz i hi
    rw [List.getD_eq_getElem?_getD, List.getElem?_eq_getElem hi, Option.getD_some, e] at this
    exact this
  · by_cases h0 : l = []
    · exact .inl h0
    · obtain ⟨b, off, e, hb⟩ := h.blk h0
      refine .inr ⟨b, off, e, hb, fun i hi => ?_⟩
      obtain ⟨b', off', vs, e', hb', hr, hc⟩ := h.2.2.2 i hi
      rw [e] at e'
      cases e'
      have := hc 0 Nat.one_pos
      rw [hr.1, show i * El.int.sz = i from Nat.mul_one i] at this
      exact this
theorem Gi.slice {base : Nat} {w : World} {v : Value} {l : List Int} (h : Gi base w v l) : ∃ a cap, v = .slice a l.length cap ∧ Ri w a cap l ∧ ∀ b o, a = some ⟨b, o, none⟩ → base ≤ b ∧ b < w.heap.size := by
  obtain ⟨a, cap, e, hg, hb⟩ := Gw.slice h
  exact ⟨a, cap, e, hg.ri, hb⟩
theorem Gi.stay {base : Nat} {w w' : World} {v : Value} {l : List Int} (h : Gi base w v l) (hs : w.heap.size ≤ w'.heap.size) (ho : ∀ k, v.ownBlock = some k → w'.heap[k]? = w.heap[k]?) : Gi base w' v l :=
  Gw.stay h hs (fun k hk => hk.elim) ho
theorem Gi.below {base : Nat} {w w' : World} {v : Value} {l : List Int} (h : Gi base w v l) (hb : Below w.heap.size w w') : Gi base w' v l := Gw.below h hb
theorem Gi.grown {base : Nat} {w w' : World} {v : Value} {l : List Int} {r : Option Nat} (h : Gi base w v l) (hg : w.grownBy w' r) (hr : ∀ k, v.ownBlock = some k → r ≠ some k) : Gi base w' v l :=
  h.stay hg.size (fun k hk => hg.block k (h.lo hk).2 (fun e => hr k hk e.symm))
/-- Such a row, and a block of another type. -/
theorem Gi.ne {base : Nat} {w : World} {v : Value} {l : List Int} {t : TypeId} {g : Nat} {cs : List Value} (h : Gi base w v l) (hb : Bk t w g cs) (ht : t ≠ 3) : v.ownBlock ≠ some g := by
  intro e
  obtain ⟨cur, k⟩ := Gw.ty h e
  rw [hb] at k
  simp at k
  exact ht k.2
theorem Gi.set {base : Nat} {w : World} {v : Value} {l : List Int} {t : TypeId} {g : Nat} {cs : List Value} (h : Gi base w v l) (hb : Bk t w g cs) (ht : t ≠ 3) (j : Nat) (z : Value) : Gi base (w.setCell ⟨g, j, none⟩ z) v l :=
  h.stay (by simp [World.setCell]) (fun k hk => Below.heap_setCell _ _ _ _ (fun e => h.ne hb ht (by rw [hk, e])))
/-- 'append(v, z)': z is laid in a block of its own first. -/
theorem wpList_append_gi {w : World} {ops : Array Oper} {rest : List Oper} {o : Oper} {a : Act} {Q : Exit → Act → World → Prop}
    (hgd : o.guard = none) (s x : Operand) (ho : o.op = .call { callee := .builtin .append, args := #[s, x], argTypes := #[40, 40] })
    (base : Nat) (v : Value) (l : List Int) (hs : a.eval s = v) (hown : Gi base w v l) (g : Nat) (z : Int) (hx : a.eval x = .slice (some ⟨g, 0, none⟩) 1 1)
    (hg : g < w.heap.size) (c0 : w.cell? ⟨g, 0, none⟩ = some (.int .i64 z)) (hz : I64 z) (hlen : l.length + 1 ≤ 1000000) (hbase : base ≤ w.heap.size)
    (h : ∀ v' w', Gi base w' v' (l ++ [z]) → w.grownBy w' v.ownBlock → (v'.ownBlock = v.ownBlock ∨ v'.ownBlock = some w.heap.size) → wpList Try.prog ops Q rest (a.put o.dst v') w') : wpList Try.prog ops Q (o :: rest) a w := by
  refine wpList_append_el 40 3 Try.underlying40 infoA_i64 rfl Nat.one_pos (by decide) hgd s x ho base (fun _ => False) v l hs hown (some ⟨g, 0, none⟩) 1 1 [z] rfl hx ?_ hlen hbase (fun v' w' k1 k2 k3 => h v' w' k1 k2 k3)
  refine Gr.one (vs := [.int .i64 z]) ⟨rfl, hz⟩ hg (fun j hj => ?_)
  obtain rfl : j = 0 := by simp [El.int, El.num] at hj; exact hj
  exact c0

end Go.Proofs.Ytkbbdkecillnpaa
