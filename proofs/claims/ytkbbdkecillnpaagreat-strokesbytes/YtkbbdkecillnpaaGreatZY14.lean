/-
  ratio.magnitude, Whole, counted, reduced, Make: the walks.
  ratio.Make, times: the walks.
  ratio.minus, sign, Add, Sub, Mul, Quo, Cmp, Sign: the walks.
-/
import Derived.Test.YtkbbdkecillnpaaGreatZY13
import Derived.Deep.RegionHeld3
namespace Go.Proofs.YtkbbdkecillnpaaGreat
open Go.RowKit Classical
set_option linter.unusedSimpArgs false
set_option linter.unusedVariables false

theorem wf_i64_bounds {n : Int} (h : (Lit.int .i64 n).wf = true) : -9223372036854775808 ≤ n ∧ n < 9223372036854775808 := by
  simp [Lit.wf, IntKind.min, IntKind.max, IntKind.bits, IntKind.signed] at h
  omega

/-- Block b holds three cells, and may be written. -/
def Box (t : TypeId) (w : World) (b : Nat) (x y z : Value) : Prop := w.heap[b]? = some (.cells #[x, y, z] t (0, 0))
theorem Box.lt {t : TypeId} {w : World} {b : Nat} {x y z : Value} (h : Box t w b x y z) : b < w.heap.size := (Array.getElem?_eq_some_iff.1 h).1
theorem Box.below {t : TypeId} {w w' : World} {b : Nat} {x y z : Value} (h : Box t w b x y z) (hb : Below w.heap.size w w') : Box t w' b x y z := (hb.block b h.lt).trans h
theorem Box.cells {t : TypeId} {w : World} {b : Nat} {x y z : Value} (h : Box t w b x y z) :
    w.cell? ⟨b, 0, none⟩ = some x ∧ w.cell? ⟨b, 1, none⟩ = some y ∧ w.cell? ⟨b, 2, none⟩ = some z ∧ w.frozen? ⟨b, 0, none⟩ = false ∧ w.frozen? ⟨b, 1, none⟩ = false ∧ w.frozen? ⟨b, 2, none⟩ = false := by
  refine ⟨cell_of_row w b 0 _ t (0, 0) h, cell_of_row w b 1 _ t (0, 0) h, cell_of_row w b 2 _ t (0, 0) h, frozen_of_row w b 0 _ t h, frozen_of_row w b 1 _ t h, frozen_of_row w b 2 _ t h⟩
theorem Box.new (t : TypeId) (w : World) (x y z : Value) : Box t (w.alloc (.cells #[x, y, z] t)) w.heap.size x y z := heap_alloc_new w (.cells #[x, y, z] t)
theorem Box.alloc {t : TypeId} {w : World} {b : Nat} {x y z : Value} (h : Box t w b x y z) (o : Obj) : Box t (w.alloc o) b x y z := h.below ((Below.refl _ _).alloc (Nat.le_refl _) o)

theorem al1 {w : World} (o : Obj) : Below w.heap.size w (w.alloc o) := (Below.refl _ _).alloc (Nat.le_refl _) o
theorem al2 {w : World} (o o' : Obj) : Below w.heap.size w ((w.alloc o).alloc o') := (al1 o).alloc (by simp) o'
theorem al3 {w : World} (o o' o'' : Obj) : Below w.heap.size w (((w.alloc o).alloc o').alloc o'') := (al2 o o').alloc (by simp; omega) o''
theorem Box.new1 (t : TypeId) (w : World) (o : Obj) (x y z : Value) : Box t ((w.alloc o).alloc (.cells #[x, y, z] t)) (w.heap.size + 1) x y z := by
  have h := Box.new t (w.alloc o) x y z
  simpa using h
theorem Box.new2 (t : TypeId) (w : World) (o o' : Obj) (x y z : Value) : Box t (((w.alloc o).alloc o').alloc (.cells #[x, y, z] t)) (w.heap.size + 1 + 1) x y z := by
  have h := Box.new t ((w.alloc o).alloc o') x y z
  simpa using h

/-- Behind the first call of a function with one parameter in a block. -/
theorem after1 {t : TypeId} {w u : World} {x y z : Value} (hb : Below (w.alloc (.cells #[x, y, z] t)).heap.size (w.alloc (.cells #[x, y, z] t)) u) :
    Box t u w.heap.size x y z ∧ Below w.heap.size w u :=
  ⟨(Box.new _ _ _ _ _).below hb, (al1 _).trans (hb.mono (by simp))⟩
/-- .. with two blocks. -/
theorem after2 {t s : TypeId} {w u : World} {x y z x' y' z' : Value} (hb : Below ((w.alloc (.cells #[x, y, z] t)).alloc (.cells #[x', y', z'] s)).heap.size ((w.alloc (.cells #[x, y, z] t)).alloc (.cells #[x', y', z'] s)) u) :
    Box t u w.heap.size x y z ∧ Box s u (w.heap.size + 1) x' y' z' ∧ Below w.heap.size w u :=
  ⟨((Box.new _ _ _ _ _).alloc _).below hb, (Box.new1 _ _ _ _ _ _).below hb, (al2 _ _).trans (hb.mono (by simp; omega))⟩
/-- .. with three. -/
theorem after3 {t s r : TypeId} {w u : World} {x y z x' y' z' x'' y'' z'' : Value} (hb : Below (((w.alloc (.cells #[x, y, z] t)).alloc (.cells #[x', y', z'] s)).alloc (.cells #[x'', y'', z''] r)).heap.size (((w.alloc (.cells #[x, y, z] t)).alloc (.cells #[x', y', z'] s)).alloc (.cells #[x'', y'', z''] r)) u) :
    Box t u w.heap.size x y z ∧ Box s u (w.heap.size + 1) x' y' z' ∧ Box r u (w.heap.size + 1 + 1) x'' y'' z'' ∧ Below w.heap.size w u :=
  ⟨(((Box.new _ _ _ _ _).alloc _).alloc _).below hb, ((Box.new1 _ _ _ _ _ _).alloc _).below hb, (Box.new2 _ _ _ _ _ _ _).below hb, (al3 _ _ _).trans (hb.mono (by simp; omega))⟩

/-- The world as it lies when three blocks are made. -/
theorem boxes3 (t s r : TypeId) (w : World) (x y z x' y' z' x'' y'' z'' : Value) :
    ∃ W, W = (((w.alloc (.cells #[x, y, z] t)).alloc (.cells #[x', y', z'] s)).alloc (.cells #[x'', y'', z''] r)) ∧ Box t W w.heap.size x y z ∧ Box s W (w.heap.size + 1) x' y' z' ∧ Box r W (w.heap.size + 1 + 1) x'' y'' z'' ∧ Below w.heap.size w W :=
  ⟨_, rfl, after3 (Below.refl _ _)⟩
theorem boxes2 (t s : TypeId) (w : World) (x y z x' y' z' : Value) :
    ∃ W, W = ((w.alloc (.cells #[x, y, z] t)).alloc (.cells #[x', y', z'] s)) ∧ Box t W w.heap.size x y z ∧ Box s W (w.heap.size + 1) x' y' z' ∧ Below w.heap.size w W :=
  ⟨_, rfl, after2 (Below.refl _ _)⟩

theorem Box.set3 {t : TypeId} {w : World} {b : Nat} {x y z : Value} (h : Box t w b x y z) (x' y' z' : Value) :
    Box t (((w.setCell ⟨b, 0, none⟩ x').setCell ⟨b, 1, none⟩ y').setCell ⟨b, 2, none⟩ z') b x' y' z' := by
  have h1 := heap_setCell_same w b 0 _ t x' h
  have h2 := heap_setCell_same _ b 1 _ t y' h1
  have h3 := heap_setCell_same _ b 2 _ t z' h2
  exact h3
theorem Box.set0 {t : TypeId} {w : World} {b : Nat} {x y z : Value} (h : Box t w b x y z) (x' : Value) : Box t (w.setCell ⟨b, 0, none⟩ x') b x' y z :=
  heap_setCell_same w b 0 _ t x' h
theorem below_set3 {B b : Nat} {w u : World} (h : Below B w u) (hb : B ≤ b) (x' y' z' : Value) : Below B w (((u.setCell ⟨b, 0, none⟩ x').setCell ⟨b, 1, none⟩ y').setCell ⟨b, 2, none⟩ z') :=
  ((h.setCell (p := ⟨b, 0, none⟩) hb x').setCell (p := ⟨b, 1, none⟩) hb y').setCell (p := ⟨b, 2, none⟩) hb z'

/-- No limb lies in a fraction's own block. -/
theorem Rd.apart {t : TypeId} {u U : World} {b : Nat} {n : Bool} {a a' : Option Addr} {l c l' c' : Nat} (B : Box t u b (.bool n) (.slice a l c) (.slice a' l' c')) (hs : u.heap.size ≤ U.heap.size)
    (hU : ∀ k, k ≠ b → U.heap[k]? = u.heap[k]?) {r : Option Addr} {cp : Nat} {xs : List Nat} (h : Rd u r cp xs) : Rd U r cp xs := by
  obtain ⟨h1, h2, h3, h5, h4⟩ := h
  refine ⟨h1, h2, h3, h5, ?_⟩
  rcases h4 with h4 | ⟨g, off, e, hg, hc⟩
  · exact .inl h4
  · by_cases hx : xs = []
    · exact .inl hx
    refine .inr ⟨g, off, e, Nat.lt_of_lt_of_le hg hs, fun i hi => ?_⟩
    have hne : g ≠ b := by
      rintro rfl
      have hc0 := hc 0 (List.length_pos_iff.2 hx)
      have hb := cell_of_row u g (off + 0) _ t (0, 0) B
      rw [hc0] at hb
      match off, hb with
      | 0, hb => simp at hb
      | 1, hb => simp at hb
      | 2, hb => simp at hb
      | (k + 3), hb => simp at hb
    exact (World.cell?_of_block (w := u) (a := ⟨g, off + i, none⟩) (hU g hne)).trans (hc i hi)

theorem set3_other (u : World) (b : Nat) (x y z : Value) (k : Nat) (hk : k ≠ b) : (((u.setCell ⟨b, 0, none⟩ x).setCell ⟨b, 1, none⟩ y).setCell ⟨b, 2, none⟩ z).heap[k]? = u.heap[k]? := by
  rw [Below.heap_setCell _ ⟨b, 2, none⟩ z k hk, Below.heap_setCell _ ⟨b, 1, none⟩ y k hk, Below.heap_setCell _ ⟨b, 0, none⟩ x k hk]

theorem cell_set3 {u : World} {b : Nat} {x y z : Value} {k i : Nat} (hk : k ≠ b) : (((u.setCell ⟨b, 0, none⟩ x).setCell ⟨b, 1, none⟩ y).setCell ⟨b, 2, none⟩ z).cell? ⟨k, i, none⟩ = u.cell? ⟨k, i, none⟩ :=
  World.cell?_of_block (w := u) (a := ⟨k, i, none⟩) (set3_other u b x y z k hk)

/-- A fraction is handed back out of its block. -/
theorem ret3 {P : Program} {fn : Func} {R : Ending → World → Prop} {ac : Act} {t : TypeId} {u : World} {b : Nat} {n : Bool} {a a' : Option Addr} {l c l' c' : Nat} {x' y' z' v : Value} (B : Box t u b (.bool n) (.slice a l c) (.slice a' l' c'))
    (hd : ac.defers = []) (hr : ∀ U, Box t U b x' y' z' → (results fn ac.tmps).run P U = .ok v U)
    (hR : ∀ U, (∀ B w, Below B w u → B ≤ b → Below B w U) → (∀ a c xs, Rd u a c xs → Rd U a c xs) → R (.returned v) U) :
    bodyPost P fn R .ret ac (((u.setCell ⟨b, 0, none⟩ x').setCell ⟨b, 1, none⟩ y').setCell ⟨b, 2, none⟩ z') :=
  bodyPost_ret (hr _ (B.set3 x' y' z')) hd (hR _ (fun _ _ h hb => below_set3 h hb x' y' z') fun _ _ _ h => Rd.apart B (by simp [World.setCell]) (set3_other u b x' y' z') h)

theorem wrap_u64 (z : Int) : IntKind.u64.wrap z = z % 18446744073709551616 := by
  unfold IntKind.wrap; simp [IntKind.bits, IntKind.signed]

set_option maxHeartbeats 400000 in
set_option maxRecDepth 100000 in
theorem mag_any (z : Int) (w : World) (h1 : -9223372036854775808 ≤ z) (h2 : z < 9223372036854775808) :
    Calls Tryz.prog 85 #[.int .i64 z] w fun e w' => e = .returned (.int .u64 (z.natAbs : Nat)) ∧ w = w' := by
  by_cases hz : z < 0
  · go_enter Tryz.func85, Tryz.ntmps85
    go_wp2
    go_ret
    exact ⟨by simp [wrap_u64]; omega, rfl⟩
  · go_enter Tryz.func85, Tryz.ntmps85
    go_wp2
    go_ret
    exact ⟨by simp [wrap_u64]; omega, rfl⟩

set_option maxHeartbeats 1000000 in
set_option maxRecDepth 100000 in
theorem reduced_any (k : Nat) (q : Rat) (v : Value) (w : World) (h : Lo w v k q) (hk : k ≤ 400000000) :
    Calls Tryz.prog 84 #[v] w fun e w' => ∃ v', e = .returned v' ∧ Fr w' v' k q ∧ Below w.heap.size w w' := by
  obtain ⟨n, xs, ys, ⟨a, c, a', c', rfl, hx, hy⟩, tx, ty, y0, lx, ly, rfl⟩ := h
  have hx0 := hx.lim
  have hy0 := hy.lim
  go_enter Tryz.func84, Tryz.ntmps84
  go_wp2_with fail
  refine (gcd_any _ _ _ _ _ _ _ (hx.below (al2 _ _)) (hy.below (al2 _ _)) (by omega) (by omega)).mono ?_
  rintro e u1 ⟨a1, c1, gs, rfl, hv1, ht1, hr1, hb1⟩
  replace hx := (hx.below (al2 _ _)).below hb1
  replace hy := (hy.below (al2 _ _)).below hb1
  obtain ⟨B1, B2, hbW⟩ := after2 hb1
  have rg := hr1.rd
  have g0 : V gs ≠ 0 := by rw [hv1]; exact fun h => y0 (Nat.gcd_eq_zero_iff.1 h).2
  have lg : gs.length ≤ k := by
    refine len_le_of_V ht1 ?_
    have h1 := V_lt hy.lim
    have h2 : V gs ≤ V ys := by rw [hv1]; exact Nat.gcd_le_right _ (by omega)
    have h3 : 4294967296 ^ ys.length ≤ 4294967296 ^ k := Nat.pow_le_pow_right (by decide) ly
    omega
  clear hr1 hb1
  obtain ⟨p1, p2, p3, _⟩ := B1.cells
  go_wp2_with fail
  refine (div_any _ _ _ _ _ _ _ hx rg (by omega) (by omega)).mono ?_
  rintro e u2 ⟨a2, c2, ps, a3, c3, rs, rfl, hv2, hv3, ht2, ht3, hr2, hr3, hb2⟩
  have rp := hr2.rd
  replace hy := hy.below hb2
  replace rg := rg.below hb2
  replace B1 := B1.below hb2
  replace B2 := B2.below hb2
  replace hbW : Below w.heap.size w u2 := hbW.trans (hb2.mono hbW.size)
  clear hb2 hr2 hr3 hv3 ht3 p1 p2 p3 hx
  obtain ⟨p1, p2, p3, _⟩ := B1.cells
  go_wp2_with fail
  refine (div_any _ _ _ _ _ _ _ hy rg (by omega) (by omega)).mono ?_
  rintro e u3 ⟨a4, c4, qs, a5, c5, rs', rfl, hv4, hv5, ht4, ht5, hr4, hr5, hb3⟩
  have rq := hr4.rd
  replace rp := rp.below hb3
  replace B1 := B1.below hb3
  replace B2 := B2.below hb3
  replace hbW : Below w.heap.size w u3 := hbW.trans (hb3.mono hbW.size)
  clear hb3 hr4 hr5 hv5 ht5 p1 p2 p3 hy rg
  obtain ⟨p1, p2, p3, _⟩ := B1.cells
  obtain ⟨q1, q2, q3, q4, q5, q6⟩ := B2.cells
  have hs := B2.lt
  have hF := fmd_reduced (n := n) (xs := xs) (ys := ys) y0 ht2 ht4 (by rw [hv2, hv1]) (by rw [hv4, hv1])
  have lp : ps.length ≤ k := by
    refine len_le_of_V ht2 ?_
    have h1 := V_lt hx0
    have h2 : V ps ≤ V xs := by rw [hv2]; exact Nat.div_le_self _ _
    have h3 : 4294967296 ^ xs.length ≤ 4294967296 ^ k := Nat.pow_le_pow_right (by decide) lx
    omega
  have lq : qs.length ≤ k := by
    refine len_le_of_V ht4 ?_
    have h1 := V_lt hy0
    have h2 : V qs ≤ V ys := by rw [hv4]; exact Nat.div_le_self _ _
    have h3 : 4294967296 ^ ys.length ≤ 4294967296 ^ k := Nat.pow_le_pow_right (by decide) ly
    omega
  have fin : ∀ (m : Bool), m = (n && decide (0 < ps.length)) → ∀ (U : World), (∀ a c xs, Rd u3 a c xs → Rd U a c xs) → Fr U (.agg #[.bool m, .slice a2 ps.length c2, .slice a4 qs.length c4]) k (qv n xs ys) := by
    rintro m rfl U hU
    exact ⟨_, ps, qs, ⟨_, _, _, _, rfl, hU _ _ _ rp, hU _ _ _ rq⟩, hF.1, lp, lq, hF.2⟩
  clear hF
  cases n with
  | false =>
    go_wp2
    refine ret3 (v := .agg #[.bool false, .slice a2 ps.length c2, .slice a4 qs.length c4]) B2 rfl (fun U hU => by obtain ⟨r1, r2, r3, _⟩ := hU.cells; simp [results, Tryz.results84, go_sem, r1, r2, r3]) (fun U hU hK => ⟨_, rfl, fin _ rfl U hK, hU _ _ hbW (by omega)⟩)
  | true =>
    go_wp2
    refine ret3 (v := .agg #[.bool (decide (0 < ps.length)), .slice a2 ps.length c2, .slice a4 qs.length c4]) B2 rfl (fun U hU => by obtain ⟨r1, r2, r3, _⟩ := hU.cells; simp [results, Tryz.results84, go_sem, r1, r2, r3]) (fun U hU hK => ⟨_, rfl, fin _ (by simp) U hK, hU _ _ hbW (by omega)⟩)

theorem sg_abs (z : Int) : sg (decide (z < 0)) z.natAbs = z := by
  unfold sg
  by_cases h : z < 0
  · rw [if_pos (by simpa using h)]; omega
  · rw [if_neg (by simpa using h)]; omega

theorem fmd_whole {z : Int} {xs ys : List Nat} (hx : V xs = z.natAbs) (hy : V ys = 1) (tx : Tr xs) (ty : Tr ys) : Fmd (decide (z < 0)) xs ys ∧ qv (decide (z < 0)) xs ys = (z : Rat) := by
  refine ⟨⟨tx, ty, ?_, ?_, by rw [hy]; simp⟩, ?_⟩
  · rintro rfl; simp [V] at hy
  · rintro ⟨h1, rfl⟩; simp [V] at h1 hx; omega
  · unfold qv; rw [hx, hy, sg_abs]; exact Rat.mkRat_one z

theorem len_two {xs : List Nat} (t : Tr xs) (h : V xs < 18446744073709551616) : xs.length ≤ 2 := len_le_of_V t h

set_option maxHeartbeats 1000000 in
set_option maxRecDepth 100000 in
theorem whole_any (z : Int) (w : World) (h1 : -9223372036854775808 ≤ z) (h2 : z < 9223372036854775808) :
    Calls Tryz.prog 73 #[.int .i64 z] w fun e w' => ∃ v', e = .returned v' ∧ Fr w' v' 2 (z : Rat) ∧ Below w.heap.size w w' := by
  go_enter Tryz.func73, Tryz.ntmps73
  go_wp2_with fail
  refine (mag_any z _ h1 h2).mono ?_
  rintro e u ⟨rfl, rfl⟩
  go_wp2_with fail
  refine (of_any z.natAbs _ (by omega)).mono ?_
  rintro e u1 ⟨a1, c1, xs, rfl, hv1, ht1, hr1, hb1⟩
  obtain ⟨B1, hbW⟩ := after1 hb1
  have rx := hr1.rd
  clear hr1 hb1
  go_wp2_with fail
  refine (of_any 1 _ (by omega)).mono ?_
  rintro e u2 ⟨a2, c2, ys, rfl, hv2, ht2, hr2, hb2⟩
  have ry := hr2.rd
  replace rx := rx.below hb2
  replace B1 := B1.below hb2
  replace hbW : Below w.heap.size w u2 := hbW.trans (hb2.mono hbW.size)
  clear hr2 hb2
  obtain ⟨q1, q2, q3, q4, q5, q6⟩ := B1.cells
  have hs := B1.lt
  go_wp2
  have hF := fmd_whole hv1 hv2 ht1 ht2
  refine ret3 (v := .agg #[.bool (decide (z < 0)), .slice a1 xs.length c1, .slice a2 ys.length c2]) B1 rfl (fun U hU => by obtain ⟨r1, r2, r3, _⟩ := hU.cells; simp [results, Tryz.results73, go_sem, r1, r2, r3]) (fun U hU hK => ⟨_, rfl, ⟨_, _, _, ⟨_, _, _, _, rfl, hK _ _ _ rx, hK _ _ _ ry⟩, hF.1, len_two ht1 (by omega), len_two ht2 (by omega), hF.2⟩, hU _ _ hbW (by omega)⟩)

set_option maxHeartbeats 1000000 in
set_option maxRecDepth 100000 in
theorem counted_any (k : Nat) (q : Rat) (v : Value) (w : World) (h : Ct w v k q) (hk : k ≤ 400000000) (hk2 : 2 ≤ k) :
    Calls Tryz.prog 83 #[v] w fun e w' => ∃ v', e = .returned v' ∧ Fr w' v' k q ∧ Below w.heap.size w w' := by
  obtain ⟨n, xs, ys, ⟨a, c, a', c', rfl, hx, hy⟩, lx, ly, hq⟩ := h
  have HQ : Hid (q = if Fmd n xs ys then qv n xs ys else 0) := hq
  clear hq
  go_enter Tryz.func83, Tryz.ntmps83
  go_wp2_with fail
  refine (formed_any _ _ _ _ _ _ _ _ (hx.below (al2 _ _)) (hy.below (al2 _ _)) (by omega) (by omega)).mono ?_
  rintro e u1 ⟨rfl, hb1⟩
  replace hx := (hx.below (al2 _ _)).below hb1
  replace hy := (hy.below (al2 _ _)).below hb1
  obtain ⟨B1, B2, hbW⟩ := after2 hb1
  obtain ⟨p1, p2, p3, _⟩ := B1.cells
  obtain ⟨q1, q2, q3, q4, q5, q6⟩ := B2.cells
  have hs := B2.lt
  clear hb1
  by_cases hf : Fmd n xs ys
  · have e1 : decide (Fmd n xs ys) = true := decide_eq_true hf
    rw [e1]
    clear e1
    go_wp2
    refine ret3 (v := .agg #[.bool n, .slice a xs.length c, .slice a' ys.length c']) B2 rfl (fun U hU => by obtain ⟨r1, r2, r3, _⟩ := hU.cells; simp [results, Tryz.results83, go_sem, r1, r2, r3]) (fun U hU hK => ⟨_, rfl, ⟨_, _, _, ⟨_, _, _, _, rfl, hK _ _ _ hx, hK _ _ _ hy⟩, hf, lx, ly, by rw [HQ.out, if_pos hf]⟩, hU _ _ hbW (by omega)⟩)
  · have e1 : decide (Fmd n xs ys) = false := decide_eq_false hf
    rw [e1]
    clear e1
    go_wp2_with fail
    refine (whole_any 0 _ (by decide) (by decide)).mono ?_
    rintro e u2 ⟨v2, rfl, hF, hb2⟩
    replace B2 := B2.below hb2
    replace hbW : Below w.heap.size w u2 := hbW.trans (hb2.mono hbW.size)
    clear q1 q2 q3 q4 q5 q6
    obtain ⟨q1, q2, q3, q4, q5, q6⟩ := B2.cells
    have hs' := B2.lt
    obtain ⟨n', xs', ys', ⟨b, d, b', d', rfl, hx', hy'⟩, hf', lx', ly', he⟩ := hF
    go_wp2
    refine ret3 (v := .agg #[.bool n', .slice b xs'.length d, .slice b' ys'.length d']) B2 rfl (fun U hU => by obtain ⟨r1, r2, r3, _⟩ := hU.cells; simp [results, Tryz.results83, go_sem, r1, r2, r3]) (fun U hU hK => ⟨_, rfl, ⟨_, _, _, ⟨_, _, _, _, rfl, hK _ _ _ hx', hK _ _ _ hy'⟩, hf', by omega, by omega, by rw [HQ.out, if_neg hf, he]; rfl⟩, hU _ _ hbW (by omega)⟩)

end Go.Proofs.YtkbbdkecillnpaaGreat

namespace Go.Proofs.YtkbbdkecillnpaaGreat
open Go.RowKit
set_option linter.unusedSimpArgs false
set_option linter.unusedVariables false

theorem sg_mul (n m : Bool) (a b : Nat) : sg n a * sg m b = sg (!(n == m)) (a * b) := by
  cases n <;> cases m <;> simp [sg] <;> grind

theorem qv_make {z d : Int} {xs ys : List Nat} (hx : V xs = z.natAbs) (hy : V ys = d.natAbs) (hd : d ≠ 0) : qv (!(decide (z < 0) == decide (d < 0))) xs ys = (z : Rat) / (d : Rat) := by
  unfold qv
  rw [hx, hy, ← Rat.divInt_ofNat, ← Rat.divInt_eq_div, Rat.divInt_eq_divInt_iff (by omega) hd]
  have e : sg (!(decide (z < 0) == decide (d < 0))) z.natAbs = sg (decide (z < 0)) z.natAbs * sg (decide (d < 0)) 1 := by rw [sg_mul, Nat.mul_one]
  rw [e, sg_abs, Int.mul_assoc]
  congr 1
  unfold sg
  by_cases h : d < 0
  · simp [h]; omega
  · simp [h]; omega

theorem qv_times {n m : Bool} {xs ys ps qs rs ts : List Nat} (hr : V rs = V xs * V ps) (ht : V ts = V ys * V qs) : qv (!(n == m)) rs ts = qv n xs ys * qv m ps qs := by
  unfold qv
  rw [Rat.mkRat_mul_mkRat, sg_mul, hr, ht]

theorem qv_plus_same {n : Bool} {xs ys ps qs rs ts : List Nat} (hy : V ys ≠ 0) (hq : V qs ≠ 0) (hr : V rs = V xs * V qs + V ps * V ys) (ht : V ts = V ys * V qs) : qv n rs ts = qv n xs ys + qv n ps qs := by
  unfold qv
  rw [Rat.mkRat_add_mkRat _ _ hy hq, hr, ht]
  congr 1
  cases n <;> simp [sg] <;> grind
theorem qv_plus_less {n m : Bool} (hnm : n ≠ m) {xs ys ps qs rs ts : List Nat} (hy : V ys ≠ 0) (hq : V qs ≠ 0) (hl : V xs * V qs < V ps * V ys) (hr : V rs = V ps * V ys - V xs * V qs) (ht : V ts = V ys * V qs) : qv m rs ts = qv n xs ys + qv m ps qs := by
  unfold qv
  rw [Rat.mkRat_add_mkRat _ _ hy hq, hr, ht]
  congr 1
  cases n <;> cases m <;> simp [sg] at hnm ⊢ <;> grind
theorem qv_plus_more {n m : Bool} (hnm : n ≠ m) {xs ys ps qs rs ts : List Nat} (hy : V ys ≠ 0) (hq : V qs ≠ 0) (hl : ¬ V xs * V qs < V ps * V ys) (hr : V rs = V xs * V qs - V ps * V ys) (ht : V ts = V ys * V qs) : qv n rs ts = qv n xs ys + qv m ps qs := by
  unfold qv
  rw [Rat.mkRat_add_mkRat _ _ hy hq, hr, ht]
  congr 1
  cases n <;> cases m <;> simp [sg] at hnm ⊢ <;> grind

theorem V_len_le {xs : List Nat} (l : Lim xs) {k : Nat} (h : xs.length ≤ k) : V xs < 4294967296 ^ k :=
  Nat.lt_of_lt_of_le (V_lt l) (Nat.pow_le_pow_right (by decide) h)
theorem prod_len {xs ys zs : List Nat} (lx : Lim xs) (ly : Lim ys) (t : Tr zs) {k l : Nat} (hx : xs.length ≤ k) (hy : ys.length ≤ l) (h : V zs = V xs * V ys) : zs.length ≤ k + l := by
  refine len_le_of_V t ?_
  rw [h, Nat.pow_add]
  exact Nat.mul_lt_mul'' (V_len_le lx hx) (V_len_le ly hy)
theorem sum_len {xs ys zs : List Nat} (lx : Lim xs) (ly : Lim ys) (t : Tr zs) {k : Nat} (hx : xs.length ≤ k) (hy : ys.length ≤ k) (h : V zs ≤ V xs + V ys) : zs.length ≤ k + 1 := by
  refine len_le_of_V t ?_
  have h1 := V_len_le lx hx
  have h2 := V_len_le ly hy
  rw [Nat.pow_succ]
  omega

set_option maxHeartbeats 1000000 in
set_option maxRecDepth 100000 in
theorem make_any (z d : Int) (w : World) (h1 : -9223372036854775808 ≤ z) (h2 : z < 9223372036854775808) (h3 : -9223372036854775808 ≤ d) (h4 : d < 9223372036854775808) :
    Calls Tryz.prog 137 #[.int .i64 z, .int .i64 d] w fun e w' => ∃ v', e = .returned v' ∧ Fr w' v' 2 ((z : Rat) / (d : Rat)) ∧ Below w.heap.size w w' := by
  by_cases hd : d = 0
  · subst hd
    go_enter Tryz.func137, Tryz.ntmps137
    go_wp2_with fail
    refine (whole_any 0 _ (by decide) (by decide)).mono ?_
    rintro e u2 ⟨v2, rfl, hF, hb2⟩
    obtain ⟨B2, hbW⟩ := after1 hb2
    obtain ⟨q1, q2, q3, q4, q5, q6⟩ := B2.cells
    have hs' := B2.lt
    obtain ⟨n', xs', ys', ⟨b, d, b', d', rfl, hx', hy'⟩, hf', lx', ly', he⟩ := hF
    clear hb2
    go_wp2
    refine ret3 (v := .agg #[.bool n', .slice b xs'.length d, .slice b' ys'.length d']) B2 rfl (fun U hU => by obtain ⟨r1, r2, r3, _⟩ := hU.cells; simp [results, Tryz.results137, go_sem, r1, r2, r3]) (fun U hU hK => ⟨_, rfl, ⟨_, _, _, ⟨_, _, _, _, rfl, hK _ _ _ hx', hK _ _ _ hy'⟩, hf', by omega, by omega, by rw [he]; simp [Rat.div_def]⟩, hU _ _ hbW (by omega)⟩)
  · have hd0 : (d == 0) = false := beq_eq_false_iff_ne.2 hd
    go_enter Tryz.func137, Tryz.ntmps137
    go_wp2_with fail
    refine (mag_any z _ h1 h2).mono ?_
    rintro e u ⟨rfl, rfl⟩
    go_wp2_with fail
    refine (of_any z.natAbs _ (by omega)).mono ?_
    rintro e u1 ⟨a1, c1, xs, rfl, hv1, ht1, hr1, hb1⟩
    obtain ⟨B1, hbW⟩ := after1 hb1
    have rx := hr1.rd
    clear hr1 hb1
    go_wp2_with fail
    refine (mag_any d _ h3 h4).mono ?_
    rintro e u ⟨rfl, rfl⟩
    go_wp2_with fail
    refine (of_any d.natAbs _ (by omega)).mono ?_
    rintro e u2 ⟨a2, c2, ys, rfl, hv2, ht2, hr2, hb2⟩
    have ry := hr2.rd
    replace rx := rx.below hb2
    replace B1 := B1.below hb2
    replace hbW : Below w.heap.size w u2 := hbW.trans (hb2.mono hbW.size)
    clear hr2 hb2
    have hL : Lo u2 (.agg #[.bool (!(decide (z < 0) == decide (d < 0))), .slice a1 xs.length c1, .slice a2 ys.length c2]) 2 ((z : Rat) / (d : Rat)) :=
      ⟨_, _, _, ⟨_, _, _, _, rfl, rx, ry⟩, ht1, ht2, by omega, len_two ht1 (by omega), len_two ht2 (by omega), qv_make hv1 hv2 hd⟩
    go_wp2_with fail
    refine (reduced_any 2 _ _ _ hL (by decide)).mono ?_
    rintro e u3 ⟨v3, rfl, hF, hb3⟩
    replace B1 := B1.below hb3
    replace hbW : Below w.heap.size w u3 := hbW.trans (hb3.mono hbW.size)
    obtain ⟨q1, q2, q3, q4, q5, q6⟩ := B1.cells
    have hs' := B1.lt
    obtain ⟨n', xs', ys', ⟨b, d, b', d', rfl, hx', hy'⟩, hf', lx', ly', he⟩ := hF
    clear hb3 hL rx ry
    go_wp2
    refine ret3 (v := .agg #[.bool n', .slice b xs'.length d, .slice b' ys'.length d']) B1 rfl (fun U hU => by obtain ⟨r1, r2, r3, _⟩ := hU.cells; simp [results, Tryz.results137, go_sem, r1, r2, r3]) (fun U hU hK => ⟨_, rfl, ⟨_, _, _, ⟨_, _, _, _, rfl, hK _ _ _ hx', hK _ _ _ hy'⟩, hf', by omega, by omega, he⟩, hU _ _ hbW (by omega)⟩)

set_option maxHeartbeats 1000000 in
set_option maxRecDepth 100000 in
theorem times_any (k l : Nat) (q r : Rat) (v v' : Value) (w : World) (h : Lo w v k q) (h' : Lo w v' l r) (hk : k ≤ 100000000) (hl : l ≤ 100000000) :
    Calls Tryz.prog 113 #[v, v'] w fun e w' => ∃ v', e = .returned v' ∧ Lo w' v' (k + l) (q * r) ∧ Below w.heap.size w w' := by
  obtain ⟨n, xs, ys, ⟨a, c, a', c', rfl, hx, hy⟩, tx, ty, y0, lx, ly, rfl⟩ := h
  obtain ⟨m, ps, qs, ⟨b, d, b', d', rfl, hp, hq⟩, tp, tq, q0, lp, lq, rfl⟩ := h'
  have lx0 := hx.lim
  have ly0 := hy.lim
  have lp0 := hp.lim
  have lq0 := hq.lim
  go_enter Tryz.func113, Tryz.ntmps113
  go_wp2_with fail
  obtain ⟨W, hW, B1, B2, B3, hbW⟩ := boxes3 119 119 119 w (.bool n) (.slice a xs.length c) (.slice a' ys.length c') (.bool m) (.slice b ps.length d) (.slice b' qs.length d') (.bool false) (.slice none 0 0) (.slice none 0 0)
  rw [← hW]
  clear hW
  replace hx := hx.below hbW
  replace hy := hy.below hbW
  replace hp := hp.below hbW
  replace hq := hq.below hbW
  obtain ⟨p1, p2, p3, _⟩ := B1.cells
  obtain ⟨p4, p5, p6, _⟩ := B2.cells
  go_region_held3 (fun u => u.cell? ⟨w.heap.size, 0, none⟩ = some (.bool n) ∧ u.cell? ⟨w.heap.size, 1, none⟩ = some (.slice a xs.length c) ∧ u.cell? ⟨w.heap.size, 2, none⟩ = some (.slice a' ys.length c') ∧ u.cell? ⟨w.heap.size + 1, 0, none⟩ = some (.bool m) ∧ u.cell? ⟨w.heap.size + 1, 1, none⟩ = some (.slice b ps.length d) ∧ u.cell? ⟨w.heap.size + 1, 2, none⟩ = some (.slice b' qs.length d')) (first | (go_keep; done) | (refine ⟨(cell_set3 (by omega)).trans p1, (cell_set3 (by omega)).trans p2, (cell_set3 (by omega)).trans p3, (cell_set3 (by omega)).trans p4, (cell_set3 (by omega)).trans p5, (cell_set3 (by omega)).trans p6⟩))
    (first
      | (go_at_call_of 105 (Value.slice a xs.length c)
         refine (mul_any _ _ _ _ _ _ _ (hx.below Below.drew1) (hp.below Below.drew1) ?_ ?_).mono ?_
         · omega
         · omega
         rintro e u1 ⟨a1, c1, rs, rfl, hv1, ht1, hr1, hb1⟩
         have hb1' : Below W.heap.size W u1 := Below.drew1.trans hb1
         replace hy := hy.below hb1'
         replace hq := hq.below hb1'
         replace B1 := B1.below hb1'
         replace B2 := B2.below hb1'
         replace B3 := B3.below hb1'
         replace hbW : Below w.heap.size w u1 := hbW.trans (hb1'.mono hbW.size)
         have rr := hr1.rd
         clear hr1 hb1 hb1' hx hp p1 p2 p3 p4 p5 p6
         obtain ⟨p1, p2, p3, _⟩ := B1.cells
         obtain ⟨p4, p5, p6, _⟩ := B2.cells)
      | (go_at_call_of 105 (Value.slice a' ys.length c')
         refine (mul_any _ _ _ _ _ _ _ hy hq ?_ ?_).mono ?_
         · omega
         · omega
         rintro e u2 ⟨a2, c2, ts, rfl, hv2, ht2, hr2, hb2⟩
         have rt := hr2.rd
         replace rr := rr.below hb2
         replace B1 := B1.below hb2
         replace B2 := B2.below hb2
         replace B3 := B3.below hb2
         replace hbW : Below w.heap.size w u2 := hbW.trans (hb2.mono hbW.size)
         clear hr2 hb2 hy hq p1 p2 p3 p4 p5 p6
         obtain ⟨p1, p2, p3, _⟩ := B1.cells
         obtain ⟨p4, p5, p6, _⟩ := B2.cells
         obtain ⟨q1, q2, q3, q4, q5, q6⟩ := B3.cells
         have hs := B3.lt))
  go_wp2
  refine ret3 (v := .agg #[.bool (!(n == m)), .slice a1 rs.length c1, .slice a2 ts.length c2]) B3 rfl (fun U hU => by obtain ⟨r1, r2, r3, _⟩ := hU.cells; simp [results, Tryz.results113, go_sem, r1, r2, r3]) (fun U hU hK => ⟨_, rfl, ⟨_, _, _, ⟨_, _, _, _, rfl, hK _ _ _ rr, hK _ _ _ rt⟩, ht1, ht2, ?_, ?_, ?_, ?_⟩, hU _ _ hbW (by omega)⟩)
  · rw [hv2]; exact Nat.mul_ne_zero y0 q0
  · exact prod_len lx0 lp0 ht1 lx lp hv1
  · exact prod_len ly0 lq0 ht2 ly lq hv2
  · exact qv_times hv1 hv2

set_option maxHeartbeats 2000000 in
set_option maxRecDepth 100000 in
theorem plus_any (k l : Nat) (q r : Rat) (v v' : Value) (w : World) (h : Lo w v k q) (h' : Lo w v' l r) (hk : k ≤ 100000000) (hl : l ≤ 100000000) :
    Calls Tryz.prog 82 #[v, v'] w fun e w' => ∃ v', e = .returned v' ∧ Lo w' v' (k + l + 1) (q + r) ∧ Below w.heap.size w w' := by
  obtain ⟨n, xs, ys, ⟨a, c, a', c', rfl, hx, hy⟩, tx, ty, y0, lx, ly, rfl⟩ := h
  obtain ⟨m, ps, qs, ⟨b, d, b', d', rfl, hp, hq⟩, tp, tq, q0, lp, lq, rfl⟩ := h'
  have lx0 := hx.lim
  have ly0 := hy.lim
  have lp0 := hp.lim
  have lq0 := hq.lim
  go_enter Tryz.func82, Tryz.ntmps82
  go_wp2_with fail
  obtain ⟨W, hW, B1, B2, B3, hbW⟩ := boxes3 119 119 119 w (.bool n) (.slice a xs.length c) (.slice a' ys.length c') (.bool m) (.slice b ps.length d) (.slice b' qs.length d') (.bool false) (.slice none 0 0) (.slice none 0 0)
  rw [← hW]
  clear hW
  replace hx := hx.below hbW
  replace hy := hy.below hbW
  replace hp := hp.below hbW
  replace hq := hq.below hbW
  obtain ⟨p1, p2, p3, _⟩ := B1.cells
  obtain ⟨p4, p5, p6, _⟩ := B2.cells
  go_region_held3 (fun u => u.cell? ⟨w.heap.size, 0, none⟩ = some (.bool n) ∧ u.cell? ⟨w.heap.size, 1, none⟩ = some (.slice a xs.length c) ∧ u.cell? ⟨w.heap.size, 2, none⟩ = some (.slice a' ys.length c') ∧ u.cell? ⟨w.heap.size + 1, 0, none⟩ = some (.bool m) ∧ u.cell? ⟨w.heap.size + 1, 1, none⟩ = some (.slice b ps.length d) ∧ u.cell? ⟨w.heap.size + 1, 2, none⟩ = some (.slice b' qs.length d')) (first | (go_keep; done) | (refine ⟨(cell_set3 (by omega)).trans p1, (cell_set3 (by omega)).trans p2, (cell_set3 (by omega)).trans p3, (cell_set3 (by omega)).trans p4, (cell_set3 (by omega)).trans p5, (cell_set3 (by omega)).trans p6⟩))
    (first
      | (go_at_call_of 105 (Value.slice a xs.length c)
         refine (mul_any _ _ _ _ _ _ _ (hx.below Below.drew1) (hq.below Below.drew1) ?_ ?_).mono ?_
         · omega
         · omega
         rintro e u1 ⟨a1, c1, zs, rfl, hv1, ht1, hr1, hb1⟩
         have hb1' : Below W.heap.size W u1 := Below.drew1.trans hb1
         replace hy := hy.below hb1'
         replace hq := hq.below hb1'
         replace hp := hp.below hb1'
         replace B1 := B1.below hb1'
         replace B2 := B2.below hb1'
         replace B3 := B3.below hb1'
         replace hbW : Below w.heap.size w u1 := hbW.trans (hb1'.mono hbW.size)
         have ra := hr1.rd
         clear hr1 hb1 hb1' hx p1 p2 p3 p4 p5 p6
         obtain ⟨p1, p2, p3, _⟩ := B1.cells
         obtain ⟨p4, p5, p6, _⟩ := B2.cells)
      | (go_at_call_of 105 (Value.slice b ps.length d)
         refine (mul_any _ _ _ _ _ _ _ hp hy ?_ ?_).mono ?_
         · omega
         · omega
         rintro e u2 ⟨a2, c2, bs, rfl, hv2, ht2, hr2, hb2⟩
         have rb := hr2.rd
         replace ra := ra.below hb2
         replace hy := hy.below hb2
         replace hq := hq.below hb2
         replace B1 := B1.below hb2
         replace B2 := B2.below hb2
         replace B3 := B3.below hb2
         replace hbW : Below w.heap.size w u2 := hbW.trans (hb2.mono hbW.size)
         clear hr2 hb2 hp p1 p2 p3 p4 p5 p6
         obtain ⟨p1, p2, p3, _⟩ := B1.cells
         obtain ⟨p4, p5, p6, _⟩ := B2.cells))
  go_wp2_with fail
  refine (mul_any _ _ _ _ _ _ _ hy hq (by omega) (by omega)).mono ?_
  rintro e u3 ⟨a3, c3, ds, rfl, hv3, ht3, hr3, hb3⟩
  have rd := hr3.rd
  replace ra := ra.below hb3
  replace rb := rb.below hb3
  replace B1 := B1.below hb3
  replace B2 := B2.below hb3
  replace B3 := B3.below hb3
  replace hbW : Below w.heap.size w u3 := hbW.trans (hb3.mono hbW.size)
  clear hr3 hb3 hy hq p1 p2 p3 p4 p5 p6
  obtain ⟨p1, p2, p3, _⟩ := B1.cells
  obtain ⟨p4, p5, p6, _⟩ := B2.cells
  have d0 : V ds ≠ 0 := by rw [hv3]; exact Nat.mul_ne_zero y0 q0
  have ld : ds.length ≤ k + l := prod_len ly0 lq0 ht3 ly lq hv3
  have la : zs.length ≤ k + l := prod_len lx0 lq0 ht1 lx lq hv1
  have lb : bs.length ≤ k + l := by have := prod_len lp0 ly0 ht2 lp ly hv2; omega
  by_cases hnm : n = m
  · subst hnm
    have e0 : (n == n) = true := by simp
    go_wp2_with fail
    go_region_held3 (fun u => u.cell? ⟨w.heap.size, 0, none⟩ = some (.bool n) ∧ u.cell? ⟨w.heap.size, 1, none⟩ = some (.slice a xs.length c) ∧ u.cell? ⟨w.heap.size, 2, none⟩ = some (.slice a' ys.length c') ∧ u.cell? ⟨w.heap.size + 1, 0, none⟩ = some (.bool n) ∧ u.cell? ⟨w.heap.size + 1, 1, none⟩ = some (.slice b ps.length d) ∧ u.cell? ⟨w.heap.size + 1, 2, none⟩ = some (.slice b' qs.length d')) (first | (go_keep; done) | (refine ⟨(cell_set3 (by omega)).trans p1, (cell_set3 (by omega)).trans p2, (cell_set3 (by omega)).trans p3, (cell_set3 (by omega)).trans p4, (cell_set3 (by omega)).trans p5, (cell_set3 (by omega)).trans p6⟩))
      (first
        | (go_at_call 104
           refine (add_any _ _ _ _ _ _ _ (ra.below Below.drew1) (rb.below Below.drew1) ?_ ?_).mono ?_
           · omega
           · omega
           rintro e u5 ⟨a4, c4, rs, rfl, hv4, ht4, hr4, hb4⟩
           have rr := hr4.rd
           have lr : rs.length ≤ k + l + 1 := sum_len ra.lim rb.lim ht4 la lb (by omega)
           replace hb4 : Below u3.heap.size u3 u5 := Below.drew1.trans hb4
           replace rd := rd.below hb4
           replace B1 := B1.below hb4
           replace B2 := B2.below hb4
           replace B3 := B3.below hb4
           replace hbW : Below w.heap.size w u5 := hbW.trans (hb4.mono hbW.size)
           clear hr4 hb4 p1 p2 p3 p4 p5 p6
           obtain ⟨p1, p2, p3, _⟩ := B1.cells
           obtain ⟨p4, p5, p6, _⟩ := B2.cells
           obtain ⟨q1, q2, q3, q4, q5, q6⟩ := B3.cells
           have hs := B3.lt))
    go_wp2
    refine ret3 (v := .agg #[.bool n, .slice a4 rs.length c4, .slice a3 ds.length c3]) B3 rfl (fun U hU => by obtain ⟨r1, r2, r3, _⟩ := hU.cells; simp [results, Tryz.results82, go_sem, r1, r2, r3]) (fun U hU hK => ⟨_, rfl, ⟨_, _, _, ⟨_, _, _, _, rfl, hK _ _ _ rr, hK _ _ _ rd⟩, ht4, ht3, d0, lr, by omega, ?_⟩, hU _ _ hbW (by omega)⟩)
    exact qv_plus_same y0 q0 (by rw [hv4, hv1, hv2]) hv3
  · have e0 : (n == m) = false := by simpa using hnm
    go_wp2_with fail
    refine (cmp_any _ _ _ _ _ _ _ ra rb).mono ?_
    rintro e u4 ⟨rfl, hb4⟩
    replace rd := rd.below hb4
    replace ra := ra.below hb4
    replace rb := rb.below hb4
    replace B1 := B1.below hb4
    replace B2 := B2.below hb4
    replace B3 := B3.below hb4
    replace hbW : Below w.heap.size w u4 := hbW.trans (hb4.mono hbW.size)
    clear hb4 p1 p2 p3 p4 p5 p6
    obtain ⟨p1, p2, p3, _⟩ := B1.cells
    obtain ⟨p4, p5, p6, _⟩ := B2.cells
    by_cases hlt : V zs < V bs
    · have ec : cmpN (V zs) (V bs) = -1 := by unfold cmpN; rw [if_pos hlt]
      rw [ec]
      clear ec
      go_wp2_with fail
      go_region_held3 (fun u => u.cell? ⟨w.heap.size, 0, none⟩ = some (.bool n) ∧ u.cell? ⟨w.heap.size, 1, none⟩ = some (.slice a xs.length c) ∧ u.cell? ⟨w.heap.size, 2, none⟩ = some (.slice a' ys.length c') ∧ u.cell? ⟨w.heap.size + 1, 0, none⟩ = some (.bool m) ∧ u.cell? ⟨w.heap.size + 1, 1, none⟩ = some (.slice b ps.length d) ∧ u.cell? ⟨w.heap.size + 1, 2, none⟩ = some (.slice b' qs.length d')) (first | (go_keep; done) | (refine ⟨(cell_set3 (by omega)).trans p1, (cell_set3 (by omega)).trans p2, (cell_set3 (by omega)).trans p3, (cell_set3 (by omega)).trans p4, (cell_set3 (by omega)).trans p5, (cell_set3 (by omega)).trans p6⟩))
        (first
          | (go_at_call 107
             refine (sub_any _ _ _ _ _ _ _ (rb.below Below.drew1) (ra.below Below.drew1) ?_ ?_).mono ?_
             · omega
             · omega
             rintro e u5 ⟨a4, c4, rs, rfl, hv4, ht4, hr4, hb4⟩
             have rr := hr4.rd
             have lr : rs.length ≤ k + l + 1 := sum_len ra.lim rb.lim ht4 la lb (by omega)
             replace hb4 : Below u4.heap.size u4 u5 := Below.drew1.trans hb4
             replace rd := rd.below hb4
             replace B1 := B1.below hb4
             replace B2 := B2.below hb4
             replace B3 := B3.below hb4
             replace hbW : Below w.heap.size w u5 := hbW.trans (hb4.mono hbW.size)
             clear hr4 hb4 p1 p2 p3 p4 p5 p6
             obtain ⟨p1, p2, p3, _⟩ := B1.cells
             obtain ⟨p4, p5, p6, _⟩ := B2.cells
             obtain ⟨q1, q2, q3, q4, q5, q6⟩ := B3.cells
             have hs := B3.lt))
      go_wp2
      refine ret3 (v := .agg #[.bool m, .slice a4 rs.length c4, .slice a3 ds.length c3]) B3 rfl (fun U hU => by obtain ⟨r1, r2, r3, _⟩ := hU.cells; simp [results, Tryz.results82, go_sem, r1, r2, r3]) (fun U hU hK => ⟨_, rfl, ⟨_, _, _, ⟨_, _, _, _, rfl, hK _ _ _ rr, hK _ _ _ rd⟩, ht4, ht3, d0, lr, by omega, ?_⟩, hU _ _ hbW (by omega)⟩)
      exact qv_plus_less hnm y0 q0 (by rw [← hv1, ← hv2]; exact hlt) (by rw [hv4, hv1, hv2]) hv3
    · have ec : ¬ cmpN (V zs) (V bs) < 0 := by unfold cmpN; rw [if_neg hlt]; split <;> decide
      generalize cmpN (V zs) (V bs) = cc at ec ⊢
      go_wp2_with fail
      go_region_held3 (fun u => u.cell? ⟨w.heap.size, 0, none⟩ = some (.bool n) ∧ u.cell? ⟨w.heap.size, 1, none⟩ = some (.slice a xs.length c) ∧ u.cell? ⟨w.heap.size, 2, none⟩ = some (.slice a' ys.length c') ∧ u.cell? ⟨w.heap.size + 1, 0, none⟩ = some (.bool m) ∧ u.cell? ⟨w.heap.size + 1, 1, none⟩ = some (.slice b ps.length d) ∧ u.cell? ⟨w.heap.size + 1, 2, none⟩ = some (.slice b' qs.length d')) (first | (go_keep; done) | (refine ⟨(cell_set3 (by omega)).trans p1, (cell_set3 (by omega)).trans p2, (cell_set3 (by omega)).trans p3, (cell_set3 (by omega)).trans p4, (cell_set3 (by omega)).trans p5, (cell_set3 (by omega)).trans p6⟩))
        (first
          | (go_at_call 107
             refine (sub_any _ _ _ _ _ _ _ (ra.below Below.drew1) (rb.below Below.drew1) ?_ ?_).mono ?_
             · omega
             · omega
             rintro e u5 ⟨a4, c4, rs, rfl, hv4, ht4, hr4, hb4⟩
             have rr := hr4.rd
             have lr : rs.length ≤ k + l + 1 := sum_len ra.lim rb.lim ht4 la lb (by omega)
             replace hb4 : Below u4.heap.size u4 u5 := Below.drew1.trans hb4
             replace rd := rd.below hb4
             replace B1 := B1.below hb4
             replace B2 := B2.below hb4
             replace B3 := B3.below hb4
             replace hbW : Below w.heap.size w u5 := hbW.trans (hb4.mono hbW.size)
             clear hr4 hb4 p1 p2 p3 p4 p5 p6
             obtain ⟨p1, p2, p3, _⟩ := B1.cells
             obtain ⟨p4, p5, p6, _⟩ := B2.cells
             obtain ⟨q1, q2, q3, q4, q5, q6⟩ := B3.cells
             have hs := B3.lt))
      go_wp2
      refine ret3 (v := .agg #[.bool n, .slice a4 rs.length c4, .slice a3 ds.length c3]) B3 rfl (fun U hU => by obtain ⟨r1, r2, r3, _⟩ := hU.cells; simp [results, Tryz.results82, go_sem, r1, r2, r3]) (fun U hU hK => ⟨_, rfl, ⟨_, _, _, ⟨_, _, _, _, rfl, hK _ _ _ rr, hK _ _ _ rd⟩, ht4, ht3, d0, lr, by omega, ?_⟩, hU _ _ hbW (by omega)⟩)
      exact qv_plus_more hnm y0 q0 (by rw [← hv1, ← hv2]; exact hlt) (by rw [hv4, hv1, hv2]) hv3

end Go.Proofs.YtkbbdkecillnpaaGreat

namespace Go.Proofs.YtkbbdkecillnpaaGreat
open Go.RowKit
set_option linter.unusedSimpArgs false
set_option linter.unusedVariables false

/-- -1, 0, 1. -/
def sgnQ (q : Rat) : Int := if q = 0 then 0 else if q < 0 then -1 else 1

theorem sgn_lo {n : Bool} {xs ys : List Nat} (tx : Tr xs) (hy : V ys ≠ 0) : sgnQ (qv n xs ys) = if xs.length = 0 then 0 else if n = true then -1 else 1 := by
  have h0 : qv n xs ys = 0 ↔ xs.length = 0 := by
    unfold qv
    rw [Rat.mkRat_eq_zero hy]
    refine ⟨fun h => ?_, fun h => ?_⟩
    · have := congrArg Int.natAbs h
      rw [sg_natAbs] at this
      rw [eq_nil_of_V tx this]; rfl
    · rw [List.length_eq_zero_iff.1 h]; exact sg_zero n
  have h1 : xs.length ≠ 0 → (qv n xs ys < 0 ↔ n = true) := by
    intro hx
    have hv : V xs ≠ 0 := V_ne_of tx fun h => hx (by rw [h]; rfl)
    have key : 0 ≤ qv n xs ys ↔ 0 ≤ sg n (V xs) := by
      unfold qv
      rw [← Rat.divInt_ofNat]
      exact Rat.divInt_nonneg_iff_of_pos_right (by omega)
    rw [← Rat.not_le, key]
    cases n <;> simp [sg] <;> omega
  unfold sgnQ
  by_cases hx : xs.length = 0
  · rw [if_pos (h0.2 hx), if_pos hx]
  · rw [if_neg (fun h => hx (h0.1 h)), if_neg hx]
    by_cases hn : n = true
    · rw [if_pos ((h1 hx).2 hn), if_pos hn]
    · rw [if_neg (fun h => hn ((h1 hx).1 h)), if_neg hn]

set_option maxHeartbeats 1000000 in
set_option maxRecDepth 100000 in
theorem sign_any (k : Nat) (q : Rat) (v : Value) (w : World) (h : Lo w v k q) (hk : k ≤ 400000000) :
    Calls Tryz.prog 112 #[v] w fun e w' => e = .returned (.int .i64 (sgnQ q)) ∧ Below w.heap.size w w' := by
  obtain ⟨n, xs, ys, ⟨a, c, a', c', rfl, hx, hy⟩, tx, ty, y0, lx, ly, rfl⟩ := h
  have e := sgn_lo (n := n) tx y0
  have k1 : xs.length ≤ 400000000 := by omega
  generalize sgnQ (qv n xs ys) = sq at e
  by_cases h0 : xs.length = 0
  · rw [if_pos h0] at e
    subst e
    rw [h0]
    go_enter Tryz.func112, Tryz.ntmps112
    go_wp2
    go_ret
    exact ⟨rfl, al1 _⟩
  · rw [if_neg h0] at e
    have g1 : ((xs.length : Int) == 0) = false := beq_eq_false_iff_ne.2 (by omega)
    cases n with
    | true =>
      simp at e
      subst e
      go_enter Tryz.func112, Tryz.ntmps112
      go_wp2
      go_ret
      exact ⟨rfl, al1 _⟩
    | false =>
      simp at e
      subst e
      go_enter Tryz.func112, Tryz.ntmps112
      go_wp2
      go_ret
      exact ⟨rfl, al1 _⟩

theorem qv_neg (n : Bool) (xs ys : List Nat) : qv (!n) xs ys = - qv n xs ys := by
  unfold qv
  rw [Rat.neg_mkRat]
  congr 1
  cases n <;> simp [sg]
theorem Lo.neg {w : World} {n : Bool} {xs ys : List Nat} {a a' : Option Addr} {c c' k : Nat} {q : Rat} (hx : Rd w a c xs) (hy : Rd w a' c' ys) (tx : Tr xs) (ty : Tr ys) (y0 : V ys ≠ 0) (lx : xs.length ≤ k) (ly : ys.length ≤ k) (e : qv n xs ys = q) :
    Lo w (.agg #[.bool (!n), .slice a xs.length c, .slice a' ys.length c']) k (-q) := ⟨_, _, _, ⟨_, _, _, _, rfl, hx, hy⟩, tx, ty, y0, lx, ly, by rw [qv_neg, e]⟩

end Go.Proofs.YtkbbdkecillnpaaGreat
