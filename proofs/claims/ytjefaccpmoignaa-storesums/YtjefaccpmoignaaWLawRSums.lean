/-
  foundrylaw10.StoreSums: the walk.
-/
import Derived.Test.YtjefaccpmoignaaZ15
import Derived.Test.YtjefaccpmoignaaZ21
import Derived.Test.YtjefaccpmoignaaZ27
import Derived.Test.YtjefaccpmoignaaZ13
import Derived.Deep.CutRange
namespace Go.Proofs.Ytjefaccpmoignaa
open Go.RowKit Go.Maps
set_option linter.unusedSimpArgs false
set_option linter.unusedVariables false

/-- A block of two cells. -/
def Bx2 (t : TypeId) (w : World) (g : Nat) (x y : Value) : Prop := w.heap[g]? = some (.cells #[x, y] t (0, 0))
theorem Bx2.cells {t : TypeId} {w : World} {g : Nat} {x y : Value} (h : Bx2 t w g x y) :
    w.cell? ⟨g, 0, none⟩ = some x ∧ w.cell? ⟨g, 1, none⟩ = some y ∧ w.frozen? ⟨g, 0, none⟩ = false ∧ w.frozen? ⟨g, 1, none⟩ = false :=
  ⟨cell_of_row w g 0 _ _ (0, 0) h, cell_of_row w g 1 _ _ (0, 0) h, frozen_of_row w g 0 _ _ h, frozen_of_row w g 1 _ _ h⟩
theorem Bx2.lt {t : TypeId} {w : World} {g : Nat} {x y : Value} (h : Bx2 t w g x y) : g < w.heap.size := (Array.getElem?_eq_some_iff.1 h).1
theorem Bx2.below {t : TypeId} {w w' : World} {g : Nat} {x y : Value} (h : Bx2 t w g x y) (hb : Below w.heap.size w w') : Bx2 t w' g x y := (hb.block g h.lt).trans h
theorem Bx2.new (t : TypeId) (w : World) (x y : Value) : Bx2 t (w.alloc (.cells #[x, y] t)) w.heap.size x y := heap_alloc_new w _
theorem BxS.new1 (w : World) (o : Obj) (x y : Value) : BxS ((w.alloc o).alloc (.cells #[x, y] 25)) (w.heap.size + 1) x y := by
  have h := BxS.new (w.alloc o) x y
  simpa using h

/-- A row by its numbers. -/
def rowF (f : Nat → Int) (k : Nat) : List Int := (List.range k).map f
theorem rowF_len (f : Nat → Int) (k : Nat) : (rowF f k).length = k := by simp [rowF]
theorem rowF_succ (f : Nat → Int) (k : Nat) : rowF f (k + 1) = rowF f k ++ [f k] := by simp [rowF, List.range_succ]
theorem rowF_get (f : Nat → Int) {k j : Nat} (h : j < k) : (rowF f k).getD j 0 = f j := by simp [rowF, List.getD, h]

/-- Two rows of the call's own lie apart. -/
def Ap (u v : Value) : Prop := ∀ g, ¬ (u.ownBlock = some g ∧ v.ownBlock = some g)
theorem Ap.symm {u v : Value} (h : Ap u v) : Ap v u := fun g hg => h g hg.symm
theorem Ap.nil (v : Value) : Ap (.slice none 0 0) v := fun g hg => by cases hg.1
theorem Io.grown {base : Nat} {w w' : World} {u : Value} {zs : List Int} {row : Option Nat} (h : Io base w u zs) (hg : w.grownBy w' row) (hn : ∀ g, u.ownBlock = some g → some g ≠ row) : Io base w' u zs := by
  obtain ⟨h1, h3⟩ := h
  refine ⟨h1, h3.1, ?_⟩
  rcases h3.2 with h0 | ⟨g, cap', cur, k1, k2, k3, k4⟩
  · exact .inl h0
  · exact .inr ⟨g, cap', cur, k1, k2, (hg.block g (Array.getElem?_eq_some_iff.1 k3).1 (hn g (by rw [k1]; rfl))).trans k3, k4⟩
/-- Four rows of the call's own, apart from one another. -/
def F4 (base : Nat) (w : World) (va vb vc vd : Value) (A B C D : List Int) : Prop :=
  (Io base w va A ∧ Io base w vb B ∧ Io base w vc C ∧ Io base w vd D) ∧ Ap va vb ∧ Ap va vc ∧ Ap va vd ∧ Ap vb vc ∧ Ap vb vd ∧ Ap vc vd
theorem F4.rot {base : Nat} {w : World} {va vb vc vd : Value} {A B C D : List Int} (h : F4 base w va vb vc vd A B C D) : F4 base w vb vc vd va B C D A := by
  obtain ⟨⟨i1, i2, i3, i4⟩, a1, a2, a3, a4, a5, a6⟩ := h
  exact ⟨⟨i2, i3, i4, i1⟩, a4, a5, a1.symm, a6, a2.symm, a3.symm⟩
theorem F4.below {base : Nat} {w w' : World} {va vb vc vd : Value} {A B C D : List Int} (h : F4 base w va vb vc vd A B C D) (hb : Below w.heap.size w w') : F4 base w' va vb vc vd A B C D :=
  ⟨⟨h.1.1.below hb, h.1.2.1.below hb, h.1.2.2.1.below hb, h.1.2.2.2.below hb⟩, h.2⟩
theorem F4.grow {base : Nat} {w w' : World} {va vb vc vd va' : Value} {A B C D A' : List Int} (h : F4 base w va vb vc vd A B C D) (hg : w.grownBy w' va.ownBlock) (hi : Io base w' va' A') (hf : va'.ownBlock = va.ownBlock ∨ va'.ownBlock = some w.heap.size) : F4 base w' va' vb vc vd A' B C D := by
  obtain ⟨⟨i1, i2, i3, i4⟩, a1, a2, a3, a4, a5, a6⟩ := h
  have key : ∀ {v : Value} {Z : List Int}, Io base w v Z → Ap va v → Io base w' v Z ∧ Ap va' v := fun {v Z} hv ha => by
    refine ⟨hv.grown hg (fun g h1 h2 => ha g ⟨h2.symm, h1⟩), fun g hh => ?_⟩
    rcases hf with hf | hf
    · exact ha g ⟨by rw [← hf]; exact hh.1, hh.2⟩
    · rw [hf] at hh
      have h1 := (World.ownsRow.lt hv.2 g hh.2).2
      have h2 := hh.1
      cases h2
      exact absurd h1 (Nat.lt_irrefl _)
  exact ⟨⟨hi, (key i2 a1).1, (key i3 a2).1, (key i4 a3).1⟩, (key i2 a1).2, (key i3 a2).2, (key i4 a3).2, a4, a5, a6⟩
/-- 'append(out, x)' with its block told. -/
theorem wpList_append_int5 {w : World} {ops : Array Oper} {rest : List Oper} {o : Oper} {a : Act} {Q : Exit → Act → World → Prop}
    (hgd : o.guard = none) (s x : Operand) (ho : o.op = .call { callee := .builtin .append, args := #[s, x], argTypes := #[54, 54] })
    (base : Nat) (v : Value) (zs : List Int) (hs : a.eval s = v) (hown : Io base w v zs) (g : Nat) (z : Int) (hx : a.eval x = .slice (some ⟨g, 0, none⟩) 1 1)
    (c0 : w.cell? ⟨g, 0, none⟩ = some (.int .i64 z)) (hz : I64 z) (hlen : zs.length + 1 ≤ 1000000) (hbase : base ≤ w.heap.size)
    (h : ∀ v' w', Io base w' v' (zs ++ [z]) → w.grownBy w' v.ownBlock → (v'.ownBlock = v.ownBlock ∨ v'.ownBlock = some w.heap.size) → wpList Try.prog ops Q rest (a.put o.dst v') w') : wpList Try.prog ops Q (o :: rest) a w := by
  obtain ⟨i0, hi, hz0, hz1, hz2⟩ := info_parts infoA_i64
  refine wpList_append_own_at w hgd s x 54 ho base 3 i0 (.int .i64 0) 1 8 Try.underlying54 hi hz0 hz1 hz2 rfl (by decide) v zs.length (zs.map (Value.int .i64)) hs hown.2 ⟨g, 0, none⟩ 1 1 [.int .i64 z] hx rfl ?_ ?_ (by unfold maxLen; omega) (by omega) hbase ?_
  · intro j u hj
    match j, hj with
    | 0, hj => simp at hj; subst hj; simpa [Addr.add] using c0
  · intro u hu
    simp at hu
    subst hu
    rfl
  · intro v' w' k1 k2 _ k4
    refine h v' w' ⟨fun s hs => ?_, ?_⟩ k2 k4
    · rcases List.mem_append.1 hs with hs | hs
      · exact hown.1 s hs
      · rw [List.mem_singleton.1 hs]; exact hz
    · rw [List.map_append, List.length_append]
      exact k1

theorem Rii.four {w : World} {g : Nat} {a1 a2 a3 a4 : Option Addr} {c1 c2 c3 c4 : Nat} {A B C D : List Int} {ty : TypeId} (h : w.heap[g]? = some (.cells #[.slice a1 A.length c1, .slice a2 B.length c2, .slice a3 C.length c3, .slice a4 D.length c4] ty (0, 0))) (h1 : Ri w a1 c1 A) (h2 : Ri w a2 c2 B) (h3 : Ri w a3 c3 C) (h4 : Ri w a4 c4 D) : Rii w (some ⟨g, 0, none⟩) 4 [A, B, C, D] := by
  refine ⟨Nat.le_refl _, by unfold maxLen; omega, fun i hi => ?_⟩
  have hi4 : i = 0 ∨ i = 1 ∨ i = 2 ∨ i = 3 := by simp at hi; omega
  rcases hi4 with rfl | rfl | rfl | rfl
  · exact ⟨g, 0, a1, c1, rfl, (Array.getElem?_eq_some_iff.1 h).1, cell_of_row w g 0 _ _ (0, 0) h, h1⟩
  · exact ⟨g, 0, a2, c2, rfl, (Array.getElem?_eq_some_iff.1 h).1, cell_of_row w g 1 _ _ (0, 0) h, h2⟩
  · exact ⟨g, 0, a3, c3, rfl, (Array.getElem?_eq_some_iff.1 h).1, cell_of_row w g 2 _ _ (0, 0) h, h3⟩
  · exact ⟨g, 0, a4, c4, rfl, (Array.getElem?_eq_some_iff.1 h).1, cell_of_row w g 3 _ _ (0, 0) h, h4⟩
/-- What the rows of a sum and of a multiple change by. -/
theorem sums_ch {g : List (List Te)} {xs ys cs : List Int} {S : Sr} (hS : S = ⟨g, [rowF (fun j => xs.getD j 0) g.length, rowF (fun j => ys.getD j 0) g.length, rowF (fun j => xs.getD j 0 + ys.getD j 0) g.length, rowF (fun j => 3 * xs.getD j 0) g.length]⟩) :
    chQ S 2 cs = chQ S 0 cs + chQ S 1 cs ∧ chQ S 3 cs = chQ S 0 cs * ((3 : Int) : Rat) := by
  have e : ∀ (i : Int) (j : Nat) (f : Nat → Int), i = (j : Int) → j < S.rw.length → S.rw.getD j [] = rowF f g.length → chQ S i cs = chK g (rowF f g.length) cs g.length := by
    intro i j f hi hj hf
    have hg : S.rg = g := by rw [hS]
    have hb : rwB S i = true := rwB_iff.2 ⟨by omega, by omega, by rw [hi, Int.toNat_natCast, hf, rowF_len, hg]⟩
    rw [chQ_yes hb, hi, Int.toNat_natCast, hf, hg]
  have l4 : S.rw.length = 4 := by rw [hS]; rfl
  rw [e 0 0 (fun j => xs.getD j 0) rfl (by omega) (by rw [hS]; rfl), e 1 1 (fun j => ys.getD j 0) rfl (by omega) (by rw [hS]; rfl), e 2 2 (fun j => xs.getD j 0 + ys.getD j 0) rfl (by omega) (by rw [hS]; rfl), e 3 3 (fun j => 3 * xs.getD j 0) rfl (by omega) (by rw [hS]; rfl)]
  exact ⟨chK_add _ _ (fun j hj => by rw [rowF_get _ hj, rowF_get _ hj, rowF_get _ hj]), chK_mul 3 _ _ (fun j hj => by rw [rowF_get _ hj, rowF_get _ hj])⟩

set_option maxHeartbeats 8000000 in
set_option maxRecDepth 100000 in
theorem storeSums_any (a : Option Addr) (ca : Nat) (g : List (List Te)) (p1 : Option Addr) (c1 : Nat) (xs : List Int) (p2 : Option Addr) (c2 : Nat) (ys : List Int) (pa : Option Addr) (pc : Nat) (cs : List Int) (w : World) (hg : Tzz w a ca g) (h1 : Rh w p1 c1 xs) (h2 : Rh w p2 c2 ys) (hp : Ri w pa pc cs) :
    Calls Try.prog 6 #[.slice a g.length ca, .agg #[.slice p1 xs.length c1, .slice p2 ys.length c2], .slice pa cs.length pc] w fun e w' => e = .returned (.bool true) ∧ Below w.heap.size w w' := by
  have k1 := hg.lenB
  have k2 := h1.lenB
  have k3 := h2.lenB
  have k4 := hp.lenB
  have HG0 : Hid (Tzz w a ca g) := hg
  have HP0 : Hid (Ri w pa pc cs) := hp
  obtain ⟨W, hW, X0, X1, hbW⟩ : ∃ W, W = (w.alloc (.cells #[.slice p1 xs.length c1, .slice p2 ys.length c2] 53)).alloc (.cells #[.slice a g.length ca, .slice none 0 0] 25) ∧ Bx2 53 W w.heap.size (.slice p1 xs.length c1) (.slice p2 ys.length c2) ∧ BxS W (w.heap.size + 1) (.slice a g.length ca) (.slice none 0 0) ∧ Below w.heap.size w W := ⟨_, rfl, (Bx2.new _ _ _ _).below (bl1 _), BxS.new1 _ _ _ _, bl2 _ _⟩
  replace hg := hg.below hbW
  replace h1 := h1.below hbW
  replace h2 := h2.below hbW
  replace hp := hp.below hbW
  go_enter Try.func6, Try.ntmps6
  go_wp2_with fail
  rw [← hW]
  clear hW
  refine (awake10_any _).mono ?_
  rintro e t1 ⟨rfl, hb1⟩
  replace hg := hg.below hb1
  replace h1 := h1.below hb1
  replace h2 := h2.below hb1
  replace hp := hp.below hb1
  replace X0 := X0.below hb1
  replace X1 := X1.below hb1
  replace hbW : Below w.heap.size w t1 := hbW.trans (hb1.mono hbW.size)
  clear hb1
  obtain ⟨p00, p01, _⟩ := X0.cells
  obtain ⟨p10, p11, _⟩ := X1.cells
  by_cases h20 : 20 < g.length
  · have g1 : decide ((20 : Int) < (g.length : Int)) = true := decide_eq_true (by omega)
    go_wp2_with fail
    refine (awake10_any _).mono ?_
    rintro e v9 ⟨rfl, hb9⟩
    replace hbW := hbW.trans (hb9.mono hbW.size)
    clear hb9
    go_wp2
    go_ret
    exact ⟨rfl, hbW⟩
  have g1 : decide ((20 : Int) < (g.length : Int)) = false := decide_eq_false (by omega)
  have hfw := fun U hU => few10_any a ca none 0 ⟨g, []⟩ U hU (Rii.nil U none 0 (Nat.zero_le _))
  simp only [List.length_nil] at hfw
  go_wp2_with fail
  refine (hfw _ hg).mono ?_
  rintro e t2 ⟨q, rfl, hq, hb2⟩
  clear p00 p01 p10 p11
  replace hg := hg.below hb2
  replace h1 := h1.below hb2
  replace h2 := h2.below hb2
  replace hp := hp.below hb2
  replace X0 := X0.below hb2
  replace X1 := X1.below hb2
  replace hbW : Below w.heap.size w t2 := hbW.trans (hb2.mono hbW.size)
  clear hb2 hfw
  obtain ⟨p00, p01, _⟩ := X0.cells
  obtain ⟨p10, p11, _⟩ := X1.cells
  cases q with
  | false =>
    clear hq
    go_wp2_with fail
    refine (awake10_any _).mono ?_
    rintro e v9 ⟨rfl, hb9⟩
    replace hbW := hbW.trans (hb9.mono hbW.size)
    clear hb9
    go_wp2
    go_ret
    exact ⟨rfl, hbW⟩
  | true =>
    have hq2 : ∀ l ∈ g, l.length ≤ 8 := (hq rfl).2
    clear hq
    by_cases hx0 : xs.length < g.length
    · have g2 : decide ((xs.length : Int) < (g.length : Int)) = true := decide_eq_true (by omega)
      go_wp2_with fail
      refine (awake10_any _).mono ?_
      rintro e v9 ⟨rfl, hb9⟩
      replace hbW := hbW.trans (hb9.mono hbW.size)
      clear hb9
      go_wp2
      go_ret
      exact ⟨rfl, hbW⟩
    have g2 : decide ((xs.length : Int) < (g.length : Int)) = false := decide_eq_false (by omega)
    by_cases hy0 : ys.length < g.length
    · have g3 : decide ((ys.length : Int) < (g.length : Int)) = true := decide_eq_true (by omega)
      go_wp2_with fail
      refine (awake10_any _).mono ?_
      rintro e v9 ⟨rfl, hb9⟩
      replace hbW := hbW.trans (hb9.mono hbW.size)
      clear hb9
      go_wp2
      go_ret
      exact ⟨rfl, hbW⟩
    have g3 : decide ((ys.length : Int) < (g.length : Int)) = false := decide_eq_false (by omega)
    by_cases h100 : 100 < cs.length
    · have g4 : decide ((100 : Int) < (cs.length : Int)) = true := decide_eq_true (by omega)
      go_wp2_with fail
      refine (awake10_any _).mono ?_
      rintro e v9 ⟨rfl, hb9⟩
      replace hbW := hbW.trans (hb9.mono hbW.size)
      clear hb9
      go_wp2
      go_ret
      exact ⟨rfl, hbW⟩
    have g4 : decide ((100 : Int) < (cs.length : Int)) = false := decide_eq_false (by omega)
    have HX0 : Hid (Bx2 53 t2 w.heap.size (.slice p1 xs.length c1) (.slice p2 ys.length c2)) := X0
    have HX1 : Hid (BxS t2 (w.heap.size + 1) (.slice a g.length ca) (.slice none 0 0)) := X1
    have HBW : Hid (Below w.heap.size w t2) := hbW
    have HG : Hid (Tzz t2 a ca g) := hg
    have HP : Hid (Ri t2 pa pc cs) := hp
    have H1 : Hid (Rh t2 p1 c1 xs) := h1
    have H2 : Hid (Rh t2 p2 c2 ys) := h2
    clear hg hp h1 h2
    go_wp2
    clear X0 X1 hbW p00 p01 p10 p11
    go_loopw [8, 9, 10, 11, 12] (fun va vb vc vd i wr => ∃ k : Nat, k ≤ g.length ∧ i = .int .i64 (k : Int) ∧ F4 t2.heap.size wr va vb vc vd (rowF (fun j => xs.getD j 0) k) (rowF (fun j => ys.getD j 0) k) (rowF (fun j => xs.getD j 0 + ys.getD j 0) k) (rowF (fun j => 3 * xs.getD j 0) k) ∧ Below t2.heap.size t2 wr) (fun _ _ _ _ i _ => g.length - (intOf i).toNat)
    case atStart => exact ⟨0, Nat.zero_le _, rfl, ⟨⟨Io.nil _ _, Io.nil _ _, Io.nil _ _, Io.nil _ _⟩, Ap.nil _, Ap.nil _, Ap.nil _, Ap.nil _, Ap.nil _, Ap.nil _⟩, Below.refl _ _⟩
    case round =>
      obtain ⟨k, hk, rfl, hF, hBV⟩ := hrel
      obtain ⟨a8, c8, rfl, _⟩ := hF.1.1.slice
      obtain ⟨a9, c9, rfl, _⟩ := hF.1.2.1.slice
      obtain ⟨a10, c10, rfl, _⟩ := hF.1.2.2.1.slice
      obtain ⟨a11, c11, rfl, _⟩ := hF.1.2.2.2.slice
      simp only [rowF_len] at hF ⊢
      have HF : Hid (F4 t2.heap.size wr (.slice a8 k c8) (.slice a9 k c9) (.slice a10 k c10) (.slice a11 k c11) (rowF (fun j => xs.getD j 0) k) (rowF (fun j => ys.getD j 0) k) (rowF (fun j => xs.getD j 0 + ys.getD j 0) k) (rowF (fun j => 3 * xs.getD j 0) k)) := hF
      clear hF
      by_cases hkn : k < g.length
      · obtain ⟨r1, o1, e1, hr1, d1⟩ := H1.out.at hBV k (by omega)
        obtain ⟨r2, o2, e2, hr2, d2⟩ := H2.out.at hBV k (by omega)
        have hxb := H1.out.in (k := k) (by omega)
        have hyb := H2.out.in (k := k) (by omega)
        have HS1 : Hid (rowF (fun j => xs.getD j 0) (k + 1) = rowF (fun j => xs.getD j 0) k ++ [xs.getD k 0]) := rowF_succ _ _
        have HS2 : Hid (rowF (fun j => ys.getD j 0) (k + 1) = rowF (fun j => ys.getD j 0) k ++ [ys.getD k 0]) := rowF_succ _ _
        have HS3 : Hid (rowF (fun j => xs.getD j 0 + ys.getD j 0) (k + 1) = rowF (fun j => xs.getD j 0 + ys.getD j 0) k ++ [xs.getD k 0 + ys.getD k 0]) := rowF_succ _ _
        have HS4 : Hid (rowF (fun j => 3 * xs.getD j 0) (k + 1) = rowF (fun j => 3 * xs.getD j 0) k ++ [3 * xs.getD k 0]) := rowF_succ _ _
        have hL1 : (rowF (fun j => xs.getD j 0) k).length + 1 ≤ 1000000 := by rw [rowF_len]; omega
        have hL2 : (rowF (fun j => ys.getD j 0) k).length + 1 ≤ 1000000 := by rw [rowF_len]; omega
        have hL3 : (rowF (fun j => xs.getD j 0 + ys.getD j 0) k).length + 1 ≤ 1000000 := by rw [rowF_len]; omega
        have hL4 : (rowF (fun j => 3 * xs.getD j 0) k).length + 1 ≤ 1000000 := by rw [rowF_len]; omega
        generalize rowF (fun j => xs.getD j 0) k = A0 at *
        generalize rowF (fun j => ys.getD j 0) k = B0 at *
        generalize rowF (fun j => xs.getD j 0 + ys.getD j 0) k = C0 at *
        generalize rowF (fun j => 3 * xs.getD j 0) k = D0 at *
        generalize xs.getD k 0 = x at *
        generalize ys.getD k 0 = y at *
        subst e1 e2
        have X0 := HX0.out.below hBV
        have hbW := HBW.out.trans (hBV.mono HBW.out.size)
        have A1 : Cl wr r1 (o1 + k) (.int .i16 x) := ⟨Nat.lt_of_lt_of_le hr1 hBV.size, d1⟩
        have A2 : Cl wr r2 (o2 + k) (.int .i16 y) := ⟨Nat.lt_of_lt_of_le hr2 hBV.size, d2⟩
        have hwx : IntKind.i64.wrap x = x := wrapi64 (by omega) (by omega)
        have hwy : IntKind.i64.wrap y = y := wrapi64 (by omega) (by omega)
        have i1 : (0 : Int) ≤ (k : Int) := by omega
        have i2 : (k : Int) < (xs.length : Int) := by omega
        have i3 : (k : Int) < (ys.length : Int) := by omega
        have hbR : Below wr.heap.size wr wr := Below.refl _ _
        obtain ⟨p00, p01, _⟩ := X0.cells
        go_upto_region 8 with fail
        have q1 := A1.2
        have q2 := A2.2
        refine wp_region_held_drew (S := (fun u => u.cell? ⟨w.heap.size, 0, none⟩ = some (.slice (some ⟨r1, o1, none⟩) xs.length c1) ∧ u.cell? ⟨w.heap.size, 1, none⟩ = some (.slice (some ⟨r2, o2, none⟩) ys.length c2) ∧ u.cell? ⟨r1, o1 + k, none⟩ = some (.int .i16 x) ∧ u.cell? ⟨r2, o2 + k, none⟩ = some (.int .i16 y))) (by kernel_rfl) ?_ (fun hHeld => ?_)
        · (try dsimp only)
          go_keep
        have hdr : Below wr.heap.size wr wr.drew := Below.drew1
        generalize wr.drew = ud1 at hdr hHeld ⊢
        replace A1 := A1.below hdr
        replace A2 := A2.below hdr
        replace X0 := X0.below hdr
        replace hbW : Below w.heap.size w ud1 := hbW.trans (hdr.mono hbW.size)
        replace hbR : Below wr.heap.size wr ud1 := hbR.trans (hdr.mono hbR.size)
        clear hdr
        clear p00 p01
        obtain ⟨p00, p01, _⟩ := X0.cells
        refine hT 0 hHeld ?_
        refine hT 1 hHeld ?_
        refine hT 2 hHeld ?_
        refine hT 3 hHeld ?_
        refine hT 4 hHeld ?_
        refine hT 5 hHeld ?_
        refine hT 6 hHeld ?_
        refine hT 7 hHeld ?_
        refine hT 8 hHeld ?_
        refine hT 9 hHeld ?_
        refine hT 10 hHeld ?_
        refine hT 11 hHeld ?_
        refine hT 12 hHeld ?_
        refine hT 13 hHeld ?_
        refine wpAnyH_done (by kernel_rfl) ?_ _
        clear hHeld
        have hF := HF.out.below hbR
        replace hBV := hBV.trans (hbR.mono hBV.size)
        clear hbR X0 A1 A2 p00 p01
        have hF1a := hF.below (bl1 (.cells #[.int .i64 (x)] 3))
        have hN := heap_alloc_new ud1 (.cells #[.int .i64 (x)] 3)
        have n0 := cell_of_row _ ud1.heap.size 0 _ _ (0, 0) hN
        have hbs : t2.heap.size ≤ (ud1.alloc (.cells #[.int .i64 (x)] 3)).heap.size := by have := hBV.size; simp; omega
        clear hN
        go_wp2_with (at_builtin; refine wpList_append_int5 rfl _ _ rfl t2.heap.size _ A0 rfl hF1a.1.1 ud1.heap.size (x) rfl n0 ⟨by omega, by omega⟩ hL1 hbs ?_)
        intro v1 y1 hT hgrow hfr
        replace hBV : Below t2.heap.size t2 y1 := (hBV.alloc hBV.size _).grown hgrow hbs (fun k hk => hF1a.1.1.lo hk)
        replace hF := (hF1a.grow hgrow hT (by simpa using hfr)).rot
        clear hgrow hfr hT n0 hbs hF1a
        have hF2a := hF.below (bl1 (.cells #[.int .i64 (y)] 3))
        have hN := heap_alloc_new y1 (.cells #[.int .i64 (y)] 3)
        have n0 := cell_of_row _ y1.heap.size 0 _ _ (0, 0) hN
        have hbs : t2.heap.size ≤ (y1.alloc (.cells #[.int .i64 (y)] 3)).heap.size := by have := hBV.size; simp; omega
        clear hN
        go_wp2_with (at_builtin; refine wpList_append_int5 rfl _ _ rfl t2.heap.size _ B0 rfl hF2a.1.1 y1.heap.size (y) rfl n0 ⟨by omega, by omega⟩ hL2 hbs ?_)
        intro v2 y2 hT hgrow hfr
        replace hBV : Below t2.heap.size t2 y2 := (hBV.alloc hBV.size _).grown hgrow hbs (fun k hk => hF2a.1.1.lo hk)
        replace hF := (hF2a.grow hgrow hT (by simpa using hfr)).rot
        clear hgrow hfr hT n0 hbs hF2a
        have hF3a := hF.below (bl1 (.cells #[.int .i64 (x + y)] 3))
        have hN := heap_alloc_new y2 (.cells #[.int .i64 (x + y)] 3)
        have n0 := cell_of_row _ y2.heap.size 0 _ _ (0, 0) hN
        have hbs : t2.heap.size ≤ (y2.alloc (.cells #[.int .i64 (x + y)] 3)).heap.size := by have := hBV.size; simp; omega
        clear hN
        go_wp2_with (at_builtin; refine wpList_append_int5 rfl _ _ rfl t2.heap.size _ C0 rfl hF3a.1.1 y2.heap.size (x + y) rfl n0 ⟨by omega, by omega⟩ hL3 hbs ?_)
        intro v3 y3 hT hgrow hfr
        replace hBV : Below t2.heap.size t2 y3 := (hBV.alloc hBV.size _).grown hgrow hbs (fun k hk => hF3a.1.1.lo hk)
        replace hF := (hF3a.grow hgrow hT (by simpa using hfr)).rot
        clear hgrow hfr hT n0 hbs hF3a
        have hF4a := hF.below (bl1 (.cells #[.int .i64 (3 * x)] 3))
        have hN := heap_alloc_new y3 (.cells #[.int .i64 (3 * x)] 3)
        have n0 := cell_of_row _ y3.heap.size 0 _ _ (0, 0) hN
        have hbs : t2.heap.size ≤ (y3.alloc (.cells #[.int .i64 (3 * x)] 3)).heap.size := by have := hBV.size; simp; omega
        clear hN
        go_wp2_with (at_builtin; refine wpList_append_int5 rfl _ _ rfl t2.heap.size _ D0 rfl hF4a.1.1 y3.heap.size (3 * x) rfl n0 ⟨by omega, by omega⟩ hL4 hbs ?_)
        intro v4 y4 hT hgrow hfr
        replace hBV : Below t2.heap.size t2 y4 := (hBV.alloc hBV.size _).grown hgrow hbs (fun k hk => hF4a.1.1.lo hk)
        replace hF := (hF4a.grow hgrow hT (by simpa using hfr)).rot
        clear hgrow hfr hT n0 hbs hF4a
        rw [← HS1.out, ← HS2.out, ← HS3.out, ← HS4.out] at hF
        go_wp2
        go_roundw
        case rel => exact ⟨k + 1, by omega, by go_num, hF, hBV⟩
        case measure => simp [intOf]; omega
      · obtain rfl : k = g.length := by omega
        have hF := HF.out
        have X1 := HX1.out.below hBV
        have hbW := HBW.out.trans (hBV.mono HBW.out.size)
        obtain ⟨_, _, w8, r8, l8⟩ := hF.1.1.sliceLo
        obtain ⟨_, _, w9, r9, l9⟩ := hF.1.2.1.sliceLo
        obtain ⟨_, _, w10, r10, l10⟩ := hF.1.2.2.1.sliceLo
        obtain ⟨_, _, w11, r11, l11⟩ := hF.1.2.2.2.sliceLo
        rw [rowF_len] at w8 w9 w10 w11
        cases w8
        cases w9
        cases w10
        cases w11
        have hX1V := HX1.out.lt
        have hs9 := hBV.size
        have hq0 : w.heap.size + 1 < wr.heap.size := by omega
        obtain ⟨A, hA⟩ : ∃ A, rowF (fun j => xs.getD j 0) g.length = A := ⟨_, rfl⟩
        obtain ⟨B, hB⟩ : ∃ A, rowF (fun j => ys.getD j 0) g.length = A := ⟨_, rfl⟩
        obtain ⟨C, hC⟩ : ∃ A, rowF (fun j => xs.getD j 0 + ys.getD j 0) g.length = A := ⟨_, rfl⟩
        obtain ⟨D, hD⟩ : ∃ A, rowF (fun j => 3 * xs.getD j 0) g.length = A := ⟨_, rfl⟩
        have eA : A.length = g.length := by rw [← hA]; exact rowF_len _ _
        have eB : B.length = g.length := by rw [← hB]; exact rowF_len _ _
        have eC : C.length = g.length := by rw [← hC]; exact rowF_len _ _
        have eD : D.length = g.length := by rw [← hD]; exact rowF_len _ _
        obtain ⟨S, hS⟩ : ∃ S : Sr, (⟨g, [A, B, C, D]⟩ : Sr) = S := ⟨_, rfl⟩
        have HSU : Hid (chQ S 2 cs = chQ S 0 cs + chQ S 1 cs ∧ chQ S 3 cs = chQ S 0 cs * ((3 : Int) : Rat)) := sums_ch (g := g) (xs := xs) (ys := ys) (by rw [hA, hB, hC, hD]; exact hS.symm)
        rw [hA] at r8
        rw [hB] at r9
        rw [hC] at r10
        rw [hD] at r11
        obtain ⟨U, hU, X2, hm, hbU⟩ : ∃ U, U = (wr.setCell ⟨w.heap.size + 1, 1, none⟩ (.slice (some ⟨wr.heap.size, 0, none⟩) 4 4)).alloc (.cells #[.slice a8 g.length c8, .slice a9 g.length c9, .slice a10 g.length c10, .slice a11 g.length c11] 54) ∧
            BxS U (w.heap.size + 1) (.slice a g.length ca) (.slice (some ⟨wr.heap.size, 0, none⟩) 4 4) ∧ Rii U (some ⟨wr.heap.size, 0, none⟩) 4 [A, B, C, D] ∧ Below w.heap.size w U := by
          have hsz : (wr.setCell ⟨w.heap.size + 1, 1, none⟩ (.slice (some ⟨wr.heap.size, 0, none⟩) 4 4)).heap.size = wr.heap.size := by simp [World.setCell]
          have hoth : ∀ j, j ≠ w.heap.size + 1 → (wr.setCell ⟨w.heap.size + 1, 1, none⟩ (.slice (some ⟨wr.heap.size, 0, none⟩) 4 4)).heap[j]? = wr.heap[j]? := fun j hj => Below.heap_setCell _ ⟨w.heap.size + 1, 1, none⟩ _ j hj
          have hk : ∀ {a' : Option Addr} {c' : Nat} {L : List Int}, Ri wr a' c' L → (∀ b o, a' = some ⟨b, o, none⟩ → t2.heap.size ≤ b) → Ri ((wr.setCell ⟨w.heap.size + 1, 1, none⟩ (.slice (some ⟨wr.heap.size, 0, none⟩) 4 4)).alloc (.cells #[.slice a8 g.length c8, .slice a9 g.length c9, .slice a10 g.length c10, .slice a11 g.length c11] 54)) a' c' L := fun {a' c' L} hr hl => by
            refine hr.keep (by simp [World.setCell]) (fun b hb hx _ => ?_)
            obtain ⟨o, ho⟩ := hx
            have := hl b o ho
            exact ((bl1 _).block b (by rw [hsz]; exact hb)).trans (hoth b (by omega))
          refine ⟨_, rfl, (X1.set1 _).below (bl1 _), ?_, ?_⟩
          · refine Rii.four (ty := 54) ?_ (hk r8 l8) (hk r9 l9) (hk r10 l10) (hk r11 l11)
            rw [eA, eB, eC, eD]
            exact alloc_new hsz _
          · have h1 := hbW.setCell (p := ⟨w.heap.size + 1, 1, none⟩) (by show w.heap.size ≤ w.heap.size + 1; omega) (.slice (some ⟨wr.heap.size, 0, none⟩) 4 4)
            exact h1.alloc h1.size _
        have hch := fun (i : Int) V (h1 : Tzz V a ca g) (h2 : Rii V (some ⟨wr.heap.size, 0, none⟩) 4 [A, B, C, D]) h3 => cchange_any a ca (some ⟨wr.heap.size, 0, none⟩) 4 ⟨g, [A, B, C, D]⟩ i pa pc cs V h1 h2 h3 (by show g.length ≤ 40; omega) hq2
        dsimp only at hch
        simp only [hS, List.length_cons, List.length_nil, Nat.reduceAdd, Nat.zero_add] at hch
        obtain ⟨q0, hq00⟩ : ∃ q, chQ S 0 cs = q := ⟨_, rfl⟩
        obtain ⟨q1, hq01⟩ : ∃ q, chQ S 1 cs = q := ⟨_, rfl⟩
        have hc0 := hch 0
        have hc1 := hch 1
        have hc2 := hch 2
        have hc3 := hch 3
        simp only [hq00] at hc0
        simp only [hq01] at hc1
        simp only [HSU.out.1, hq00, hq01] at hc2
        simp only [HSU.out.2, hq00] at hc3
        have hg := HG0.out.below hbU
        have hp := HP0.out.below hbU
        obtain ⟨x0, x1, x2, x3⟩ := X1.cells
        have gU : wr.heap.size ≤ U.heap.size := by rw [hU]; simp [World.setCell]
        clear hch hq00 hq01 HSU hS hA hB hC hD r8 r9 r10 r11 l8 l9 l10 l11 hF HF HX0 HX1 HBW HG HP H1 H2 hq2 eA eB eC eD
        go_upto_region 14 with fail
        rw [← hU]
        clear hU X1 x0 x1 x2 x3 hbW hBV hX1V hs9 hq0
        generalize wr.heap.size = gr at *
        have HX2 : Hid (BxS U (w.heap.size + 1) (.slice a g.length ca) (.slice (some ⟨gr, 0, none⟩) 4 4)) := X2
        have HG2 : Hid (Tzz U a ca g) := hg
        have HM2 : Hid (Rii U (some ⟨gr, 0, none⟩) 4 [A, B, C, D]) := hm
        have HP2 : Hid (Ri U pa pc cs) := hp
        have HBW : Hid (Below w.heap.size w U) := hbU
        generalize [A, B, C, D] = rows at *
        go_cut [15, 16] from 17 to 119 (fun s15 s16 wx => ∃ (g5 : Nat) (n5 : Bool) (a5 : Option Addr) (x5 c5 : Nat) (b5 : Option Addr) (y5 d5 : Nat) (g6 : Nat) (n6 : Bool) (a6 : Option Addr) (x6 c6 : Nat) (b6 : Option Addr) (y6 d6 : Nat), s15 = .pointer (some ⟨g5, 0, none⟩) ∧ s16 = .pointer (some ⟨g6, 0, none⟩) ∧ Box 49 wx g5 (.bool n5) (.slice a5 x5 c5) (.slice b5 y5 d5) ∧ Fr wx (.agg #[.bool n5, .slice a5 x5 c5, .slice b5 y5 d5]) 1000 q0 ∧ Box 49 wx g6 (.bool n6) (.slice a6 x6 c6) (.slice b6 y6 d6) ∧ Fr wx (.agg #[.bool n6, .slice a6 x6 c6, .slice b6 y6 d6]) 1000 q1 ∧ Below U.heap.size U wx)
        case first =>
          have hbR : Below U.heap.size U U := Below.refl _ _
          have hbW := hbU
          obtain ⟨p00, p01, _⟩ := X2.cells
          refine wp_region_held_drew (S := (fun u => u.cell? ⟨w.heap.size + 1, 0, none⟩ = some (.slice a g.length ca) ∧ u.cell? ⟨w.heap.size + 1, 1, none⟩ = some (.slice (some ⟨gr, 0, none⟩) 4 4))) (by kernel_rfl) ?_ (fun hHeld => ?_)
          · (try dsimp only)
            go_keep
          have hdr : Below U.heap.size U U.drew := Below.drew1
          generalize U.drew = ud2 at hdr hHeld ⊢
          replace hg := hg.below hdr
          replace hm := hm.below hdr
          replace hp := hp.below hdr
          replace X2 := X2.below hdr
          replace hbW : Below w.heap.size w ud2 := hbW.trans (hdr.mono hbW.size)
          replace hbR : Below U.heap.size U ud2 := hbR.trans (hdr.mono hbR.size)
          clear hdr
          clear p00 p01
          obtain ⟨p00, p01, _⟩ := X2.cells
          refine hT 0 hHeld ?_
          refine hT 1 hHeld ?_
          refine hT 3 hHeld ?_
          refine hT 4 hHeld ?_
          refine wpAnyH_ready (rs := [2, 6, 7]) (by kernel_rfl) (by simp) (hCons (i := 2) rfl (by rfl) (fun K hK => ?_) (hCons (i := 6) rfl (by rfl) (fun K hK => ?_) (hCons (i := 7) rfl (by rfl) (fun K hK => ?_) AllReadyH.nil)))
          · go_simp
            refine (hc0 _ hg hm hp).mono ?_
            rintro e u31 ⟨v5, rfl, hF5, hb31⟩
            replace hg := hg.below hb31
            replace hm := hm.below hb31
            replace hp := hp.below hb31
            replace X2 := X2.below hb31
            replace hbW : Below w.heap.size w u31 := hbW.trans (hb31.mono hbW.size)
            replace hbR : Below U.heap.size U u31 := hbR.trans (hb31.mono hbR.size)
            clear hb31
            obtain ⟨n5, x5, y5, ⟨a5, c5, b5, d5, rfl, hx5, hy5⟩, hF5⟩ := hF5
            clear p00 p01
            obtain ⟨p00, p01, _⟩ := X2.cells
            go_wp2_with fail
            refine hK.out _ _ ?_ (fun hHeld => ?_)
            · (try dsimp only)
              exact ⟨p00, p01⟩
            clear hK K
            try simp only [Act.put, List.setIfInBounds_toArray, List.set_cons_zero, List.set_cons_succ]
            refine wpAnyH_ready (rs := [5, 6, 7]) (by kernel_rfl) (by simp) (hCons (i := 5) rfl (by rfl) (fun K hK => ?_) (hCons (i := 6) rfl (by rfl) (fun K hK => ?_) (hCons (i := 7) rfl (by rfl) (fun K hK => ?_) AllReadyH.nil)))
            · go_simp
              refine (hc1 _ hg hm hp).mono ?_
              rintro e u32 ⟨v6, rfl, hF6, hb32⟩
              replace hg := hg.below hb32
              replace hm := hm.below hb32
              replace hp := hp.below hb32
              replace hx5 := hx5.below hb32
              replace hy5 := hy5.below hb32
              replace X2 := X2.below hb32
              replace hbW : Below w.heap.size w u32 := hbW.trans (hb32.mono hbW.size)
              replace hbR : Below U.heap.size U u32 := hbR.trans (hb32.mono hbR.size)
              clear hb32
              obtain ⟨n6, x6, y6, ⟨a6, c6, b6, d6, rfl, hx6, hy6⟩, hF6⟩ := hF6
              clear p00 p01
              obtain ⟨p00, p01, _⟩ := X2.cells
              go_wp2_with fail
              refine hK.out _ _ ?_ (fun hHeld => ?_)
              · (try dsimp only)
                exact ⟨p00, p01⟩
              clear hK K
              try simp only [Act.put, List.setIfInBounds_toArray, List.set_cons_zero, List.set_cons_succ]
              refine wpAnyH_ready (rs := [6, 7]) (by kernel_rfl) (by simp) (hCons (i := 6) rfl (by rfl) (fun K hK => ?_) (hCons (i := 7) rfl (by rfl) (fun K hK => ?_) AllReadyH.nil))
              · go_simp
                obtain ⟨u93, hU, B5, hb9⟩ : ∃ U, U = u32.alloc (.cells #[.bool false, .slice none 0 0, .slice none 0 0] 49) ∧ Box 49 U u32.heap.size (.bool false) (.slice none 0 0) (.slice none 0 0) ∧ Below u32.heap.size u32 U := ⟨_, rfl, Box.new _ _ _ _ _, al1 _⟩
                rw [← hU]
                clear hU
                have n1g5 := hbR.size
                have n2g5 := hbW.size
                replace hg := hg.below hb9
                replace hm := hm.below hb9
                replace hp := hp.below hb9
                replace hx5 := hx5.below hb9
                replace hy5 := hy5.below hb9
                replace hx6 := hx6.below hb9
                replace hy6 := hy6.below hb9
                replace X2 := X2.below hb9
                replace hbW : Below w.heap.size w u93 := hbW.trans (hb9.mono hbW.size)
                replace hbR : Below U.heap.size U u93 := hbR.trans (hb9.mono hbR.size)
                clear hb9
                generalize u32.heap.size = g5 at *
                clear p00 p01
                obtain ⟨p00, p01, _⟩ := X2.cells
                refine hK.out _ _ ?_ (fun hHeld => ?_)
                · (try dsimp only)
                  exact ⟨p00, p01⟩
                clear hK K
                try simp only [Act.put, List.setIfInBounds_toArray, List.set_cons_zero, List.set_cons_succ]
                refine hCall (i := 7) rfl (by kernel_rfl) (by rfl) (fun K hK => ?_)
                go_simp
                have nlt := B5.lt
                obtain ⟨u94, hU, B6, hb9⟩ : ∃ U, U = u93.alloc (.cells #[.bool false, .slice none 0 0, .slice none 0 0] 49) ∧ Box 49 U u93.heap.size (.bool false) (.slice none 0 0) (.slice none 0 0) ∧ Below u93.heap.size u93 U := ⟨_, rfl, Box.new _ _ _ _ _, al1 _⟩
                rw [← hU]
                clear hU
                have n1g6 := hbR.size
                have n2g6 := hbW.size
                replace hg := hg.below hb9
                replace hm := hm.below hb9
                replace hp := hp.below hb9
                replace hx5 := hx5.below hb9
                replace hy5 := hy5.below hb9
                replace hx6 := hx6.below hb9
                replace hy6 := hy6.below hb9
                replace B5 := B5.below hb9
                replace X2 := X2.below hb9
                replace hbW : Below w.heap.size w u94 := hbW.trans (hb9.mono hbW.size)
                replace hbR : Below U.heap.size U u94 := hbR.trans (hb9.mono hbR.size)
                clear hb9
                generalize u93.heap.size = g6 at *
                clear p00 p01
                obtain ⟨p00, p01, _⟩ := X2.cells
                refine hK.out _ _ ?_ (fun hHeld => ?_)
                · (try dsimp only)
                  exact ⟨p00, p01⟩
                clear hK K
                try simp only [Act.put, List.setIfInBounds_toArray, List.set_cons_zero, List.set_cons_succ]
                refine hCall (i := 8) rfl (by kernel_rfl) (by rfl) (fun K hK => ?_)
                go_simp
                obtain ⟨f1, f2, f3, f4, f5, f6⟩ := B5.cells
                try go_simp
                obtain ⟨u95, hU, A5, hbU, hK9, ho⟩ := set3_world B5 (.bool n5) (.slice a5 x5.length c5) (.slice b5 y5.length d5)
                rw [← hU]
                clear hU f1 f2 f3 f4 f5 f6
                replace hbW := hbU _ _ hbW (by omega)
                replace hbR := hbU _ _ hbR (by omega)
                replace B6 := B6.other ho (by omega)
                replace hx5 := hK9 _ _ _ hx5
                replace hy5 := hK9 _ _ _ hy5
                replace hx6 := hK9 _ _ _ hx6
                replace hy6 := hK9 _ _ _ hy6
                clear hbU hK9 ho X2
                have X2 := HX2.out.below hbR
                clear p00 p01
                obtain ⟨p00, p01, _⟩ := X2.cells
                refine hK.out _ _ ?_ (fun hHeld => ?_)
                · (try dsimp only)
                  exact ⟨p00, p01⟩
                clear hK K
                try simp only [Act.put, List.setIfInBounds_toArray, List.set_cons_zero, List.set_cons_succ]
                refine hCall (i := 9) rfl (by kernel_rfl) (by rfl) (fun K hK => ?_)
                go_simp
                obtain ⟨f1, f2, f3, f4, f5, f6⟩ := B6.cells
                try go_simp
                obtain ⟨u96, hU, A6, hbU, hK9, ho⟩ := set3_world B6 (.bool n6) (.slice a6 x6.length c6) (.slice b6 y6.length d6)
                rw [← hU]
                clear hU f1 f2 f3 f4 f5 f6
                replace hbW := hbU _ _ hbW (by omega)
                replace hbR := hbU _ _ hbR (by omega)
                replace A5 := A5.other ho (by omega)
                replace hx5 := hK9 _ _ _ hx5
                replace hy5 := hK9 _ _ _ hy5
                replace hx6 := hK9 _ _ _ hx6
                replace hy6 := hK9 _ _ _ hy6
                clear hbU hK9 ho X2
                have X2 := HX2.out.below hbR
                clear p00 p01
                obtain ⟨p00, p01, _⟩ := X2.cells
                refine hK.out _ _ ?_ (fun hHeld => ?_)
                · (try dsimp only)
                  exact ⟨p00, p01⟩
                clear hK K
                try simp only [Act.put, List.setIfInBounds_toArray, List.set_cons_zero, List.set_cons_succ]
                refine wpAnyH_done (by kernel_rfl) ?_ _
                clear hHeld
                go_wp2_with fail
                go_meet
                exact ⟨g5, _, _, _, _, _, _, _, g6, _, _, _, _, _, _, _, rfl, rfl, A5, ⟨_, _, _, ⟨_, _, _, _, rfl, hx5, hy5⟩, hF5⟩, A6, ⟨_, _, _, ⟨_, _, _, _, rfl, hx6, hy6⟩, hF6⟩, hbR⟩
              · go_simp
                obtain ⟨u93, hU, B6, hb9⟩ : ∃ U, U = u32.alloc (.cells #[.bool false, .slice none 0 0, .slice none 0 0] 49) ∧ Box 49 U u32.heap.size (.bool false) (.slice none 0 0) (.slice none 0 0) ∧ Below u32.heap.size u32 U := ⟨_, rfl, Box.new _ _ _ _ _, al1 _⟩
                rw [← hU]
                clear hU
                have n1g6 := hbR.size
                have n2g6 := hbW.size
                replace hg := hg.below hb9
                replace hm := hm.below hb9
                replace hp := hp.below hb9
                replace hx5 := hx5.below hb9
                replace hy5 := hy5.below hb9
                replace hx6 := hx6.below hb9
                replace hy6 := hy6.below hb9
                replace X2 := X2.below hb9
                replace hbW : Below w.heap.size w u93 := hbW.trans (hb9.mono hbW.size)
                replace hbR : Below U.heap.size U u93 := hbR.trans (hb9.mono hbR.size)
                clear hb9
                generalize u32.heap.size = g6 at *
                clear p00 p01
                obtain ⟨p00, p01, _⟩ := X2.cells
                refine hK.out _ _ ?_ (fun hHeld => ?_)
                · (try dsimp only)
                  exact ⟨p00, p01⟩
                clear hK K
                try simp only [Act.put, List.setIfInBounds_toArray, List.set_cons_zero, List.set_cons_succ]
                refine hCall (i := 6) rfl (by kernel_rfl) (by rfl) (fun K hK => ?_)
                go_simp
                have nlt := B6.lt
                obtain ⟨u94, hU, B5, hb9⟩ : ∃ U, U = u93.alloc (.cells #[.bool false, .slice none 0 0, .slice none 0 0] 49) ∧ Box 49 U u93.heap.size (.bool false) (.slice none 0 0) (.slice none 0 0) ∧ Below u93.heap.size u93 U := ⟨_, rfl, Box.new _ _ _ _ _, al1 _⟩
                rw [← hU]
                clear hU
                have n1g5 := hbR.size
                have n2g5 := hbW.size
                replace hg := hg.below hb9
                replace hm := hm.below hb9
                replace hp := hp.below hb9
                replace hx5 := hx5.below hb9
                replace hy5 := hy5.below hb9
                replace hx6 := hx6.below hb9
                replace hy6 := hy6.below hb9
                replace B6 := B6.below hb9
                replace X2 := X2.below hb9
                replace hbW : Below w.heap.size w u94 := hbW.trans (hb9.mono hbW.size)
                replace hbR : Below U.heap.size U u94 := hbR.trans (hb9.mono hbR.size)
                clear hb9
                generalize u93.heap.size = g5 at *
                clear p00 p01
                obtain ⟨p00, p01, _⟩ := X2.cells
                refine hK.out _ _ ?_ (fun hHeld => ?_)
                · (try dsimp only)
                  exact ⟨p00, p01⟩
                clear hK K
                try simp only [Act.put, List.setIfInBounds_toArray, List.set_cons_zero, List.set_cons_succ]
                refine hCall (i := 8) rfl (by kernel_rfl) (by rfl) (fun K hK => ?_)
                go_simp
                obtain ⟨f1, f2, f3, f4, f5, f6⟩ := B5.cells
                try go_simp
                obtain ⟨u95, hU, A5, hbU, hK9, ho⟩ := set3_world B5 (.bool n5) (.slice a5 x5.length c5) (.slice b5 y5.length d5)
                rw [← hU]
                clear hU f1 f2 f3 f4 f5 f6
                replace hbW := hbU _ _ hbW (by omega)
                replace hbR := hbU _ _ hbR (by omega)
                replace B6 := B6.other ho (by omega)
                replace hx5 := hK9 _ _ _ hx5
                replace hy5 := hK9 _ _ _ hy5
                replace hx6 := hK9 _ _ _ hx6
                replace hy6 := hK9 _ _ _ hy6
                clear hbU hK9 ho X2
                have X2 := HX2.out.below hbR
                clear p00 p01
                obtain ⟨p00, p01, _⟩ := X2.cells
                refine hK.out _ _ ?_ (fun hHeld => ?_)
                · (try dsimp only)
                  exact ⟨p00, p01⟩
                clear hK K
                try simp only [Act.put, List.setIfInBounds_toArray, List.set_cons_zero, List.set_cons_succ]
                refine hCall (i := 9) rfl (by kernel_rfl) (by rfl) (fun K hK => ?_)
                go_simp
                obtain ⟨f1, f2, f3, f4, f5, f6⟩ := B6.cells
                try go_simp
                obtain ⟨u96, hU, A6, hbU, hK9, ho⟩ := set3_world B6 (.bool n6) (.slice a6 x6.length c6) (.slice b6 y6.length d6)
                rw [← hU]
                clear hU f1 f2 f3 f4 f5 f6
                replace hbW := hbU _ _ hbW (by omega)
                replace hbR := hbU _ _ hbR (by omega)
                replace A5 := A5.other ho (by omega)
                replace hx5 := hK9 _ _ _ hx5
                replace hy5 := hK9 _ _ _ hy5
                replace hx6 := hK9 _ _ _ hx6
                replace hy6 := hK9 _ _ _ hy6
                clear hbU hK9 ho X2
                have X2 := HX2.out.below hbR
                clear p00 p01
                obtain ⟨p00, p01, _⟩ := X2.cells
                refine hK.out _ _ ?_ (fun hHeld => ?_)
                · (try dsimp only)
                  exact ⟨p00, p01⟩
                clear hK K
                try simp only [Act.put, List.setIfInBounds_toArray, List.set_cons_zero, List.set_cons_succ]
                refine wpAnyH_done (by kernel_rfl) ?_ _
                clear hHeld
                go_wp2_with fail
                go_meet
                exact ⟨g5, _, _, _, _, _, _, _, g6, _, _, _, _, _, _, _, rfl, rfl, A5, ⟨_, _, _, ⟨_, _, _, _, rfl, hx5, hy5⟩, hF5⟩, A6, ⟨_, _, _, ⟨_, _, _, _, rfl, hx6, hy6⟩, hF6⟩, hbR⟩
            · go_simp
              obtain ⟨u92, hU, B5, hb9⟩ : ∃ U, U = u31.alloc (.cells #[.bool false, .slice none 0 0, .slice none 0 0] 49) ∧ Box 49 U u31.heap.size (.bool false) (.slice none 0 0) (.slice none 0 0) ∧ Below u31.heap.size u31 U := ⟨_, rfl, Box.new _ _ _ _ _, al1 _⟩
              rw [← hU]
              clear hU
              have n1g5 := hbR.size
              have n2g5 := hbW.size
              replace hg := hg.below hb9
              replace hm := hm.below hb9
              replace hp := hp.below hb9
              replace hx5 := hx5.below hb9
              replace hy5 := hy5.below hb9
              replace X2 := X2.below hb9
              replace hbW : Below w.heap.size w u92 := hbW.trans (hb9.mono hbW.size)
              replace hbR : Below U.heap.size U u92 := hbR.trans (hb9.mono hbR.size)
              clear hb9
              generalize u31.heap.size = g5 at *
              clear p00 p01
              obtain ⟨p00, p01, _⟩ := X2.cells
              refine hK.out _ _ ?_ (fun hHeld => ?_)
              · (try dsimp only)
                exact ⟨p00, p01⟩
              clear hK K
              try simp only [Act.put, List.setIfInBounds_toArray, List.set_cons_zero, List.set_cons_succ]
              refine wpAnyH_ready (rs := [5, 7]) (by kernel_rfl) (by simp) (hCons (i := 5) rfl (by rfl) (fun K hK => ?_) (hCons (i := 7) rfl (by rfl) (fun K hK => ?_) AllReadyH.nil))
              · go_simp
                refine (hc1 _ hg hm hp).mono ?_
                rintro e u33 ⟨v6, rfl, hF6, hb33⟩
                replace hg := hg.below hb33
                replace hm := hm.below hb33
                replace hp := hp.below hb33
                replace hx5 := hx5.below hb33
                replace hy5 := hy5.below hb33
                replace B5 := B5.below hb33
                replace X2 := X2.below hb33
                replace hbW : Below w.heap.size w u33 := hbW.trans (hb33.mono hbW.size)
                replace hbR : Below U.heap.size U u33 := hbR.trans (hb33.mono hbR.size)
                clear hb33
                obtain ⟨n6, x6, y6, ⟨a6, c6, b6, d6, rfl, hx6, hy6⟩, hF6⟩ := hF6
                clear p00 p01
                obtain ⟨p00, p01, _⟩ := X2.cells
                go_wp2_with fail
                refine hK.out _ _ ?_ (fun hHeld => ?_)
                · (try dsimp only)
                  exact ⟨p00, p01⟩
                clear hK K
                try simp only [Act.put, List.setIfInBounds_toArray, List.set_cons_zero, List.set_cons_succ]
                refine hCall (i := 7) rfl (by kernel_rfl) (by rfl) (fun K hK => ?_)
                go_simp
                have nlt := B5.lt
                obtain ⟨u94, hU, B6, hb9⟩ : ∃ U, U = u33.alloc (.cells #[.bool false, .slice none 0 0, .slice none 0 0] 49) ∧ Box 49 U u33.heap.size (.bool false) (.slice none 0 0) (.slice none 0 0) ∧ Below u33.heap.size u33 U := ⟨_, rfl, Box.new _ _ _ _ _, al1 _⟩
                rw [← hU]
                clear hU
                have n1g6 := hbR.size
                have n2g6 := hbW.size
                replace hg := hg.below hb9
                replace hm := hm.below hb9
                replace hp := hp.below hb9
                replace hx5 := hx5.below hb9
                replace hy5 := hy5.below hb9
                replace B5 := B5.below hb9
                replace hx6 := hx6.below hb9
                replace hy6 := hy6.below hb9
                replace X2 := X2.below hb9
                replace hbW : Below w.heap.size w u94 := hbW.trans (hb9.mono hbW.size)
                replace hbR : Below U.heap.size U u94 := hbR.trans (hb9.mono hbR.size)
                clear hb9
                generalize u33.heap.size = g6 at *
                clear p00 p01
                obtain ⟨p00, p01, _⟩ := X2.cells
                refine hK.out _ _ ?_ (fun hHeld => ?_)
                · (try dsimp only)
                  exact ⟨p00, p01⟩
                clear hK K
                try simp only [Act.put, List.setIfInBounds_toArray, List.set_cons_zero, List.set_cons_succ]
                refine hCall (i := 8) rfl (by kernel_rfl) (by rfl) (fun K hK => ?_)
                go_simp
                obtain ⟨f1, f2, f3, f4, f5, f6⟩ := B5.cells
                try go_simp
                obtain ⟨u95, hU, A5, hbU, hK9, ho⟩ := set3_world B5 (.bool n5) (.slice a5 x5.length c5) (.slice b5 y5.length d5)
                rw [← hU]
                clear hU f1 f2 f3 f4 f5 f6
                replace hbW := hbU _ _ hbW (by omega)
                replace hbR := hbU _ _ hbR (by omega)
                replace B6 := B6.other ho (by omega)
                replace hx5 := hK9 _ _ _ hx5
                replace hy5 := hK9 _ _ _ hy5
                replace hx6 := hK9 _ _ _ hx6
                replace hy6 := hK9 _ _ _ hy6
                clear hbU hK9 ho X2
                have X2 := HX2.out.below hbR
                clear p00 p01
                obtain ⟨p00, p01, _⟩ := X2.cells
                refine hK.out _ _ ?_ (fun hHeld => ?_)
                · (try dsimp only)
                  exact ⟨p00, p01⟩
                clear hK K
                try simp only [Act.put, List.setIfInBounds_toArray, List.set_cons_zero, List.set_cons_succ]
                refine hCall (i := 9) rfl (by kernel_rfl) (by rfl) (fun K hK => ?_)
                go_simp
                obtain ⟨f1, f2, f3, f4, f5, f6⟩ := B6.cells
                try go_simp
                obtain ⟨u96, hU, A6, hbU, hK9, ho⟩ := set3_world B6 (.bool n6) (.slice a6 x6.length c6) (.slice b6 y6.length d6)
                rw [← hU]
                clear hU f1 f2 f3 f4 f5 f6
                replace hbW := hbU _ _ hbW (by omega)
                replace hbR := hbU _ _ hbR (by omega)
                replace A5 := A5.other ho (by omega)
                replace hx5 := hK9 _ _ _ hx5
                replace hy5 := hK9 _ _ _ hy5
                replace hx6 := hK9 _ _ _ hx6
                replace hy6 := hK9 _ _ _ hy6
                clear hbU hK9 ho X2
                have X2 := HX2.out.below hbR
                clear p00 p01
                obtain ⟨p00, p01, _⟩ := X2.cells
                refine hK.out _ _ ?_ (fun hHeld => ?_)
                · (try dsimp only)
                  exact ⟨p00, p01⟩
                clear hK K
                try simp only [Act.put, List.setIfInBounds_toArray, List.set_cons_zero, List.set_cons_succ]
                refine wpAnyH_done (by kernel_rfl) ?_ _
                clear hHeld
                go_wp2_with fail
                go_meet
                exact ⟨g5, _, _, _, _, _, _, _, g6, _, _, _, _, _, _, _, rfl, rfl, A5, ⟨_, _, _, ⟨_, _, _, _, rfl, hx5, hy5⟩, hF5⟩, A6, ⟨_, _, _, ⟨_, _, _, _, rfl, hx6, hy6⟩, hF6⟩, hbR⟩
              · go_simp
                have nlt := B5.lt
                obtain ⟨u93, hU, B6, hb9⟩ : ∃ U, U = u92.alloc (.cells #[.bool false, .slice none 0 0, .slice none 0 0] 49) ∧ Box 49 U u92.heap.size (.bool false) (.slice none 0 0) (.slice none 0 0) ∧ Below u92.heap.size u92 U := ⟨_, rfl, Box.new _ _ _ _ _, al1 _⟩
                rw [← hU]
                clear hU
                have n1g6 := hbR.size
                have n2g6 := hbW.size
                replace hg := hg.below hb9
                replace hm := hm.below hb9
                replace hp := hp.below hb9
                replace hx5 := hx5.below hb9
                replace hy5 := hy5.below hb9
                replace B5 := B5.below hb9
                replace X2 := X2.below hb9
                replace hbW : Below w.heap.size w u93 := hbW.trans (hb9.mono hbW.size)
                replace hbR : Below U.heap.size U u93 := hbR.trans (hb9.mono hbR.size)
                clear hb9
                generalize u92.heap.size = g6 at *
                clear p00 p01
                obtain ⟨p00, p01, _⟩ := X2.cells
                refine hK.out _ _ ?_ (fun hHeld => ?_)
                · (try dsimp only)
                  exact ⟨p00, p01⟩
                clear hK K
                try simp only [Act.put, List.setIfInBounds_toArray, List.set_cons_zero, List.set_cons_succ]
                refine hCall (i := 5) rfl (by kernel_rfl) (by rfl) (fun K hK => ?_)
                go_simp
                refine (hc1 _ hg hm hp).mono ?_
                rintro e u34 ⟨v6, rfl, hF6, hb34⟩
                replace hg := hg.below hb34
                replace hm := hm.below hb34
                replace hp := hp.below hb34
                replace hx5 := hx5.below hb34
                replace hy5 := hy5.below hb34
                replace B5 := B5.below hb34
                replace B6 := B6.below hb34
                replace X2 := X2.below hb34
                replace hbW : Below w.heap.size w u34 := hbW.trans (hb34.mono hbW.size)
                replace hbR : Below U.heap.size U u34 := hbR.trans (hb34.mono hbR.size)
                clear hb34
                obtain ⟨n6, x6, y6, ⟨a6, c6, b6, d6, rfl, hx6, hy6⟩, hF6⟩ := hF6
                clear p00 p01
                obtain ⟨p00, p01, _⟩ := X2.cells
                go_wp2_with fail
                refine hK.out _ _ ?_ (fun hHeld => ?_)
                · (try dsimp only)
                  exact ⟨p00, p01⟩
                clear hK K
                try simp only [Act.put, List.setIfInBounds_toArray, List.set_cons_zero, List.set_cons_succ]
                refine hCall (i := 8) rfl (by kernel_rfl) (by rfl) (fun K hK => ?_)
                go_simp
                obtain ⟨f1, f2, f3, f4, f5, f6⟩ := B5.cells
                try go_simp
                obtain ⟨u95, hU, A5, hbU, hK9, ho⟩ := set3_world B5 (.bool n5) (.slice a5 x5.length c5) (.slice b5 y5.length d5)
                rw [← hU]
                clear hU f1 f2 f3 f4 f5 f6
                replace hbW := hbU _ _ hbW (by omega)
                replace hbR := hbU _ _ hbR (by omega)
                replace B6 := B6.other ho (by omega)
                replace hx5 := hK9 _ _ _ hx5
                replace hy5 := hK9 _ _ _ hy5
                replace hx6 := hK9 _ _ _ hx6
                replace hy6 := hK9 _ _ _ hy6
                clear hbU hK9 ho X2
                have X2 := HX2.out.below hbR
                clear p00 p01
                obtain ⟨p00, p01, _⟩ := X2.cells
                refine hK.out _ _ ?_ (fun hHeld => ?_)
                · (try dsimp only)
                  exact ⟨p00, p01⟩
                clear hK K
                try simp only [Act.put, List.setIfInBounds_toArray, List.set_cons_zero, List.set_cons_succ]
                refine hCall (i := 9) rfl (by kernel_rfl) (by rfl) (fun K hK => ?_)
                go_simp
                obtain ⟨f1, f2, f3, f4, f5, f6⟩ := B6.cells
                try go_simp
                obtain ⟨u96, hU, A6, hbU, hK9, ho⟩ := set3_world B6 (.bool n6) (.slice a6 x6.length c6) (.slice b6 y6.length d6)
                rw [← hU]
                clear hU f1 f2 f3 f4 f5 f6
                replace hbW := hbU _ _ hbW (by omega)
                replace hbR := hbU _ _ hbR (by omega)
                replace A5 := A5.other ho (by omega)
                replace hx5 := hK9 _ _ _ hx5
                replace hy5 := hK9 _ _ _ hy5
                replace hx6 := hK9 _ _ _ hx6
                replace hy6 := hK9 _ _ _ hy6
                clear hbU hK9 ho X2
                have X2 := HX2.out.below hbR
                clear p00 p01
                obtain ⟨p00, p01, _⟩ := X2.cells
                refine hK.out _ _ ?_ (fun hHeld => ?_)
                · (try dsimp only)
                  exact ⟨p00, p01⟩
                clear hK K
                try simp only [Act.put, List.setIfInBounds_toArray, List.set_cons_zero, List.set_cons_succ]
                refine wpAnyH_done (by kernel_rfl) ?_ _
                clear hHeld
                go_wp2_with fail
                go_meet
                exact ⟨g5, _, _, _, _, _, _, _, g6, _, _, _, _, _, _, _, rfl, rfl, A5, ⟨_, _, _, ⟨_, _, _, _, rfl, hx5, hy5⟩, hF5⟩, A6, ⟨_, _, _, ⟨_, _, _, _, rfl, hx6, hy6⟩, hF6⟩, hbR⟩
            · go_simp
              obtain ⟨u92, hU, B6, hb9⟩ : ∃ U, U = u31.alloc (.cells #[.bool false, .slice none 0 0, .slice none 0 0] 49) ∧ Box 49 U u31.heap.size (.bool false) (.slice none 0 0) (.slice none 0 0) ∧ Below u31.heap.size u31 U := ⟨_, rfl, Box.new _ _ _ _ _, al1 _⟩
              rw [← hU]
              clear hU
              have n1g6 := hbR.size
              have n2g6 := hbW.size
              replace hg := hg.below hb9
              replace hm := hm.below hb9
              replace hp := hp.below hb9
              replace hx5 := hx5.below hb9
              replace hy5 := hy5.below hb9
              replace X2 := X2.below hb9
              replace hbW : Below w.heap.size w u92 := hbW.trans (hb9.mono hbW.size)
              replace hbR : Below U.heap.size U u92 := hbR.trans (hb9.mono hbR.size)
              clear hb9
              generalize u31.heap.size = g6 at *
              clear p00 p01
              obtain ⟨p00, p01, _⟩ := X2.cells
              refine hK.out _ _ ?_ (fun hHeld => ?_)
              · (try dsimp only)
                exact ⟨p00, p01⟩
              clear hK K
              try simp only [Act.put, List.setIfInBounds_toArray, List.set_cons_zero, List.set_cons_succ]
              refine wpAnyH_ready (rs := [5, 6]) (by kernel_rfl) (by simp) (hCons (i := 5) rfl (by rfl) (fun K hK => ?_) (hCons (i := 6) rfl (by rfl) (fun K hK => ?_) AllReadyH.nil))
              · go_simp
                refine (hc1 _ hg hm hp).mono ?_
                rintro e u33 ⟨v6, rfl, hF6, hb33⟩
                replace hg := hg.below hb33
                replace hm := hm.below hb33
                replace hp := hp.below hb33
                replace hx5 := hx5.below hb33
                replace hy5 := hy5.below hb33
                replace B6 := B6.below hb33
                replace X2 := X2.below hb33
                replace hbW : Below w.heap.size w u33 := hbW.trans (hb33.mono hbW.size)
                replace hbR : Below U.heap.size U u33 := hbR.trans (hb33.mono hbR.size)
                clear hb33
                obtain ⟨n6, x6, y6, ⟨a6, c6, b6, d6, rfl, hx6, hy6⟩, hF6⟩ := hF6
                clear p00 p01
                obtain ⟨p00, p01, _⟩ := X2.cells
                go_wp2_with fail
                refine hK.out _ _ ?_ (fun hHeld => ?_)
                · (try dsimp only)
                  exact ⟨p00, p01⟩
                clear hK K
                try simp only [Act.put, List.setIfInBounds_toArray, List.set_cons_zero, List.set_cons_succ]
                refine hCall (i := 6) rfl (by kernel_rfl) (by rfl) (fun K hK => ?_)
                go_simp
                have nlt := B6.lt
                obtain ⟨u94, hU, B5, hb9⟩ : ∃ U, U = u33.alloc (.cells #[.bool false, .slice none 0 0, .slice none 0 0] 49) ∧ Box 49 U u33.heap.size (.bool false) (.slice none 0 0) (.slice none 0 0) ∧ Below u33.heap.size u33 U := ⟨_, rfl, Box.new _ _ _ _ _, al1 _⟩
                rw [← hU]
                clear hU
                have n1g5 := hbR.size
                have n2g5 := hbW.size
                replace hg := hg.below hb9
                replace hm := hm.below hb9
                replace hp := hp.below hb9
                replace hx5 := hx5.below hb9
                replace hy5 := hy5.below hb9
                replace B6 := B6.below hb9
                replace hx6 := hx6.below hb9
                replace hy6 := hy6.below hb9
                replace X2 := X2.below hb9
                replace hbW : Below w.heap.size w u94 := hbW.trans (hb9.mono hbW.size)
                replace hbR : Below U.heap.size U u94 := hbR.trans (hb9.mono hbR.size)
                clear hb9
                generalize u33.heap.size = g5 at *
                clear p00 p01
                obtain ⟨p00, p01, _⟩ := X2.cells
                refine hK.out _ _ ?_ (fun hHeld => ?_)
                · (try dsimp only)
                  exact ⟨p00, p01⟩
                clear hK K
                try simp only [Act.put, List.setIfInBounds_toArray, List.set_cons_zero, List.set_cons_succ]
                refine hCall (i := 8) rfl (by kernel_rfl) (by rfl) (fun K hK => ?_)
                go_simp
                obtain ⟨f1, f2, f3, f4, f5, f6⟩ := B5.cells
                try go_simp
                obtain ⟨u95, hU, A5, hbU, hK9, ho⟩ := set3_world B5 (.bool n5) (.slice a5 x5.length c5) (.slice b5 y5.length d5)
                rw [← hU]
                clear hU f1 f2 f3 f4 f5 f6
                replace hbW := hbU _ _ hbW (by omega)
                replace hbR := hbU _ _ hbR (by omega)
                replace B6 := B6.other ho (by omega)
                replace hx5 := hK9 _ _ _ hx5
                replace hy5 := hK9 _ _ _ hy5
                replace hx6 := hK9 _ _ _ hx6
                replace hy6 := hK9 _ _ _ hy6
                clear hbU hK9 ho X2
                have X2 := HX2.out.below hbR
                clear p00 p01
                obtain ⟨p00, p01, _⟩ := X2.cells
                refine hK.out _ _ ?_ (fun hHeld => ?_)
                · (try dsimp only)
                  exact ⟨p00, p01⟩
                clear hK K
                try simp only [Act.put, List.setIfInBounds_toArray, List.set_cons_zero, List.set_cons_succ]
                refine hCall (i := 9) rfl (by kernel_rfl) (by rfl) (fun K hK => ?_)
                go_simp
                obtain ⟨f1, f2, f3, f4, f5, f6⟩ := B6.cells
                try go_simp
                obtain ⟨u96, hU, A6, hbU, hK9, ho⟩ := set3_world B6 (.bool n6) (.slice a6 x6.length c6) (.slice b6 y6.length d6)
                rw [← hU]
                clear hU f1 f2 f3 f4 f5 f6
                replace hbW := hbU _ _ hbW (by omega)
                replace hbR := hbU _ _ hbR (by omega)
                replace A5 := A5.other ho (by omega)
                replace hx5 := hK9 _ _ _ hx5
                replace hy5 := hK9 _ _ _ hy5
                replace hx6 := hK9 _ _ _ hx6
                replace hy6 := hK9 _ _ _ hy6
                clear hbU hK9 ho X2
                have X2 := HX2.out.below hbR
                clear p00 p01
                obtain ⟨p00, p01, _⟩ := X2.cells
                refine hK.out _ _ ?_ (fun hHeld => ?_)
                · (try dsimp only)
                  exact ⟨p00, p01⟩
                clear hK K
                try simp only [Act.put, List.setIfInBounds_toArray, List.set_cons_zero, List.set_cons_succ]
                refine wpAnyH_done (by kernel_rfl) ?_ _
                clear hHeld
                go_wp2_with fail
                go_meet
                exact ⟨g5, _, _, _, _, _, _, _, g6, _, _, _, _, _, _, _, rfl, rfl, A5, ⟨_, _, _, ⟨_, _, _, _, rfl, hx5, hy5⟩, hF5⟩, A6, ⟨_, _, _, ⟨_, _, _, _, rfl, hx6, hy6⟩, hF6⟩, hbR⟩
              · go_simp
                have nlt := B6.lt
                obtain ⟨u93, hU, B5, hb9⟩ : ∃ U, U = u92.alloc (.cells #[.bool false, .slice none 0 0, .slice none 0 0] 49) ∧ Box 49 U u92.heap.size (.bool false) (.slice none 0 0) (.slice none 0 0) ∧ Below u92.heap.size u92 U := ⟨_, rfl, Box.new _ _ _ _ _, al1 _⟩
                rw [← hU]
                clear hU
                have n1g5 := hbR.size
                have n2g5 := hbW.size
                replace hg := hg.below hb9
                replace hm := hm.below hb9
                replace hp := hp.below hb9
                replace hx5 := hx5.below hb9
                replace hy5 := hy5.below hb9
                replace B6 := B6.below hb9
                replace X2 := X2.below hb9
                replace hbW : Below w.heap.size w u93 := hbW.trans (hb9.mono hbW.size)
                replace hbR : Below U.heap.size U u93 := hbR.trans (hb9.mono hbR.size)
                clear hb9
                generalize u92.heap.size = g5 at *
                clear p00 p01
                obtain ⟨p00, p01, _⟩ := X2.cells
                refine hK.out _ _ ?_ (fun hHeld => ?_)
                · (try dsimp only)
                  exact ⟨p00, p01⟩
                clear hK K
                try simp only [Act.put, List.setIfInBounds_toArray, List.set_cons_zero, List.set_cons_succ]
                refine hCall (i := 5) rfl (by kernel_rfl) (by rfl) (fun K hK => ?_)
                go_simp
                refine (hc1 _ hg hm hp).mono ?_
                rintro e u34 ⟨v6, rfl, hF6, hb34⟩
                replace hg := hg.below hb34
                replace hm := hm.below hb34
                replace hp := hp.below hb34
                replace hx5 := hx5.below hb34
                replace hy5 := hy5.below hb34
                replace B6 := B6.below hb34
                replace B5 := B5.below hb34
                replace X2 := X2.below hb34
                replace hbW : Below w.heap.size w u34 := hbW.trans (hb34.mono hbW.size)
                replace hbR : Below U.heap.size U u34 := hbR.trans (hb34.mono hbR.size)
                clear hb34
                obtain ⟨n6, x6, y6, ⟨a6, c6, b6, d6, rfl, hx6, hy6⟩, hF6⟩ := hF6
                clear p00 p01
                obtain ⟨p00, p01, _⟩ := X2.cells
                go_wp2_with fail
                refine hK.out _ _ ?_ (fun hHeld => ?_)
                · (try dsimp only)
                  exact ⟨p00, p01⟩
                clear hK K
                try simp only [Act.put, List.setIfInBounds_toArray, List.set_cons_zero, List.set_cons_succ]
                refine hCall (i := 8) rfl (by kernel_rfl) (by rfl) (fun K hK => ?_)
                go_simp
                obtain ⟨f1, f2, f3, f4, f5, f6⟩ := B5.cells
                try go_simp
                obtain ⟨u95, hU, A5, hbU, hK9, ho⟩ := set3_world B5 (.bool n5) (.slice a5 x5.length c5) (.slice b5 y5.length d5)
                rw [← hU]
                clear hU f1 f2 f3 f4 f5 f6
                replace hbW := hbU _ _ hbW (by omega)
                replace hbR := hbU _ _ hbR (by omega)
                replace B6 := B6.other ho (by omega)
                replace hx5 := hK9 _ _ _ hx5
                replace hy5 := hK9 _ _ _ hy5
                replace hx6 := hK9 _ _ _ hx6
                replace hy6 := hK9 _ _ _ hy6
                clear hbU hK9 ho X2
                have X2 := HX2.out.below hbR
                clear p00 p01
                obtain ⟨p00, p01, _⟩ := X2.cells
                refine hK.out _ _ ?_ (fun hHeld => ?_)
                · (try dsimp only)
                  exact ⟨p00, p01⟩
                clear hK K
                try simp only [Act.put, List.setIfInBounds_toArray, List.set_cons_zero, List.set_cons_succ]
                refine hCall (i := 9) rfl (by kernel_rfl) (by rfl) (fun K hK => ?_)
                go_simp
                obtain ⟨f1, f2, f3, f4, f5, f6⟩ := B6.cells
                try go_simp
                obtain ⟨u96, hU, A6, hbU, hK9, ho⟩ := set3_world B6 (.bool n6) (.slice a6 x6.length c6) (.slice b6 y6.length d6)
                rw [← hU]
                clear hU f1 f2 f3 f4 f5 f6
                replace hbW := hbU _ _ hbW (by omega)
                replace hbR := hbU _ _ hbR (by omega)
                replace A5 := A5.other ho (by omega)
                replace hx5 := hK9 _ _ _ hx5
                replace hy5 := hK9 _ _ _ hy5
                replace hx6 := hK9 _ _ _ hx6
                replace hy6 := hK9 _ _ _ hy6
                clear hbU hK9 ho X2
                have X2 := HX2.out.below hbR
                clear p00 p01
                obtain ⟨p00, p01, _⟩ := X2.cells
                refine hK.out _ _ ?_ (fun hHeld => ?_)
                · (try dsimp only)
                  exact ⟨p00, p01⟩
                clear hK K
                try simp only [Act.put, List.setIfInBounds_toArray, List.set_cons_zero, List.set_cons_succ]
                refine wpAnyH_done (by kernel_rfl) ?_ _
                clear hHeld
                go_wp2_with fail
                go_meet
                exact ⟨g5, _, _, _, _, _, _, _, g6, _, _, _, _, _, _, _, rfl, rfl, A5, ⟨_, _, _, ⟨_, _, _, _, rfl, hx5, hy5⟩, hF5⟩, A6, ⟨_, _, _, ⟨_, _, _, _, rfl, hx6, hy6⟩, hF6⟩, hbR⟩
          · go_simp
            obtain ⟨u91, hU, B5, hb9⟩ : ∃ U, U = ud2.alloc (.cells #[.bool false, .slice none 0 0, .slice none 0 0] 49) ∧ Box 49 U ud2.heap.size (.bool false) (.slice none 0 0) (.slice none 0 0) ∧ Below ud2.heap.size ud2 U := ⟨_, rfl, Box.new _ _ _ _ _, al1 _⟩
            rw [← hU]
            clear hU
            have n1g5 := hbR.size
            have n2g5 := hbW.size
            replace hg := hg.below hb9
            replace hm := hm.below hb9
            replace hp := hp.below hb9
            replace X2 := X2.below hb9
            replace hbW : Below w.heap.size w u91 := hbW.trans (hb9.mono hbW.size)
            replace hbR : Below U.heap.size U u91 := hbR.trans (hb9.mono hbR.size)
            clear hb9
            generalize ud2.heap.size = g5 at *
            clear p00 p01
            obtain ⟨p00, p01, _⟩ := X2.cells
            refine hK.out _ _ ?_ (fun hHeld => ?_)
            · (try dsimp only)
              exact ⟨p00, p01⟩
            clear hK K
            try simp only [Act.put, List.setIfInBounds_toArray, List.set_cons_zero, List.set_cons_succ]
            refine wpAnyH_ready (rs := [2, 7]) (by kernel_rfl) (by simp) (hCons (i := 2) rfl (by rfl) (fun K hK => ?_) (hCons (i := 7) rfl (by rfl) (fun K hK => ?_) AllReadyH.nil))
            · go_simp
              refine (hc0 _ hg hm hp).mono ?_
              rintro e u32 ⟨v5, rfl, hF5, hb32⟩
              replace hg := hg.below hb32
              replace hm := hm.below hb32
              replace hp := hp.below hb32
              replace B5 := B5.below hb32
              replace X2 := X2.below hb32
              replace hbW : Below w.heap.size w u32 := hbW.trans (hb32.mono hbW.size)
              replace hbR : Below U.heap.size U u32 := hbR.trans (hb32.mono hbR.size)
              clear hb32
              obtain ⟨n5, x5, y5, ⟨a5, c5, b5, d5, rfl, hx5, hy5⟩, hF5⟩ := hF5
              clear p00 p01
              obtain ⟨p00, p01, _⟩ := X2.cells
              go_wp2_with fail
              refine hK.out _ _ ?_ (fun hHeld => ?_)
              · (try dsimp only)
                exact ⟨p00, p01⟩
              clear hK K
              try simp only [Act.put, List.setIfInBounds_toArray, List.set_cons_zero, List.set_cons_succ]
              refine wpAnyH_ready (rs := [5, 7]) (by kernel_rfl) (by simp) (hCons (i := 5) rfl (by rfl) (fun K hK => ?_) (hCons (i := 7) rfl (by rfl) (fun K hK => ?_) AllReadyH.nil))
              · go_simp
                refine (hc1 _ hg hm hp).mono ?_
                rintro e u33 ⟨v6, rfl, hF6, hb33⟩
                replace hg := hg.below hb33
                replace hm := hm.below hb33
                replace hp := hp.below hb33
                replace B5 := B5.below hb33
                replace hx5 := hx5.below hb33
                replace hy5 := hy5.below hb33
                replace X2 := X2.below hb33
                replace hbW : Below w.heap.size w u33 := hbW.trans (hb33.mono hbW.size)
                replace hbR : Below U.heap.size U u33 := hbR.trans (hb33.mono hbR.size)
                clear hb33
                obtain ⟨n6, x6, y6, ⟨a6, c6, b6, d6, rfl, hx6, hy6⟩, hF6⟩ := hF6
                clear p00 p01
                obtain ⟨p00, p01, _⟩ := X2.cells
                go_wp2_with fail
                refine hK.out _ _ ?_ (fun hHeld => ?_)
                · (try dsimp only)
                  exact ⟨p00, p01⟩
                clear hK K
                try simp only [Act.put, List.setIfInBounds_toArray, List.set_cons_zero, List.set_cons_succ]
                refine hCall (i := 7) rfl (by kernel_rfl) (by rfl) (fun K hK => ?_)
                go_simp
                have nlt := B5.lt
                obtain ⟨u94, hU, B6, hb9⟩ : ∃ U, U = u33.alloc (.cells #[.bool false, .slice none 0 0, .slice none 0 0] 49) ∧ Box 49 U u33.heap.size (.bool false) (.slice none 0 0) (.slice none 0 0) ∧ Below u33.heap.size u33 U := ⟨_, rfl, Box.new _ _ _ _ _, al1 _⟩
                rw [← hU]
                clear hU
                have n1g6 := hbR.size
                have n2g6 := hbW.size
                replace hg := hg.below hb9
                replace hm := hm.below hb9
                replace hp := hp.below hb9
                replace B5 := B5.below hb9
                replace hx5 := hx5.below hb9
                replace hy5 := hy5.below hb9
                replace hx6 := hx6.below hb9
                replace hy6 := hy6.below hb9
                replace X2 := X2.below hb9
                replace hbW : Below w.heap.size w u94 := hbW.trans (hb9.mono hbW.size)
                replace hbR : Below U.heap.size U u94 := hbR.trans (hb9.mono hbR.size)
                clear hb9
                generalize u33.heap.size = g6 at *
                clear p00 p01
                obtain ⟨p00, p01, _⟩ := X2.cells
                refine hK.out _ _ ?_ (fun hHeld => ?_)
                · (try dsimp only)
                  exact ⟨p00, p01⟩
                clear hK K
                try simp only [Act.put, List.setIfInBounds_toArray, List.set_cons_zero, List.set_cons_succ]
                refine hCall (i := 8) rfl (by kernel_rfl) (by rfl) (fun K hK => ?_)
                go_simp
                obtain ⟨f1, f2, f3, f4, f5, f6⟩ := B5.cells
                try go_simp
                obtain ⟨u95, hU, A5, hbU, hK9, ho⟩ := set3_world B5 (.bool n5) (.slice a5 x5.length c5) (.slice b5 y5.length d5)
                rw [← hU]
                clear hU f1 f2 f3 f4 f5 f6
                replace hbW := hbU _ _ hbW (by omega)
                replace hbR := hbU _ _ hbR (by omega)
                replace B6 := B6.other ho (by omega)
                replace hx5 := hK9 _ _ _ hx5
                replace hy5 := hK9 _ _ _ hy5
                replace hx6 := hK9 _ _ _ hx6
                replace hy6 := hK9 _ _ _ hy6
                clear hbU hK9 ho X2
                have X2 := HX2.out.below hbR
                clear p00 p01
                obtain ⟨p00, p01, _⟩ := X2.cells
                refine hK.out _ _ ?_ (fun hHeld => ?_)
                · (try dsimp only)
                  exact ⟨p00, p01⟩
                clear hK K
                try simp only [Act.put, List.setIfInBounds_toArray, List.set_cons_zero, List.set_cons_succ]
                refine hCall (i := 9) rfl (by kernel_rfl) (by rfl) (fun K hK => ?_)
                go_simp
                obtain ⟨f1, f2, f3, f4, f5, f6⟩ := B6.cells
                try go_simp
                obtain ⟨u96, hU, A6, hbU, hK9, ho⟩ := set3_world B6 (.bool n6) (.slice a6 x6.length c6) (.slice b6 y6.length d6)
                rw [← hU]
                clear hU f1 f2 f3 f4 f5 f6
                replace hbW := hbU _ _ hbW (by omega)
                replace hbR := hbU _ _ hbR (by omega)
                replace A5 := A5.other ho (by omega)
                replace hx5 := hK9 _ _ _ hx5
                replace hy5 := hK9 _ _ _ hy5
                replace hx6 := hK9 _ _ _ hx6
                replace hy6 := hK9 _ _ _ hy6
                clear hbU hK9 ho X2
                have X2 := HX2.out.below hbR
                clear p00 p01
                obtain ⟨p00, p01, _⟩ := X2.cells
                refine hK.out _ _ ?_ (fun hHeld => ?_)
                · (try dsimp only)
                  exact ⟨p00, p01⟩
                clear hK K
                try simp only [Act.put, List.setIfInBounds_toArray, List.set_cons_zero, List.set_cons_succ]
                refine wpAnyH_done (by kernel_rfl) ?_ _
                clear hHeld
                go_wp2_with fail
                go_meet
                exact ⟨g5, _, _, _, _, _, _, _, g6, _, _, _, _, _, _, _, rfl, rfl, A5, ⟨_, _, _, ⟨_, _, _, _, rfl, hx5, hy5⟩, hF5⟩, A6, ⟨_, _, _, ⟨_, _, _, _, rfl, hx6, hy6⟩, hF6⟩, hbR⟩
              · go_simp
                have nlt := B5.lt
                obtain ⟨u93, hU, B6, hb9⟩ : ∃ U, U = u32.alloc (.cells #[.bool false, .slice none 0 0, .slice none 0 0] 49) ∧ Box 49 U u32.heap.size (.bool false) (.slice none 0 0) (.slice none 0 0) ∧ Below u32.heap.size u32 U := ⟨_, rfl, Box.new _ _ _ _ _, al1 _⟩
                rw [← hU]
                clear hU
                have n1g6 := hbR.size
                have n2g6 := hbW.size
                replace hg := hg.below hb9
                replace hm := hm.below hb9
                replace hp := hp.below hb9
                replace B5 := B5.below hb9
                replace hx5 := hx5.below hb9
                replace hy5 := hy5.below hb9
                replace X2 := X2.below hb9
                replace hbW : Below w.heap.size w u93 := hbW.trans (hb9.mono hbW.size)
                replace hbR : Below U.heap.size U u93 := hbR.trans (hb9.mono hbR.size)
                clear hb9
                generalize u32.heap.size = g6 at *
                clear p00 p01
                obtain ⟨p00, p01, _⟩ := X2.cells
                refine hK.out _ _ ?_ (fun hHeld => ?_)
                · (try dsimp only)
                  exact ⟨p00, p01⟩
                clear hK K
                try simp only [Act.put, List.setIfInBounds_toArray, List.set_cons_zero, List.set_cons_succ]
                refine hCall (i := 5) rfl (by kernel_rfl) (by rfl) (fun K hK => ?_)
                go_simp
                refine (hc1 _ hg hm hp).mono ?_
                rintro e u34 ⟨v6, rfl, hF6, hb34⟩
                replace hg := hg.below hb34
                replace hm := hm.below hb34
                replace hp := hp.below hb34
                replace B5 := B5.below hb34
                replace hx5 := hx5.below hb34
                replace hy5 := hy5.below hb34
                replace B6 := B6.below hb34
                replace X2 := X2.below hb34
                replace hbW : Below w.heap.size w u34 := hbW.trans (hb34.mono hbW.size)
                replace hbR : Below U.heap.size U u34 := hbR.trans (hb34.mono hbR.size)
                clear hb34
                obtain ⟨n6, x6, y6, ⟨a6, c6, b6, d6, rfl, hx6, hy6⟩, hF6⟩ := hF6
                clear p00 p01
                obtain ⟨p00, p01, _⟩ := X2.cells
                go_wp2_with fail
                refine hK.out _ _ ?_ (fun hHeld => ?_)
                · (try dsimp only)
                  exact ⟨p00, p01⟩
                clear hK K
                try simp only [Act.put, List.setIfInBounds_toArray, List.set_cons_zero, List.set_cons_succ]
                refine hCall (i := 8) rfl (by kernel_rfl) (by rfl) (fun K hK => ?_)
                go_simp
                obtain ⟨f1, f2, f3, f4, f5, f6⟩ := B5.cells
                try go_simp
                obtain ⟨u95, hU, A5, hbU, hK9, ho⟩ := set3_world B5 (.bool n5) (.slice a5 x5.length c5) (.slice b5 y5.length d5)
                rw [← hU]
                clear hU f1 f2 f3 f4 f5 f6
                replace hbW := hbU _ _ hbW (by omega)
                replace hbR := hbU _ _ hbR (by omega)
                replace B6 := B6.other ho (by omega)
                replace hx5 := hK9 _ _ _ hx5
                replace hy5 := hK9 _ _ _ hy5
                replace hx6 := hK9 _ _ _ hx6
                replace hy6 := hK9 _ _ _ hy6
                clear hbU hK9 ho X2
                have X2 := HX2.out.below hbR
                clear p00 p01
                obtain ⟨p00, p01, _⟩ := X2.cells
                refine hK.out _ _ ?_ (fun hHeld => ?_)
                · (try dsimp only)
                  exact ⟨p00, p01⟩
                clear hK K
                try simp only [Act.put, List.setIfInBounds_toArray, List.set_cons_zero, List.set_cons_succ]
                refine hCall (i := 9) rfl (by kernel_rfl) (by rfl) (fun K hK => ?_)
                go_simp
                obtain ⟨f1, f2, f3, f4, f5, f6⟩ := B6.cells
                try go_simp
                obtain ⟨u96, hU, A6, hbU, hK9, ho⟩ := set3_world B6 (.bool n6) (.slice a6 x6.length c6) (.slice b6 y6.length d6)
                rw [← hU]
                clear hU f1 f2 f3 f4 f5 f6
                replace hbW := hbU _ _ hbW (by omega)
                replace hbR := hbU _ _ hbR (by omega)
                replace A5 := A5.other ho (by omega)
                replace hx5 := hK9 _ _ _ hx5
                replace hy5 := hK9 _ _ _ hy5
                replace hx6 := hK9 _ _ _ hx6
                replace hy6 := hK9 _ _ _ hy6
                clear hbU hK9 ho X2
                have X2 := HX2.out.below hbR
                clear p00 p01
                obtain ⟨p00, p01, _⟩ := X2.cells
                refine hK.out _ _ ?_ (fun hHeld => ?_)
                · (try dsimp only)
                  exact ⟨p00, p01⟩
                clear hK K
                try simp only [Act.put, List.setIfInBounds_toArray, List.set_cons_zero, List.set_cons_succ]
                refine wpAnyH_done (by kernel_rfl) ?_ _
                clear hHeld
                go_wp2_with fail
                go_meet
                exact ⟨g5, _, _, _, _, _, _, _, g6, _, _, _, _, _, _, _, rfl, rfl, A5, ⟨_, _, _, ⟨_, _, _, _, rfl, hx5, hy5⟩, hF5⟩, A6, ⟨_, _, _, ⟨_, _, _, _, rfl, hx6, hy6⟩, hF6⟩, hbR⟩
            · go_simp
              have nlt := B5.lt
              obtain ⟨u92, hU, B6, hb9⟩ : ∃ U, U = u91.alloc (.cells #[.bool false, .slice none 0 0, .slice none 0 0] 49) ∧ Box 49 U u91.heap.size (.bool false) (.slice none 0 0) (.slice none 0 0) ∧ Below u91.heap.size u91 U := ⟨_, rfl, Box.new _ _ _ _ _, al1 _⟩
              rw [← hU]
              clear hU
              have n1g6 := hbR.size
              have n2g6 := hbW.size
              replace hg := hg.below hb9
              replace hm := hm.below hb9
              replace hp := hp.below hb9
              replace B5 := B5.below hb9
              replace X2 := X2.below hb9
              replace hbW : Below w.heap.size w u92 := hbW.trans (hb9.mono hbW.size)
              replace hbR : Below U.heap.size U u92 := hbR.trans (hb9.mono hbR.size)
              clear hb9
              generalize u91.heap.size = g6 at *
              clear p00 p01
              obtain ⟨p00, p01, _⟩ := X2.cells
              refine hK.out _ _ ?_ (fun hHeld => ?_)
              · (try dsimp only)
                exact ⟨p00, p01⟩
              clear hK K
              try simp only [Act.put, List.setIfInBounds_toArray, List.set_cons_zero, List.set_cons_succ]
              refine hCall (i := 2) rfl (by kernel_rfl) (by rfl) (fun K hK => ?_)
              go_simp
              refine (hc0 _ hg hm hp).mono ?_
              rintro e u33 ⟨v5, rfl, hF5, hb33⟩
              replace hg := hg.below hb33
              replace hm := hm.below hb33
              replace hp := hp.below hb33
              replace B5 := B5.below hb33
              replace B6 := B6.below hb33
              replace X2 := X2.below hb33
              replace hbW : Below w.heap.size w u33 := hbW.trans (hb33.mono hbW.size)
              replace hbR : Below U.heap.size U u33 := hbR.trans (hb33.mono hbR.size)
              clear hb33
              obtain ⟨n5, x5, y5, ⟨a5, c5, b5, d5, rfl, hx5, hy5⟩, hF5⟩ := hF5
              clear p00 p01
              obtain ⟨p00, p01, _⟩ := X2.cells
              go_wp2_with fail
              refine hK.out _ _ ?_ (fun hHeld => ?_)
              · (try dsimp only)
                exact ⟨p00, p01⟩
              clear hK K
              try simp only [Act.put, List.setIfInBounds_toArray, List.set_cons_zero, List.set_cons_succ]
              refine hCall (i := 5) rfl (by kernel_rfl) (by rfl) (fun K hK => ?_)
              go_simp
              refine (hc1 _ hg hm hp).mono ?_
              rintro e u34 ⟨v6, rfl, hF6, hb34⟩
              replace hg := hg.below hb34
              replace hm := hm.below hb34
              replace hp := hp.below hb34
              replace B5 := B5.below hb34
              replace B6 := B6.below hb34
              replace hx5 := hx5.below hb34
              replace hy5 := hy5.below hb34
              replace X2 := X2.below hb34
              replace hbW : Below w.heap.size w u34 := hbW.trans (hb34.mono hbW.size)
              replace hbR : Below U.heap.size U u34 := hbR.trans (hb34.mono hbR.size)
              clear hb34
              obtain ⟨n6, x6, y6, ⟨a6, c6, b6, d6, rfl, hx6, hy6⟩, hF6⟩ := hF6
              clear p00 p01
              obtain ⟨p00, p01, _⟩ := X2.cells
              go_wp2_with fail
              refine hK.out _ _ ?_ (fun hHeld => ?_)
              · (try dsimp only)
                exact ⟨p00, p01⟩
              clear hK K
              try simp only [Act.put, List.setIfInBounds_toArray, List.set_cons_zero, List.set_cons_succ]
              refine hCall (i := 8) rfl (by kernel_rfl) (by rfl) (fun K hK => ?_)
              go_simp
              obtain ⟨f1, f2, f3, f4, f5, f6⟩ := B5.cells
              try go_simp
              obtain ⟨u95, hU, A5, hbU, hK9, ho⟩ := set3_world B5 (.bool n5) (.slice a5 x5.length c5) (.slice b5 y5.length d5)
              rw [← hU]
              clear hU f1 f2 f3 f4 f5 f6
              replace hbW := hbU _ _ hbW (by omega)
              replace hbR := hbU _ _ hbR (by omega)
              replace B6 := B6.other ho (by omega)
              replace hx5 := hK9 _ _ _ hx5
              replace hy5 := hK9 _ _ _ hy5
              replace hx6 := hK9 _ _ _ hx6
              replace hy6 := hK9 _ _ _ hy6
              clear hbU hK9 ho X2
              have X2 := HX2.out.below hbR
              clear p00 p01
              obtain ⟨p00, p01, _⟩ := X2.cells
              refine hK.out _ _ ?_ (fun hHeld => ?_)
              · (try dsimp only)
                exact ⟨p00, p01⟩
              clear hK K
              try simp only [Act.put, List.setIfInBounds_toArray, List.set_cons_zero, List.set_cons_succ]
              refine hCall (i := 9) rfl (by kernel_rfl) (by rfl) (fun K hK => ?_)
              go_simp
              obtain ⟨f1, f2, f3, f4, f5, f6⟩ := B6.cells
              try go_simp
              obtain ⟨u96, hU, A6, hbU, hK9, ho⟩ := set3_world B6 (.bool n6) (.slice a6 x6.length c6) (.slice b6 y6.length d6)
              rw [← hU]
              clear hU f1 f2 f3 f4 f5 f6
              replace hbW := hbU _ _ hbW (by omega)
              replace hbR := hbU _ _ hbR (by omega)
              replace A5 := A5.other ho (by omega)
              replace hx5 := hK9 _ _ _ hx5
              replace hy5 := hK9 _ _ _ hy5
              replace hx6 := hK9 _ _ _ hx6
              replace hy6 := hK9 _ _ _ hy6
              clear hbU hK9 ho X2
              have X2 := HX2.out.below hbR
              clear p00 p01
              obtain ⟨p00, p01, _⟩ := X2.cells
              refine hK.out _ _ ?_ (fun hHeld => ?_)
              · (try dsimp only)
                exact ⟨p00, p01⟩
              clear hK K
              try simp only [Act.put, List.setIfInBounds_toArray, List.set_cons_zero, List.set_cons_succ]
              refine wpAnyH_done (by kernel_rfl) ?_ _
              clear hHeld
              go_wp2_with fail
              go_meet
              exact ⟨g5, _, _, _, _, _, _, _, g6, _, _, _, _, _, _, _, rfl, rfl, A5, ⟨_, _, _, ⟨_, _, _, _, rfl, hx5, hy5⟩, hF5⟩, A6, ⟨_, _, _, ⟨_, _, _, _, rfl, hx6, hy6⟩, hF6⟩, hbR⟩
          · go_simp
            obtain ⟨u91, hU, B6, hb9⟩ : ∃ U, U = ud2.alloc (.cells #[.bool false, .slice none 0 0, .slice none 0 0] 49) ∧ Box 49 U ud2.heap.size (.bool false) (.slice none 0 0) (.slice none 0 0) ∧ Below ud2.heap.size ud2 U := ⟨_, rfl, Box.new _ _ _ _ _, al1 _⟩
            rw [← hU]
            clear hU
            have n1g6 := hbR.size
            have n2g6 := hbW.size
            replace hg := hg.below hb9
            replace hm := hm.below hb9
            replace hp := hp.below hb9
            replace X2 := X2.below hb9
            replace hbW : Below w.heap.size w u91 := hbW.trans (hb9.mono hbW.size)
            replace hbR : Below U.heap.size U u91 := hbR.trans (hb9.mono hbR.size)
            clear hb9
            generalize ud2.heap.size = g6 at *
            clear p00 p01
            obtain ⟨p00, p01, _⟩ := X2.cells
            refine hK.out _ _ ?_ (fun hHeld => ?_)
            · (try dsimp only)
              exact ⟨p00, p01⟩
            clear hK K
            try simp only [Act.put, List.setIfInBounds_toArray, List.set_cons_zero, List.set_cons_succ]
            refine wpAnyH_ready (rs := [2, 6]) (by kernel_rfl) (by simp) (hCons (i := 2) rfl (by rfl) (fun K hK => ?_) (hCons (i := 6) rfl (by rfl) (fun K hK => ?_) AllReadyH.nil))
            · go_simp
              refine (hc0 _ hg hm hp).mono ?_
              rintro e u32 ⟨v5, rfl, hF5, hb32⟩
              replace hg := hg.below hb32
              replace hm := hm.below hb32
              replace hp := hp.below hb32
              replace B6 := B6.below hb32
              replace X2 := X2.below hb32
              replace hbW : Below w.heap.size w u32 := hbW.trans (hb32.mono hbW.size)
              replace hbR : Below U.heap.size U u32 := hbR.trans (hb32.mono hbR.size)
              clear hb32
              obtain ⟨n5, x5, y5, ⟨a5, c5, b5, d5, rfl, hx5, hy5⟩, hF5⟩ := hF5
              clear p00 p01
              obtain ⟨p00, p01, _⟩ := X2.cells
              go_wp2_with fail
              refine hK.out _ _ ?_ (fun hHeld => ?_)
              · (try dsimp only)
                exact ⟨p00, p01⟩
              clear hK K
              try simp only [Act.put, List.setIfInBounds_toArray, List.set_cons_zero, List.set_cons_succ]
              refine wpAnyH_ready (rs := [5, 6]) (by kernel_rfl) (by simp) (hCons (i := 5) rfl (by rfl) (fun K hK => ?_) (hCons (i := 6) rfl (by rfl) (fun K hK => ?_) AllReadyH.nil))
              · go_simp
                refine (hc1 _ hg hm hp).mono ?_
                rintro e u33 ⟨v6, rfl, hF6, hb33⟩
                replace hg := hg.below hb33
                replace hm := hm.below hb33
                replace hp := hp.below hb33
                replace B6 := B6.below hb33
                replace hx5 := hx5.below hb33
                replace hy5 := hy5.below hb33
                replace X2 := X2.below hb33
                replace hbW : Below w.heap.size w u33 := hbW.trans (hb33.mono hbW.size)
                replace hbR : Below U.heap.size U u33 := hbR.trans (hb33.mono hbR.size)
                clear hb33
                obtain ⟨n6, x6, y6, ⟨a6, c6, b6, d6, rfl, hx6, hy6⟩, hF6⟩ := hF6
                clear p00 p01
                obtain ⟨p00, p01, _⟩ := X2.cells
                go_wp2_with fail
                refine hK.out _ _ ?_ (fun hHeld => ?_)
                · (try dsimp only)
                  exact ⟨p00, p01⟩
                clear hK K
                try simp only [Act.put, List.setIfInBounds_toArray, List.set_cons_zero, List.set_cons_succ]
                refine hCall (i := 6) rfl (by kernel_rfl) (by rfl) (fun K hK => ?_)
                go_simp
                have nlt := B6.lt
                obtain ⟨u94, hU, B5, hb9⟩ : ∃ U, U = u33.alloc (.cells #[.bool false, .slice none 0 0, .slice none 0 0] 49) ∧ Box 49 U u33.heap.size (.bool false) (.slice none 0 0) (.slice none 0 0) ∧ Below u33.heap.size u33 U := ⟨_, rfl, Box.new _ _ _ _ _, al1 _⟩
                rw [← hU]
                clear hU
                have n1g5 := hbR.size
                have n2g5 := hbW.size
                replace hg := hg.below hb9
                replace hm := hm.below hb9
                replace hp := hp.below hb9
                replace B6 := B6.below hb9
                replace hx5 := hx5.below hb9
                replace hy5 := hy5.below hb9
                replace hx6 := hx6.below hb9
                replace hy6 := hy6.below hb9
                replace X2 := X2.below hb9
                replace hbW : Below w.heap.size w u94 := hbW.trans (hb9.mono hbW.size)
                replace hbR : Below U.heap.size U u94 := hbR.trans (hb9.mono hbR.size)
                clear hb9
                generalize u33.heap.size = g5 at *
                clear p00 p01
                obtain ⟨p00, p01, _⟩ := X2.cells
                refine hK.out _ _ ?_ (fun hHeld => ?_)
                · (try dsimp only)
                  exact ⟨p00, p01⟩
                clear hK K
                try simp only [Act.put, List.setIfInBounds_toArray, List.set_cons_zero, List.set_cons_succ]
                refine hCall (i := 8) rfl (by kernel_rfl) (by rfl) (fun K hK => ?_)
                go_simp
                obtain ⟨f1, f2, f3, f4, f5, f6⟩ := B5.cells
                try go_simp
                obtain ⟨u95, hU, A5, hbU, hK9, ho⟩ := set3_world B5 (.bool n5) (.slice a5 x5.length c5) (.slice b5 y5.length d5)
                rw [← hU]
                clear hU f1 f2 f3 f4 f5 f6
                replace hbW := hbU _ _ hbW (by omega)
                replace hbR := hbU _ _ hbR (by omega)
                replace B6 := B6.other ho (by omega)
                replace hx5 := hK9 _ _ _ hx5
                replace hy5 := hK9 _ _ _ hy5
                replace hx6 := hK9 _ _ _ hx6
                replace hy6 := hK9 _ _ _ hy6
                clear hbU hK9 ho X2
                have X2 := HX2.out.below hbR
                clear p00 p01
                obtain ⟨p00, p01, _⟩ := X2.cells
                refine hK.out _ _ ?_ (fun hHeld => ?_)
                · (try dsimp only)
                  exact ⟨p00, p01⟩
                clear hK K
                try simp only [Act.put, List.setIfInBounds_toArray, List.set_cons_zero, List.set_cons_succ]
                refine hCall (i := 9) rfl (by kernel_rfl) (by rfl) (fun K hK => ?_)
                go_simp
                obtain ⟨f1, f2, f3, f4, f5, f6⟩ := B6.cells
                try go_simp
                obtain ⟨u96, hU, A6, hbU, hK9, ho⟩ := set3_world B6 (.bool n6) (.slice a6 x6.length c6) (.slice b6 y6.length d6)
                rw [← hU]
                clear hU f1 f2 f3 f4 f5 f6
                replace hbW := hbU _ _ hbW (by omega)
                replace hbR := hbU _ _ hbR (by omega)
                replace A5 := A5.other ho (by omega)
                replace hx5 := hK9 _ _ _ hx5
                replace hy5 := hK9 _ _ _ hy5
                replace hx6 := hK9 _ _ _ hx6
                replace hy6 := hK9 _ _ _ hy6
                clear hbU hK9 ho X2
                have X2 := HX2.out.below hbR
                clear p00 p01
                obtain ⟨p00, p01, _⟩ := X2.cells
                refine hK.out _ _ ?_ (fun hHeld => ?_)
                · (try dsimp only)
                  exact ⟨p00, p01⟩
                clear hK K
                try simp only [Act.put, List.setIfInBounds_toArray, List.set_cons_zero, List.set_cons_succ]
                refine wpAnyH_done (by kernel_rfl) ?_ _
                clear hHeld
                go_wp2_with fail
                go_meet
                exact ⟨g5, _, _, _, _, _, _, _, g6, _, _, _, _, _, _, _, rfl, rfl, A5, ⟨_, _, _, ⟨_, _, _, _, rfl, hx5, hy5⟩, hF5⟩, A6, ⟨_, _, _, ⟨_, _, _, _, rfl, hx6, hy6⟩, hF6⟩, hbR⟩
              · go_simp
                have nlt := B6.lt
                obtain ⟨u93, hU, B5, hb9⟩ : ∃ U, U = u32.alloc (.cells #[.bool false, .slice none 0 0, .slice none 0 0] 49) ∧ Box 49 U u32.heap.size (.bool false) (.slice none 0 0) (.slice none 0 0) ∧ Below u32.heap.size u32 U := ⟨_, rfl, Box.new _ _ _ _ _, al1 _⟩
                rw [← hU]
                clear hU
                have n1g5 := hbR.size
                have n2g5 := hbW.size
                replace hg := hg.below hb9
                replace hm := hm.below hb9
                replace hp := hp.below hb9
                replace B6 := B6.below hb9
                replace hx5 := hx5.below hb9
                replace hy5 := hy5.below hb9
                replace X2 := X2.below hb9
                replace hbW : Below w.heap.size w u93 := hbW.trans (hb9.mono hbW.size)
                replace hbR : Below U.heap.size U u93 := hbR.trans (hb9.mono hbR.size)
                clear hb9
                generalize u32.heap.size = g5 at *
                clear p00 p01
                obtain ⟨p00, p01, _⟩ := X2.cells
                refine hK.out _ _ ?_ (fun hHeld => ?_)
                · (try dsimp only)
                  exact ⟨p00, p01⟩
                clear hK K
                try simp only [Act.put, List.setIfInBounds_toArray, List.set_cons_zero, List.set_cons_succ]
                refine hCall (i := 5) rfl (by kernel_rfl) (by rfl) (fun K hK => ?_)
                go_simp
                refine (hc1 _ hg hm hp).mono ?_
                rintro e u34 ⟨v6, rfl, hF6, hb34⟩
                replace hg := hg.below hb34
                replace hm := hm.below hb34
                replace hp := hp.below hb34
                replace B6 := B6.below hb34
                replace hx5 := hx5.below hb34
                replace hy5 := hy5.below hb34
                replace B5 := B5.below hb34
                replace X2 := X2.below hb34
                replace hbW : Below w.heap.size w u34 := hbW.trans (hb34.mono hbW.size)
                replace hbR : Below U.heap.size U u34 := hbR.trans (hb34.mono hbR.size)
                clear hb34
                obtain ⟨n6, x6, y6, ⟨a6, c6, b6, d6, rfl, hx6, hy6⟩, hF6⟩ := hF6
                clear p00 p01
                obtain ⟨p00, p01, _⟩ := X2.cells
                go_wp2_with fail
                refine hK.out _ _ ?_ (fun hHeld => ?_)
                · (try dsimp only)
                  exact ⟨p00, p01⟩
                clear hK K
                try simp only [Act.put, List.setIfInBounds_toArray, List.set_cons_zero, List.set_cons_succ]
                refine hCall (i := 8) rfl (by kernel_rfl) (by rfl) (fun K hK => ?_)
                go_simp
                obtain ⟨f1, f2, f3, f4, f5, f6⟩ := B5.cells
                try go_simp
                obtain ⟨u95, hU, A5, hbU, hK9, ho⟩ := set3_world B5 (.bool n5) (.slice a5 x5.length c5) (.slice b5 y5.length d5)
                rw [← hU]
                clear hU f1 f2 f3 f4 f5 f6
                replace hbW := hbU _ _ hbW (by omega)
                replace hbR := hbU _ _ hbR (by omega)
                replace B6 := B6.other ho (by omega)
                replace hx5 := hK9 _ _ _ hx5
                replace hy5 := hK9 _ _ _ hy5
                replace hx6 := hK9 _ _ _ hx6
                replace hy6 := hK9 _ _ _ hy6
                clear hbU hK9 ho X2
                have X2 := HX2.out.below hbR
                clear p00 p01
                obtain ⟨p00, p01, _⟩ := X2.cells
                refine hK.out _ _ ?_ (fun hHeld => ?_)
                · (try dsimp only)
                  exact ⟨p00, p01⟩
                clear hK K
                try simp only [Act.put, List.setIfInBounds_toArray, List.set_cons_zero, List.set_cons_succ]
                refine hCall (i := 9) rfl (by kernel_rfl) (by rfl) (fun K hK => ?_)
                go_simp
                obtain ⟨f1, f2, f3, f4, f5, f6⟩ := B6.cells
                try go_simp
                obtain ⟨u96, hU, A6, hbU, hK9, ho⟩ := set3_world B6 (.bool n6) (.slice a6 x6.length c6) (.slice b6 y6.length d6)
                rw [← hU]
                clear hU f1 f2 f3 f4 f5 f6
                replace hbW := hbU _ _ hbW (by omega)
                replace hbR := hbU _ _ hbR (by omega)
                replace A5 := A5.other ho (by omega)
                replace hx5 := hK9 _ _ _ hx5
                replace hy5 := hK9 _ _ _ hy5
                replace hx6 := hK9 _ _ _ hx6
                replace hy6 := hK9 _ _ _ hy6
                clear hbU hK9 ho X2
                have X2 := HX2.out.below hbR
                clear p00 p01
                obtain ⟨p00, p01, _⟩ := X2.cells
                refine hK.out _ _ ?_ (fun hHeld => ?_)
                · (try dsimp only)
                  exact ⟨p00, p01⟩
                clear hK K
                try simp only [Act.put, List.setIfInBounds_toArray, List.set_cons_zero, List.set_cons_succ]
                refine wpAnyH_done (by kernel_rfl) ?_ _
                clear hHeld
                go_wp2_with fail
                go_meet
                exact ⟨g5, _, _, _, _, _, _, _, g6, _, _, _, _, _, _, _, rfl, rfl, A5, ⟨_, _, _, ⟨_, _, _, _, rfl, hx5, hy5⟩, hF5⟩, A6, ⟨_, _, _, ⟨_, _, _, _, rfl, hx6, hy6⟩, hF6⟩, hbR⟩
            · go_simp
              have nlt := B6.lt
              obtain ⟨u92, hU, B5, hb9⟩ : ∃ U, U = u91.alloc (.cells #[.bool false, .slice none 0 0, .slice none 0 0] 49) ∧ Box 49 U u91.heap.size (.bool false) (.slice none 0 0) (.slice none 0 0) ∧ Below u91.heap.size u91 U := ⟨_, rfl, Box.new _ _ _ _ _, al1 _⟩
              rw [← hU]
              clear hU
              have n1g5 := hbR.size
              have n2g5 := hbW.size
              replace hg := hg.below hb9
              replace hm := hm.below hb9
              replace hp := hp.below hb9
              replace B6 := B6.below hb9
              replace X2 := X2.below hb9
              replace hbW : Below w.heap.size w u92 := hbW.trans (hb9.mono hbW.size)
              replace hbR : Below U.heap.size U u92 := hbR.trans (hb9.mono hbR.size)
              clear hb9
              generalize u91.heap.size = g5 at *
              clear p00 p01
              obtain ⟨p00, p01, _⟩ := X2.cells
              refine hK.out _ _ ?_ (fun hHeld => ?_)
              · (try dsimp only)
                exact ⟨p00, p01⟩
              clear hK K
              try simp only [Act.put, List.setIfInBounds_toArray, List.set_cons_zero, List.set_cons_succ]
              refine hCall (i := 2) rfl (by kernel_rfl) (by rfl) (fun K hK => ?_)
              go_simp
              refine (hc0 _ hg hm hp).mono ?_
              rintro e u33 ⟨v5, rfl, hF5, hb33⟩
              replace hg := hg.below hb33
              replace hm := hm.below hb33
              replace hp := hp.below hb33
              replace B6 := B6.below hb33
              replace B5 := B5.below hb33
              replace X2 := X2.below hb33
              replace hbW : Below w.heap.size w u33 := hbW.trans (hb33.mono hbW.size)
              replace hbR : Below U.heap.size U u33 := hbR.trans (hb33.mono hbR.size)
              clear hb33
              obtain ⟨n5, x5, y5, ⟨a5, c5, b5, d5, rfl, hx5, hy5⟩, hF5⟩ := hF5
              clear p00 p01
              obtain ⟨p00, p01, _⟩ := X2.cells
              go_wp2_with fail
              refine hK.out _ _ ?_ (fun hHeld => ?_)
              · (try dsimp only)
                exact ⟨p00, p01⟩
              clear hK K
              try simp only [Act.put, List.setIfInBounds_toArray, List.set_cons_zero, List.set_cons_succ]
              refine hCall (i := 5) rfl (by kernel_rfl) (by rfl) (fun K hK => ?_)
              go_simp
              refine (hc1 _ hg hm hp).mono ?_
              rintro e u34 ⟨v6, rfl, hF6, hb34⟩
              replace hg := hg.below hb34
              replace hm := hm.below hb34
              replace hp := hp.below hb34
              replace B6 := B6.below hb34
              replace B5 := B5.below hb34
              replace hx5 := hx5.below hb34
              replace hy5 := hy5.below hb34
              replace X2 := X2.below hb34
              replace hbW : Below w.heap.size w u34 := hbW.trans (hb34.mono hbW.size)
              replace hbR : Below U.heap.size U u34 := hbR.trans (hb34.mono hbR.size)
              clear hb34
              obtain ⟨n6, x6, y6, ⟨a6, c6, b6, d6, rfl, hx6, hy6⟩, hF6⟩ := hF6
              clear p00 p01
              obtain ⟨p00, p01, _⟩ := X2.cells
              go_wp2_with fail
              refine hK.out _ _ ?_ (fun hHeld => ?_)
              · (try dsimp only)
                exact ⟨p00, p01⟩
              clear hK K
              try simp only [Act.put, List.setIfInBounds_toArray, List.set_cons_zero, List.set_cons_succ]
              refine hCall (i := 8) rfl (by kernel_rfl) (by rfl) (fun K hK => ?_)
              go_simp
              obtain ⟨f1, f2, f3, f4, f5, f6⟩ := B5.cells
              try go_simp
              obtain ⟨u95, hU, A5, hbU, hK9, ho⟩ := set3_world B5 (.bool n5) (.slice a5 x5.length c5) (.slice b5 y5.length d5)
              rw [← hU]
              clear hU f1 f2 f3 f4 f5 f6
              replace hbW := hbU _ _ hbW (by omega)
              replace hbR := hbU _ _ hbR (by omega)
              replace B6 := B6.other ho (by omega)
              replace hx5 := hK9 _ _ _ hx5
              replace hy5 := hK9 _ _ _ hy5
              replace hx6 := hK9 _ _ _ hx6
              replace hy6 := hK9 _ _ _ hy6
              clear hbU hK9 ho X2
              have X2 := HX2.out.below hbR
              clear p00 p01
              obtain ⟨p00, p01, _⟩ := X2.cells
              refine hK.out _ _ ?_ (fun hHeld => ?_)
              · (try dsimp only)
                exact ⟨p00, p01⟩
              clear hK K
              try simp only [Act.put, List.setIfInBounds_toArray, List.set_cons_zero, List.set_cons_succ]
              refine hCall (i := 9) rfl (by kernel_rfl) (by rfl) (fun K hK => ?_)
              go_simp
              obtain ⟨f1, f2, f3, f4, f5, f6⟩ := B6.cells
              try go_simp
              obtain ⟨u96, hU, A6, hbU, hK9, ho⟩ := set3_world B6 (.bool n6) (.slice a6 x6.length c6) (.slice b6 y6.length d6)
              rw [← hU]
              clear hU f1 f2 f3 f4 f5 f6
              replace hbW := hbU _ _ hbW (by omega)
              replace hbR := hbU _ _ hbR (by omega)
              replace A5 := A5.other ho (by omega)
              replace hx5 := hK9 _ _ _ hx5
              replace hy5 := hK9 _ _ _ hy5
              replace hx6 := hK9 _ _ _ hx6
              replace hy6 := hK9 _ _ _ hy6
              clear hbU hK9 ho X2
              have X2 := HX2.out.below hbR
              clear p00 p01
              obtain ⟨p00, p01, _⟩ := X2.cells
              refine hK.out _ _ ?_ (fun hHeld => ?_)
              · (try dsimp only)
                exact ⟨p00, p01⟩
              clear hK K
              try simp only [Act.put, List.setIfInBounds_toArray, List.set_cons_zero, List.set_cons_succ]
              refine wpAnyH_done (by kernel_rfl) ?_ _
              clear hHeld
              go_wp2_with fail
              go_meet
              exact ⟨g5, _, _, _, _, _, _, _, g6, _, _, _, _, _, _, _, rfl, rfl, A5, ⟨_, _, _, ⟨_, _, _, _, rfl, hx5, hy5⟩, hF5⟩, A6, ⟨_, _, _, ⟨_, _, _, _, rfl, hx6, hy6⟩, hF6⟩, hbR⟩
        case rest =>
          clear hg hm hp X2 hc0 hc1
          obtain ⟨g5, n5, a5, x5, c5, b5, y5, d5, g6, n6, a6, x6, c6, b6, y6, d6, rfl, rfl, P5, hF5, P6, hF6, hbR⟩ := hcut
          have hg := HG2.out.below hbR
          have hm := HM2.out.below hbR
          have hp := HP2.out.below hbR
          have X2 := HX2.out.below hbR
          have hbW := HBW.out.trans (hbR.mono HBW.out.size)
          have HS1 : Hid (sgnQ (q0 + q1 - (q0 + q1)) = 0) := sgn_eq0.2 rfl
          have HS2 : Hid (sgnQ (q0 * ((3 : Int) : Rat) - q0 * ((3 : Int) : Rat)) = 0) := sgn_eq0.2 rfl
          clear hbR hbU
          go_wp2_with fail
          obtain ⟨p00, p01, _⟩ := X2.cells
          obtain ⟨p10, p11, p12, _⟩ := P5.cells
          obtain ⟨p20, p21, p22, _⟩ := P6.cells
          refine wp_region_held_drew (S := (fun u => u.cell? ⟨w.heap.size + 1, 0, none⟩ = some (.slice a g.length ca) ∧ u.cell? ⟨w.heap.size + 1, 1, none⟩ = some (.slice (some ⟨gr, 0, none⟩) 4 4) ∧ u.cell? ⟨g5, 0, none⟩ = some (.bool n5) ∧ u.cell? ⟨g5, 1, none⟩ = some (.slice a5 x5 c5) ∧ u.cell? ⟨g5, 2, none⟩ = some (.slice b5 y5 d5) ∧ u.cell? ⟨g6, 0, none⟩ = some (.bool n6) ∧ u.cell? ⟨g6, 1, none⟩ = some (.slice a6 x6 c6) ∧ u.cell? ⟨g6, 2, none⟩ = some (.slice b6 y6 d6))) (by kernel_rfl) ?_ (fun hHeld => ?_)
          · (try dsimp only)
            go_keep
          have hdr : Below wc.heap.size wc wc.drew := Below.drew1
          generalize wc.drew = ud3 at hdr hHeld ⊢
          replace hg := hg.below hdr
          replace hm := hm.below hdr
          replace hp := hp.below hdr
          replace hF5 := hF5.below hdr
          replace hF6 := hF6.below hdr
          replace X2 := X2.below hdr
          replace P5 := P5.below hdr
          replace P6 := P6.below hdr
          replace hbW : Below w.heap.size w ud3 := hbW.trans (hdr.mono hbW.size)
          clear hdr
          clear p00 p01 p10 p11 p12 p20 p21 p22
          obtain ⟨p00, p01, _⟩ := X2.cells
          obtain ⟨p10, p11, p12, _⟩ := P5.cells
          obtain ⟨p20, p21, p22, _⟩ := P6.cells
          refine hT 0 hHeld ?_
          refine hT 1 hHeld ?_
          refine hT 3 hHeld ?_
          refine hT 4 hHeld ?_
          refine hCall (i := 2) rfl (by kernel_rfl) (by rfl) (fun K hK => ?_)
          go_simp
          refine (hc2 _ hg hm hp).mono ?_
          rintro e u41 ⟨v7, rfl, hF7, hb41⟩
          replace hg := hg.below hb41
          replace hm := hm.below hb41
          replace hp := hp.below hb41
          replace hF5 := hF5.below hb41
          replace hF6 := hF6.below hb41
          replace X2 := X2.below hb41
          replace P5 := P5.below hb41
          replace P6 := P6.below hb41
          replace hbW : Below w.heap.size w u41 := hbW.trans (hb41.mono hbW.size)
          clear hb41
          clear p00 p01 p10 p11 p12 p20 p21 p22
          obtain ⟨p00, p01, _⟩ := X2.cells
          obtain ⟨p10, p11, p12, _⟩ := P5.cells
          obtain ⟨p20, p21, p22, _⟩ := P6.cells
          go_wp2_with fail
          refine hK.out _ _ ?_ (fun hHeld => ?_)
          · (try dsimp only)
            exact ⟨p00, p01, p10, p11, p12, p20, p21, p22⟩
          clear hK K
          try simp only [Act.put, List.setIfInBounds_toArray, List.set_cons_zero, List.set_cons_succ]
          refine hCall (i := 5) rfl (by kernel_rfl) (by rfl) (fun K hK => ?_)
          go_simp
          refine (qadd_any 1000 1000 _ _ _ _ _ hF5.ct hF6.ct (by decide) (by decide) (by decide) (by decide)).mono ?_
          rintro e u42 ⟨v8, rfl, hF8, hb42⟩
          replace hg := hg.below hb42
          replace hm := hm.below hb42
          replace hp := hp.below hb42
          replace hF5 := hF5.below hb42
          replace hF6 := hF6.below hb42
          replace hF7 := hF7.below hb42
          replace X2 := X2.below hb42
          replace P5 := P5.below hb42
          replace P6 := P6.below hb42
          replace hbW : Below w.heap.size w u42 := hbW.trans (hb42.mono hbW.size)
          clear hb42
          clear p00 p01 p10 p11 p12 p20 p21 p22
          obtain ⟨p00, p01, _⟩ := X2.cells
          obtain ⟨p10, p11, p12, _⟩ := P5.cells
          obtain ⟨p20, p21, p22, _⟩ := P6.cells
          go_wp2_with fail
          refine hK.out _ _ ?_ (fun hHeld => ?_)
          · (try dsimp only)
            exact ⟨p00, p01, p10, p11, p12, p20, p21, p22⟩
          clear hK K
          try simp only [Act.put, List.setIfInBounds_toArray, List.set_cons_zero, List.set_cons_succ]
          refine hCall (i := 6) rfl (by kernel_rfl) (by rfl) (fun K hK => ?_)
          go_simp
          refine (qcmp_any 1000 2001 _ _ _ _ _ hF7.ct hF8.ct (by decide) (by decide) (by decide) (by decide)).mono ?_
          rintro e u43 ⟨rfl, hb43⟩
          replace hg := hg.below hb43
          replace hm := hm.below hb43
          replace hp := hp.below hb43
          replace hF5 := hF5.below hb43
          replace hF6 := hF6.below hb43
          replace hF7 := hF7.below hb43
          replace hF8 := hF8.below hb43
          replace X2 := X2.below hb43
          replace P5 := P5.below hb43
          replace P6 := P6.below hb43
          replace hbW : Below w.heap.size w u43 := hbW.trans (hb43.mono hbW.size)
          clear hb43
          rw [HS1.out]
          clear p00 p01 p10 p11 p12 p20 p21 p22
          obtain ⟨p00, p01, _⟩ := X2.cells
          obtain ⟨p10, p11, p12, _⟩ := P5.cells
          obtain ⟨p20, p21, p22, _⟩ := P6.cells
          go_wp2_with fail
          refine hK.out _ _ ?_ (fun hHeld => ?_)
          · (try dsimp only)
            exact ⟨p00, p01, p10, p11, p12, p20, p21, p22⟩
          clear hK K
          try simp only [Act.put, List.setIfInBounds_toArray, List.set_cons_zero, List.set_cons_succ]
          refine hT 7 hHeld ?_
          refine hT 8 hHeld ?_
          refine hT 9 hHeld ?_
          refine hT 10 hHeld ?_
          refine hT 12 hHeld ?_
          refine hCall (i := 11) rfl (by kernel_rfl) (by rfl) (fun K hK => ?_)
          go_simp
          refine (hc3 _ hg hm hp).mono ?_
          rintro e u44 ⟨v9, rfl, hF9, hb44⟩
          replace hg := hg.below hb44
          replace hm := hm.below hb44
          replace hp := hp.below hb44
          replace hF5 := hF5.below hb44
          replace hF6 := hF6.below hb44
          replace hF7 := hF7.below hb44
          replace hF8 := hF8.below hb44
          replace X2 := X2.below hb44
          replace P5 := P5.below hb44
          replace P6 := P6.below hb44
          replace hbW : Below w.heap.size w u44 := hbW.trans (hb44.mono hbW.size)
          clear hb44
          clear p00 p01 p10 p11 p12 p20 p21 p22
          obtain ⟨p00, p01, _⟩ := X2.cells
          obtain ⟨p10, p11, p12, _⟩ := P5.cells
          obtain ⟨p20, p21, p22, _⟩ := P6.cells
          go_wp2_with fail
          refine hK.out _ _ ?_ (fun hHeld => ?_)
          · (try dsimp only)
            exact ⟨p00, p01, p10, p11, p12, p20, p21, p22⟩
          clear hK K
          try simp only [Act.put, List.setIfInBounds_toArray, List.set_cons_zero, List.set_cons_succ]
          refine hCall (i := 13) rfl (by kernel_rfl) (by rfl) (fun K hK => ?_)
          go_simp
          refine (whole_any 3 _ (by decide) (by decide)).mono ?_
          rintro e u45 ⟨v10, rfl, hF10, hb45⟩
          replace hg := hg.below hb45
          replace hm := hm.below hb45
          replace hp := hp.below hb45
          replace hF5 := hF5.below hb45
          replace hF6 := hF6.below hb45
          replace hF7 := hF7.below hb45
          replace hF8 := hF8.below hb45
          replace hF9 := hF9.below hb45
          replace X2 := X2.below hb45
          replace P5 := P5.below hb45
          replace P6 := P6.below hb45
          replace hbW : Below w.heap.size w u45 := hbW.trans (hb45.mono hbW.size)
          clear hb45
          clear p00 p01 p10 p11 p12 p20 p21 p22
          obtain ⟨p00, p01, _⟩ := X2.cells
          obtain ⟨p10, p11, p12, _⟩ := P5.cells
          obtain ⟨p20, p21, p22, _⟩ := P6.cells
          go_wp2_with fail
          refine hK.out _ _ ?_ (fun hHeld => ?_)
          · (try dsimp only)
            exact ⟨p00, p01, p10, p11, p12, p20, p21, p22⟩
          clear hK K
          try simp only [Act.put, List.setIfInBounds_toArray, List.set_cons_zero, List.set_cons_succ]
          refine hCall (i := 14) rfl (by kernel_rfl) (by rfl) (fun K hK => ?_)
          go_simp
          refine (qmul_any 1000 2 _ _ _ _ _ hF5.ct hF10.ct (by decide) (by decide) (by decide) (by decide)).mono ?_
          rintro e u46 ⟨v11, rfl, hF11, hb46⟩
          replace hg := hg.below hb46
          replace hm := hm.below hb46
          replace hp := hp.below hb46
          replace hF5 := hF5.below hb46
          replace hF6 := hF6.below hb46
          replace hF7 := hF7.below hb46
          replace hF8 := hF8.below hb46
          replace hF9 := hF9.below hb46
          replace hF10 := hF10.below hb46
          replace X2 := X2.below hb46
          replace P5 := P5.below hb46
          replace P6 := P6.below hb46
          replace hbW : Below w.heap.size w u46 := hbW.trans (hb46.mono hbW.size)
          clear hb46
          clear p00 p01 p10 p11 p12 p20 p21 p22
          obtain ⟨p00, p01, _⟩ := X2.cells
          obtain ⟨p10, p11, p12, _⟩ := P5.cells
          obtain ⟨p20, p21, p22, _⟩ := P6.cells
          go_wp2_with fail
          refine hK.out _ _ ?_ (fun hHeld => ?_)
          · (try dsimp only)
            exact ⟨p00, p01, p10, p11, p12, p20, p21, p22⟩
          clear hK K
          try simp only [Act.put, List.setIfInBounds_toArray, List.set_cons_zero, List.set_cons_succ]
          refine hCall (i := 15) rfl (by kernel_rfl) (by rfl) (fun K hK => ?_)
          go_simp
          refine (qcmp_any 1000 1002 _ _ _ _ _ hF9.ct hF11.ct (by decide) (by decide) (by decide) (by decide)).mono ?_
          rintro e u47 ⟨rfl, hb47⟩
          replace hg := hg.below hb47
          replace hm := hm.below hb47
          replace hp := hp.below hb47
          replace hF5 := hF5.below hb47
          replace hF6 := hF6.below hb47
          replace hF7 := hF7.below hb47
          replace hF8 := hF8.below hb47
          replace hF9 := hF9.below hb47
          replace hF10 := hF10.below hb47
          replace hF11 := hF11.below hb47
          replace X2 := X2.below hb47
          replace P5 := P5.below hb47
          replace P6 := P6.below hb47
          replace hbW : Below w.heap.size w u47 := hbW.trans (hb47.mono hbW.size)
          clear hb47
          rw [HS2.out]
          clear p00 p01 p10 p11 p12 p20 p21 p22
          obtain ⟨p00, p01, _⟩ := X2.cells
          obtain ⟨p10, p11, p12, _⟩ := P5.cells
          obtain ⟨p20, p21, p22, _⟩ := P6.cells
          go_wp2_with fail
          refine hK.out _ _ ?_ (fun hHeld => ?_)
          · (try dsimp only)
            exact ⟨p00, p01, p10, p11, p12, p20, p21, p22⟩
          clear hK K
          try simp only [Act.put, List.setIfInBounds_toArray, List.set_cons_zero, List.set_cons_succ]
          refine hT 16 hHeld ?_
          refine hT 17 hHeld ?_
          refine hT 18 hHeld ?_
          refine wpAnyH_done (by kernel_rfl) ?_ _
          clear hHeld
          go_wp2
          go_ret
          exact ⟨rt_bool (by first | rfl | simp), hbW⟩

end Go.Proofs.Ytjefaccpmoignaa
