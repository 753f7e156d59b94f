/-
  foundrylaw04.OctetsReads: the walk.
-/
import Derived.Test.YtcjomppgllbfpaaOC
import Derived.ChangeKeysEq
namespace Go.Proofs.Ytcjomppgllbfpaa
open Go.RowKit Go.Maps
set_option linter.unusedSimpArgs false
set_option linter.unusedVariables false

/-- Five cells of a block. -/
def Bx5 (t : TypeId) (w : World) (b : Nat) (x : Array Value) : Prop := w.heap[b]? = some (.cells x t (0, 0))
theorem Bx5.set {t : TypeId} {w : World} {b : Nat} {x : Array Value} (h : Bx5 t w b x) (i : Nat) (v : Value) : Bx5 t (w.setCell ⟨b, i, none⟩ v) b (x.setIfInBounds i v) := heap_setCell_same w b i _ _ v h
theorem Bx5.off {t : TypeId} {w : World} {b : Nat} {x : Array Value} (h : Bx5 t w b x) (g i : Nat) (v : Value) (hne : b ≠ g) : Bx5 t (w.setCell ⟨g, i, none⟩ v) b x := (Below.heap_setCell _ ⟨g, i, none⟩ v b hne).trans h
theorem Bx5.cell {t : TypeId} {w : World} {b : Nat} {x : Array Value} (h : Bx5 t w b x) (i : Nat) : w.cell? ⟨b, i, none⟩ = x[i]? := cell_of_row w b i _ _ (0, 0) h
theorem Bx5.frozen {t : TypeId} {w : World} {b : Nat} {x : Array Value} (h : Bx5 t w b x) (i : Nat) : w.frozen? ⟨b, i, none⟩ = false := frozen_of_row w b i _ _ h
theorem Bx5.below {t : TypeId} {w w' : World} {b : Nat} {x : Array Value} (h : Bx5 t w b x) (hb : Below w.heap.size w w') : Bx5 t w' b x := (hb.block b (Array.getElem?_eq_some_iff.1 h).1).trans h

/-- The four arrays of the law, the bytes, and what was there. -/
structure Rds (w u : World) (h : Nat) (a : Option Addr) (cap : Nat) (xs : List Nat) (X Y P Q : Array Value) : Prop where
  x : Bx5 24 u h X
  y : Bx5 24 u (h + 1) Y
  p : Bx5 25 u (h + 1 + 1) P
  q : Bx5 25 u (h + 1 + 1 + 1) Q
  b : Below w.heap.size w u
  r : Rb u a cap xs
  hs : w.heap.size ≤ h
  o : ∀ g o, a = some ⟨g, o, none⟩ → xs ≠ [] → g < h

theorem Rds.step {w u : World} {h : Nat} {a : Option Addr} {cap : Nat} {xs : List Nat} {X Y P Q : Array Value} (R : Rds w u h a cap xs X Y P Q) {u' : World} (hb : Below u.heap.size u u') : Rds w u' h a cap xs X Y P Q :=
  ⟨R.x.below hb, R.y.below hb, R.p.below hb, R.q.below hb, R.b.trans (hb.mono R.b.size), R.r.below hb, R.hs, R.o⟩
theorem rb_off {u : World} {a : Option Addr} {cap : Nat} {xs : List Nat} (h : Rb u a cap xs) (g i : Nat) (v : Value) (ho : ∀ b o, a = some ⟨b, o, none⟩ → xs ≠ [] → b ≠ g) : Rb (u.setCell ⟨g, i, none⟩ v) a cap xs := by
  obtain ⟨h1, h2, h3, h5, h4⟩ := h
  refine ⟨h1, h2, h3, h5, ?_⟩
  by_cases hx : xs = []
  · exact .inl hx
  rcases h4 with h4 | ⟨b, off, e, hb1, hc⟩
  · exact .inl h4
  · exact .inr ⟨b, off, e, by simpa [World.setCell] using hb1, fun k hk => (World.cell?_of_block (w := u) (a := ⟨b, off + k, none⟩) (Below.heap_setCell _ ⟨g, i, none⟩ v b (ho b off e hx))).trans (hc k hk)⟩
theorem Rds.stX {w u : World} {h : Nat} {a : Option Addr} {cap : Nat} {xs : List Nat} {X Y P Q : Array Value} (R : Rds w u h a cap xs X Y P Q) (i : Nat) (v v' : Value) :
    ∃ U, (u.setCell ⟨h, i, none⟩ v).setCell ⟨h + 1 + 1, i, none⟩ v' = U ∧ Rds w U h a cap xs (X.setIfInBounds i v) Y (P.setIfInBounds i v') Q := by
  refine ⟨_, rfl, ?_, ?_, ?_, ?_, ?_, ?_, R.hs, R.o⟩
  · exact (R.x.set i v).off _ _ _ (by omega)
  · exact (R.y.off _ _ _ (by omega)).off _ _ _ (by omega)
  · exact (R.p.off _ _ _ (by omega)).set i v'
  · exact (R.q.off _ _ _ (by omega)).off _ _ _ (by omega)
  · exact (R.b.setCell (p := ⟨h, i, none⟩) R.hs v).setCell (p := ⟨h + 1 + 1, i, none⟩) (by have := R.hs; simp; omega) v'
  · exact rb_off (rb_off R.r _ _ _ (fun b o e hx => by have := R.o b o e hx; omega)) _ _ _ (fun b o e hx => by have := R.o b o e hx; omega)
theorem Rds.stY {w u : World} {h : Nat} {a : Option Addr} {cap : Nat} {xs : List Nat} {X Y P Q : Array Value} (R : Rds w u h a cap xs X Y P Q) (i : Nat) (v v' : Value) :
    ∃ U, (u.setCell ⟨h + 1, i, none⟩ v).setCell ⟨h + 1 + 1 + 1, i, none⟩ v' = U ∧ Rds w U h a cap xs X (Y.setIfInBounds i v) P (Q.setIfInBounds i v') := by
  refine ⟨_, rfl, ?_, ?_, ?_, ?_, ?_, ?_, R.hs, R.o⟩
  · exact (R.x.off _ _ _ (by omega)).off _ _ _ (by omega)
  · exact (R.y.set i v).off _ _ _ (by omega)
  · exact (R.p.off _ _ _ (by omega)).off _ _ _ (by omega)
  · exact (R.q.off _ _ _ (by omega)).set i v'
  · exact (R.b.setCell (p := ⟨h + 1, i, none⟩) (by have := R.hs; simp; omega) v).setCell (p := ⟨h + 1 + 1 + 1, i, none⟩) (by have := R.hs; simp; omega) v'
  · exact rb_off (rb_off R.r _ _ _ (fun b o e hx => by have := R.o b o e hx; omega)) _ _ _ (fun b o e hx => by have := R.o b o e hx; omega)

theorem info_int : (Try.prog.info? 3).map (fun i => (i.zero, i.size, i.bytes)) = some (some (.int .i64 0), 1, 8) := by kernel_rfl
theorem info_bool : (Try.prog.info? 4).map (fun i => (i.zero, i.size, i.bytes)) = some (some (.bool false), 1, 1) := by kernel_rfl
theorem cells_int : Try.prog.cellsOf 3 = 1 := by kernel_rfl
theorem cells_bool : Try.prog.cellsOf 4 = 1 := by kernel_rfl
theorem eq5int (w : World) (a b c d e : Int) :
    (Op.equalIn 10000 24 (.agg #[.int .i64 a, .int .i64 b, .int .i64 c, .int .i64 d, .int .i64 e]) (.agg #[.int .i64 a, .int .i64 b, .int .i64 c, .int .i64 d, .int .i64 e])).run Try.prog w = .ok true w := by
  obtain ⟨i, hi, hz0, hz1, hz2⟩ := info_parts info_int
  rw [run_equalIn_array w 9999 _ _ Try.underlying24 hi, cells_int]
  simp only [List.range, List.range.loop]
  simp [Op.eqItems, part, go_sem]
theorem eq5bool (w : World) (a b c d e : Bool) :
    (Op.equalIn 10000 25 (.agg #[.bool a, .bool b, .bool c, .bool d, .bool e]) (.agg #[.bool a, .bool b, .bool c, .bool d, .bool e])).run Try.prog w = .ok true w := by
  obtain ⟨i, hi, hz0, hz1, hz2⟩ := info_parts info_bool
  rw [run_equalIn_array w 9999 _ _ Try.underlying25 hi, cells_bool]
  simp only [List.range, List.range.loop]
  simp [Op.eqItems, part, go_sem]

theorem Hid_mk {p : Prop} (h : p) : Hid p := h

theorem awake4_law {R : Ending → World → Prop} (w : World) (h : ∀ u, Below w.heap.size w u → R (.returned (.bool true)) u) : Calls Try.prog 8 #[] w R :=
  (awake4_any w).mono fun e u ⟨he, hb⟩ => he ▸ h u hb

set_option maxHeartbeats 4000000 in
theorem octetsReads_any (a : Option Addr) (cap : Nat) (xs : List Nat) (p n : Int) (w : World) (h : Rb w a cap xs) (hp : I64 p) (hn : I64 n) :
    Calls Try.prog 3 #[.slice a xs.length cap, .int .i64 p, .int .i64 n] w fun e w' => e = .returned (.bool true) ∧ Below w.heap.size w w' := by
  have k1 := h.le
  have k2 := h.cap
  unfold maxLen at k2
  by_cases hl : xs.length ≤ 10000
  rotate_left
  · have g1 : 10000 < (xs.length : Int) := by omega
    go_enter Try.func3, Try.ntmps3
    go_wp2_with fail
    refine (awake4_any _).mono ?_
    rintro e u ⟨rfl, hb⟩
    go_wp2_with fail
    refine (awake4_any _).mono ?_
    rintro e u2 ⟨rfl, hb2⟩
    go_wp2
    go_ret
    exact ⟨rfl, hb.trans (hb2.mono hb.size)⟩
  have g1 : ¬ (10000 < (xs.length : Int)) := by omega
  go_enter Try.func3, Try.ntmps3
  go_wp2_with fail
  refine (awake4_any _).mono ?_
  rintro e u0 ⟨rfl, hb0⟩
  go_wp2_with fail
  have R0 : Rds w ((((u0.alloc (.cells #[.int .i64 0, .int .i64 0, .int .i64 0, .int .i64 0, .int .i64 0] 24)).alloc (.cells #[.int .i64 0, .int .i64 0, .int .i64 0, .int .i64 0, .int .i64 0] 24)).alloc (.cells #[.bool false, .bool false, .bool false, .bool false, .bool false] 25)).alloc (.cells #[.bool false, .bool false, .bool false, .bool false, .bool false] 25)) u0.heap.size a cap xs #[.int .i64 0, .int .i64 0, .int .i64 0, .int .i64 0, .int .i64 0] #[.int .i64 0, .int .i64 0, .int .i64 0, .int .i64 0, .int .i64 0] #[.bool false, .bool false, .bool false, .bool false, .bool false] #[.bool false, .bool false, .bool false, .bool false, .bool false] := by
    have hx : Bx5 24 (u0.alloc (.cells #[.int .i64 0, .int .i64 0, .int .i64 0, .int .i64 0, .int .i64 0] 24)) u0.heap.size _ := heap_alloc_new u0 _
    have hy : Bx5 24 ((u0.alloc (.cells #[.int .i64 0, .int .i64 0, .int .i64 0, .int .i64 0, .int .i64 0] 24)).alloc (.cells #[.int .i64 0, .int .i64 0, .int .i64 0, .int .i64 0, .int .i64 0] 24)) (u0.heap.size + 1) #[.int .i64 0, .int .i64 0, .int .i64 0, .int .i64 0, .int .i64 0] := by
      have := heap_alloc_new (u0.alloc (.cells #[.int .i64 0, .int .i64 0, .int .i64 0, .int .i64 0, .int .i64 0] 24)) (.cells #[.int .i64 0, .int .i64 0, .int .i64 0, .int .i64 0, .int .i64 0] 24)
      simpa [Bx5] using this
    have hpp : Bx5 25 (((u0.alloc (.cells #[.int .i64 0, .int .i64 0, .int .i64 0, .int .i64 0, .int .i64 0] 24)).alloc (.cells #[.int .i64 0, .int .i64 0, .int .i64 0, .int .i64 0, .int .i64 0] 24)).alloc (.cells #[.bool false, .bool false, .bool false, .bool false, .bool false] 25)) (u0.heap.size + 1 + 1) #[.bool false, .bool false, .bool false, .bool false, .bool false] := by
      have := heap_alloc_new ((u0.alloc (.cells #[.int .i64 0, .int .i64 0, .int .i64 0, .int .i64 0, .int .i64 0] 24)).alloc (.cells #[.int .i64 0, .int .i64 0, .int .i64 0, .int .i64 0, .int .i64 0] 24)) (.cells #[.bool false, .bool false, .bool false, .bool false, .bool false] 25)
      simpa [Bx5] using this
    have hq : Bx5 25 ((((u0.alloc (.cells #[.int .i64 0, .int .i64 0, .int .i64 0, .int .i64 0, .int .i64 0] 24)).alloc (.cells #[.int .i64 0, .int .i64 0, .int .i64 0, .int .i64 0, .int .i64 0] 24)).alloc (.cells #[.bool false, .bool false, .bool false, .bool false, .bool false] 25)).alloc (.cells #[.bool false, .bool false, .bool false, .bool false, .bool false] 25)) (u0.heap.size + 1 + 1 + 1) #[.bool false, .bool false, .bool false, .bool false, .bool false] := by
      have := heap_alloc_new (((u0.alloc (.cells #[.int .i64 0, .int .i64 0, .int .i64 0, .int .i64 0, .int .i64 0] 24)).alloc (.cells #[.int .i64 0, .int .i64 0, .int .i64 0, .int .i64 0, .int .i64 0] 24)).alloc (.cells #[.bool false, .bool false, .bool false, .bool false, .bool false] 25)) (.cells #[.bool false, .bool false, .bool false, .bool false, .bool false] 25)
      simpa [Bx5] using this
    refine ⟨((hx.below (bl1 _)).below (bl1 _)).below (bl1 _), (hy.below (bl1 _)).below (bl1 _), hpp.below (bl1 _), hq, (((hb0.alloc hb0.size _).alloc (by simp; have := hb0.size; omega) _).alloc (by simp; have := hb0.size; omega) _).alloc (by simp; have := hb0.size; omega) _, ((((h.below hb0).below (bl1 _)).below (bl1 _)).below (bl1 _)).below (bl1 _), hb0.size, ?_⟩
    intro g o e hx
    rcases h.fm with h0 | ⟨b, off, e', hb, _⟩
    · exact absurd h0 hx
    · rw [e] at e'
      simp at e'
      rw [e'.1]
      exact Nat.lt_of_lt_of_le hb hb0.size
  generalize ((((u0.alloc (.cells #[.int .i64 0, .int .i64 0, .int .i64 0, .int .i64 0, .int .i64 0] 24)).alloc (.cells #[.int .i64 0, .int .i64 0, .int .i64 0, .int .i64 0, .int .i64 0] 24)).alloc (.cells #[.bool false, .bool false, .bool false, .bool false, .bool false] 25)).alloc (.cells #[.bool false, .bool false, .bool false, .bool false, .bool false] 25)) = W0 at R0 ⊢
  generalize u0.heap.size = H at R0 ⊢
  clear hb0 h
  obtain ⟨v0, hv0⟩ : ∃ v : Int, v = (nmV xs p 1 : Int) := ⟨_, rfl⟩
  obtain ⟨v1, hv1⟩ : ∃ v : Int, v = (nmV xs p 2 : Int) := ⟨_, rfl⟩
  obtain ⟨v2, hv2⟩ : ∃ v : Int, v = sx16 (nmV xs p 2) := ⟨_, rfl⟩
  obtain ⟨v3, hv3⟩ : ∃ v : Int, v = (nmV xs p 4 : Int) := ⟨_, rfl⟩
  obtain ⟨v4, hv4⟩ : ∃ v : Int, v = sx32 (nmV xs p 4) := ⟨_, rfl⟩
  obtain ⟨b0, hb0⟩ : ∃ b, b = inB xs.length p 1 := ⟨_, rfl⟩
  obtain ⟨b1, hb1⟩ : ∃ b, b = inB xs.length p 2 := ⟨_, rfl⟩
  obtain ⟨b3, hb3⟩ : ∃ b, b = inB xs.length p 4 := ⟨_, rfl⟩
  have HV0 := Hid_mk hv0
  have HV1 := Hid_mk hv1
  have HV2 := Hid_mk hv2
  have HV3 := Hid_mk hv3
  have HV4 := Hid_mk hv4
  have HB0 := Hid_mk hb0
  have HB1 := Hid_mk hb1
  have HB3 := Hid_mk hb3
  clear hv0 hv1 hv2 hv3 hv4 hb0 hb1 hb3
  have cx := R0.x.cell 0
  have cp := R0.p.cell 0
  have fx := R0.x.frozen 0
  have fp := R0.p.frozen 0
  simp only [List.getElem?_toArray, List.getElem?_cons_zero, List.getElem?_cons_succ] at cx cp
  refine (u8_any a cap xs p _ R0.r hp).mono ?_
  rintro e u ⟨rfl, rfl⟩
  rw [← HV0.out, ← HB0.out]
  go_wp2_with fail
  clear cx cp fx fp
  obtain ⟨W1, hW, R1⟩ := R0.stX 0 (.int .i64 v0) (.bool b0)
  rw [hW]
  clear hW
  have R1 : Rds w W1 H a cap xs #[.int .i64 v0, .int .i64 0, .int .i64 0, .int .i64 0, .int .i64 0] #[.int .i64 0, .int .i64 0, .int .i64 0, .int .i64 0, .int .i64 0] #[.bool b0, .bool false, .bool false, .bool false, .bool false] #[.bool false, .bool false, .bool false, .bool false, .bool false] := R1
  have cx := R1.x.cell 1
  have cp := R1.p.cell 1
  have fx := R1.x.frozen 1
  have fp := R1.p.frozen 1
  simp only [List.getElem?_toArray, List.getElem?_cons_zero, List.getElem?_cons_succ] at cx cp
  refine (u16_any a cap xs p _ R1.r hp).mono ?_
  rintro e u ⟨rfl, rfl⟩
  rw [← HV1.out, ← HB1.out]
  go_wp2_with fail
  clear cx cp fx fp
  obtain ⟨W2, hW, R2⟩ := R1.stX 1 (.int .i64 v1) (.bool b1)
  rw [hW]
  clear hW
  have R2 : Rds w W2 H a cap xs #[.int .i64 v0, .int .i64 v1, .int .i64 0, .int .i64 0, .int .i64 0] #[.int .i64 0, .int .i64 0, .int .i64 0, .int .i64 0, .int .i64 0] #[.bool b0, .bool b1, .bool false, .bool false, .bool false] #[.bool false, .bool false, .bool false, .bool false, .bool false] := R2
  have cx := R2.x.cell 2
  have cp := R2.p.cell 2
  have fx := R2.x.frozen 2
  have fp := R2.p.frozen 2
  simp only [List.getElem?_toArray, List.getElem?_cons_zero, List.getElem?_cons_succ] at cx cp
  refine (i16_any a cap xs p _ R2.r hp).mono ?_
  rintro e u ⟨rfl, rfl⟩
  rw [← HV2.out, ← HB1.out]
  go_wp2_with fail
  clear cx cp fx fp
  obtain ⟨W3, hW, R3⟩ := R2.stX 2 (.int .i64 v2) (.bool b1)
  rw [hW]
  clear hW
  have R3 : Rds w W3 H a cap xs #[.int .i64 v0, .int .i64 v1, .int .i64 v2, .int .i64 0, .int .i64 0] #[.int .i64 0, .int .i64 0, .int .i64 0, .int .i64 0, .int .i64 0] #[.bool b0, .bool b1, .bool b1, .bool false, .bool false] #[.bool false, .bool false, .bool false, .bool false, .bool false] := R3
  have cx := R3.x.cell 3
  have cp := R3.p.cell 3
  have fx := R3.x.frozen 3
  have fp := R3.p.frozen 3
  simp only [List.getElem?_toArray, List.getElem?_cons_zero, List.getElem?_cons_succ] at cx cp
  refine (u32_any a cap xs p _ R3.r hp).mono ?_
  rintro e u ⟨rfl, rfl⟩
  rw [← HV3.out, ← HB3.out]
  go_wp2_with fail
  clear cx cp fx fp
  obtain ⟨W4, hW, R4⟩ := R3.stX 3 (.int .i64 v3) (.bool b3)
  rw [hW]
  clear hW
  have R4 : Rds w W4 H a cap xs #[.int .i64 v0, .int .i64 v1, .int .i64 v2, .int .i64 v3, .int .i64 0] #[.int .i64 0, .int .i64 0, .int .i64 0, .int .i64 0, .int .i64 0] #[.bool b0, .bool b1, .bool b1, .bool b3, .bool false] #[.bool false, .bool false, .bool false, .bool false, .bool false] := R4
  have cx := R4.x.cell 4
  have cp := R4.p.cell 4
  have fx := R4.x.frozen 4
  have fp := R4.p.frozen 4
  simp only [List.getElem?_toArray, List.getElem?_cons_zero, List.getElem?_cons_succ] at cx cp
  refine (i32_any a cap xs p _ R4.r hp).mono ?_
  rintro e u ⟨rfl, rfl⟩
  rw [← HV4.out, ← HB3.out]
  go_wp2_with fail
  clear cx cp fx fp
  obtain ⟨W5, hW, R5⟩ := R4.stX 4 (.int .i64 v4) (.bool b3)
  rw [hW]
  clear hW
  have R5 : Rds w W5 H a cap xs #[.int .i64 v0, .int .i64 v1, .int .i64 v2, .int .i64 v3, .int .i64 v4] #[.int .i64 0, .int .i64 0, .int .i64 0, .int .i64 0, .int .i64 0] #[.bool b0, .bool b1, .bool b1, .bool b3, .bool b3] #[.bool false, .bool false, .bool false, .bool false, .bool false] := R5
  have cx := R5.y.cell 0
  have cp := R5.q.cell 0
  have fx := R5.y.frozen 0
  have fp := R5.q.frozen 0
  simp only [List.getElem?_toArray, List.getElem?_cons_zero, List.getElem?_cons_succ] at cx cp
  refine (su8_any a cap xs p _ R5.r hp).mono ?_
  rintro e u ⟨rfl, rfl⟩
  rw [← HV0.out, ← HB0.out]
  go_wp2_with fail
  clear cx cp fx fp
  obtain ⟨W6, hW, R6⟩ := R5.stY 0 (.int .i64 v0) (.bool b0)
  rw [hW]
  clear hW
  have R6 : Rds w W6 H a cap xs #[.int .i64 v0, .int .i64 v1, .int .i64 v2, .int .i64 v3, .int .i64 v4] #[.int .i64 v0, .int .i64 0, .int .i64 0, .int .i64 0, .int .i64 0] #[.bool b0, .bool b1, .bool b1, .bool b3, .bool b3] #[.bool b0, .bool false, .bool false, .bool false, .bool false] := R6
  have cx := R6.y.cell 1
  have cp := R6.q.cell 1
  have fx := R6.y.frozen 1
  have fp := R6.q.frozen 1
  simp only [List.getElem?_toArray, List.getElem?_cons_zero, List.getElem?_cons_succ] at cx cp
  refine (su16_any a cap xs p _ R6.r hp).mono ?_
  rintro e u ⟨rfl, rfl⟩
  rw [← HV1.out, ← HB1.out]
  go_wp2_with fail
  clear cx cp fx fp
  obtain ⟨W7, hW, R7⟩ := R6.stY 1 (.int .i64 v1) (.bool b1)
  rw [hW]
  clear hW
  have R7 : Rds w W7 H a cap xs #[.int .i64 v0, .int .i64 v1, .int .i64 v2, .int .i64 v3, .int .i64 v4] #[.int .i64 v0, .int .i64 v1, .int .i64 0, .int .i64 0, .int .i64 0] #[.bool b0, .bool b1, .bool b1, .bool b3, .bool b3] #[.bool b0, .bool b1, .bool false, .bool false, .bool false] := R7
  have cx := R7.y.cell 2
  have cp := R7.q.cell 2
  have fx := R7.y.frozen 2
  have fp := R7.q.frozen 2
  simp only [List.getElem?_toArray, List.getElem?_cons_zero, List.getElem?_cons_succ] at cx cp
  refine (si16_any a cap xs p _ R7.r hp).mono ?_
  rintro e u ⟨rfl, rfl⟩
  rw [← HV2.out, ← HB1.out]
  go_wp2_with fail
  clear cx cp fx fp
  obtain ⟨W8, hW, R8⟩ := R7.stY 2 (.int .i64 v2) (.bool b1)
  rw [hW]
  clear hW
  have R8 : Rds w W8 H a cap xs #[.int .i64 v0, .int .i64 v1, .int .i64 v2, .int .i64 v3, .int .i64 v4] #[.int .i64 v0, .int .i64 v1, .int .i64 v2, .int .i64 0, .int .i64 0] #[.bool b0, .bool b1, .bool b1, .bool b3, .bool b3] #[.bool b0, .bool b1, .bool b1, .bool false, .bool false] := R8
  have cx := R8.y.cell 3
  have cp := R8.q.cell 3
  have fx := R8.y.frozen 3
  have fp := R8.q.frozen 3
  simp only [List.getElem?_toArray, List.getElem?_cons_zero, List.getElem?_cons_succ] at cx cp
  refine (su32_any a cap xs p _ R8.r hp).mono ?_
  rintro e u ⟨rfl, rfl⟩
  rw [← HV3.out, ← HB3.out]
  go_wp2_with fail
  clear cx cp fx fp
  obtain ⟨W9, hW, R9⟩ := R8.stY 3 (.int .i64 v3) (.bool b3)
  rw [hW]
  clear hW
  have R9 : Rds w W9 H a cap xs #[.int .i64 v0, .int .i64 v1, .int .i64 v2, .int .i64 v3, .int .i64 v4] #[.int .i64 v0, .int .i64 v1, .int .i64 v2, .int .i64 v3, .int .i64 0] #[.bool b0, .bool b1, .bool b1, .bool b3, .bool b3] #[.bool b0, .bool b1, .bool b1, .bool b3, .bool false] := R9
  have cx := R9.y.cell 4
  have cp := R9.q.cell 4
  have fx := R9.y.frozen 4
  have fp := R9.q.frozen 4
  simp only [List.getElem?_toArray, List.getElem?_cons_zero, List.getElem?_cons_succ] at cx cp
  refine (si32_any a cap xs p _ R9.r hp).mono ?_
  rintro e u ⟨rfl, rfl⟩
  rw [← HV4.out, ← HB3.out]
  go_wp2_with fail
  clear cx cp fx fp
  obtain ⟨W10, hW, R10⟩ := R9.stY 4 (.int .i64 v4) (.bool b3)
  rw [hW]
  clear hW
  have R10 : Rds w W10 H a cap xs #[.int .i64 v0, .int .i64 v1, .int .i64 v2, .int .i64 v3, .int .i64 v4] #[.int .i64 v0, .int .i64 v1, .int .i64 v2, .int .i64 v3, .int .i64 v4] #[.bool b0, .bool b1, .bool b1, .bool b3, .bool b3] #[.bool b0, .bool b1, .bool b1, .bool b3, .bool b3] := R10
  refine (cut_any a cap xs p n _ R10.r hp hn (by omega)).mono ?_
  rintro e u11 ⟨ac, cc, rfl, hc1, hb11⟩
  have R11 := R10.step hb11
  go_wp2_with fail
  refine (scut_any a cap xs p n _ R11.r hp hn (by omega)).mono ?_
  rintro e u12 ⟨ad, cd, rfl, hc2, hb12⟩
  have R12 := R11.step hb12
  have hr1 := hc1.rd.below hb12
  have hr2 := hc2.rd
  generalize inB xs.length p n = bc
  go_wp2_with fail
  refine (tag_any a cap xs p _ R12.r hp (by omega)).mono ?_
  rintro e u13 ⟨rfl, hb13⟩
  have R13 := R12.step hb13
  have hr1 := hr1.below hb13
  have hr2 := hr2.below hb13
  go_wp2_with fail
  refine (stag_any a cap xs p _ R13.r hp (by omega)).mono ?_
  rintro e u14 ⟨rfl, hb14⟩
  have R14 := R13.step hb14
  have hr1 := hr1.below hb14
  have hr2 := hr2.below hb14
  generalize tgV xs p = tv
  generalize tgB xs p = tb
  generalize cutV xs p n = zs at *
  have cx0 := R14.x.cell 0
  have cx1 := R14.x.cell 1
  have cx2 := R14.x.cell 2
  have cx3 := R14.x.cell 3
  have cx4 := R14.x.cell 4
  have cy0 := R14.y.cell 0
  have cy1 := R14.y.cell 1
  have cy2 := R14.y.cell 2
  have cy3 := R14.y.cell 3
  have cy4 := R14.y.cell 4
  have cp0 := R14.p.cell 0
  have cp1 := R14.p.cell 1
  have cp2 := R14.p.cell 2
  have cp3 := R14.p.cell 3
  have cp4 := R14.p.cell 4
  have cq0 := R14.q.cell 0
  have cq1 := R14.q.cell 1
  have cq2 := R14.q.cell 2
  have cq3 := R14.q.cell 3
  have cq4 := R14.q.cell 4
  simp only [List.getElem?_toArray, List.getElem?_cons_zero, List.getElem?_cons_succ] at cx0 cx1 cx2 cx3 cx4 cy0 cy1 cy2 cy3 cy4 cp0 cp1 cp2 cp3 cp4 cq0 cq1 cq2 cq3 cq4
  clear R0 R1 R2 R3 R4 R5 R6 R7 R8 R9 R10 R11 R12 R13 hb11 hb12 hb13 hb14 hc1 hc2
  have he1 := fun w => eq5int w v0 v1 v2 v3 v4
  have he2 := fun w => eq5bool w b0 b1 b1 b3 b3
  go_wp2_with fail
  refine (same8_any _ _ _ _ zs _ hr1 hr2).mono ?_
  rintro e u15 ⟨rfl, hb15⟩
  have hbz : Below w.heap.size w u15 := R14.b.trans (hb15.mono R14.b.size)
  have hbb : ∀ b : Bool, (b == b) = true := fun b => by cases b <;> rfl
  have htt : (tv.toList == tv.toList) = true := by simp
  clear R14 hr1 hr2 hb15
  go_wp2
  go_ret
  exact ⟨rt_bool (by simp), hbz⟩

end Go.Proofs.Ytcjomppgllbfpaa
