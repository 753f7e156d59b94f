/-
  foundrylaw04.act: the walk.
-/
import Derived.Test.YtcjomppgllbfpaaOK
namespace Go.Proofs.Ytcjomppgllbfpaa
open Go.RowKit Go.Maps
set_option linter.unusedSimpArgs false
set_option linter.unusedVariables false

/-- The four cells of an act. -/
def Bo (w : World) (b : Nat) (kd n m : Int) (tx : ByteArray) : Prop := w.heap[b]? = some (.cells #[.int .i64 kd, .int .i64 n, .int .i64 m, .string tx] 46 (0, 0))
theorem Bo.cells {w : World} {b : Nat} {kd n m : Int} {tx : ByteArray} (h : Bo w b kd n m tx) :
    w.cell? ⟨b, 0, none⟩ = some (.int .i64 kd) ∧ w.cell? ⟨b, 1, none⟩ = some (.int .i64 n) ∧ w.cell? ⟨b, 2, none⟩ = some (.int .i64 m) ∧ w.cell? ⟨b, 3, none⟩ = some (.string tx) :=
  ⟨cell_of_row w b 0 _ _ (0, 0) h, cell_of_row w b 1 _ _ (0, 0) h, cell_of_row w b 2 _ _ (0, 0) h, cell_of_row w b 3 _ _ (0, 0) h⟩
theorem Bo.keep {G : Nat → Prop} {w u : World} {b : Nat} {kd n m : Int} {tx : ByteArray} (h : Bo w b kd n m tx) (hk : Keep G w u) (hG : G b) : Bo u b kd n m tx := (hk.block b hG).trans h

/-- Ahead of an act: the two pages, and the act's own block, which both leave alone. -/
theorem act_start {W0 w : World} {B C : Nat} {s : St} (h : Two W0 w B C s) (kd n m : Int) (tx : ByteArray) :
    ∃ Gp Gq, T2 W0 (w.alloc (.cells #[.int .i64 kd, .int .i64 n, .int .i64 m, .string tx] 46)) B C s s Gp Gq ∧ Gp w.heap.size ∧ Gq w.heap.size ∧ Bo (w.alloc (.cells #[.int .i64 kd, .int .i64 n, .int .i64 m, .string tx] 46)) w.heap.size kd n m tx := by
  obtain ⟨Gp, Gq, h⟩ := h
  have h1 := h.grow (bl1 (.cells #[.int .i64 kd, .int .i64 n, .int .i64 m, .string tx] 46))
  refine ⟨fun k => Gp k ∨ k = w.heap.size, _, ⟨?_, h1.ps, fun k hk => ?_, fun k hk => ⟨.inl (h.old k hk).1, (h1.old k hk).2⟩, h1.be⟩, .inr rfl, .inr ⟨Nat.le_refl _, by simp⟩, heap_alloc_new w _⟩
  · refine h.pc.guard_new (bl1 _).size (fun k hk _ => (bl1 _).block k hk) ?_
    rintro k (hk | rfl)
    · exact ⟨by have := h.pc.1 k hk; simp; omega, fun _ => hk⟩
    · exact ⟨by simp, fun hlt => by omega⟩
  · rcases h1.cov k hk with h2 | h2
    · exact .inl (.inl h2)
    · exact .inr h2

set_option maxHeartbeats 2000000 in
theorem act1_any (W0 : World) (B C : Nat) (s : St) (n m : Int) (tx : ByteArray) (w : World) (h : Two W0 w B C s) (hn : I64 n) (hm : I64 m) (ht : tx.size ≤ maxLen) (hl : s.bs.length + 16 + tx.size ≤ 1048576) :
    Calls Try.prog 25 #[pg B, pg C, .agg #[.int .i64 1, .int .i64 n, .int .i64 m, .string tx]] w fun e w' => e = .returned (.bool true) ∧ Two W0 w' B C (s.put8 n) := by
  obtain ⟨Gp, Gq, hT, hGp, hGq, hB⟩ := act_start h 1 n m tx
  obtain ⟨c0, c1, c2, c3⟩ := hB.cells
  have hbz : w.heap.size < (w.alloc (.cells #[.int .i64 1, .int .i64 n, .int .i64 m, .string tx] 46)).heap.size := by simp
  clear h
  go_enter Try.func25, Try.ntmps25
  go_wp2_with fail
  obtain ⟨W, hW⟩ : ∃ W, W = w.alloc (.cells #[.int .i64 1, .int .i64 n, .int .i64 m, .string tx] 46) := ⟨_, rfl⟩
  rw [← hW] at hT hB c0 c1 c2 c3 hbz ⊢
  clear hW
  generalize w.heap.size = b at *
  refine (put8_any B Gp s n _ hT.pc hn (by omega)).mono ?_
  rintro e u1 ⟨rfl, hP1, hK1⟩
  have hT2 := hT.left hP1 hK1
  have hB2 := hB.keep hK1 hGp
  obtain ⟨d0, d1, d2, d3⟩ := hB2.cells
  clear hP1 hK1 hT c0 c1 c2 c3
  go_wp2_with fail
  refine (sput8_any C _ s n _ hT2.ps hn (by omega)).mono ?_
  rintro e u2 ⟨rfl, hP2, hK2⟩
  have hT3 := hT2.right hP2 hK2
  go_wp2
  go_ret
  exact ⟨rfl, _, _, hT3⟩

set_option maxHeartbeats 2000000 in
theorem act2_any (W0 : World) (B C : Nat) (s : St) (n m : Int) (tx : ByteArray) (w : World) (h : Two W0 w B C s) (hn : I64 n) (hm : I64 m) (ht : tx.size ≤ maxLen) (hl : s.bs.length + 16 + tx.size ≤ 1048576) :
    Calls Try.prog 25 #[pg B, pg C, .agg #[.int .i64 2, .int .i64 n, .int .i64 m, .string tx]] w fun e w' => e = .returned (.bool true) ∧ Two W0 w' B C (s.put16 n) := by
  obtain ⟨Gp, Gq, hT, hGp, hGq, hB⟩ := act_start h 2 n m tx
  obtain ⟨c0, c1, c2, c3⟩ := hB.cells
  have hbz : w.heap.size < (w.alloc (.cells #[.int .i64 2, .int .i64 n, .int .i64 m, .string tx] 46)).heap.size := by simp
  clear h
  go_enter Try.func25, Try.ntmps25
  go_wp2_with fail
  obtain ⟨W, hW⟩ : ∃ W, W = w.alloc (.cells #[.int .i64 2, .int .i64 n, .int .i64 m, .string tx] 46) := ⟨_, rfl⟩
  rw [← hW] at hT hB c0 c1 c2 c3 hbz ⊢
  clear hW
  generalize w.heap.size = b at *
  refine (put16_any B Gp s n _ hT.pc hn (by omega)).mono ?_
  rintro e u1 ⟨rfl, hP1, hK1⟩
  have hT2 := hT.left hP1 hK1
  have hB2 := hB.keep hK1 hGp
  obtain ⟨d0, d1, d2, d3⟩ := hB2.cells
  clear hP1 hK1 hT c0 c1 c2 c3
  go_wp2_with fail
  refine (sput16_any C _ s n _ hT2.ps hn (by omega)).mono ?_
  rintro e u2 ⟨rfl, hP2, hK2⟩
  have hT3 := hT2.right hP2 hK2
  go_wp2
  go_ret
  exact ⟨rfl, _, _, hT3⟩

set_option maxHeartbeats 2000000 in
theorem act3_any (W0 : World) (B C : Nat) (s : St) (n m : Int) (tx : ByteArray) (w : World) (h : Two W0 w B C s) (hn : I64 n) (hm : I64 m) (ht : tx.size ≤ maxLen) (hl : s.bs.length + 16 + tx.size ≤ 1048576) :
    Calls Try.prog 25 #[pg B, pg C, .agg #[.int .i64 3, .int .i64 n, .int .i64 m, .string tx]] w fun e w' => e = .returned (.bool true) ∧ Two W0 w' B C (s.put32 n) := by
  obtain ⟨Gp, Gq, hT, hGp, hGq, hB⟩ := act_start h 3 n m tx
  obtain ⟨c0, c1, c2, c3⟩ := hB.cells
  have hbz : w.heap.size < (w.alloc (.cells #[.int .i64 3, .int .i64 n, .int .i64 m, .string tx] 46)).heap.size := by simp
  clear h
  go_enter Try.func25, Try.ntmps25
  go_wp2_with fail
  obtain ⟨W, hW⟩ : ∃ W, W = w.alloc (.cells #[.int .i64 3, .int .i64 n, .int .i64 m, .string tx] 46) := ⟨_, rfl⟩
  rw [← hW] at hT hB c0 c1 c2 c3 hbz ⊢
  clear hW
  generalize w.heap.size = b at *
  refine (put32_any B Gp s n _ hT.pc hn (by omega)).mono ?_
  rintro e u1 ⟨rfl, hP1, hK1⟩
  have hT2 := hT.left hP1 hK1
  have hB2 := hB.keep hK1 hGp
  obtain ⟨d0, d1, d2, d3⟩ := hB2.cells
  clear hP1 hK1 hT c0 c1 c2 c3
  go_wp2_with fail
  refine (sput32_any C _ s n _ hT2.ps hn (by omega)).mono ?_
  rintro e u2 ⟨rfl, hP2, hK2⟩
  have hT3 := hT2.right hP2 hK2
  go_wp2
  go_ret
  exact ⟨rfl, _, _, hT3⟩

set_option maxHeartbeats 2000000 in
theorem act4_any (W0 : World) (B C : Nat) (s : St) (n m : Int) (tx : ByteArray) (w : World) (h : Two W0 w B C s) (hn : I64 n) (hm : I64 m) (ht : tx.size ≤ maxLen) (hl : s.bs.length + 16 + tx.size ≤ 1048576) :
    Calls Try.prog 25 #[pg B, pg C, .agg #[.int .i64 4, .int .i64 n, .int .i64 m, .string tx]] w fun e w' => e = .returned (.bool true) ∧ Two W0 w' B C (s.tag (sb tx)) := by
  obtain ⟨Gp, Gq, hT, hGp, hGq, hB⟩ := act_start h 4 n m tx
  obtain ⟨c0, c1, c2, c3⟩ := hB.cells
  have hbz : w.heap.size < (w.alloc (.cells #[.int .i64 4, .int .i64 n, .int .i64 m, .string tx] 46)).heap.size := by simp
  clear h
  go_enter Try.func25, Try.ntmps25
  go_wp2_with fail
  obtain ⟨W, hW⟩ : ∃ W, W = w.alloc (.cells #[.int .i64 4, .int .i64 n, .int .i64 m, .string tx] 46) := ⟨_, rfl⟩
  rw [← hW] at hT hB c0 c1 c2 c3 hbz ⊢
  clear hW
  generalize w.heap.size = b at *
  refine (putTag_any B Gp s tx _ hT.pc ht (by omega)).mono ?_
  rintro e u1 ⟨rfl, hP1, hK1⟩
  have hT2 := hT.left hP1 hK1
  have hB2 := hB.keep hK1 hGp
  obtain ⟨d0, d1, d2, d3⟩ := hB2.cells
  clear hP1 hK1 hT c0 c1 c2 c3
  go_wp2_with fail
  refine (sputTag_any C _ s tx _ hT2.ps ht (by omega)).mono ?_
  rintro e u2 ⟨rfl, hP2, hK2⟩
  have hT3 := hT2.right hP2 hK2
  go_wp2
  go_ret
  exact ⟨rfl, _, _, hT3⟩

set_option maxHeartbeats 2000000 in
theorem act5_any (W0 : World) (B C : Nat) (s : St) (n m : Int) (tx : ByteArray) (w : World) (h : Two W0 w B C s) (hn : I64 n) (hm : I64 m) (ht : tx.size ≤ maxLen) (hl : s.bs.length + 16 + tx.size ≤ 1048576) :
    Calls Try.prog 25 #[pg B, pg C, .agg #[.int .i64 5, .int .i64 n, .int .i64 m, .string tx]] w fun e w' => e = .returned (.bool true) ∧ Two W0 w' B C (s.app (sb tx)) := by
  obtain ⟨Gp, Gq, hT, hGp, hGq, hB⟩ := act_start h 5 n m tx
  obtain ⟨c0, c1, c2, c3⟩ := hB.cells
  have hbz : w.heap.size < (w.alloc (.cells #[.int .i64 5, .int .i64 n, .int .i64 m, .string tx] 46)).heap.size := by simp
  clear h
  have hcv := fun w => run_bytes_of_string (P := Try.prog) w 9 22 5 tx Try.underlying9 Try.underlying22 Try.underlying5
  go_enter Try.func25, Try.ntmps25
  go_wp2_with fail
  obtain ⟨W, hW⟩ : ∃ W, W = w.alloc (.cells #[.int .i64 5, .int .i64 n, .int .i64 m, .string tx] 46) := ⟨_, rfl⟩
  rw [← hW] at hT hB c0 c1 c2 c3 hbz ⊢
  have hWs : W.heap.size = w.heap.size + 1 := by rw [hW]; simp
  generalize w.heap.size = b at *
  clear hW
  have hcg := fun u => grownCap_ge u tx.size 0 5
  have hcm := fun u => grownCap_le_maxLen u tx.size 0 5 ht
  have hbd : Below W.heap.size W (W.drew.alloc (.cells (bytesRow tx (grownCap W tx.size 0 5)) 5 ((bytesRow tx (grownCap W tx.size 0 5)).size, (bytesRow tx (grownCap W tx.size 0 5)).size + 1))) := bd1 _
  have hr := rb_str W tx (grownCap W tx.size 0 5) ((bytesRow tx (grownCap W tx.size 0 5)).size, (bytesRow tx (grownCap W tx.size 0 5)).size + 1) (hcg W) (hcm W)
  have hT1 := hT.grow hbd
  have hB1 : Bo (W.drew.alloc (.cells (bytesRow tx (grownCap W tx.size 0 5)) 5 ((bytesRow tx (grownCap W tx.size 0 5)).size, (bytesRow tx (grownCap W tx.size 0 5)).size + 1))) b 5 n m tx := (hbd.block b hbz).trans hB
  have hput := putBytes_any B Gp s _ _ (sb tx) _ hT1.pc hr (by rw [len_sb]; omega)
  rw [len_sb, hWs] at hput
  refine hput.mono ?_
  rintro e u1 ⟨rfl, hP1, hK1⟩
  have hT2 := hT1.left hP1 hK1
  have hB2 := hB1.keep hK1 hGp
  obtain ⟨d0, d1, d2, d3⟩ := hB2.cells
  clear hput hP1 hK1 hT hT1 c0 c1 c2 c3 hr hbd hB hB1
  go_wp2_with fail
  have hbd : Below u1.heap.size u1 (u1.drew.alloc (.cells (bytesRow tx (grownCap u1 tx.size 0 5)) 5 ((bytesRow tx (grownCap u1 tx.size 0 5)).size, (bytesRow tx (grownCap u1 tx.size 0 5)).size + 1))) := bd1 _
  have hr := rb_str u1 tx (grownCap u1 tx.size 0 5) ((bytesRow tx (grownCap u1 tx.size 0 5)).size, (bytesRow tx (grownCap u1 tx.size 0 5)).size + 1) (hcg u1) (hcm u1)
  have hT2 := hT2.grow hbd
  have hput := sputBytes_any C _ s _ _ (sb tx) _ hT2.ps hr (by rw [len_sb]; omega)
  rw [len_sb] at hput
  refine hput.mono ?_
  rintro e u2 ⟨rfl, hP2, hK2⟩
  have hT3 := hT2.right hP2 hK2
  go_wp2
  go_ret
  exact ⟨rfl, _, _, hT3⟩

set_option maxHeartbeats 2000000 in
theorem act6_any (W0 : World) (B C : Nat) (s : St) (n m : Int) (tx : ByteArray) (w : World) (h : Two W0 w B C s) (hn : I64 n) (hm : I64 m) (ht : tx.size ≤ maxLen) (hl : s.bs.length + 16 + tx.size ≤ 1048576) :
    Calls Try.prog 25 #[pg B, pg C, .agg #[.int .i64 6, .int .i64 n, .int .i64 m, .string tx]] w fun e w' => e = .returned (.bool true) ∧ Two W0 w' B C (s.later) := by
  obtain ⟨Gp, Gq, hT, hGp, hGq, hB⟩ := act_start h 6 n m tx
  obtain ⟨c0, c1, c2, c3⟩ := hB.cells
  have hbz : w.heap.size < (w.alloc (.cells #[.int .i64 6, .int .i64 n, .int .i64 m, .string tx] 46)).heap.size := by simp
  clear h
  go_enter Try.func25, Try.ntmps25
  go_wp2_with fail
  obtain ⟨W, hW⟩ : ∃ W, W = w.alloc (.cells #[.int .i64 6, .int .i64 n, .int .i64 m, .string tx] 46) := ⟨_, rfl⟩
  rw [← hW] at hT hB c0 c1 c2 c3 hbz ⊢
  clear hW
  generalize w.heap.size = b at *
  refine (later_any B Gp s _ hT.pc (by omega)).mono ?_
  rintro e u1 ⟨rfl, hP1, hK1⟩
  have hT2 := hT.left hP1 hK1
  have hB2 := hB.keep hK1 hGp
  obtain ⟨d0, d1, d2, d3⟩ := hB2.cells
  clear hP1 hK1 hT c0 c1 c2 c3
  go_wp2_with fail
  refine (slater_any C _ s _ hT2.ps (by omega)).mono ?_
  rintro e u2 ⟨rfl, hP2, hK2⟩
  have hT3 := hT2.right hP2 hK2
  have hzz : ((s.bs.length : Int) == (s.bs.length : Int)) = true := by simp
  go_wp2
  go_ret
  exact ⟨rt_bool (by simp), _, _, hT3⟩

set_option maxHeartbeats 2000000 in
theorem act7_any (W0 : World) (B C : Nat) (s : St) (n m : Int) (tx : ByteArray) (w : World) (h : Two W0 w B C s) (hn : I64 n) (hm : I64 m) (ht : tx.size ≤ maxLen) (hl : s.bs.length + 16 + tx.size ≤ 1048576) :
    Calls Try.prog 25 #[pg B, pg C, .agg #[.int .i64 7, .int .i64 n, .int .i64 m, .string tx]] w fun e w' => e = .returned (.bool true) ∧ Two W0 w' B C (s.now n m) := by
  obtain ⟨Gp, Gq, hT, hGp, hGq, hB⟩ := act_start h 7 n m tx
  obtain ⟨c0, c1, c2, c3⟩ := hB.cells
  have hbz : w.heap.size < (w.alloc (.cells #[.int .i64 7, .int .i64 n, .int .i64 m, .string tx] 46)).heap.size := by simp
  clear h
  go_enter Try.func25, Try.ntmps25
  go_wp2_with fail
  obtain ⟨W, hW⟩ : ∃ W, W = w.alloc (.cells #[.int .i64 7, .int .i64 n, .int .i64 m, .string tx] 46) := ⟨_, rfl⟩
  rw [← hW] at hT hB c0 c1 c2 c3 hbz ⊢
  clear hW
  generalize w.heap.size = b at *
  refine (now_any B Gp s n m _ hT.pc hn hm (by omega)).mono ?_
  rintro e u1 ⟨rfl, hP1, hK1⟩
  have hT2 := hT.left hP1 hK1
  have hB2 := hB.keep hK1 hGp
  obtain ⟨d0, d1, d2, d3⟩ := hB2.cells
  clear hP1 hK1 hT c0 c1 c2 c3
  go_wp2_with fail
  refine (snow_any C _ s n m _ hT2.ps hn hm (by omega)).mono ?_
  rintro e u2 ⟨rfl, hP2, hK2⟩
  have hT3 := hT2.right hP2 hK2
  go_wp2
  go_ret
  exact ⟨rfl, _, _, hT3⟩

set_option maxHeartbeats 2000000 in
theorem act8_any (W0 : World) (B C : Nat) (s : St) (n m : Int) (tx : ByteArray) (w : World) (h : Two W0 w B C s) (hn : I64 n) (hm : I64 m) (ht : tx.size ≤ maxLen) (hl : s.bs.length + 16 + tx.size ≤ 1048576) :
    Calls Try.prog 25 #[pg B, pg C, .agg #[.int .i64 8, .int .i64 n, .int .i64 m, .string tx]] w fun e w' => e = .returned (.bool true) ∧ Two W0 w' B C (s.pad n) := by
  obtain ⟨Gp, Gq, hT, hGp, hGq, hB⟩ := act_start h 8 n m tx
  obtain ⟨c0, c1, c2, c3⟩ := hB.cells
  have hbz : w.heap.size < (w.alloc (.cells #[.int .i64 8, .int .i64 n, .int .i64 m, .string tx] 46)).heap.size := by simp
  clear h
  go_enter Try.func25, Try.ntmps25
  go_wp2_with fail
  obtain ⟨W, hW⟩ : ∃ W, W = w.alloc (.cells #[.int .i64 8, .int .i64 n, .int .i64 m, .string tx] 46) := ⟨_, rfl⟩
  rw [← hW] at hT hB c0 c1 c2 c3 hbz ⊢
  clear hW
  generalize w.heap.size = b at *
  refine (pad_any B Gp s n _ hT.pc hn (by omega)).mono ?_
  rintro e u1 ⟨rfl, hP1, hK1⟩
  have hT2 := hT.left hP1 hK1
  have hB2 := hB.keep hK1 hGp
  obtain ⟨d0, d1, d2, d3⟩ := hB2.cells
  clear hP1 hK1 hT c0 c1 c2 c3
  go_wp2_with fail
  refine (spad_any C _ s n _ hT2.ps hn (by omega)).mono ?_
  rintro e u2 ⟨rfl, hP2, hK2⟩
  have hT3 := hT2.right hP2 hK2
  go_wp2
  go_ret
  exact ⟨rfl, _, _, hT3⟩

set_option maxHeartbeats 2000000 in
theorem act0_any (W0 : World) (B C : Nat) (s : St) (kd n m : Int) (tx : ByteArray) (w : World) (h : Two W0 w B C s) (hk : kd < 1 ∨ 8 < kd) :
    Calls Try.prog 25 #[pg B, pg C, .agg #[.int .i64 kd, .int .i64 n, .int .i64 m, .string tx]] w fun e w' => e = .returned (.bool true) ∧ Two W0 w' B C s := by
  obtain ⟨Gp, Gq, hT, hGp, hGq, hB⟩ := act_start h kd n m tx
  obtain ⟨c0, c1, c2, c3⟩ := hB.cells
  have e1 : (kd == 1) = false := beq_eq_false_iff_ne.2 (by omega)
  have e2 : (kd == 2) = false := beq_eq_false_iff_ne.2 (by omega)
  have e3 : (kd == 3) = false := beq_eq_false_iff_ne.2 (by omega)
  have e4 : (kd == 4) = false := beq_eq_false_iff_ne.2 (by omega)
  have e5 : (kd == 5) = false := beq_eq_false_iff_ne.2 (by omega)
  have e6 : (kd == 6) = false := beq_eq_false_iff_ne.2 (by omega)
  have e7 : (kd == 7) = false := beq_eq_false_iff_ne.2 (by omega)
  have e8 : (kd == 8) = false := beq_eq_false_iff_ne.2 (by omega)
  clear h hk
  go_enter Try.func25, Try.ntmps25
  go_wp2
  go_ret
  exact ⟨rfl, _, _, hT⟩

theorem act_any (W0 : World) (B C : Nat) (s : St) (o : OpD) (w : World) (h : Two W0 w B C s) (ho : o.ok) (hl : s.bs.length + 16 + o.tx.size ≤ 1048576) :
    Calls Try.prog 25 #[pg B, pg C, .agg #[.int .i64 o.kd, .int .i64 o.n, .int .i64 o.m, .string o.tx]] w fun e w' => e = .returned (.bool true) ∧ Two W0 w' B C (stp s o) := by
  obtain ⟨kd, n, m, tx⟩ := o
  obtain ⟨h1, h2, h3, h4⟩ := ho
  dsimp only at *
  by_cases hk : kd < 1 ∨ 8 < kd
  · rw [show stp s ⟨kd, n, m, tx⟩ = s by unfold stp; dsimp only; rw [if_neg (by omega), if_neg (by omega), if_neg (by omega), if_neg (by omega), if_neg (by omega), if_neg (by omega), if_neg (by omega), if_neg (by omega)]]
    exact act0_any W0 B C s kd n m tx w h hk
  · obtain rfl | rfl | rfl | rfl | rfl | rfl | rfl | rfl : kd = 1 ∨ kd = 2 ∨ kd = 3 ∨ kd = 4 ∨ kd = 5 ∨ kd = 6 ∨ kd = 7 ∨ kd = 8 := by omega
    · exact act1_any W0 B C s n m tx w h h2 h3 h4 hl
    · exact act2_any W0 B C s n m tx w h h2 h3 h4 hl
    · exact act3_any W0 B C s n m tx w h h2 h3 h4 hl
    · exact act4_any W0 B C s n m tx w h h2 h3 h4 hl
    · exact act5_any W0 B C s n m tx w h h2 h3 h4 hl
    · exact act6_any W0 B C s n m tx w h h2 h3 h4 hl
    · exact act7_any W0 B C s n m tx w h h2 h3 h4 hl
    · exact act8_any W0 B C s n m tx w h h2 h3 h4 hl

end Go.Proofs.Ytcjomppgllbfpaa
