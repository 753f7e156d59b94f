/-
  What the laws of layer 5 ask of the code (Cod); foundrylaw05.awake: the walk.
-/
import Derived.Test.YtijehnfadpoapaaSP3
namespace Go.Proofs.Ytijehnfadpoapaa
open Go.RowKit Go.Maps
set_option linter.unusedSimpArgs false
set_option linter.unusedVariables false

/-- The contracts of sfnt's functions. -/
structure Cod : Prop where
  formed : ∀ (a : Option Addr) (cap : Nat) (l : List Tb) (w : World), Ts w a cap l → Calls Try.prog 19 #[.slice a l.length cap] w fun e w' => e = .returned (.bool (frB l)) ∧ Below w.heap.size w w'
  sum : ∀ (a : Option Addr) (cap : Nat) (xs : List Nat) (w : World), Rb w a cap xs → xs.length ≤ 1000000000 → Calls Try.prog 17 #[.slice a xs.length cap] w fun e w' => e = .returned (.int .u32 (sm xs : Nat)) ∧ Below w.heap.size w w'
  pack : ∀ (a : Option Addr) (cap : Nat) (l : List Tb) (w : World), Ts w a cap l → Calls Try.prog 11 #[.slice a l.length cap] w fun e w' => ∃ a' cap', e = .returned (.tuple #[.slice a' (pckB l).length cap', .int .i64 (pckE l)]) ∧ Rb w' a' cap' (pckB l) ∧ Below w.heap.size w w'
  unpack : ∀ (a : Option Addr) (cap : Nat) (xs : List Nat) (w : World), Rb w a cap xs → Calls Try.prog 21 #[.slice a xs.length cap] w fun e w' => ∃ a' cap', e = .returned (.tuple #[.slice a' (unpL xs).length cap', .int .i64 (unpE xs)]) ∧ Ts w' a' cap' (unpL xs) ∧ Below w.heap.size w w'
  find : ∀ (a : Option Addr) (cap : Nat) (l : List Tb) (t : ByteArray) (w : World), Ts w a cap l → (∀ s ∈ l, s.bs.length ≤ 1000000000) → t.size ≤ maxLen → Calls Try.prog 14 #[.slice a l.length cap, .string t] w fun e w' => ∃ a' cap', e = .returned (.tuple #[.slice a' (fndB l t).length cap', .int .i64 (fndE l t)]) ∧ Rb w' a' cap' (fndB l t) ∧ Below w.heap.size w w'

def abcd : ByteArray := ⟨#[97, 98, 99, 100]⟩
theorem frm_abcd : Frm [⟨abcd, [7]⟩] := by
  refine ⟨by decide, by decide, ?_, List.pairwise_singleton _ _⟩
  intro t ht
  rw [List.mem_singleton.1 ht]
  exact ⟨by decide, by decide⟩
theorem len_abcd : (fileS [⟨abcd, [7]⟩]).length = 32 := by
  have e : srt [⟨abcd, [7]⟩] = [⟨abcd, [7]⟩] := rfl
  rw [fileS, e, fileR_len (fun t ht => frm_abcd.tag ht)]
  rfl
theorem pck_abcd : pckE [⟨abcd, [7]⟩] = 0 ∧ (pckB [⟨abcd, [7]⟩]).length = 32 := by
  have h1 := frB_iff.2 frm_abcd
  have h2 := len_abcd
  constructor
  · rw [pckE, h1, h2]; rfl
  · rw [pckB, h1, h2]; simp [h2]
theorem sm_seven : sm [7] = 117440512 := by decide

theorem ts_one (w : World) (e : TypeId) (t : Tb) (c0 : Option Addr) (c : Nat) (ht : t.tx.size ≤ maxLen) (hr : Rb w c0 c t.bs) : Ts (w.alloc (.cells #[.string t.tx, .slice c0 t.bs.length c] e)) (some ⟨w.heap.size, 0, none⟩) 1 [t] := by
  refine ⟨Nat.le_refl _, by simp [maxLen], fun s hs => by rw [List.mem_singleton.1 hs]; exact ht, fun i hi => ?_⟩
  have : i = 0 := by simp at hi; omega
  subst this
  exact ⟨w.heap.size, 0, c0, c, rfl, by simp, cell_of_row _ _ 0 _ _ (0, 0) (heap_alloc_new w _), cell_of_row _ _ 1 _ _ (0, 0) (heap_alloc_new w _), hr.below (bl1 _)⟩

set_option maxHeartbeats 1000000 in
set_option maxRecDepth 100000 in
theorem awake5_any (C : Cod) (w : World) :
    Calls Try.prog 9 #[] w fun e w' => e = .returned (.bool true) ∧ Below w.heap.size w w' := by
  obtain ⟨p1, p2⟩ := pck_abcd
  have P1 : Hid (pckE [⟨abcd, [7]⟩] = 0) := p1
  have P2 : Hid ((pckB [⟨abcd, [7]⟩]).length = 32) := p2
  clear p1 p2
  have hrb := rb_new w 5 [7] #[Value.int IntKind.u8 7] (by simp [Y]) (Byt.mk (by decide) Byt.nil) (by simp [maxLen])
  have hts := ts_one _ 46 ⟨abcd, [7]⟩ _ _ (by simp [maxLen, abcd, ByteArray.size]) hrb
  have hP := C.pack _ _ _ _ hts
  rw [P1.out, P2.out] at hP
  have hsz : (w.alloc (Obj.cells #[Value.int IntKind.u8 7] 5)).heap.size = w.heap.size + 1 := by simp
  simp only [abcd, List.length_cons, List.length_nil, Nat.zero_add, hsz] at hP
  go_enter Try.func9, Try.ntmps9
  go_wp2_with fail
  refine hP.mono ?_
  rintro e u ⟨a1, c1, rfl, hr, hb⟩
  have hb0 : Below w.heap.size w u := (bl2 _ _).trans (hb.mono (by simp; omega))
  clear hP hr hb hts hrb
  go_wp2_with fail
  have hrb := rb_new u 5 [7] #[Value.int IntKind.u8 7] (by simp [Y]) (Byt.mk (by decide) Byt.nil) (by simp [maxLen])
  have hS := C.sum _ _ _ _ hrb (by decide)
  simp only [List.length_cons, List.length_nil, Nat.zero_add] at hS
  refine hS.mono ?_
  rintro e u2 ⟨rfl, hb2⟩
  have hb3 : Below w.heap.size w u2 := (hb0.alloc hb0.size _).trans (hb2.mono (by have := hb0.size; simp; omega))
  rw [sm_seven]
  clear hrb hb2 hS
  go_wp2
  go_ret
  exact ⟨rfl, hb3⟩

end Go.Proofs.Ytijehnfadpoapaa
