/-
  foundryref02.sum, Mul, Add, Quo, Opposite, Sub: the walks.
  foundryref02.sum, Add, Quo, Opposite, Sub: the walks.
  foundryref02.Sign, Cmp: the walks.
  foundryref01.Text: the walk.
  foundryref02.Floor, Round, Text: the walks.
-/
import Derived.Test.YtanppgmhlcifiaaDoorZ19
import Derived.Test.YtanppgmhlcifiaaDoorZ17
import Derived.Test.YtanppgmhlcifiaaDoorZ18
import Derived.Deep.RegionHeld3
import Derived.Test.YtanppgmhlcifiaaDoorZ14
import Derived.Lib.ItoaMem
import Derived.Laws.Concat
import Derived.Laws.IdiomStrings
namespace Go.Proofs.YtanppgmhlcifiaaDoor
open Go.RowKit
set_option linter.unusedSimpArgs false
set_option linter.unusedVariables false
end Go.Proofs.YtanppgmhlcifiaaDoor

namespace Go.Proofs.YtanppgmhlcifiaaDoor
open Go.RowKit Classical
set_option linter.unusedSimpArgs false
set_option linter.unusedVariables false

theorem sg_add_same (n : Bool) (a b : Nat) : sg n (a + b) = sg n a + sg n b := by cases n <;> simp [sg]; omega
theorem sg_sub_more {n m : Bool} (h : n ≠ m) {a b : Nat} (hl : ¬ a < b) : sg n (a - b) = sg n a + sg m b := by
  cases n <;> cases m <;> simp [sg] at h ⊢ <;> omega
theorem sg_sub_less {n m : Bool} (h : n ≠ m) {a b : Nat} (hl : a < b) : sg m (b - a) = sg n a + sg m b := by
  cases n <;> cases m <;> simp [sg] at h ⊢ <;> omega

theorem sg_mul_nat (n : Bool) (a b : Nat) : sg n (a * b) = sg n a * (b : Int) := by cases n <;> simp [sg]; grind
theorem qv_sum {s n m : Bool} {zs ts xs ys ps qs : List Nat} (hy : V ys ≠ 0) (hq : V qs ≠ 0) (ht : V ts = V ys * V qs) (h : sg s (V zs) = sg n (V xs * V qs) + sg m (V ps * V ys)) : qv s zs ts = qv n xs ys + qv m ps qs := by
  unfold qv
  rw [Rat.mkRat_add_mkRat _ _ hy hq, ht, h, sg_mul_nat, sg_mul_nat]

theorem fmd_opp {n : Bool} {xs ys : List Nat} (h : Fmd n xs ys) : Fmd (!n && decide (0 < xs.length)) xs ys ∧ qv (!n && decide (0 < xs.length)) xs ys = - qv n xs ys := by
  by_cases hx : xs = []
  · subst hx
    have e : (!n && decide (0 < ([] : List Nat).length)) = false := by simp
    rw [e]
    refine ⟨⟨h.1, h.2.1, h.2.2.1, by simp, h.2.2.2.2⟩, ?_⟩
    have z : ∀ m, qv m [] ys = 0 := by intro m; unfold qv; rw [show V [] = 0 from rfl, sg_zero]; simp
    rw [z, z]; rfl
  · have e : (!n && decide (0 < xs.length)) = !n := by simp [List.length_pos_iff, hx]
    rw [e]
    exact ⟨⟨h.1, h.2.1, h.2.2.1, fun h2 => hx h2.2, h.2.2.2.2⟩, qv_neg n xs ys⟩

theorem set0_world {t : TypeId} {u : World} {b : Nat} {n : Bool} {a a' : Option Addr} {l c l' c' : Nat} (B : Box t u b (.bool n) (.slice a l c) (.slice a' l' c')) (x' : Value) :
    ∃ U, U = u.setCell ⟨b, 0, none⟩ x' ∧ (∀ B w, Below B w u → B ≤ b → Below B w U) ∧ (∀ a c xs, Rd u a c xs → Rd U a c xs) ∧ (∀ j, j ≠ b → U.heap[j]? = u.heap[j]?) := by
  have ho : ∀ j, j ≠ b → (u.setCell ⟨b, 0, none⟩ x').heap[j]? = u.heap[j]? := fun j hj => Below.heap_setCell _ ⟨b, 0, none⟩ x' j hj
  exact ⟨_, rfl, fun _ _ h hb => h.setCell (p := ⟨b, 0, none⟩) hb x', fun _ _ _ h => Rd.apart B (by simp [World.setCell]) ho h, ho⟩

end Go.Proofs.YtanppgmhlcifiaaDoor

namespace Go.Proofs.YtanppgmhlcifiaaDoor
open Go.RowKit Classical
set_option linter.unusedSimpArgs false
set_option linter.unusedVariables false
end Go.Proofs.YtanppgmhlcifiaaDoor

namespace Go.Proofs.YtanppgmhlcifiaaDoor
open Go.RowKit Go.Lib
set_option linter.unusedSimpArgs false
set_option linter.unusedVariables false

/-- The digits; of 0 none. -/
def pre (n : Nat) : List UInt8 := if n = 0 then [] else decDigits n
theorem pre_zero : pre 0 = [] := rfl
theorem pre_pos {n : Nat} (h : n ≠ 0) : pre n = decDigits n := by unfold pre; rw [if_neg h]
theorem pre_step {n : Nat} (h : n ≠ 0) : pre n = pre (n / 10) ++ [UInt8.ofNat (48 + n % 10)] := by
  rw [pre_pos h]
  by_cases h1 : n < 10
  · rw [Nat.div_eq_of_lt h1, pre_zero, decDigits_one h1, Nat.mod_eq_of_lt h1, List.nil_append]
  · rw [dec_big h1, pre_pos (by omega)]

theorem nDigits_le : ∀ (k v : Nat), v < 2 ^ k → nDigits v ≤ k + 1 := by
  intro k
  induction k with
  | zero => intro v h; rw [nDigits_small (by omega)]; omega
  | succ k ih =>
    intro v h
    by_cases h1 : v < 10
    · rw [nDigits_small h1]; omega
    · rw [nDigits_big h1]
      have := ih (v / 10) (by rw [Nat.pow_succ] at h; omega)
      omega

theorem byte_toNat {d : Nat} (h : d < 10) : ((UInt8.ofNat (48 + d)).toNat : Int) = 48 + (d : Int) := by
  rw [UInt8.toNat_ofNat']
  omega

theorem str_one (w : World) (q : Int) (d : Nat) (hd : d < 10) (hq : q = 48 + (d : Int)) :
    (convert 30 9 (.slice (some ⟨w.heap.size, 0, none⟩) 1 1)).run Tryd.prog (w.alloc (.cells #[.int .u8 q] 5)) = .ok (.string ⟨#[UInt8.ofNat (48 + d)]⟩) (w.alloc (.cells #[.int .u8 q] 5)) := by
  subst hq
  refine run_convert_bytes_back (P := Tryd.prog) _ 30 9 5 ⟨w.heap.size, 0, none⟩ 1 [UInt8.ofNat (48 + d)] Tryd.underlying30 Tryd.underlying5 Tryd.underlying9 (fun j hj => ?_)
  obtain rfl : j = 0 := by simp at hj; exact hj
  rw [Lib.add_plain, World.cell?_alloc_new, List.getElem_cons_zero, byte_toNat hd]
  rfl

end Go.Proofs.YtanppgmhlcifiaaDoor

namespace Go.Proofs.YtanppgmhlcifiaaDoor
open Go.RowKit
set_option linter.unusedSimpArgs false
set_option linter.unusedVariables false

theorem back_two {m : Nat} (h : m ≤ 9223372036854775808) : wrap64 (-(wrap64 (m : Int))) = -(m : Int) := by
  by_cases h9 : m = 9223372036854775808
  · subst h9; decide +kernel
  · rw [back_pos (by omega)]
    unfold wrap64
    omega

end Go.Proofs.YtanppgmhlcifiaaDoor
