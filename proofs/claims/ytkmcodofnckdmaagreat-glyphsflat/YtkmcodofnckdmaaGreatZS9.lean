/-
  Outlines: whether they are formed, their points, ends and box; their bytes (plain mathematics).
  Outlines: how bytes are read, and that what is written is read (plain mathematics).
  Outlines: what the laws ask (plain mathematics).
-/
import Derived.Test.YtkmcodofnckdmaaGreatZS6
import Derived.Test.YtkmcodofnckdmaaGreatZS8
set_option linter.unusedSimpArgs false
set_option linter.unusedVariables false
namespace Go.Proofs.YtkmcodofnckdmaaGreat
structure Pn where
 x : Int
 y : Int
 on : Bool
structure Pa where
 g : Int
 dx : Int
 dy : Int
structure Ol where
 cs : List (List Pn)
 ps : List Pa
def Pn.none : Pn := ⟨0, 0, false⟩
def Pa.none : Pa := ⟨0, 0, 0⟩
def Ol.none : Ol := ⟨[], []⟩
def pnF (p : Pn) : Bool := fdB p.x && fdB p.y
def paF (p : Pa) : Bool := decide (0 ≤ p.g ∧ p.g ≤ 65535) && (fdB p.dx && fdB p.dy)
def foB (o : Ol) : Bool :=
 !(decide (0 < o.cs.length) && decide (0 < o.ps.length)) && (decide (o.cs.length ≤ 10) && (decide (o.ps.length ≤ 6) && (o.cs.all (fun c => decide (0 < c.length)) && (decide (o.cs.flatten.length ≤ 80) && (o.cs.flatten.all pnF && o.ps.all paF)))))
def FoP (o : Ol) : Prop := (o.cs.length = 0 ∨ o.ps.length = 0) ∧ o.cs.length ≤ 10 ∧ o.ps.length ≤ 6 ∧ (∀ c ∈ o.cs, 0 < c.length) ∧ o.cs.flatten.length ≤ 80 ∧ (∀ p ∈ o.cs.flatten, (-32768 ≤ p.x ∧ p.x ≤ 32767) ∧ (-32768 ≤ p.y ∧ p.y ≤ 32767)) ∧ (∀ p ∈ o.ps, (0 ≤ p.g ∧ p.g ≤ 65535) ∧ (-32768 ≤ p.dx ∧ p.dx ≤ 32767) ∧ (-32768 ≤ p.dy ∧ p.dy ≤ 32767))
theorem foB_iff {o : Ol} : foB o = true ↔ FoP o := by
 unfold foB FoP pnF paF
 simp only [Bool.and_eq_true, Bool.not_eq_true', Bool.and_eq_false_iff, decide_eq_true_iff, decide_eq_false_iff_not, List.all_eq_true, fdB_iff]
 constructor
 · rintro ⟨h, r⟩
   exact ⟨by omega, r⟩
 · rintro ⟨h, r⟩
   exact ⟨by omega, r⟩
def endF (n : Int) : List (List Pn) → List Int
 | [] => []
 | c :: t => (n + (c.length : Int) - 1) :: endF (n + (c.length : Int)) t
theorem endF_len (n : Int) (l : List (List Pn)) : (endF n l).length = l.length := by
 induction l generalizing n with
 | nil => rfl
 | cons c t ih => rw [endF, List.length_cons, ih, List.length_cons]
theorem endF_append (n : Int) (l m : List (List Pn)) : endF n (l ++ m) = endF n l ++ endF (n + (l.flatten.length : Int)) m := by
 induction l generalizing n with
 | nil => simp [endF]
 | cons c t ih =>
  rw [List.cons_append, endF, endF, ih, List.flatten_cons, List.length_append, List.cons_append, Int.natCast_add]
  congr 2
  congr 1
  omega
def hd1 (s : List Nat) : Nat := s.headD 0
def hd2 : List Nat → Nat
 | x :: y :: _ => 256 * x + y
 | _ => 0
end Go.Proofs.YtkmcodofnckdmaaGreat
