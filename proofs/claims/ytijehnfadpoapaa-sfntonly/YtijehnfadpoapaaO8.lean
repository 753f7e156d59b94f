/-
  octets.Page: All, Pad, Later: the walks.
-/
import Derived.Test.YtijehnfadpoapaaO7
namespace Go.Proofs.Ytijehnfadpoapaa
open Go.RowKit Go.Maps
set_option linter.unusedSimpArgs false
set_option linter.unusedVariables false

/-- What All answers: the error, and the bytes. -/
def allE (s : St) : Int := if s.no then 4 else if s.ws = [] then 0 else 1
def allB (s : St) : List Nat := if s.no then [] else if s.ws = [] then s.bs else []

theorem Row.rb {w : World} {G : Nat → Prop} {a : Option Addr} {c : Nat} {xs : List Nat} (h : Row w G (.slice a xs.length c) xs) (hB : Byt xs) : Rb w a c xs := Rw.rd (e := 5) (base := 0) ⟨hB, h.1⟩

set_option maxHeartbeats 1000000 in
set_option maxRecDepth 100000 in
theorem all_any (B : Nat) (G : Nat → Prop) (s : St) (w : World) (h : Pc w B G s) (hl : s.bs.length ≤ 1048576) :
    Calls Try.prog 33 #[pg B] w fun e w' => ∃ a' cap', e = .returned (.tuple #[.slice a' (allB s).length cap', .int .i64 (allE s)]) ∧ Rw 5 w.heap.size w' a' cap' (allB s) ∧ Below w.heap.size w w' := by
  obtain ⟨h1, h2, h3, vb, vm, h4, h6, h5⟩ := h
  obtain ⟨c0, c1, c2, c3, f0, f1, f2, f3⟩ := h4.cells
  by_cases hno : s.no = true
  · have HE : Hid (allE s = 4) := by show allE s = 4; simp [allE, hno]
    have HB : Hid (allB s = []) := by show allB s = []; simp [allB, hno]
    rw [hno] at c3
    clear h1 h2 h3 h4 h5 h6 hno
    go_enter Try.func33, Try.ntmps33
    go_wp2
    go_ret2
    refine ⟨none, 0, rt_two (by rw [HB.out]; rfl) (by rw [HE.out]; rfl), ?_, Below.refl _ _⟩
    rw [HB.out]
    exact Rw.nil _ _
  · have hno : s.no = false := by simpa using hno
    obtain ⟨hR, hM⟩ := h5 hno
    rw [hno] at c3
    by_cases hws : s.ws = []
    · have HE : Hid (allE s = 0) := by show allE s = 0; simp [allE, hno, hws]
      have HB : Hid (allB s = s.bs) := by show allB s = s.bs; simp [allB, hno, hws]
      obtain ⟨a, c, rfl⟩ := hR.slice
      have hrb := hR.rb h3.1
      have fin : ∀ (W : World), W = w → Calls Try.prog 35 #[.slice a s.bs.length c] W fun e w' => ∃ a' cap', e = .returned (.slice a' s.bs.length cap') ∧ Rw 5 w.heap.size w' a' cap' s.bs ∧ Below w.heap.size w w' := by
        rintro W rfl
        exact clone_any a c s.bs _ hrb (by omega)
      obtain ⟨l, hll⟩ : ∃ l, s.bs.length = l := ⟨_, rfl⟩
      rw [hll] at c0 c1 hl fin
      have HL : Hid (s.bs.length = l) := hll
      clear hll
      rcases hM with ⟨rfl, _⟩ | ⟨m, D, rfl, hmG, hown, hhas, hsize⟩
      · clear h1 h2 h3 h4 h5 h6 hno hws hR hrb
        have hlen := fun (w : World) ty => Maps.len_nil (w := w) Try.underlying54 ty
        go_enter Try.func33, Try.ntmps33
        go_wp2_with fail
        refine (fin _ rfl).mono ?_
        rintro e u ⟨a', cap', rfl, hR, hb⟩
        go_wp2
        go_ret2
        refine ⟨a', cap', rt_two (by rw [HB.out, HL.out]; rfl) (by rw [HE.out]; rfl), ?_, hb⟩
        rw [HB.out]
        exact hR
      · rw [hws] at hsize
        have hs0 : Maps.size D = 0 := by simpa using hsize
        have hown' := hown
        clear h1 h2 h3 h4 h5 h6 hno hR hrb hhas hsize
        go_enter Try.func33, Try.ntmps33
        go_wp2_with (first | (at_len; refine wpList_len_own _ rfl _ 54 rfl 3 70 Try.underlying54 _ m _ D rfl hown ?_; rw [hs0]) | fail)
        refine (fin _ rfl).mono ?_
        rintro e u ⟨a', cap', rfl, hR, hb⟩
        go_wp2
        go_ret2
        refine ⟨a', cap', rt_two (by rw [HB.out, HL.out]; rfl) (by rw [HE.out]; rfl), ?_, hb⟩
        rw [HB.out]
        exact hR
    · have HE : Hid (allE s = 1) := by show allE s = 1; simp [allE, hno, hws]
      have HB : Hid (allB s = []) := by show allB s = []; simp [allB, hno, hws]
      rcases hM with ⟨rfl, h0⟩ | ⟨m, D, rfl, hmG, hown, hhas, hsize⟩
      · exact absurd h0 hws
      · obtain ⟨z, hz⟩ : ∃ z, Maps.size D = z := ⟨_, rfl⟩
        have hz1 : 0 < (z : Int) := by
          have := List.length_pos_iff.2 hws
          omega
        clear h1 h2 h3 h4 h5 h6 hno hR hhas hsize hws
        go_enter Try.func33, Try.ntmps33
        go_wp2_with (first | (at_len; refine wpList_len_own _ rfl _ 54 rfl 3 70 Try.underlying54 _ m _ D rfl hown ?_; rw [hz]) | go_in)
        go_ret2
        refine ⟨none, 0, rt_two (by rw [HB.out]; rfl) (by rw [HE.out]; rfl), ?_, Below.refl _ _⟩
        rw [HB.out]
        exact Rw.nil _ _

theorem all_nil (w : World) :
    Calls Try.prog 33 #[.pointer none] w fun e w' => e = .returned (.tuple #[.slice none 0 0, .int .i64 4]) ∧ w = w' := by
  go_enter Try.func33, Try.ntmps33
  go_wp2
  go_ret2
  exact ⟨rfl, rfl⟩

end Go.Proofs.Ytijehnfadpoapaa
