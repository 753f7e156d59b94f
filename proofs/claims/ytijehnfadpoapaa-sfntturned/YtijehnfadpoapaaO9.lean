/-
  octets.Page: Pad, Later: the walks.
-/
import Derived.Test.YtijehnfadpoapaaO8
namespace Go.Proofs.Ytijehnfadpoapaa
open Go.RowKit Go.Maps
set_option linter.unusedSimpArgs false
set_option linter.unusedVariables false

/-- How many bytes of 0 are put. -/
def padN (l n : Nat) : Nat := (n - l % n) % n
def St.pad (s : St) (n : Int) : St := if 1 ≤ n ∧ n ≤ 16 then s.app (List.replicate (padN s.bs.length n.toNat) 0) else s.fail

theorem padN_zero {l n : Nat} (hn : 0 < n) (h : l % n = 0) : padN l n = 0 := by unfold padN; rw [h]; simp
theorem padN_succ {l n : Nat} (hn : 0 < n) (h : l % n ≠ 0) : padN l n = padN (l + 1) n + 1 := by
  unfold padN
  have h1 := Nat.mod_lt l hn
  have h3 : 1 < n := by
    rcases Nat.lt_or_ge 1 n with h3 | h3
    · exact h3
    · have : n = 1 := by omega
      subst this
      exact absurd (Nat.mod_one l) h
  have e : (l + 1) % n = (l % n + 1) % n := by rw [Nat.add_mod, Nat.mod_eq_of_lt h3]
  rw [e]
  generalize l % n = r at h h1
  have e1 : (n - r) % n = n - r := Nat.mod_eq_of_lt (by omega)
  rw [e1]
  rcases Nat.lt_or_ge (r + 1) n with h2 | h2
  · have e2 : (r + 1) % n = r + 1 := Nat.mod_eq_of_lt h2
    have e3 : (n - (r + 1)) % n = n - (r + 1) := Nat.mod_eq_of_lt (by omega)
    rw [e2, e3]
    omega
  · have e2 : r + 1 = n := by omega
    rw [e2, Nat.mod_self, Nat.sub_zero, Nat.mod_self]
    omega
theorem padN_lt {l n : Nat} (hn : 0 < n) : padN l n < n := Nat.mod_lt _ hn

theorem St.app_app (s : St) (xs ys : List Nat) : (s.app xs).app ys = s.app (xs ++ ys) := by
  unfold St.app
  by_cases h : s.no = true <;> simp [h]
theorem St.app_nil (s : St) : s.app [] = s := by
  unfold St.app
  split <;> simp
theorem byt_zeros (n : Nat) : Byt (List.replicate n 0) := by intro x hx; have := List.eq_of_mem_replicate hx; omega

/-- The number in a page's second cell. -/
def hereOf (B : Nat) (w : World) : Nat := (intOf ((w.cell? ⟨B, 1, none⟩).getD undef)).toNat
theorem Pc.hereOf {w : World} {B : Nat} {G : Nat → Prop} {s : St} (h : Pc w B G s) : hereOf B w = s.bs.length := by
  obtain ⟨h1, h2, h3, vb, vm, h4, h6, h5⟩ := h
  obtain ⟨c0, c1, _⟩ := h4.cells
  simp [Proofs.Ytijehnfadpoapaa.hereOf, c1, intOf]

set_option maxHeartbeats 1000000 in
set_option maxRecDepth 100000 in
theorem pad_any (B : Nat) (G : Nat → Prop) (s : St) (n : Int) (w : World) (h : Pc w B G s) (hn : I64 n) (hl : s.bs.length + 16 ≤ 1048576) :
    Calls Try.prog 32 #[pg B, .int .i64 n] w fun e w' => e = .returned (.tuple #[]) ∧ Pc w' B G (s.pad n) ∧ Keep G w w' := by
  obtain ⟨n1, n2⟩ := hn
  by_cases hf : 1 ≤ n ∧ n ≤ 16
  · obtain ⟨g1, g2⟩ := hf
    obtain ⟨m, rfl⟩ : ∃ m : Nat, n = (m : Int) := ⟨n.toNat, by omega⟩
    have hs : Hid (s.pad m = s.app (List.replicate (padN s.bs.length m) 0)) := by show s.pad m = _; simp [St.pad, g1, g2]
    have hm : 0 < m := by omega
    have g1' : ¬ ((m : Int) < 1) := by omega
    have g2' : ¬ (16 < (m : Int)) := by omega
    have g3 : ((m : Int) == 0) = false := beq_eq_false_iff_ne.2 (by omega)
    by_cases hno : s.no = true
    · go_enter Try.func32, Try.ntmps32
      go_wp2
      go_loopw [12] (fun _ wr => wr = w) (fun _ _ => 0)
      case atStart => rfl
      case round =>
        subst hrel
        go_wp2_with fail
        refine (closed_any B G s _ h (by omega)).mono ?_
        rintro e u ⟨rfl, rfl⟩
        rw [hno]
        go_wp2
        go_end0
        exact ⟨rfl, by rw [hs.out, St.app_bad hno]; exact h, Keep.refl _ _⟩
    · have hno : s.no = false := by simpa using hno
      go_enter Try.func32, Try.ntmps32
      go_wp2
      go_loopw [12] (fun _ wr => ∃ j : Nat, j + padN (s.bs.length + j) m = padN s.bs.length m ∧ Pc wr B G (s.app (List.replicate j 0)) ∧ Keep G w wr) (fun _ wr => 2000000 - hereOf B wr)
      case atStart => exact ⟨0, by simp, by simpa [St.app_nil] using h, Keep.refl _ _⟩
      case round =>
        obtain ⟨j, hj, hP, hK⟩ := hrel
        have hjm : j < m := by have := padN_lt (l := s.bs.length) hm; omega
        have hlen : (s.app (List.replicate j 0)).bs.length = s.bs.length + j := by rw [St.app_ok hno]; simp
        have hno' : (s.app (List.replicate j 0)).no = false := by rw [St.app_no, hno]
        go_wp2_with fail
        refine (closed_any B G _ _ hP (by rw [hlen]; omega)).mono ?_
        rintro e u ⟨rfl, rfl⟩
        rw [hno']
        have hP' := hP
        obtain ⟨h1, h2, h3, vb, vm, h4, h6, h5⟩ := hP'
        obtain ⟨c0, c1, c2, c3, f0, f1, f2, f3⟩ := h4.cells
        rw [hlen] at c1
        clear h1 h2 h3 h4 h6 h5 c0 c2 c3 f0 f1 f2 f3
        obtain ⟨L, hL⟩ : ∃ L, s.bs.length + j = L := ⟨_, rfl⟩
        rw [hL] at hj hlen c1
        obtain ⟨r, hr⟩ : ∃ r, L % m = r := ⟨_, rfl⟩
        have hrem : (L : Int).tmod (m : Int) = (r : Int) := by rw [← Int.ofNat_tmod, hr]
        have HJ : Hid (j + padN L m = padN s.bs.length m) := hj
        have HR : Hid (L % m = r) := hr
        have HL : Hid (s.bs.length + j = L) := hL
        have HLN : Hid ((s.app (List.replicate j 0)).bs.length = L) := hlen
        have hLb : L ≤ 1048576 := by omega
        have hLb2 : L + 1 ≤ 1048576 := by omega
        clear hj hr hL hlen hno'
        by_cases hr0 : r = 0
        · subst hr0
          go_wp2
          go_end0
          refine ⟨rfl, ?_, hK⟩
          have e := HJ.out
          rw [padN_zero hm HR.out] at e
          rw [hs.out, ← e]
          exact hP
        · have hr1 : ((r : Int) != 0) = true := by simp; omega
          go_wp2_with fail
          have hrb := rb_new wr 5 [0] #[Value.int IntKind.u8 0] (by simp [Y]) (Byt.mk (by decide) Byt.nil) (by simp [maxLen])
          refine (put_any B G _ (some ⟨wr.heap.size, 0, none⟩) 1 [0] _ (hP.al _) hrb (by rw [HLN.out]; exact hLb2)).mono ?_
          rintro e u ⟨rfl, hP2, hK2⟩
          have hP3 : Pc u B G (s.app (List.replicate (j + 1) 0)) := by
            rw [St.app_app] at hP2
            rw [List.replicate_succ']
            exact hP2
          have hK3 : Keep G w u := hK.trans ((hP.kal _).trans hK2)
          have e1 : hereOf B u = L + 1 := by rw [hP3.hereOf, St.app_ok hno]; have := HL.out; simp; omega
          have e2 : hereOf B wr = L := by rw [hP.hereOf, HLN.out]
          clear hP2 hK2
          go_wp2
          go_roundw
          case rel =>
            refine ⟨j + 1, ?_, hP3, hK3⟩
            have e := HJ.out
            rw [padN_succ hm (by rw [HR.out]; exact hr0)] at e
            rw [← Nat.add_assoc, HL.out]
            omega
          case measure => rw [e1, e2]; omega
  · have hs : Hid (s.pad n = s.fail) := by show s.pad n = _; simp [St.pad, hf]
    have hor : n < 1 ∨ (1 ≤ n ∧ 16 < n) := by omega
    rcases hor with g1 | ⟨g1, g2⟩
    all_goals
      go_enter Try.func32, Try.ntmps32
      go_wp2_with fail
      refine (fail_any B G s _ h).mono ?_
      rintro e u ⟨rfl, hP, hK⟩
      go_wp2
      (try simp only [Exit.inBlock, Exit.then]); refine bodyPost_ret (results_none rfl _ _ _) rfl ?_
      exact ⟨rfl, hs.out ▸ hP, hK⟩

theorem pad_nil (w : World) :
    Calls Try.prog 32 #[.pointer none, .int .i64 4] w fun e w' => e = .returned (.tuple #[]) ∧ w = w' := by
  go_enter Try.func32, Try.ntmps32
  go_wp2
  go_loopw [12] (fun _ wr => wr = w) (fun _ _ => 0)
  case atStart => rfl
  case round =>
    subst hrel
    go_wp2_with fail
    refine (closed_nil _).mono ?_
    rintro e u ⟨rfl, rfl⟩
    go_wp2
    go_end0
    exact ⟨rfl, rfl⟩

end Go.Proofs.Ytijehnfadpoapaa
