/-
  bytes.Clone; octets.Cut, Tag: the walks.
-/
import Derived.Test.YtijehnfadpoapaaO5
import Derived.Lib.SliceRun
namespace Go.Proofs.Ytijehnfadpoapaa
open Go.RowKit Go.Maps
set_option linter.unusedSimpArgs false
set_option linter.unusedVariables false

theorem Rw.nil (base : Nat) (w : World) : Rw 5 base w none 0 [] := ⟨Byt.nil, World.ownsRow_nil w base _ 1⟩

set_option maxHeartbeats 400000 in
set_option maxRecDepth 100000 in
theorem clone_any (a : Option Addr) (cap : Nat) (xs : List Nat) (w : World) (h : Rb w a cap xs) (hl : xs.length ≤ 1000000000) :
    Calls Try.prog 35 #[.slice a xs.length cap] w fun e w' => ∃ a' cap', e = .returned (.slice a' xs.length cap') ∧ Rw 5 w.heap.size w' a' cap' xs ∧ Below w.heap.size w w' := by
  obtain ⟨i0, hi, hz0, hz1, hz2⟩ := info_parts info_byte
  have q22 : ∀ (w : World) (a : Option Addr) (n c n' c' : Nat), (binOp .eql 23 (.slice a n c) (.slice none n' c')).run Try.prog w = .ok (.bool a.isNone) w := fun w a n c n' c' => Lib.run_eql_slice_nil w _ _ a n c n' c' Try.underlying23
  cases a with
  | none =>
    have hc : cap = 0 := h.2.2.2.1 rfl
    have hx : xs = [] := by
      rcases h.fm with h0 | ⟨b, off, e, _⟩
      · exact h0
      · cases e
    subst hc
    subst hx
    go_enter Try.func35, Try.ntmps35
    go_wp2
    go_ret
    exact ⟨none, 0, rfl, Rw.nil _ _, Below.refl _ _⟩
  | some ad =>
    go_enter Try.func35, Try.ntmps35
    go_wp2_with (at_builtin; refine wpList_append_rb rfl _ _ 23 rfl w.heap.size 5 i0 Try.underlying23 hi hz0 hz1 hz2 _ 0 [] rfl ?_ (some ad) cap _ xs rfl rfl ?_ ?_ ?_ ?_)
    · exact World.ownsRow_made w #[] 0 (Nat.le_refl _) (Nat.zero_le _) rfl
    · exact h.below (bl1 _)
    · omega
    · simp
    · intro v' w1 hown hgrow hat
      obtain ⟨a', cap', rfl, hres⟩ := Rw.of h.lim hown
      go_wp2
      go_ret
      exact ⟨a', cap', rfl, hres, (bl1 _).grown hgrow (by simp) (fun k hk => by simp [Value.ownBlock] at hk; omega)⟩

/-- The n bytes from place p on, if they are there. -/
def cutV (xs : List Nat) (p n : Int) : List Nat := if inB xs.length p n then (xs.drop p.toNat).take n.toNat else []
theorem cutV_no {xs : List Nat} {p n : Int} (h : inB xs.length p n = false) : cutV xs p n = [] := by simp [cutV, h]
theorem cutV_yes {xs : List Nat} {p n : Int} (h : inB xs.length p n = true) : cutV xs p n = (xs.drop p.toNat).take n.toNat := by simp [cutV, h]

/-- A part of a slice. -/
theorem Rb.cut {w : World} {a : Option Addr} {cap : Nat} {xs : List Nat} (h : Rb w a cap xs) (q n : Nat) (hq : q + n ≤ xs.length) : Rb w (a.map (fun x => x.add q)) (cap - q) ((xs.drop q).take n) := by
  obtain ⟨h1, h2, h3, h5, h4⟩ := h
  refine ⟨(h1.drop q).take n, by simp; omega, by omega, (by simp; intro h; have := h5 h; omega), ?_⟩
  rcases h4 with rfl | ⟨b, off, rfl, hb1, hc⟩
  · exact .inl (by simp)
  · have hadd : (⟨b, off, none⟩ : Addr).add q = ⟨b, off + q, none⟩ := by unfold Addr.add; split <;> simp_all
    refine .inr ⟨b, off + q, by simp [hadd], hb1, fun i hi => ?_⟩
    simp at hi
    rw [Nat.add_assoc, hc (q + i) (by omega)]
    simp [List.getD, show i < n by omega]

set_option maxHeartbeats 1000000 in
set_option maxRecDepth 100000 in
theorem cut_any (a : Option Addr) (cap : Nat) (xs : List Nat) (p n : Int) (w : World) (h : Rb w a cap xs) (hp : I64 p) (hn : I64 n) (hl : xs.length ≤ 1000000000) :
    Calls Try.prog 62 #[.slice a xs.length cap, .int .i64 p, .int .i64 n] w fun e w' => ∃ a' cap', e = .returned (.tuple #[.slice a' (cutV xs p n).length cap', .bool (inB xs.length p n)]) ∧ Rw 5 w.heap.size w' a' cap' (cutV xs p n) ∧ Below w.heap.size w w' := by
  have hr := h
  have k1 := h.le
  have k2 := h.cap
  unfold maxLen at k2
  by_cases hi : inB xs.length p n = true
  · have HI : Hid (inB xs.length p n = true) := hi
    have hi' := hi
    simp [inB] at hi'
    obtain ⟨q0, q1, q2⟩ := hi'
    obtain ⟨q, rfl⟩ : ∃ q : Nat, p = (q : Int) := ⟨p.toNat, by omega⟩
    obtain ⟨m, rfl⟩ : ∃ m : Nat, n = (m : Int) := ⟨n.toNat, by omega⟩
    have HC : Hid (cutV xs q m = (xs.drop q).take m) := cutV_yes hi
    go_enter Try.func62, Try.ntmps62
    go_wp2_with fail
    refine (within_any _ _ _ _ _ _ (by omega) hp hn).mono ?_
    rintro e u ⟨rfl, rfl⟩
    rw [hi]
    clear hi
    go_wp2_with fail
    · have hm : m = 0 := by omega
      have hv : (xs.drop q).take m = [] := by rw [hm]; simp
      have hm' : m = ([] : List Nat).length := hm
      rw [hm']
      refine (clone_any a 0 [] _ (Rb.nil w a 0 (Nat.zero_le _) (fun _ => rfl)) (by simp)).mono ?_
      rintro e u ⟨a', cap', rfl, hR, hb⟩
      go_wp2
      go_ret2
      refine ⟨a', cap', rt_two (by rw [HC.out, hv]; rfl) (by rw [HI.out]; rfl), ?_, hb⟩
      rw [HC.out, hv]
      exact hR
    · have hl2 : ((xs.drop q).take m).length = m := by simp; omega
      have hcl := clone_any _ _ _ _ (hr.cut q m (by omega)) (by rw [hl2]; omega)
      rw [hl2] at hcl
      refine hcl.mono ?_
      rintro e u ⟨a', cap', rfl, hR, hb⟩
      go_wp2
      go_ret2
      refine ⟨a', cap', rt_two (by rw [HC.out, hl2]; rfl) (by rw [HI.out]; rfl), ?_, hb⟩
      rw [HC.out]
      exact hR
  · have hi : inB xs.length p n = false := by simpa using hi
    have HI : Hid (inB xs.length p n = false) := hi
    have HC : Hid (cutV xs p n = []) := cutV_no hi
    go_enter Try.func62, Try.ntmps62
    go_wp2_with fail
    refine (within_any _ _ _ _ _ _ (by omega) hp hn).mono ?_
    rintro e u ⟨rfl, rfl⟩
    rw [hi]
    clear hi
    go_wp2
    go_ret2
    refine ⟨none, 0, rt_two (by rw [HC.out]; rfl) (by rw [HI.out]; rfl), ?_, Below.refl _ _⟩
    rw [HC.out]
    exact Rw.nil _ _

end Go.Proofs.Ytijehnfadpoapaa
