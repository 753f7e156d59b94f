/-
  foundrylaw04.OctetsFails: the walk.
-/
import Derived.Test.YtcjomppgllbfpaaOC
import Derived.Test.YtcjomppgllbfpaaOB
namespace Go.Proofs.Ytcjomppgllbfpaa
open Go.RowKit Go.Maps
set_option linter.unusedSimpArgs false
set_option linter.unusedVariables false

theorem rb_any_below {w u : World} {a : Option Addr} {cap : Nat} {xs : List Nat} (h : Rb w a cap xs) (hb : Below w.heap.size w u) : Rb u a cap xs := h.below hb

set_option maxHeartbeats 4000000 in
theorem octetsFails_any (n : Int) (a : Option Addr) (cap : Nat) (xs : List Nat) (w : World) (h : Rb w a cap xs) (hn : I64 n) :
    Calls Try.prog 7 #[.int .i64 n, .slice a xs.length cap] w fun e w' => e = .returned (.bool true) ∧ Below w.heap.size w w' := by
  have k1 := h.le
  have k2 := h.cap
  unfold maxLen at k2
  have hnn := hn
  obtain ⟨n1, n2⟩ := hnn
  by_cases hl : xs.length ≤ 1000
  rotate_left
  · have g1 : 1000 < (xs.length : Int) := by omega
    go_enter Try.func7, Try.ntmps7
    go_wp2_with fail
    refine (awake4_any _).mono ?_
    rintro e u ⟨rfl, hb⟩
    go_wp2_with fail
    refine (awake4_any _).mono ?_
    rintro e u2 ⟨rfl, hb2⟩
    go_wp2
    go_ret
    exact ⟨rfl, hb.trans (hb2.mono hb.size)⟩
  have g1 : ¬ (1000 < (xs.length : Int)) := by omega
  go_enter Try.func7, Try.ntmps7
  go_wp2_with fail
  refine (awake4_any _).mono ?_
  rintro e u0 ⟨rfl, hb0⟩
  go_wp2_with fail
  refine (put8_nil _).mono ?_
  rintro e u1 ⟨rfl, hb1⟩
  have hbW : Below w.heap.size w u1 := hb0.trans (hb1.mono hb0.size)
  clear hb0 hb1
  go_wp2_with fail
  refine (putBytes_nil _ _).mono ?_
  rintro e u ⟨rfl, rfl⟩
  go_wp2_with fail
  refine (now_nil 0 0 _).mono ?_
  rintro e u ⟨rfl, rfl⟩
  go_wp2_with fail
  refine (pad_nil _).mono ?_
  rintro e u ⟨rfl, rfl⟩
  go_wp2_with fail
  refine (all_nil _).mono ?_
  rintro e u ⟨rfl, rfl⟩
  go_wp2_with fail
  refine (here_nil _).mono ?_
  rintro e u ⟨rfl, rfl⟩
  go_wp2_with fail
  refine (later_nil _).mono ?_
  rintro e u ⟨rfl, rfl⟩
  go_wp2_with fail
  refine (put16_any u1.heap.size (fun k => k < u1.heap.size) St.zero n _ (pc_new u1 _ (fun _ h => h)) hn (by decide)).mono ?_
  rintro e u2 ⟨rfl, hP2, hK2⟩
  have hb2 : Below u1.heap.size u1 u2 := (bl1 _).trans (hK2.below (fun _ h => h))
  have hr2 := (h.below hbW).below hb2
  go_wp2_with fail
  refine (here_any _ _ _ _ hP2).mono ?_
  rintro e u ⟨rfl, rfl⟩
  by_cases hok : -32768 ≤ n ∧ n ≤ 65535
  · have hs : St.zero.put16 n = ⟨be2 n, [], false⟩ := by
      rw [St.put16, if_pos hok]; rfl
    rw [hs] at hP2 ⊢
    obtain ⟨o1, o2⟩ := hok
    clear hK2 hs
    go_wp2_with fail
    refine (putBytes_any _ _ _ _ _ xs _ hP2 hr2 (by simp [be2]; omega)).mono ?_
    rintro e u3 ⟨rfl, hP3, hK3⟩
    have hb3 : Below u1.heap.size u1 u3 := hb2.trans (hK3.below (fun _ h => h))
    rw [show St.app ⟨be2 n, [], false⟩ xs = ⟨be2 n ++ xs, [], false⟩ from rfl] at hP3
    go_wp2_with fail
    refine (all_any _ _ _ _ hP3 (by simp [be2]; omega)).mono ?_
    rintro e u4 ⟨a4, c4, rfl, hR4, hb4⟩
    have hbz : Below w.heap.size w u4 := hbW.trans ((hb3.trans (hb4.mono hb3.size)).mono hbW.size)
    rw [show allE ⟨be2 n ++ xs, [], false⟩ = 0 from rfl]
    generalize allB ⟨be2 n ++ xs, [], false⟩ = zs
    clear hP2 hP3 hK3 hb2 hb3 hb4 hR4 hr2 hbW
    go_wp2
    go_ret
    exact ⟨rt_bool (by simp [be2, o1, o2]), hbz⟩
  · have hs : St.zero.put16 n = ⟨[], [], true⟩ := by
      rw [St.put16, if_neg hok]; rfl
    rw [hs] at hP2 ⊢
    clear hK2 hs
    go_wp2_with fail
    refine (putBytes_any _ _ _ _ _ xs _ hP2 hr2 (by simp; omega)).mono ?_
    rintro e u3 ⟨rfl, hP3, hK3⟩
    have hb3 : Below u1.heap.size u1 u3 := hb2.trans (hK3.below (fun _ h => h))
    rw [show St.app ⟨[], [], true⟩ xs = ⟨[], [], true⟩ from rfl] at hP3
    go_wp2_with fail
    refine (all_any _ _ _ _ hP3 (by simp)).mono ?_
    rintro e u4 ⟨a4, c4, rfl, hR4, hb4⟩
    have hbz : Below w.heap.size w u4 := hbW.trans ((hb3.trans (hb4.mono hb3.size)).mono hbW.size)
    rw [show allE ⟨[], [], true⟩ = 4 from rfl]
    have hP4 := hP3.below hb4
    generalize allB ⟨[], [], true⟩ = zs
    clear hP2 hP3 hK3 hb2 hb3 hb4 hR4 hr2 hbW
    have hor : n < -32768 ∨ (-32768 ≤ n ∧ 65535 < n) := by omega
    rcases hor with o1 | ⟨o1, o2⟩
    all_goals
      go_wp2_with fail
      refine (here_any _ _ _ _ hP4).mono ?_
      rintro e u ⟨rfl, rfl⟩
      go_wp2
      go_ret
      exact ⟨rt_bool (by first | rfl | simp), hbz⟩

end Go.Proofs.Ytcjomppgllbfpaa
