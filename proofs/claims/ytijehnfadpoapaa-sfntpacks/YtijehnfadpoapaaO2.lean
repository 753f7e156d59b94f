/-
  octets: fits, four, Put8, Put16, Put32, PutBytes, Here: the walks.
-/
import Derived.Test.YtijehnfadpoapaaO1
namespace Go.Proofs.Ytijehnfadpoapaa
open Go.RowKit Go.Maps
set_option linter.unusedSimpArgs false
set_option linter.unusedVariables false

def be1 (n : Int) : List Nat := [(n % 256).toNat]
def be2 (n : Int) : List Nat := [(n / 256 % 256).toNat, (n % 256).toNat]
def be4 (n : Int) : List Nat := [(n / 16777216 % 256).toNat, (n / 65536 % 256).toNat, (n / 256 % 256).toNat, (n % 256).toNat]
theorem byt_be1 (n : Int) : Byt (be1 n) := by intro x hx; simp [be1] at hx; omega
theorem byt_be2 (n : Int) : Byt (be2 n) := by intro x hx; simp [be2] at hx; omega
theorem byt_be4 (n : Int) : Byt (be4 n) := by intro x hx; simp [be4] at hx; omega

def St.put8 (s : St) (n : Int) : St := if -128 ≤ n ∧ n ≤ 255 then s.app (be1 n) else s.fail
def St.put16 (s : St) (n : Int) : St := if -32768 ≤ n ∧ n ≤ 65535 then s.app (be2 n) else s.fail
def St.put32 (s : St) (n : Int) : St := if -2147483648 ≤ n ∧ n ≤ 4294967295 then s.app (be4 n) else s.fail

/-- An int. -/
def I64 (n : Int) : Prop := -9223372036854775808 ≤ n ∧ n ≤ 9223372036854775807

set_option maxHeartbeats 400000 in
set_option maxRecDepth 100000 in
theorem fits8_any (n : Int) (w : World) (hn : I64 n) :
    Calls Try.prog 74 #[.int .i64 n, .int .i64 8] w fun e w' => e = .returned (.bool (decide (-128 ≤ n ∧ n ≤ 255))) ∧ w = w' := by
  obtain ⟨n1, n2⟩ := hn
  by_cases h : -128 ≤ n
  · go_enter Try.func74, Try.ntmps74
    go_wp2
    go_ret
    refine ⟨rt_bool ?_, rfl⟩
    by_cases h2 : n ≤ 255
    · simp [h, h2]; try omega
    · simp [h, h2]; try omega
  · go_enter Try.func74, Try.ntmps74
    go_wp2
    go_ret
    exact ⟨rt_bool (by simp [h]; try omega), rfl⟩

set_option maxHeartbeats 400000 in
set_option maxRecDepth 100000 in
theorem fits16_any (n : Int) (w : World) (hn : I64 n) :
    Calls Try.prog 74 #[.int .i64 n, .int .i64 16] w fun e w' => e = .returned (.bool (decide (-32768 ≤ n ∧ n ≤ 65535))) ∧ w = w' := by
  obtain ⟨n1, n2⟩ := hn
  by_cases h : -32768 ≤ n
  · go_enter Try.func74, Try.ntmps74
    go_wp2
    go_ret
    refine ⟨rt_bool ?_, rfl⟩
    by_cases h2 : n ≤ 65535
    · simp [h, h2]; try omega
    · simp [h, h2]; try omega
  · go_enter Try.func74, Try.ntmps74
    go_wp2
    go_ret
    exact ⟨rt_bool (by simp [h]; try omega), rfl⟩

set_option maxHeartbeats 400000 in
set_option maxRecDepth 100000 in
theorem fits32_any (n : Int) (w : World) (hn : I64 n) :
    Calls Try.prog 74 #[.int .i64 n, .int .i64 32] w fun e w' => e = .returned (.bool (decide (-2147483648 ≤ n ∧ n ≤ 4294967295))) ∧ w = w' := by
  obtain ⟨n1, n2⟩ := hn
  by_cases h : -2147483648 ≤ n
  · go_enter Try.func74, Try.ntmps74
    go_wp2
    go_ret
    refine ⟨rt_bool ?_, rfl⟩
    by_cases h2 : n ≤ 4294967295
    · simp [h, h2]; try omega
    · simp [h, h2]; try omega
  · go_enter Try.func74, Try.ntmps74
    go_wp2
    go_ret
    exact ⟨rt_bool (by simp [h]; try omega), rfl⟩

set_option maxHeartbeats 400000 in
set_option maxRecDepth 100000 in
theorem four_any (n : Int) (w : World) (hn : I64 n) :
    Calls Try.prog 53 #[.int .i64 n] w fun e w' => ∃ a cap, e = .returned (.slice a (be4 n).length cap) ∧ Rb w' a cap (be4 n) ∧ Below w.heap.size w w' := by
  obtain ⟨n1, n2⟩ := hn
  go_enter Try.func53, Try.ntmps53
  go_wp2
  go_ret
  refine ⟨_, _, rfl, rb_new w 5 (be4 n) _ ?_ (byt_be4 n) (by simp [be4, maxLen]), bl1 _⟩
  simp only [be4, List.map_cons, List.map_nil, Y]
  simp
  omega

theorem Pc.al {w : World} {B : Nat} {G : Nat → Prop} {s : St} (h : Pc w B G s) (o : Obj) : Pc (w.alloc o) B G s := h.below (bl1 o)
theorem Pc.kal {w : World} {B : Nat} {G : Nat → Prop} {s : St} (h : Pc w B G s) (o : Obj) : Keep G w (w.alloc o) := Keep.of_below (bl1 o) h.1
theorem Pc.wf {w : World} {B : Nat} {G : Nat → Prop} {s : St} (h : Pc w B G s) : Wf s := h.2.2.1
theorem St.fail_bad {s : St} (h : s.no = true) : s.fail = s := by
  obtain ⟨b, c, d⟩ := s
  simp at h
  simp [St.fail, h]

set_option maxHeartbeats 400000 in
set_option maxRecDepth 100000 in
theorem put16_any (B : Nat) (G : Nat → Prop) (s : St) (n : Int) (w : World) (h : Pc w B G s) (hn : I64 n) (hl : s.bs.length + 4 ≤ 1048576) :
    Calls Try.prog 49 #[pg B, .int .i64 n] w fun e w' => e = .returned (.tuple #[]) ∧ Pc w' B G (s.put16 n) ∧ Keep G w w' := by
  have hn' := hn
  obtain ⟨n1, n2⟩ := hn'
  go_enter Try.func49, Try.ntmps49
  go_wp2_with fail
  refine (fits16_any n _ hn).mono ?_
  rintro e u ⟨rfl, rfl⟩
  by_cases hf : -32768 ≤ n ∧ n ≤ 65535
  · rw [decide_eq_true hf]
    have hs : Hid (s.put16 n = s.app (be2 n)) := if_pos hf
    go_wp2_with fail
    refine (put_any B G s (some ⟨w.heap.size, 0, none⟩) 2 (be2 n) _ (h.al _) (rb_new w 5 (be2 n) #[Value.int IntKind.u8 (n / 256 % 256), Value.int IntKind.u8 (n % 256)] (by simp [be2, Y]; omega) (byt_be2 n) (by simp [be2, maxLen])) (by simp [be2]; omega)).mono ?_
    rintro e u ⟨rfl, hP, hK⟩
    go_wp2
    go_end0
    exact ⟨rfl, hs.out ▸ hP, (h.kal _).trans hK⟩
  · rw [decide_eq_false hf]
    have hs : Hid (s.put16 n = s.fail) := if_neg hf
    go_wp2_with fail
    refine (fail_any B G s _ h).mono ?_
    rintro e u ⟨rfl, hP, hK⟩
    go_wp2
    (try simp only [Exit.inBlock, Exit.then]); refine bodyPost_ret (results_none rfl _ _ _) rfl ?_
    exact ⟨rfl, hs.out ▸ hP, hK⟩

set_option maxHeartbeats 400000 in
set_option maxRecDepth 100000 in
theorem put32_any (B : Nat) (G : Nat → Prop) (s : St) (n : Int) (w : World) (h : Pc w B G s) (hn : I64 n) (hl : s.bs.length + 4 ≤ 1048576) :
    Calls Try.prog 48 #[pg B, .int .i64 n] w fun e w' => e = .returned (.tuple #[]) ∧ Pc w' B G (s.put32 n) ∧ Keep G w w' := by
  go_enter Try.func48, Try.ntmps48
  go_wp2_with fail
  refine (fits32_any n _ hn).mono ?_
  rintro e u ⟨rfl, rfl⟩
  by_cases hf : -2147483648 ≤ n ∧ n ≤ 4294967295
  · rw [decide_eq_true hf]
    have hs : Hid (s.put32 n = s.app (be4 n)) := if_pos hf
    go_wp2_with fail
    refine (four_any n _ hn).mono ?_
    rintro e u ⟨a, cap, rfl, hr, hb⟩
    go_wp2_with fail
    refine (put_any B G s a cap (be4 n) _ (h.below hb) hr (by simp [be4]; omega)).mono ?_
    rintro e u2 ⟨rfl, hP, hK⟩
    go_wp2
    go_end0
    exact ⟨rfl, hs.out ▸ hP, (Keep.of_below hb h.1).trans hK⟩
  · rw [decide_eq_false hf]
    have hs : Hid (s.put32 n = s.fail) := if_neg hf
    go_wp2_with fail
    refine (fail_any B G s _ h).mono ?_
    rintro e u ⟨rfl, hP, hK⟩
    go_wp2
    (try simp only [Exit.inBlock, Exit.then]); refine bodyPost_ret (results_none rfl _ _ _) rfl ?_
    exact ⟨rfl, hs.out ▸ hP, hK⟩

set_option maxHeartbeats 400000 in
set_option maxRecDepth 100000 in
theorem putBytes_any (B : Nat) (G : Nat → Prop) (s : St) (a : Option Addr) (cap : Nat) (xs : List Nat) (w : World) (h : Pc w B G s) (hr : Rb w a cap xs) (hl : s.bs.length + xs.length ≤ 1048576) :
    Calls Try.prog 31 #[pg B, .slice a xs.length cap] w fun e w' => e = .returned (.tuple #[]) ∧ Pc w' B G (s.app xs) ∧ Keep G w w' := by
  go_enter Try.func31, Try.ntmps31
  go_wp2_with fail
  refine (put_any B G s a cap xs _ h hr hl).mono ?_
  rintro e u2 ⟨rfl, hP, hK⟩
  go_wp2
  go_end0
  exact ⟨rfl, hP, hK⟩

theorem putBytes_nil (v : Value) (w : World) :
    Calls Try.prog 31 #[.pointer none, v] w fun e w' => e = .returned (.tuple #[]) ∧ w = w' := by
  go_enter Try.func31, Try.ntmps31
  go_wp2_with fail
  refine (put_nil _ _).mono ?_
  rintro e u ⟨rfl, rfl⟩
  go_wp2
  go_end0
  exact ⟨rfl, rfl⟩

end Go.Proofs.Ytijehnfadpoapaa
