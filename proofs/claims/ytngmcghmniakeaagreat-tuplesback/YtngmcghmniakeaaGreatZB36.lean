/-
  packed: arePoints, areChanges, kindOfDifference, kindOfChange, signedByte, nought: the walks.
  packed: putAll (of bytes, of two bytes), putCount, what Points and Changes hand over: the walks.
-/
import Derived.Test.YtngmcghmniakeaaGreatZB35
namespace Go.Proofs.YtngmcghmniakeaaGreat
open Go.RowKit Go.Maps
set_option linter.unusedSimpArgs false
set_option linter.unusedVariables false

set_option maxHeartbeats 1000000 in
set_option maxRecDepth 100000 in
theorem carePts_any (a : Option Addr) (cap : Nat) (l : List Int) (w : World) (h : Ri w a cap l) :
    Calls Tryz.prog 145 #[.slice a l.length cap] w fun e w' => e = .returned (.bool (ptB l)) ∧ w = w' := by
  have k2 := h.lenB
  by_cases hl : l.length ≤ 2000
  rotate_left
  · have HE : Hid (ptB l = false) := by show _ = _; unfold ptB; rw [decide_eq_false hl, Bool.and_false]
    have g1 : (2000 : Int) < (l.length : Int) := by omega
    clear h hl
    go_enter Tryz.func145, Tryz.ntmps145
    go_wp2
    go_ret
    exact ⟨rt_bool HE.out.symm, rfl⟩
  have HH : Hid (Ri w a cap l) := h
  have g0 : ¬ (2000 : Int) < (l.length : Int) := by omega
  clear h
  go_enter Tryz.func145, Tryz.ntmps145
  go_wp2
  go_loopw [3, 11] (fun ah i wr => ∃ (k : Nat) (z : Int), k ≤ l.length ∧ i = .int .i64 k ∧ ah = .int .i64 z ∧ z = (if k = 0 then -1 else l.getD (k - 1) 0) ∧ (∀ i, i < k → (if i = 0 then -1 else l.getD (i - 1) 0) < l.getD i 0 ∧ l.getD i 0 ≤ 65535) ∧ w = wr) (fun _ i _ => l.length - (intOf i).toNat)
  case atStart => exact ⟨0, -1, Nat.zero_le _, rfl, rfl, rfl, (fun j hj => by omega), rfl⟩
  case round =>
    obtain ⟨k, z, hk, rfl, rfl, hz, hok, rfl⟩ := hrel
    have HZ : Hid (z = (if k = 0 then -1 else l.getD (k - 1) 0)) := hz
    have HOK : Hid (∀ i, i < k → (if i = 0 then -1 else l.getD (i - 1) 0) < l.getD i 0 ∧ l.getD i 0 ≤ 65535) := hok
    clear hz hok
    by_cases hkn : k < l.length
    rotate_left
    · obtain rfl : k = l.length := by omega
      have HE : Hid (ptB l = true) := by show _ = _; unfold ptB; rw [(ptF_iff l (-1)).2 HOK.out, decide_eq_true hl, Bool.and_true]
      have g1 : ¬ (l.length : Int) < (l.length : Int) := by omega
      clear HOK HZ
      go_wp2
      go_ret
      exact ⟨rt_bool HE.out.symm, rfl⟩
    obtain ⟨b, off, ea, hb, d0⟩ := HH.out.at (Below.refl _ _) k hkn
    obtain ⟨x, hx⟩ : ∃ x, l.getD k 0 = x := ⟨_, rfl⟩
    have HNO : Hid (x ≤ z ∨ 65535 < x → ptB l = false) := fun h => by
      rw [Bool.eq_false_iff]
      intro e
      unfold ptB at e
      rw [Bool.and_eq_true] at e
      have := (ptF_iff l (-1)).1 e.1 k hkn
      rw [← HZ.out, hx] at this
      omega
    have HX : Hid (l.getD k 0 = x) := hx
    rw [hx] at d0
    subst ea
    clear hx
    have i1 : (0 : Int) ≤ (k : Int) := by omega
    have i2 : (k : Int) < (l.length : Int) := by omega
    by_cases h1 : x ≤ z
    · have g1 : decide (x ≤ z) = true := decide_eq_true h1
      have HE : Hid (ptB l = false) := HNO.out (.inl h1)
      clear HOK HZ HNO HX h1
      go_wp2
      go_ret
      exact ⟨rt_bool HE.out.symm, rfl⟩
    have g1 : decide (x ≤ z) = false := decide_eq_false h1
    by_cases h2 : 65535 < x
    · have g2 : decide (65535 < x) = true := decide_eq_true h2
      have HE : Hid (ptB l = false) := HNO.out (.inr h2)
      clear HOK HZ HNO HX h1 h2
      go_wp2
      go_ret
      exact ⟨rt_bool HE.out.symm, rfl⟩
    have g2 : decide (65535 < x) = false := decide_eq_false h2
    have HOK2 : Hid (∀ i, i < k + 1 → (if i = 0 then -1 else l.getD (i - 1) 0) < l.getD i 0 ∧ l.getD i 0 ≤ 65535) := fun i hi => by
      rcases Nat.lt_or_ge i k with h3 | h3
      · exact HOK.out i h3
      · rw [show i = k by omega, HX.out, ← HZ.out]; omega
    have HZ2 : Hid (x = (if k + 1 = 0 then -1 else l.getD (k + 1 - 1) 0)) := by show _ = _; rw [if_neg (by omega), Nat.add_sub_cancel, HX.out]
    clear HOK HZ HNO HX h1 h2
    go_wp2
    go_roundw
    case rel => exact ⟨k + 1, x, by omega, by go_num, rfl, HZ2.out, HOK2.out, trivial⟩
    case measure => simp [intOf]; omega

theorem w16_in {x : Int} (h1 : -32768 ≤ x) (h2 : x ≤ 32767) : IntKind.i16.wrap x = x := by
  simp only [IntKind.wrap, IntKind.bits, IntKind.signed]
  simp
  omega
theorem w16_out {x : Int} (h : x < -32768 ∨ 32767 < x) : IntKind.i16.wrap x ≠ x ∧ -32768 ≤ IntKind.i16.wrap x ∧ IntKind.i16.wrap x ≤ 32767 := by
  simp only [IntKind.wrap, IntKind.bits, IntKind.signed]
  simp
  omega

set_option maxHeartbeats 1000000 in
set_option maxRecDepth 100000 in
theorem careChs_any (a : Option Addr) (cap : Nat) (l : List Int) (w : World) (h : Ri w a cap l) :
    Calls Tryz.prog 153 #[.slice a l.length cap] w fun e w' => e = .returned (.bool (chB l)) ∧ w = w' := by
  have k2 := h.lenB
  by_cases hl : l.length ≤ 2000
  rotate_left
  · have HE : Hid (chB l = false) := by show _ = _; unfold chB; rw [decide_eq_false hl, Bool.and_false]
    have g1 : (2000 : Int) < (l.length : Int) := by omega
    clear h hl
    go_enter Tryz.func153, Tryz.ntmps153
    go_wp2
    go_ret
    exact ⟨rt_bool HE.out.symm, rfl⟩
  have HH : Hid (Ri w a cap l) := h
  have g0 : ¬ (2000 : Int) < (l.length : Int) := by omega
  clear h
  go_enter Tryz.func153, Tryz.ntmps153
  go_wp2
  go_loopw [10] (fun i wr => ∃ k : Nat, k ≤ l.length ∧ i = .int .i64 k ∧ (∀ i, i < k → -32768 ≤ l.getD i 0 ∧ l.getD i 0 ≤ 32767) ∧ w = wr) (fun i _ => l.length - (intOf i).toNat)
  case atStart => exact ⟨0, Nat.zero_le _, rfl, (fun j hj => by omega), rfl⟩
  case round =>
    obtain ⟨k, hk, rfl, hok, rfl⟩ := hrel
    have HOK : Hid (∀ i, i < k → -32768 ≤ l.getD i 0 ∧ l.getD i 0 ≤ 32767) := hok
    clear hok
    by_cases hkn : k < l.length
    rotate_left
    · obtain rfl : k = l.length := by omega
      have HE : Hid (chB l = true) := by show _ = _; rw [chB_yes HOK.out, decide_eq_true hl]
      have g1 : ¬ (l.length : Int) < (l.length : Int) := by omega
      clear HOK
      go_wp2
      go_ret
      exact ⟨rt_bool HE.out.symm, rfl⟩
    obtain ⟨b, off, ea, hb, d0⟩ := HH.out.at (Below.refl _ _) k hkn
    have hxi := HH.out.i64 hkn
    obtain ⟨x, hx⟩ : ∃ x, l.getD k 0 = x := ⟨_, rfl⟩
    have HX : Hid (l.getD k 0 = x) := hx
    rw [hx] at d0 hxi
    subst ea
    clear hx
    have i1 : (0 : Int) ≤ (k : Int) := by omega
    have i2 : (k : Int) < (l.length : Int) := by omega
    by_cases h1 : -32768 ≤ x ∧ x ≤ 32767
    · have e1 := w16_in h1.1 h1.2
      have HOK2 : Hid (∀ i, i < k + 1 → -32768 ≤ l.getD i 0 ∧ l.getD i 0 ≤ 32767) := fun i hi => by
        rcases Nat.lt_or_ge i k with h3 | h3
        · exact HOK.out i h3
        · rw [show i = k by omega, HX.out]; exact h1
      have n1 := h1.1
      have n2 := h1.2
      clear HOK HX h1
      go_wp2
      go_roundw
      case rel => exact ⟨k + 1, by omega, by go_num, HOK2.out, trivial⟩
      case measure => simp [intOf]; omega
    · obtain ⟨e0, e2, e3⟩ := w16_out (x := x) (by omega)
      have HE : Hid (chB l = false) := chB_no hkn (by rw [HX.out]; omega)
      obtain ⟨y, hy⟩ : ∃ y, IntKind.i16.wrap x = y := ⟨_, rfl⟩
      rw [hy] at e0 e2 e3
      have g1 : (y != x) = true := by simp [e0]
      clear HOK HX h1 e0
      go_wp2
      go_ret
      exact ⟨rt_bool HE.out.symm, rfl⟩

set_option maxHeartbeats 400000 in
set_option maxRecDepth 100000 in
theorem ckdP_any (z : Int) (w : World) : Calls Tryz.prog 149 #[.int .i64 z] w fun e w' => e = .returned (.int .i64 (128 * ((kdP z : Nat) : Int))) ∧ w = w' := by
  rcases kdP_cases z with ⟨h1, h2⟩ | ⟨h1, h2⟩
  · have HE : Hid (128 * ((kdP z : Nat) : Int) = 128) := by show _ = _; rw [h2]; rfl
    clear h2
    go_enter Tryz.func149, Tryz.ntmps149
    go_wp2
    go_ret
    exact ⟨by rw [HE.out]; rfl, rfl⟩
  · have HE : Hid (128 * ((kdP z : Nat) : Int) = 0) := by show _ = _; rw [h2]; rfl
    have g1 : ¬ 255 < z := by omega
    clear h2
    go_enter Tryz.func149, Tryz.ntmps149
    go_wp2
    go_ret
    exact ⟨by rw [HE.out]; rfl, rfl⟩
set_option maxHeartbeats 400000 in
set_option maxRecDepth 100000 in
theorem ckdC_any (z : Int) (w : World) : Calls Tryz.prog 154 #[.int .i64 z] w fun e w' => e = .returned (.int .i64 (64 * ((kdC z : Nat) : Int))) ∧ w = w' := by
  rcases kdC_cases z with ⟨h1, h2⟩ | ⟨h0, h1, h2⟩ | ⟨h0, h1, h2⟩
  · have HE : Hid (64 * ((kdC z : Nat) : Int) = 128) := by show _ = _; rw [h2]; rfl
    have g1 : (z == 0) = true := by simp [h1]
    clear h2 h1
    go_enter Tryz.func154, Tryz.ntmps154
    go_wp2
    go_ret
    exact ⟨by rw [HE.out]; rfl, rfl⟩
  · have HE : Hid (64 * ((kdC z : Nat) : Int) = 64) := by show _ = _; rw [h2]; rfl
    have g1 : (z == 0) = false := by simp [h0]
    clear h2
    by_cases h3 : z < -128
    · have g2 : decide (z < -128) = true := decide_eq_true h3
      clear h0 h1
      go_enter Tryz.func154, Tryz.ntmps154
      go_wp2
      go_ret
      exact ⟨by rw [HE.out]; rfl, rfl⟩
    · have g2 : decide (z < -128) = false := decide_eq_false h3
      have g3 : decide (127 < z) = true := decide_eq_true (by omega)
      clear h0 h1
      go_enter Tryz.func154, Tryz.ntmps154
      go_wp2
      go_ret
      exact ⟨by rw [HE.out]; rfl, rfl⟩
  · have HE : Hid (64 * ((kdC z : Nat) : Int) = 0) := by show _ = _; rw [h2]; rfl
    have g1 : (z == 0) = false := by simp [h0]
    have g2 : decide (z < -128) = false := decide_eq_false (by omega)
    have g3 : decide (127 < z) = false := decide_eq_false (by omega)
    clear h0 h2
    go_enter Tryz.func154, Tryz.ntmps154
    go_wp2
    go_ret
    exact ⟨by rw [HE.out]; rfl, rfl⟩

theorem w8_hi {v : Nat} (h : 128 ≤ v) (h2 : v < 256) : IntKind.i8.wrap (v : Int) = (v : Int) - 256 := by
  simp only [IntKind.wrap, IntKind.bits, IntKind.signed]
  simp
  omega
theorem w8_lo {v : Nat} (h : v < 128) : IntKind.i8.wrap (v : Int) = (v : Int) := by
  simp only [IntKind.wrap, IntKind.bits, IntKind.signed]
  simp
  omega
set_option maxHeartbeats 400000 in
set_option maxRecDepth 100000 in
theorem csigned_any (a : Option Addr) (cap : Nat) (xs : List Nat) (p : Int) (w : World) (h : Rb w a cap xs) (hp : I64 p) :
    Calls Tryz.prog 197 #[.slice a xs.length cap, .int .i64 p] w fun e w' => e = .returned (.tuple #[.int .i64 (sx8 (nmV xs p 1)), .bool (inB xs.length p 1)]) ∧ w = w' := by
  have hlt := nmV_lt h.lim p 1
  have hu := u8_any a cap xs p w h hp
  obtain ⟨v, hv⟩ : ∃ v, nmV xs p 1 = v := ⟨_, rfl⟩
  rw [hv] at hu hlt ⊢
  simp only [Nat.pow_one] at hlt
  clear hv h
  by_cases hbig : 128 ≤ v
  · have HS : Hid (sx8 v = (v : Int) - 256) := if_pos hbig
    have e1 := w8_hi hbig hlt
    obtain ⟨z, hz⟩ : ∃ z : Int, (v : Int) = z := ⟨_, rfl⟩
    have z1 : 128 ≤ z := by omega
    have z2 : z < 256 := by omega
    rw [hz] at hu e1
    have HZ : Hid ((v : Int) = z) := hz
    clear hz hbig hlt
    go_enter Tryz.func197, Tryz.ntmps197
    go_wp2_with fail
    refine hu.mono ?_
    rintro e u ⟨rfl, rfl⟩
    go_wp2
    go_ret2
    exact ⟨rt_two (by rw [HS.out, HZ.out]; rfl) rfl, rfl⟩
  · have HS : Hid (sx8 v = (v : Int)) := if_neg hbig
    have e1 := w8_lo (v := v) (by omega)
    obtain ⟨z, hz⟩ : ∃ z : Int, (v : Int) = z := ⟨_, rfl⟩
    have z1 : 0 ≤ z := by omega
    have z2 : z < 128 := by omega
    rw [hz] at hu e1
    have HZ : Hid ((v : Int) = z) := hz
    clear hz hbig hlt
    go_enter Tryz.func197, Tryz.ntmps197
    go_wp2_with fail
    refine hu.mono ?_
    rintro e u ⟨rfl, rfl⟩
    go_wp2
    go_ret2
    exact ⟨rt_two (by rw [HS.out, HZ.out]; rfl) rfl, rfl⟩
set_option maxHeartbeats 400000 in
set_option maxRecDepth 100000 in
theorem cnought_any (v : Value) (p : Int) (w : World) :
    Calls Tryz.prog 198 #[v, .int .i64 p] w fun e w' => e = .returned (.tuple #[.int .i64 0, .bool true]) ∧ w = w' := by
  go_enter Tryz.func198, Tryz.ntmps198
  go_wp2
  go_ret2
  exact ⟨rfl, rfl⟩

end Go.Proofs.YtngmcghmniakeaaGreat

namespace Go.Proofs.YtngmcghmniakeaaGreat
open Go.RowKit Go.Maps
set_option linter.unusedSimpArgs false
set_option linter.unusedVariables false


set_option maxHeartbeats 1000000 in
set_option maxRecDepth 100000 in
theorem putAll8_any (B : Nat) (G : Nat → Prop) (ys : List Nat) (a : Option Addr) (cap : Nat) (l : List Int) (w : World) (h : Pc w B G ⟨ys, [], false⟩) (hr : Ri w a cap l) (hG : ∀ b o, a = some ⟨b, o, none⟩ → G b) (hx : ∀ x ∈ l, -128 ≤ x ∧ x ≤ 255) (hl : ys.length + 2 * l.length + 4 ≤ 1048576) :
    Calls Tryz.prog 152 #[.func (.func 151) #[pg B] #[], .slice a l.length cap] w fun e w' => e = .returned (.tuple #[]) ∧ Pc w' B G ⟨ys ++ l.flatMap be1, [], false⟩ ∧ Keep G w w' := by
  have k2 := hr.lenB
  have HR : Hid (Ri w a cap l) := hr
  have HX : Hid (∀ x ∈ l, -128 ≤ x ∧ x ≤ 255) := hx
  have HG : Hid (∀ b o, a = some ⟨b, o, none⟩ → G b) := hG
  clear hr hx hG
  go_enter Tryz.func152, Tryz.ntmps152
  go_wp2
  go_loopw [8] (fun i wr => ∃ k : Nat, k ≤ l.length ∧ i = .int .i64 k ∧ Pc wr B G ⟨ys ++ (l.take k).flatMap be1, [], false⟩ ∧ Keep G w wr) (fun i _ => l.length - (intOf i).toNat)
  case atStart => exact ⟨0, Nat.zero_le _, rfl, by simpa using h, Keep.refl _ _⟩
  case round =>
    obtain ⟨k, hk, rfl, hP, hK⟩ := hrel
    by_cases hkn : k < l.length
    rotate_left
    · obtain rfl : k = l.length := by omega
      rw [List.take_length] at hP
      have g1 : ¬ (l.length : Int) < (l.length : Int) := by omega
      go_wp2
      go_end0
      exact ⟨rfl, hP, hK⟩
    obtain ⟨b, off, ea, hb, d0⟩ := (HR.out.kept hK HG.out).get k hkn
    have hx := HX.out _ (getD_mem hkn)
    obtain ⟨x, hx0⟩ : ∃ x, l.getD k 0 = x := ⟨_, rfl⟩
    have HS : Hid (_) := flat_take (f := be1) hkn hx0
    have hle : ((l.take k).flatMap be1).length ≤ 2 * l.length := take_len2 (fun x => by simp [be1]) l k
    rw [hx0] at d0 hx
    subst ea
    clear hx0
    obtain ⟨zs, hzs⟩ : ∃ zs, (l.take k).flatMap be1 = zs := ⟨_, rfl⟩
    rw [hzs] at HS hle hP
    have HT : Hid (ys ++ zs ++ be1 x = ys ++ (l.take (k + 1)).flatMap be1) := by show _ = _; rw [HS.out, List.append_assoc]
    clear hzs HS
    have hp := put8_any B G _ x wr hP ⟨by omega, by omega⟩ (by show (ys ++ zs).length + 4 ≤ _; rw [List.length_append]; omega)
    rw [put8A hx.1 hx.2] at hp
    have i1 : (0 : Int) ≤ (k : Int) := by omega
    have i2 : (k : Int) < (l.length : Int) := by omega
    clear hP hx
    go_wp2_with fail
    refine hp.mono ?_
    rintro e u1 ⟨rfl, hP, hK1⟩
    rw [HT.out] at hP
    replace hK := hK.trans hK1
    clear hp hK1
    go_wp2
    go_roundw
    case rel => exact ⟨k + 1, by omega, by go_num, hP, hK⟩
    case measure => simp [intOf]; omega

set_option maxHeartbeats 1000000 in
set_option maxRecDepth 100000 in
theorem putAll16_any (B : Nat) (G : Nat → Prop) (ys : List Nat) (a : Option Addr) (cap : Nat) (l : List Int) (w : World) (h : Pc w B G ⟨ys, [], false⟩) (hr : Ri w a cap l) (hG : ∀ b o, a = some ⟨b, o, none⟩ → G b) (hx : ∀ x ∈ l, -32768 ≤ x ∧ x ≤ 65535) (hl : ys.length + 2 * l.length + 4 ≤ 1048576) :
    Calls Tryz.prog 152 #[.func (.func 42) #[pg B] #[], .slice a l.length cap] w fun e w' => e = .returned (.tuple #[]) ∧ Pc w' B G ⟨ys ++ l.flatMap be2, [], false⟩ ∧ Keep G w w' := by
  have k2 := hr.lenB
  have HR : Hid (Ri w a cap l) := hr
  have HX : Hid (∀ x ∈ l, -32768 ≤ x ∧ x ≤ 65535) := hx
  have HG : Hid (∀ b o, a = some ⟨b, o, none⟩ → G b) := hG
  clear hr hx hG
  go_enter Tryz.func152, Tryz.ntmps152
  go_wp2
  go_loopw [8] (fun i wr => ∃ k : Nat, k ≤ l.length ∧ i = .int .i64 k ∧ Pc wr B G ⟨ys ++ (l.take k).flatMap be2, [], false⟩ ∧ Keep G w wr) (fun i _ => l.length - (intOf i).toNat)
  case atStart => exact ⟨0, Nat.zero_le _, rfl, by simpa using h, Keep.refl _ _⟩
  case round =>
    obtain ⟨k, hk, rfl, hP, hK⟩ := hrel
    by_cases hkn : k < l.length
    rotate_left
    · obtain rfl : k = l.length := by omega
      rw [List.take_length] at hP
      have g1 : ¬ (l.length : Int) < (l.length : Int) := by omega
      go_wp2
      go_end0
      exact ⟨rfl, hP, hK⟩
    obtain ⟨b, off, ea, hb, d0⟩ := (HR.out.kept hK HG.out).get k hkn
    have hx := HX.out _ (getD_mem hkn)
    obtain ⟨x, hx0⟩ : ∃ x, l.getD k 0 = x := ⟨_, rfl⟩
    have HS : Hid (_) := flat_take (f := be2) hkn hx0
    have hle : ((l.take k).flatMap be2).length ≤ 2 * l.length := take_len2 (fun x => by simp [be2]) l k
    rw [hx0] at d0 hx
    subst ea
    clear hx0
    obtain ⟨zs, hzs⟩ : ∃ zs, (l.take k).flatMap be2 = zs := ⟨_, rfl⟩
    rw [hzs] at HS hle hP
    have HT : Hid (ys ++ zs ++ be2 x = ys ++ (l.take (k + 1)).flatMap be2) := by show _ = _; rw [HS.out, List.append_assoc]
    clear hzs HS
    have hp := put16_any B G _ x wr hP ⟨by omega, by omega⟩ (by show (ys ++ zs).length + 4 ≤ _; rw [List.length_append]; omega)
    rw [put16A hx.1 hx.2] at hp
    have i1 : (0 : Int) ≤ (k : Int) := by omega
    have i2 : (k : Int) < (l.length : Int) := by omega
    clear hP hx
    go_wp2_with fail
    refine hp.mono ?_
    rintro e u1 ⟨rfl, hP, hK1⟩
    rw [HT.out] at hP
    replace hK := hK.trans hK1
    clear hp hK1
    go_wp2
    go_roundw
    case rel => exact ⟨k + 1, by omega, by go_num, hP, hK⟩
    case measure => simp [intOf]; omega

theorem cnE_eq {n : Nat} (h : n ≤ 2000) : cnE n = if n < 128 then be1 (n : Int) else be2 (32768 + (n : Int)) := by
  unfold cnE
  split
  · rw [be1_nat (by omega)]
  · unfold be2
    rw [show ((32768 + (n : Int)) / 256 % 256).toNat = 128 + n / 256 by omega, show ((32768 + (n : Int)) % 256).toNat = n % 256 by omega]

set_option maxHeartbeats 400000 in
set_option maxRecDepth 100000 in
theorem putCount_any (B : Nat) (G : Nat → Prop) (n : Nat) (w : World) (h : Pc w B G ⟨[], [], false⟩) (hn : n ≤ 2000) :
    Calls Tryz.prog 146 #[pg B, .int .i64 (n : Int)] w fun e w' => e = .returned (.tuple #[]) ∧ Pc w' B G ⟨cnE n, [], false⟩ ∧ Keep G w w' := by
  have HC : Hid (_) := cnE_eq hn
  by_cases h1 : n < 128
  · rw [if_pos h1] at HC
    have hp := put8_any B G _ (n : Int) w h ⟨by omega, by omega⟩ (by decide)
    rw [put8A (by omega) (by omega), List.nil_append, ← HC.out] at hp
    have g1 : (n : Int) < 128 := by omega
    clear h HC h1
    go_enter Tryz.func146, Tryz.ntmps146
    go_wp2_with fail
    refine hp.mono ?_
    rintro e u1 ⟨rfl, hP, hK1⟩
    go_wp2
    (try simp only [Exit.inBlock, Exit.then]); refine bodyPost_ret (results_none rfl _ _ _) rfl ?_
    exact ⟨rfl, hP, hK1⟩
  · rw [if_neg h1] at HC
    have hp := put16_any B G _ (32768 + (n : Int)) w h ⟨by omega, by omega⟩ (by decide)
    rw [put16A (by omega) (by omega), List.nil_append, ← HC.out] at hp
    have g1 : ¬ (n : Int) < 128 := by omega
    clear h HC h1
    go_enter Tryz.func146, Tryz.ntmps146
    go_wp2_with fail
    refine hp.mono ?_
    rintro e u1 ⟨rfl, hP, hK1⟩
    go_wp2
    go_end0
    exact ⟨rfl, hP, hK1⟩

set_option maxHeartbeats 1000000 in
set_option maxRecDepth 100000 in
theorem layP_any (B c : Nat) (G : Nat → Prop) (ys : List Nat) (a : Option Addr) (cap : Nat) (l : List Int) (c0 : Nat) (w : World) (h : Pc w B G ⟨ys, [], false⟩) (hr : Ri w a cap l) (hG : ∀ b o, a = some ⟨b, o, none⟩ → G b) (hc : w.cell? ⟨c, 0, none⟩ = some (pg B)) (hGc : G c)
    (hx : (c0 = 0 ∧ ∀ x ∈ l, -128 ≤ x ∧ x ≤ 255) ∨ (c0 = 1 ∧ ∀ x ∈ l, -32768 ≤ x ∧ x ≤ 65535)) (h1 : 1 ≤ l.length) (hM : l.length ≤ 128) (hl : ys.length + 600 ≤ 1048576) :
    Calls Tryz.prog 150 #[.int .i64 (128 * (c0 : Int)), .slice a l.length cap, pg c] w fun e w' => e = .returned (.tuple #[]) ∧ Pc w' B G ⟨ys ++ [128 * c0 + l.length - 1] ++ l.flatMap (enP c0), [], false⟩ ∧ Keep G w w' := by
  rcases hx with ⟨rfl, hx⟩ | ⟨rfl, hx⟩
  · obtain ⟨kk, hkk⟩ : ∃ kk : Int, 128 * ((0 : Nat) : Int) = kk := ⟨_, rfl⟩
    rw [hkk]
    have hkk : kk = 0 := by rw [← hkk]; rfl
    obtain ⟨m, hm⟩ : ∃ m : Nat, 128 * 0 + l.length - 1 = m := ⟨_, rfl⟩
    have hmi : kk + (l.length : Int) - 1 = (m : Int) := by omega
    rw [hm]
    subst hkk
    have hb1 := be1_nat (m := m) (by omega)
    have hp := put8_any B G _ (m : Int) w h ⟨by omega, by omega⟩ (by show ys.length + 4 ≤ _; omega)
    rw [put8A (by omega) (by omega), hb1] at hp
    have HM : Hid (0 + (l.length : Int) - 1 = (m : Int)) := hmi
    have hw1 : (l.length : Int) - 1 = (m : Int) := by omega
    clear h hm hb1 hmi
    go_enter Tryz.func150, Tryz.ntmps150
    go_wp2_with fail
    refine hp.mono ?_
    rintro e u1 ⟨rfl, hP, hK1⟩
    replace hr := hr.kept hK1 hG
    replace hc := (hK1.cell (p := ⟨c, 0, none⟩) hGc).trans hc
    clear hp
    have hq := putAll8_any B G (ys ++ [m]) a cap l u1 hP hr hG hx (by rw [List.length_append, List.length_singleton]; omega)
    go_wp2_with fail
    refine hq.mono ?_
    rintro e u2 ⟨rfl, hP2, hK2⟩
    go_wp2
    go_end0
    exact ⟨rfl, hP2, hK1.trans hK2⟩
  · obtain ⟨kk, hkk⟩ : ∃ kk : Int, 128 * ((1 : Nat) : Int) = kk := ⟨_, rfl⟩
    rw [hkk]
    have hkk : kk = 128 := by rw [← hkk]; rfl
    obtain ⟨m, hm⟩ : ∃ m : Nat, 128 * 1 + l.length - 1 = m := ⟨_, rfl⟩
    have hmi : kk + (l.length : Int) - 1 = (m : Int) := by omega
    rw [hm]
    subst hkk
    have hb1 := be1_nat (m := m) (by omega)
    have hp := put8_any B G _ (m : Int) w h ⟨by omega, by omega⟩ (by show ys.length + 4 ≤ _; omega)
    rw [put8A (by omega) (by omega), hb1] at hp
    have HM : Hid (128 + (l.length : Int) - 1 = (m : Int)) := hmi
    have hw1 : (128 : Int) + (l.length : Int) - 1 = (m : Int) := hmi
    clear h hm hb1 hmi
    go_enter Tryz.func150, Tryz.ntmps150
    go_wp2_with fail
    refine hp.mono ?_
    rintro e u1 ⟨rfl, hP, hK1⟩
    replace hr := hr.kept hK1 hG
    replace hc := (hK1.cell (p := ⟨c, 0, none⟩) hGc).trans hc
    clear hp
    have hq := putAll16_any B G (ys ++ [m]) a cap l u1 hP hr hG hx (by rw [List.length_append, List.length_singleton]; omega)
    go_wp2_with fail
    refine hq.mono ?_
    rintro e u2 ⟨rfl, hP2, hK2⟩
    go_wp2
    go_end0
    exact ⟨rfl, hP2, hK1.trans hK2⟩

set_option maxHeartbeats 1000000 in
set_option maxRecDepth 100000 in
theorem layC_any (B c : Nat) (G : Nat → Prop) (ys : List Nat) (a : Option Addr) (cap : Nat) (l : List Int) (c0 : Nat) (w : World) (h : Pc w B G ⟨ys, [], false⟩) (hr : Ri w a cap l) (hG : ∀ b o, a = some ⟨b, o, none⟩ → G b) (hc : w.cell? ⟨c, 0, none⟩ = some (pg B)) (hGc : G c)
    (hx : (c0 = 0 ∧ ∀ x ∈ l, -128 ≤ x ∧ x ≤ 255) ∨ (c0 = 1 ∧ ∀ x ∈ l, -32768 ≤ x ∧ x ≤ 65535) ∨ c0 = 2) (h1 : 1 ≤ l.length) (hM : l.length ≤ 64) (hl : ys.length + 600 ≤ 1048576) :
    Calls Tryz.prog 155 #[.int .i64 (64 * (c0 : Int)), .slice a l.length cap, pg c] w fun e w' => e = .returned (.tuple #[]) ∧ Pc w' B G ⟨ys ++ [64 * c0 + l.length - 1] ++ l.flatMap (enC c0), [], false⟩ ∧ Keep G w w' := by
  rcases hx with ⟨rfl, hx⟩ | ⟨rfl, hx⟩ | rfl
  · obtain ⟨kk, hkk⟩ : ∃ kk : Int, 64 * ((0 : Nat) : Int) = kk := ⟨_, rfl⟩
    rw [hkk]
    have hkk : kk = 0 := by rw [← hkk]; rfl
    obtain ⟨m, hm⟩ : ∃ m : Nat, 64 * 0 + l.length - 1 = m := ⟨_, rfl⟩
    have hmi : kk + (l.length : Int) - 1 = (m : Int) := by omega
    rw [hm]
    subst hkk
    have hb1 := be1_nat (m := m) (by omega)
    have hp := put8_any B G _ (m : Int) w h ⟨by omega, by omega⟩ (by show ys.length + 4 ≤ _; omega)
    rw [put8A (by omega) (by omega), hb1] at hp
    have HM : Hid (0 + (l.length : Int) - 1 = (m : Int)) := hmi
    have hw1 : (l.length : Int) - 1 = (m : Int) := by omega
    clear h hm hb1 hmi
    go_enter Tryz.func155, Tryz.ntmps155
    go_wp2_with fail
    refine hp.mono ?_
    rintro e u1 ⟨rfl, hP, hK1⟩
    replace hr := hr.kept hK1 hG
    replace hc := (hK1.cell (p := ⟨c, 0, none⟩) hGc).trans hc
    clear hp
    have hq := putAll8_any B G (ys ++ [m]) a cap l u1 hP hr hG hx (by rw [List.length_append, List.length_singleton]; omega)
    go_wp2_with fail
    refine hq.mono ?_
    rintro e u2 ⟨rfl, hP2, hK2⟩
    go_wp2
    go_end0
    exact ⟨rfl, hP2, hK1.trans hK2⟩
  · obtain ⟨kk, hkk⟩ : ∃ kk : Int, 64 * ((1 : Nat) : Int) = kk := ⟨_, rfl⟩
    rw [hkk]
    have hkk : kk = 64 := by rw [← hkk]; rfl
    obtain ⟨m, hm⟩ : ∃ m : Nat, 64 * 1 + l.length - 1 = m := ⟨_, rfl⟩
    have hmi : kk + (l.length : Int) - 1 = (m : Int) := by omega
    rw [hm]
    subst hkk
    have hb1 := be1_nat (m := m) (by omega)
    have hp := put8_any B G _ (m : Int) w h ⟨by omega, by omega⟩ (by show ys.length + 4 ≤ _; omega)
    rw [put8A (by omega) (by omega), hb1] at hp
    have HM : Hid (64 + (l.length : Int) - 1 = (m : Int)) := hmi
    have hw1 : (64 : Int) + (l.length : Int) - 1 = (m : Int) := hmi
    clear h hm hb1 hmi
    go_enter Tryz.func155, Tryz.ntmps155
    go_wp2_with fail
    refine hp.mono ?_
    rintro e u1 ⟨rfl, hP, hK1⟩
    replace hr := hr.kept hK1 hG
    replace hc := (hK1.cell (p := ⟨c, 0, none⟩) hGc).trans hc
    clear hp
    have hq := putAll16_any B G (ys ++ [m]) a cap l u1 hP hr hG hx (by rw [List.length_append, List.length_singleton]; omega)
    go_wp2_with fail
    refine hq.mono ?_
    rintro e u2 ⟨rfl, hP2, hK2⟩
    go_wp2
    go_end0
    exact ⟨rfl, hP2, hK1.trans hK2⟩
  · obtain ⟨kk, hkk⟩ : ∃ kk : Int, 64 * ((2 : Nat) : Int) = kk := ⟨_, rfl⟩
    rw [hkk]
    have hkk : kk = 128 := by rw [← hkk]; rfl
    obtain ⟨m, hm⟩ : ∃ m : Nat, 64 * 2 + l.length - 1 = m := ⟨_, rfl⟩
    have hmi : kk + (l.length : Int) - 1 = (m : Int) := by omega
    rw [hm]
    subst hkk
    have hb1 := be1_nat (m := m) (by omega)
    have hp := put8_any B G _ (m : Int) w h ⟨by omega, by omega⟩ (by show ys.length + 4 ≤ _; omega)
    rw [put8A (by omega) (by omega), hb1] at hp
    have HM : Hid (128 + (l.length : Int) - 1 = (m : Int)) := hmi
    have hw1 : (128 : Int) + (l.length : Int) - 1 = (m : Int) := hmi
    clear h hm hb1 hmi
    go_enter Tryz.func155, Tryz.ntmps155
    go_wp2_with fail
    refine hp.mono ?_
    rintro e u1 ⟨rfl, hP, hK1⟩
    replace hr := hr.kept hK1 hG
    replace hc := (hK1.cell (p := ⟨c, 0, none⟩) hGc).trans hc
    clear hp
    go_wp2
    go_end0
    exact ⟨rfl, by rw [show l.flatMap (enC 2) = [] from List.flatMap_eq_nil_iff.2 (fun x _ => rfl), List.append_nil]; exact hP, hK1⟩

end Go.Proofs.YtngmcghmniakeaaGreat
