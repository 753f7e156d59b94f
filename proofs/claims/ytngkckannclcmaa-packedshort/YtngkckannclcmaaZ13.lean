/-
  packed: putAll (of bytes, of two bytes), putCount, what Points and Changes hand over: the walks.
  Rows of ints that are read, cut.
  packed.eachRun, with what Points and what Changes hand over: the walks.
-/
import Derived.Test.YtngkckannclcmaaZ12
import Derived.Test.YtngkckannclcmaaZ5
import Derived.Deep.CutRange
import Derived.Deep.CutBlock
import Derived.Lib.MinMax
namespace Go.Proofs.Ytngkckannclcmaa
open Go.RowKit Go.Maps
set_option linter.unusedSimpArgs false
set_option linter.unusedVariables false

theorem Ri.kept {G : Nat → Prop} {w w' : World} {a : Option Addr} {cap : Nat} {zs : List Int} (h : Ri w a cap zs) (hk : Keep G w w') (hG : ∀ b o, a = some ⟨b, o, none⟩ → G b) : Ri w' a cap zs := by
  obtain ⟨h1, h2, h3, h4⟩ := h
  refine ⟨h1, h2, h3, ?_⟩
  rcases h4 with h4 | ⟨b, off, e, h5, h6⟩
  · exact .inl h4
  · exact .inr ⟨b, off, e, Nat.lt_of_lt_of_le h5 hk.size, fun i hi => (hk.cell (p := ⟨b, off + i, none⟩) (hG b off e)).trans (h6 i hi)⟩
theorem Ri.get {w : World} {a : Option Addr} {cap : Nat} {zs : List Int} (h : Ri w a cap zs) (k : Nat) (hk : k < zs.length) :
    ∃ b off, a = some ⟨b, off, none⟩ ∧ b < w.heap.size ∧ w.cell? ⟨b, off + k, none⟩ = some (.int .i64 (zs.getD k 0)) := h.at (Below.refl _ _) k hk
theorem put8A {bs : List Nat} {ws : List Int} {n : Int} (h1 : -128 ≤ n) (h2 : n ≤ 255) : (St.mk bs ws false).put8 n = ⟨bs ++ be1 n, ws, false⟩ := by simp [St.put8, h1, h2, St.app]
theorem flat_take {f : Int → List Nat} {l : List Int} {k : Nat} {x : Int} (hk : k < l.length) (hx : l.getD k 0 = x) : (l.take (k + 1)).flatMap f = (l.take k).flatMap f ++ f x := by
  have e : l.take (k + 1) = l.take k ++ [x] := by
    rw [List.take_add_one, List.getElem?_eq_getElem hk, ← hx]
    simp [List.getD, hk]
  rw [e, List.flatMap_append]
  simp
theorem take_len2 {f : Int → List Nat} (h : ∀ x, (f x).length ≤ 2) (l : List Int) (k : Nat) : ((l.take k).flatMap f).length ≤ 2 * l.length := by
  have := flat_len h (l.take k)
  rw [List.length_take] at this
  omega
theorem getD_mem {l : List Int} {k : Nat} (h : k < l.length) : l.getD k 0 ∈ l := by
  rw [List.getD_eq_getElem?_getD, List.getElem?_eq_getElem h]
  exact List.getElem_mem h

set_option maxHeartbeats 1000000 in
set_option maxRecDepth 100000 in
theorem putAll8_any (B : Nat) (G : Nat → Prop) (ys : List Nat) (a : Option Addr) (cap : Nat) (l : List Int) (w : World) (h : Pc w B G ⟨ys, [], false⟩) (hr : Ri w a cap l) (hG : ∀ b o, a = some ⟨b, o, none⟩ → G b) (hx : ∀ x ∈ l, -128 ≤ x ∧ x ≤ 255) (hl : ys.length + 2 * l.length + 4 ≤ 1048576) :
    Calls Try.prog 26 #[.func (.func 25) #[pg B] #[], .slice a l.length cap] w fun e w' => e = .returned (.tuple #[]) ∧ Pc w' B G ⟨ys ++ l.flatMap be1, [], false⟩ ∧ Keep G w w' := by
  have k2 := hr.lenB
  have HR : Hid (Ri w a cap l) := hr
  have HX : Hid (∀ x ∈ l, -128 ≤ x ∧ x ≤ 255) := hx
  have HG : Hid (∀ b o, a = some ⟨b, o, none⟩ → G b) := hG
  clear hr hx hG
  go_enter Try.func26, Try.ntmps26
  go_wp2
  go_loopw [8] (fun i wr => ∃ k : Nat, k ≤ l.length ∧ i = .int .i64 k ∧ Pc wr B G ⟨ys ++ (l.take k).flatMap be1, [], false⟩ ∧ Keep G w wr) (fun i _ => l.length - (intOf i).toNat)
  case atStart => exact ⟨0, Nat.zero_le _, rfl, by simpa using h, Keep.refl _ _⟩
  case round =>
    obtain ⟨k, hk, rfl, hP, hK⟩ := hrel
    by_cases hkn : k < l.length
    rotate_left
    · obtain rfl : k = l.length := by omega
      rw [List.take_length] at hP
      have g1 : ¬ (l.length : Int) < (l.length : Int) := by omega
      go_wp2
      go_end0
      exact ⟨rfl, hP, hK⟩
    obtain ⟨b, off, ea, hb, d0⟩ := (HR.out.kept hK HG.out).get k hkn
    have hx := HX.out _ (getD_mem hkn)
    obtain ⟨x, hx0⟩ : ∃ x, l.getD k 0 = x := ⟨_, rfl⟩
    have HS : Hid (_) := flat_take (f := be1) hkn hx0
    have hle : ((l.take k).flatMap be1).length ≤ 2 * l.length := take_len2 (fun x => by simp [be1]) l k
    rw [hx0] at d0 hx
    subst ea
    clear hx0
    obtain ⟨zs, hzs⟩ : ∃ zs, (l.take k).flatMap be1 = zs := ⟨_, rfl⟩
    rw [hzs] at HS hle hP
    have HT : Hid (ys ++ zs ++ be1 x = ys ++ (l.take (k + 1)).flatMap be1) := by show _ = _; rw [HS.out, List.append_assoc]
    clear hzs HS
    have hp := put8_any B G _ x wr hP ⟨by omega, by omega⟩ (by show (ys ++ zs).length + 4 ≤ _; rw [List.length_append]; omega)
    rw [put8A hx.1 hx.2] at hp
    have i1 : (0 : Int) ≤ (k : Int) := by omega
    have i2 : (k : Int) < (l.length : Int) := by omega
    clear hP hx
    go_wp2_with fail
    refine hp.mono ?_
    rintro e u1 ⟨rfl, hP, hK1⟩
    rw [HT.out] at hP
    replace hK := hK.trans hK1
    clear hp hK1
    go_wp2
    go_roundw
    case rel => exact ⟨k + 1, by omega, by go_num, hP, hK⟩
    case measure => simp [intOf]; omega

set_option maxHeartbeats 1000000 in
set_option maxRecDepth 100000 in
theorem putAll16_any (B : Nat) (G : Nat → Prop) (ys : List Nat) (a : Option Addr) (cap : Nat) (l : List Int) (w : World) (h : Pc w B G ⟨ys, [], false⟩) (hr : Ri w a cap l) (hG : ∀ b o, a = some ⟨b, o, none⟩ → G b) (hx : ∀ x ∈ l, -32768 ≤ x ∧ x ≤ 65535) (hl : ys.length + 2 * l.length + 4 ≤ 1048576) :
    Calls Try.prog 26 #[.func (.func 27) #[pg B] #[], .slice a l.length cap] w fun e w' => e = .returned (.tuple #[]) ∧ Pc w' B G ⟨ys ++ l.flatMap be2, [], false⟩ ∧ Keep G w w' := by
  have k2 := hr.lenB
  have HR : Hid (Ri w a cap l) := hr
  have HX : Hid (∀ x ∈ l, -32768 ≤ x ∧ x ≤ 65535) := hx
  have HG : Hid (∀ b o, a = some ⟨b, o, none⟩ → G b) := hG
  clear hr hx hG
  go_enter Try.func26, Try.ntmps26
  go_wp2
  go_loopw [8] (fun i wr => ∃ k : Nat, k ≤ l.length ∧ i = .int .i64 k ∧ Pc wr B G ⟨ys ++ (l.take k).flatMap be2, [], false⟩ ∧ Keep G w wr) (fun i _ => l.length - (intOf i).toNat)
  case atStart => exact ⟨0, Nat.zero_le _, rfl, by simpa using h, Keep.refl _ _⟩
  case round =>
    obtain ⟨k, hk, rfl, hP, hK⟩ := hrel
    by_cases hkn : k < l.length
    rotate_left
    · obtain rfl : k = l.length := by omega
      rw [List.take_length] at hP
      have g1 : ¬ (l.length : Int) < (l.length : Int) := by omega
      go_wp2
      go_end0
      exact ⟨rfl, hP, hK⟩
    obtain ⟨b, off, ea, hb, d0⟩ := (HR.out.kept hK HG.out).get k hkn
    have hx := HX.out _ (getD_mem hkn)
    obtain ⟨x, hx0⟩ : ∃ x, l.getD k 0 = x := ⟨_, rfl⟩
    have HS : Hid (_) := flat_take (f := be2) hkn hx0
    have hle : ((l.take k).flatMap be2).length ≤ 2 * l.length := take_len2 (fun x => by simp [be2]) l k
    rw [hx0] at d0 hx
    subst ea
    clear hx0
    obtain ⟨zs, hzs⟩ : ∃ zs, (l.take k).flatMap be2 = zs := ⟨_, rfl⟩
    rw [hzs] at HS hle hP
    have HT : Hid (ys ++ zs ++ be2 x = ys ++ (l.take (k + 1)).flatMap be2) := by show _ = _; rw [HS.out, List.append_assoc]
    clear hzs HS
    have hp := put16_any B G _ x wr hP ⟨by omega, by omega⟩ (by show (ys ++ zs).length + 4 ≤ _; rw [List.length_append]; omega)
    rw [put16A hx.1 hx.2] at hp
    have i1 : (0 : Int) ≤ (k : Int) := by omega
    have i2 : (k : Int) < (l.length : Int) := by omega
    clear hP hx
    go_wp2_with fail
    refine hp.mono ?_
    rintro e u1 ⟨rfl, hP, hK1⟩
    rw [HT.out] at hP
    replace hK := hK.trans hK1
    clear hp hK1
    go_wp2
    go_roundw
    case rel => exact ⟨k + 1, by omega, by go_num, hP, hK⟩
    case measure => simp [intOf]; omega

theorem be1_nat {m : Nat} (h : m < 256) : be1 (m : Int) = [m] := by
  unfold be1
  rw [show ((m : Int) % 256).toNat = m by omega]
theorem cnE_eq {n : Nat} (h : n ≤ 2000) : cnE n = if n < 128 then be1 (n : Int) else be2 (32768 + (n : Int)) := by
  unfold cnE
  split
  · rw [be1_nat (by omega)]
  · unfold be2
    rw [show ((32768 + (n : Int)) / 256 % 256).toNat = 128 + n / 256 by omega, show ((32768 + (n : Int)) % 256).toNat = n % 256 by omega]

set_option maxHeartbeats 400000 in
set_option maxRecDepth 100000 in
theorem putCount_any (B : Nat) (G : Nat → Prop) (n : Nat) (w : World) (h : Pc w B G ⟨[], [], false⟩) (hn : n ≤ 2000) :
    Calls Try.prog 20 #[pg B, .int .i64 (n : Int)] w fun e w' => e = .returned (.tuple #[]) ∧ Pc w' B G ⟨cnE n, [], false⟩ ∧ Keep G w w' := by
  have HC : Hid (_) := cnE_eq hn
  by_cases h1 : n < 128
  · rw [if_pos h1] at HC
    have hp := put8_any B G _ (n : Int) w h ⟨by omega, by omega⟩ (by decide)
    rw [put8A (by omega) (by omega), List.nil_append, ← HC.out] at hp
    have g1 : (n : Int) < 128 := by omega
    clear h HC h1
    go_enter Try.func20, Try.ntmps20
    go_wp2_with fail
    refine hp.mono ?_
    rintro e u1 ⟨rfl, hP, hK1⟩
    go_wp2
    (try simp only [Exit.inBlock, Exit.then]); refine bodyPost_ret (results_none rfl _ _ _) rfl ?_
    exact ⟨rfl, hP, hK1⟩
  · rw [if_neg h1] at HC
    have hp := put16_any B G _ (32768 + (n : Int)) w h ⟨by omega, by omega⟩ (by decide)
    rw [put16A (by omega) (by omega), List.nil_append, ← HC.out] at hp
    have g1 : ¬ (n : Int) < 128 := by omega
    clear h HC h1
    go_enter Try.func20, Try.ntmps20
    go_wp2_with fail
    refine hp.mono ?_
    rintro e u1 ⟨rfl, hP, hK1⟩
    go_wp2
    go_end0
    exact ⟨rfl, hP, hK1⟩

set_option maxHeartbeats 1000000 in
set_option maxRecDepth 100000 in
theorem layP_any (B c : Nat) (G : Nat → Prop) (ys : List Nat) (a : Option Addr) (cap : Nat) (l : List Int) (c0 : Nat) (w : World) (h : Pc w B G ⟨ys, [], false⟩) (hr : Ri w a cap l) (hG : ∀ b o, a = some ⟨b, o, none⟩ → G b) (hc : w.cell? ⟨c, 0, none⟩ = some (pg B)) (hGc : G c)
    (hx : (c0 = 0 ∧ ∀ x ∈ l, -128 ≤ x ∧ x ≤ 255) ∨ (c0 = 1 ∧ ∀ x ∈ l, -32768 ≤ x ∧ x ≤ 65535)) (h1 : 1 ≤ l.length) (hM : l.length ≤ 128) (hl : ys.length + 600 ≤ 1048576) :
    Calls Try.prog 24 #[.int .i64 (128 * (c0 : Int)), .slice a l.length cap, pg c] w fun e w' => e = .returned (.tuple #[]) ∧ Pc w' B G ⟨ys ++ [128 * c0 + l.length - 1] ++ l.flatMap (enP c0), [], false⟩ ∧ Keep G w w' := by
  rcases hx with ⟨rfl, hx⟩ | ⟨rfl, hx⟩
  · obtain ⟨kk, hkk⟩ : ∃ kk : Int, 128 * ((0 : Nat) : Int) = kk := ⟨_, rfl⟩
    rw [hkk]
    have hkk : kk = 0 := by rw [← hkk]; rfl
    obtain ⟨m, hm⟩ : ∃ m : Nat, 128 * 0 + l.length - 1 = m := ⟨_, rfl⟩
    have hmi : kk + (l.length : Int) - 1 = (m : Int) := by omega
    rw [hm]
    subst hkk
    have hb1 := be1_nat (m := m) (by omega)
    have hp := put8_any B G _ (m : Int) w h ⟨by omega, by omega⟩ (by show ys.length + 4 ≤ _; omega)
    rw [put8A (by omega) (by omega), hb1] at hp
    have HM : Hid (0 + (l.length : Int) - 1 = (m : Int)) := hmi
    have hw1 : (l.length : Int) - 1 = (m : Int) := by omega
    clear h hm hb1 hmi
    go_enter Try.func24, Try.ntmps24
    go_wp2_with fail
    refine hp.mono ?_
    rintro e u1 ⟨rfl, hP, hK1⟩
    replace hr := hr.kept hK1 hG
    replace hc := (hK1.cell (p := ⟨c, 0, none⟩) hGc).trans hc
    clear hp
    have hq := putAll8_any B G (ys ++ [m]) a cap l u1 hP hr hG hx (by rw [List.length_append, List.length_singleton]; omega)
    go_wp2_with fail
    refine hq.mono ?_
    rintro e u2 ⟨rfl, hP2, hK2⟩
    go_wp2
    go_end0
    exact ⟨rfl, hP2, hK1.trans hK2⟩
  · obtain ⟨kk, hkk⟩ : ∃ kk : Int, 128 * ((1 : Nat) : Int) = kk := ⟨_, rfl⟩
    rw [hkk]
    have hkk : kk = 128 := by rw [← hkk]; rfl
    obtain ⟨m, hm⟩ : ∃ m : Nat, 128 * 1 + l.length - 1 = m := ⟨_, rfl⟩
    have hmi : kk + (l.length : Int) - 1 = (m : Int) := by omega
    rw [hm]
    subst hkk
    have hb1 := be1_nat (m := m) (by omega)
    have hp := put8_any B G _ (m : Int) w h ⟨by omega, by omega⟩ (by show ys.length + 4 ≤ _; omega)
    rw [put8A (by omega) (by omega), hb1] at hp
    have HM : Hid (128 + (l.length : Int) - 1 = (m : Int)) := hmi
    have hw1 : (128 : Int) + (l.length : Int) - 1 = (m : Int) := hmi
    clear h hm hb1 hmi
    go_enter Try.func24, Try.ntmps24
    go_wp2_with fail
    refine hp.mono ?_
    rintro e u1 ⟨rfl, hP, hK1⟩
    replace hr := hr.kept hK1 hG
    replace hc := (hK1.cell (p := ⟨c, 0, none⟩) hGc).trans hc
    clear hp
    have hq := putAll16_any B G (ys ++ [m]) a cap l u1 hP hr hG hx (by rw [List.length_append, List.length_singleton]; omega)
    go_wp2_with fail
    refine hq.mono ?_
    rintro e u2 ⟨rfl, hP2, hK2⟩
    go_wp2
    go_end0
    exact ⟨rfl, hP2, hK1.trans hK2⟩

set_option maxHeartbeats 1000000 in
set_option maxRecDepth 100000 in
theorem layC_any (B c : Nat) (G : Nat → Prop) (ys : List Nat) (a : Option Addr) (cap : Nat) (l : List Int) (c0 : Nat) (w : World) (h : Pc w B G ⟨ys, [], false⟩) (hr : Ri w a cap l) (hG : ∀ b o, a = some ⟨b, o, none⟩ → G b) (hc : w.cell? ⟨c, 0, none⟩ = some (pg B)) (hGc : G c)
    (hx : (c0 = 0 ∧ ∀ x ∈ l, -128 ≤ x ∧ x ≤ 255) ∨ (c0 = 1 ∧ ∀ x ∈ l, -32768 ≤ x ∧ x ≤ 65535) ∨ c0 = 2) (h1 : 1 ≤ l.length) (hM : l.length ≤ 64) (hl : ys.length + 600 ≤ 1048576) :
    Calls Try.prog 40 #[.int .i64 (64 * (c0 : Int)), .slice a l.length cap, pg c] w fun e w' => e = .returned (.tuple #[]) ∧ Pc w' B G ⟨ys ++ [64 * c0 + l.length - 1] ++ l.flatMap (enC c0), [], false⟩ ∧ Keep G w w' := by
  rcases hx with ⟨rfl, hx⟩ | ⟨rfl, hx⟩ | rfl
  · obtain ⟨kk, hkk⟩ : ∃ kk : Int, 64 * ((0 : Nat) : Int) = kk := ⟨_, rfl⟩
    rw [hkk]
    have hkk : kk = 0 := by rw [← hkk]; rfl
    obtain ⟨m, hm⟩ : ∃ m : Nat, 64 * 0 + l.length - 1 = m := ⟨_, rfl⟩
    have hmi : kk + (l.length : Int) - 1 = (m : Int) := by omega
    rw [hm]
    subst hkk
    have hb1 := be1_nat (m := m) (by omega)
    have hp := put8_any B G _ (m : Int) w h ⟨by omega, by omega⟩ (by show ys.length + 4 ≤ _; omega)
    rw [put8A (by omega) (by omega), hb1] at hp
    have HM : Hid (0 + (l.length : Int) - 1 = (m : Int)) := hmi
    have hw1 : (l.length : Int) - 1 = (m : Int) := by omega
    clear h hm hb1 hmi
    go_enter Try.func40, Try.ntmps40
    go_wp2_with fail
    refine hp.mono ?_
    rintro e u1 ⟨rfl, hP, hK1⟩
    replace hr := hr.kept hK1 hG
    replace hc := (hK1.cell (p := ⟨c, 0, none⟩) hGc).trans hc
    clear hp
    have hq := putAll8_any B G (ys ++ [m]) a cap l u1 hP hr hG hx (by rw [List.length_append, List.length_singleton]; omega)
    go_wp2_with fail
    refine hq.mono ?_
    rintro e u2 ⟨rfl, hP2, hK2⟩
    go_wp2
    go_end0
    exact ⟨rfl, hP2, hK1.trans hK2⟩
  · obtain ⟨kk, hkk⟩ : ∃ kk : Int, 64 * ((1 : Nat) : Int) = kk := ⟨_, rfl⟩
    rw [hkk]
    have hkk : kk = 64 := by rw [← hkk]; rfl
    obtain ⟨m, hm⟩ : ∃ m : Nat, 64 * 1 + l.length - 1 = m := ⟨_, rfl⟩
    have hmi : kk + (l.length : Int) - 1 = (m : Int) := by omega
    rw [hm]
    subst hkk
    have hb1 := be1_nat (m := m) (by omega)
    have hp := put8_any B G _ (m : Int) w h ⟨by omega, by omega⟩ (by show ys.length + 4 ≤ _; omega)
    rw [put8A (by omega) (by omega), hb1] at hp
    have HM : Hid (64 + (l.length : Int) - 1 = (m : Int)) := hmi
    have hw1 : (64 : Int) + (l.length : Int) - 1 = (m : Int) := hmi
    clear h hm hb1 hmi
    go_enter Try.func40, Try.ntmps40
    go_wp2_with fail
    refine hp.mono ?_
    rintro e u1 ⟨rfl, hP, hK1⟩
    replace hr := hr.kept hK1 hG
    replace hc := (hK1.cell (p := ⟨c, 0, none⟩) hGc).trans hc
    clear hp
    have hq := putAll16_any B G (ys ++ [m]) a cap l u1 hP hr hG hx (by rw [List.length_append, List.length_singleton]; omega)
    go_wp2_with fail
    refine hq.mono ?_
    rintro e u2 ⟨rfl, hP2, hK2⟩
    go_wp2
    go_end0
    exact ⟨rfl, hP2, hK1.trans hK2⟩
  · obtain ⟨kk, hkk⟩ : ∃ kk : Int, 64 * ((2 : Nat) : Int) = kk := ⟨_, rfl⟩
    rw [hkk]
    have hkk : kk = 128 := by rw [← hkk]; rfl
    obtain ⟨m, hm⟩ : ∃ m : Nat, 64 * 2 + l.length - 1 = m := ⟨_, rfl⟩
    have hmi : kk + (l.length : Int) - 1 = (m : Int) := by omega
    rw [hm]
    subst hkk
    have hb1 := be1_nat (m := m) (by omega)
    have hp := put8_any B G _ (m : Int) w h ⟨by omega, by omega⟩ (by show ys.length + 4 ≤ _; omega)
    rw [put8A (by omega) (by omega), hb1] at hp
    have HM : Hid (128 + (l.length : Int) - 1 = (m : Int)) := hmi
    have hw1 : (128 : Int) + (l.length : Int) - 1 = (m : Int) := hmi
    clear h hm hb1 hmi
    go_enter Try.func40, Try.ntmps40
    go_wp2_with fail
    refine hp.mono ?_
    rintro e u1 ⟨rfl, hP, hK1⟩
    replace hr := hr.kept hK1 hG
    replace hc := (hK1.cell (p := ⟨c, 0, none⟩) hGc).trans hc
    clear hp
    go_wp2
    go_end0
    exact ⟨rfl, by rw [show l.flatMap (enC 2) = [] from List.flatMap_eq_nil_iff.2 (fun x _ => rfl), List.append_nil]; exact hP, hK1⟩

end Go.Proofs.Ytngkckannclcmaa

namespace Go.Proofs.Ytngkckannclcmaa
open Go.RowKit Go.Maps
set_option linter.unusedSimpArgs false
set_option linter.unusedVariables false

/-- Numbers, cut. -/
theorem Ri.take {w : World} {a : Option Addr} {cap : Nat} {zs : List Int} (h : Ri w a cap zs) (n : Nat) : Ri w a cap (zs.take n) := by
  refine ⟨fun z hz => h.1 z (List.mem_of_mem_take hz), Nat.le_trans (by simp; omega) h.2.1, h.2.2.1, ?_⟩
  rcases h.2.2.2 with h4 | ⟨b, off, e, h5, h6⟩
  · exact .inl (by rw [h4]; simp)
  · refine .inr ⟨b, off, e, h5, fun i hi => ?_⟩
    have hi' : i < n ∧ i < zs.length := by simp at hi; omega
    rw [h6 i hi'.2]
    simp [List.getD, List.getElem?_take, hi'.1]
theorem Ri.drop {w : World} {b off cap : Nat} {zs : List Int} (h : Ri w (some ⟨b, off, none⟩) cap zs) (n : Nat) (hn : n ≤ zs.length) : Ri w (some ⟨b, off + n, none⟩) (cap - n) (zs.drop n) := by
  refine ⟨fun z hz => h.1 z (List.mem_of_mem_drop hz), ?_, Nat.le_trans (Nat.sub_le _ _) h.2.2.1, ?_⟩
  · have := h.2.1
    simp
    omega
  · rcases h.2.2.2 with h4 | ⟨b', off', e, h5, h6⟩
    · exact .inl (by rw [h4]; simp)
    · cases e
      refine .inr ⟨b, off + n, rfl, h5, fun i hi => ?_⟩
      have hi' : n + i < zs.length := by simp at hi; omega
      rw [Nat.add_assoc, h6 (n + i) hi']
      simp [List.getD]
/-- Numbers, cut at both ends. -/
theorem Ri.from {w : World} {a : Option Addr} {cap : Nat} {zs : List Int} (h : Ri w a cap zs) (n : Nat) (hn : n ≤ zs.length) : Ri w (if cap = n then a else a.map (fun x => x.add n)) (cap - n) (zs.drop n) := by
  by_cases h0 : n < zs.length
  · rcases h.2.2.2 with h4 | ⟨b, off, rfl, h5, h6⟩
    · rw [h4] at h0; simp at h0
    · have := h.2.1
      rw [if_neg (by omega)]
      have hadd : (⟨b, off, none⟩ : Addr).add n = ⟨b, off + n, none⟩ := by unfold Addr.add; split <;> simp_all
      show Ri w (some ((⟨b, off, none⟩ : Addr).add n)) _ _
      rw [hadd]
      exact h.drop n hn
  · have e : zs.drop n = [] := List.drop_eq_nil_of_le (by omega)
    rw [e]
    exact Ri.nil _ _ _ (Nat.le_trans (Nat.sub_le _ _) h.2.2.1)

end Go.Proofs.Ytngkckannclcmaa

namespace Go.Proofs.Ytngkckannclcmaa
open Go.RowKit Go.Maps
set_option linter.unusedSimpArgs false
set_option linter.unusedVariables false

/-- How long a slice is. -/
def slLen : Value → Nat
  | .slice _ n _ => n
  | _ => 0
theorem layP_fit {m : List Int} {k c0 : Nat} (hx : ∀ x ∈ m, DP x) (hr : rn PP.c PP.M m = k) (hc : kdP (m.getD 0 0) = c0) : (c0 = 0 ∧ ∀ x ∈ m.take k, -128 ≤ x ∧ x ≤ 255) ∨ (c0 = 1 ∧ ∀ x ∈ m.take k, -32768 ≤ x ∧ x ≤ 65535) := by
  have hk := run_kinds (P := PP) (l := m)
  rw [hr] at hk
  have hk' : ∀ x ∈ m.take k, kdP x = c0 := fun x h => (hk x h).trans hc
  rcases kdP_cases (m.getD 0 0) with ⟨_, h⟩ | ⟨_, h⟩
  · refine .inr ⟨by omega, fun x h1 => ?_⟩
    have := hx x (List.mem_of_mem_take h1)
    unfold DP at this
    omega
  · refine .inl ⟨by omega, fun x h1 => ?_⟩
    have h2 := hx x (List.mem_of_mem_take h1)
    have h3 := hk' x h1
    unfold DP at h2
    rcases kdP_cases x with h4 | h4 <;> omega
theorem layC_fit {m : List Int} {k c0 : Nat} (hx : ∀ x ∈ m, DC x) (hr : rn PC.c PC.M m = k) (hc : kdC (m.getD 0 0) = c0) : (c0 = 0 ∧ ∀ x ∈ m.take k, -128 ≤ x ∧ x ≤ 255) ∨ (c0 = 1 ∧ ∀ x ∈ m.take k, -32768 ≤ x ∧ x ≤ 65535) ∨ c0 = 2 := by
  have hk := run_kinds (P := PC) (l := m)
  rw [hr] at hk
  have hk' : ∀ x ∈ m.take k, kdC x = c0 := fun x h => (hk x h).trans hc
  rcases kdC_cases (m.getD 0 0) with ⟨_, h⟩ | ⟨_, _, h⟩ | ⟨_, _, h⟩
  · exact .inr (.inr (by omega))
  · refine .inr (.inl ⟨by omega, fun x h1 => ?_⟩)
    have := hx x (List.mem_of_mem_take h1)
    unfold DC at this
    omega
  · refine .inl ⟨by omega, fun x h1 => ?_⟩
    have h3 := hk' x h1
    rcases kdC_cases x with h4 | h4 | h4 <;> omega
set_option maxHeartbeats 2000000 in
set_option maxRecDepth 100000 in
theorem eachP_any (B c : Nat) (G : Nat → Prop) (ys : List Nat) (a : Option Addr) (cap : Nat) (l : List Int) (w : World) (h : Pc w B G ⟨ys, [], false⟩) (hr : Ri w a cap l) (hG : ∀ b o, a = some ⟨b, o, none⟩ → G b) (hc : w.cell? ⟨c, 0, none⟩ = some (pg B)) (hGc : G c)
    (hx : ∀ x ∈ l, DP x) (hl2 : l.length ≤ 2000) (hl : (ys ++ pk PP l).length ≤ 20000) :
    Calls Try.prog 21 #[.slice a l.length cap, .int .i64 128, .func (.func 23) #[] #[], .func (.func 24) #[] #[pg c]] w fun e w' => e = .returned (.tuple #[]) ∧ Pc w' B G ⟨ys ++ pk PP l, [], false⟩ ∧ Keep G w w' := by
  obtain ⟨tot, htot⟩ : ∃ t, ys ++ pk PP l = t := ⟨_, rfl⟩
  rw [htot] at hl ⊢
  have HC : Hid (w.cell? ⟨c, 0, none⟩ = some (pg B)) := hc
  have HGc : Hid (G c) := hGc
  have HTOT : Hid (ys ++ pk PP l = tot) := htot
  clear hc hGc htot
  go_enter Try.func21, Try.ntmps21
  go_wp2
  go_loopw [0] (fun v wr => ∃ (m : List Int) (a' : Option Addr) (cap' : Nat) (zs : List Nat), v = .slice a' m.length cap' ∧ Ri wr a' cap' m ∧ (∀ b o, a' = some ⟨b, o, none⟩ → G b) ∧ zs ++ pk PP m = tot ∧ (∀ x ∈ m, DP x) ∧ m.length ≤ 2000 ∧ Pc wr B G ⟨zs, [], false⟩ ∧ Keep G w wr) (fun v _ => slLen v)
  case atStart => exact ⟨l, a, cap, ys, rfl, hr, hG, HTOT.out, hx, hl2, h, Keep.refl _ _⟩
  case round =>
    clear h hr hG hx hl2 HTOT
    obtain ⟨m, a', cap', zs, rfl, hr, hG, ht, hx, hl2, hP, hK⟩ := hrel
    have HT : Hid (zs ++ pk PP m = tot) := ht
    have hzl : zs.length ≤ 20000 := by rw [← ht, List.length_append] at hl; omega
    have HX : Hid (∀ x ∈ m, DP x) := hx
    have HG : Hid (∀ b o, a' = some ⟨b, o, none⟩ → G b) := hG
    have HR : Hid (Ri wr a' cap' m) := hr
    have hcp := hr.2.1
    have hcm := hr.2.2.1
    unfold maxLen at hcm
    clear ht hx hG hr
    by_cases hm0 : 0 < m.length
    rotate_left
    · obtain rfl : m = [] := List.length_eq_zero_iff.1 (by omega)
      have HZ : Hid (zs = tot) := by show _ = _; rw [← HT.out, pk_nil, List.append_nil]
      rw [HZ.out] at hP
      clear HT HX HG HR HZ hzl hm0 hl2 hcp
      go_wp2
      go_end0
      exact ⟨rfl, hP, hK⟩
    obtain ⟨b, off, ea, hb, d0⟩ := HR.out.get 0 hm0
    obtain ⟨x0, hx0⟩ : ∃ x, m.getD 0 0 = x := ⟨_, rfl⟩
    rw [hx0, Nat.add_zero] at d0
    have hk0 := ckdP_any x0 wr
    obtain ⟨c0, hc0⟩ : ∃ k, kdP x0 = k := ⟨_, rfl⟩
    obtain ⟨cz, hcz⟩ : ∃ z : Int, 128 * (c0 : Int) = z := ⟨_, rfl⟩
    rw [hc0, hcz] at hk0
    have HCZ : Hid (128 * (c0 : Int) = cz) := hcz
    have HK0 : Hid (kdP (m.getD 0 0) = c0) := by show _ = _; rw [hx0]; exact hc0
    have hc3 : c0 ≤ 2 := by rw [← hc0]; rcases kdP_cases x0 with h | h <;> omega
    subst ea
    clear hx0 hc0 hcz
    have g0 : (0 : Int) < (m.length : Int) := by omega
    go_wp2_with fail
    refine hk0.mono ?_
    rintro e u ⟨rfl, rfl⟩
    clear hk0 d0
    obtain ⟨wo, rfl⟩ : ∃ wo, wo = wr := ⟨_, rfl⟩
    go_upto_block 2 with fail
    go_cut [9] from 18 to 35 (fun s9 wx => ∃ k : Nat, s9 = .int .i64 (k : Int) ∧ rn PP.c PP.M m = k ∧ 1 ≤ k ∧ k ≤ m.length ∧ k ≤ 128 ∧ wo = wx)
    case first =>
      go_wp2_with fail
      go_loopw [9] (fun s9 wr => ∃ k : Nat, 1 ≤ k ∧ k ≤ m.length ∧ k ≤ 128 ∧ s9 = .int .i64 (k : Int) ∧ (∀ j, j < k → kdP (m.getD j 0) = c0) ∧ wo = wr) (fun s9 _ => m.length - (intOf s9).toNat)
      case atStart => exact ⟨1, Nat.le_refl _, by omega, by omega, rfl, (fun j hj => by rw [show j = 0 by omega]; exact HK0.out), rfl⟩
      case round =>
        obtain ⟨k, hk1, hk2, hkM, rfl, hsm, rfl⟩ := hrel
        have HSM : Hid (∀ j, j < k → kdP (m.getD j 0) = c0) := hsm
        clear hsm
        obtain ⟨mn, hmn⟩ : ∃ n : Nat, min (m.length : Int) 128 = (n : Int) := ⟨min m.length 128, by omega⟩
        have hmn2 : (mn = m.length ∧ m.length ≤ 128) ∨ (mn = 128 ∧ 128 ≤ m.length) := by omega
        by_cases h1 : k < mn
        rotate_left
        · have HRN : Hid (rn PP.c PP.M m = k) := rn_eq (c := kdP) (M := 128) hk1 hkM hk2 (fun j hj => (HSM.out j hj).trans HK0.out.symm) (by omega)
          have g1 : decide (k < mn) = false := decide_eq_false h1
          clear HSM h1 hmn2
          go_wp2
          go_meet
          exact ⟨k, rfl, HRN.out, hk1, hk2, hkM, rfl⟩
        obtain ⟨b', off', ea', hb', d1⟩ := HR.out.get k (by omega)
        obtain ⟨x, hxk⟩ : ∃ x, m.getD k 0 = x := ⟨_, rfl⟩
        rw [hxk] at d1
        have hk1' := ckdP_any x wo
        have g1 : decide (k < mn) = true := decide_eq_true h1
        have i1 : (0 : Int) ≤ (k : Int) := by omega
        have i2 : (k : Int) < (m.length : Int) := by omega
        cases ea'
        by_cases h2 : kdP x = c0
        · have HSM2 : Hid (∀ j, j < k + 1 → kdP (m.getD j 0) = c0) := fun j hj => by
            rcases Nat.lt_or_ge j k with h3 | h3
            · exact HSM.out j h3
            · rw [show j = k by omega, hxk]; exact h2
          rw [h2, HCZ.out] at hk1'
          have g2 : (cz == cz) = true := by simp
          clear HSM hxk h2
          go_wp2_with fail
          refine hk1'.mono ?_
          rintro e u ⟨rfl, rfl⟩
          clear hk1'
          go_wp2
          go_roundw
          case rel => exact ⟨k + 1, by omega, by omega, by omega, by go_num, HSM2.out, trivial⟩
          case measure => simp [intOf]; omega
        · have HRN : Hid (rn PP.c PP.M m = k) := rn_eq (c := kdP) (M := 128) hk1 hkM hk2 (fun j hj => (HSM.out j hj).trans HK0.out.symm) (.inr (.inr (by rw [hxk, HK0.out]; exact h2)))
          obtain ⟨cx, hcx⟩ : ∃ z : Int, 128 * ((kdP x : Nat) : Int) = z := ⟨_, rfl⟩
          have g2 : (cx == cz) = false := beq_eq_false_iff_ne.2 (by have := HCZ.out; omega)
          rw [hcx] at hk1'
          clear HSM hxk h2 hcx
          go_wp2_with fail
          refine hk1'.mono ?_
          rintro e u ⟨rfl, rfl⟩
          clear hk1'
          go_wp2
          go_meet
          exact ⟨k, rfl, HRN.out, hk1, hk2, hkM, rfl⟩
    case rest =>
      obtain ⟨k, rfl, hrn, hk1, hk2, hkM, rfl⟩ := hcut
      have hkl : (m.take k).length = k := by rw [List.length_take]; omega
      have hlay := layP_any B c G zs (some ⟨b, off, none⟩) cap' (m.take k) c0 wo hP (HR.out.take k) HG.out ((hK.cell (p := ⟨c, 0, none⟩) HGc.out).trans HC.out) HGc.out (layP_fit HX.out hrn HK0.out) (by omega) (by omega) (by omega)
      rw [hkl, HCZ.out] at hlay
      have HT2 : Hid (zs ++ [128 * c0 + k - 1] ++ (m.take k).flatMap (enP c0) ++ pk PP (m.drop k) = tot) := by
        show _ = _
        have := pk_step (P := PP) (by decide) (l := m) (i := 0) (e := k) (c0 := c0) (h := 128 * c0 + k - 1) (ys := zs) (tot := tot) hm0 (by rw [List.drop_zero]; exact hrn) (by omega) HK0.out (by show _ = 128 * c0 + (k - 0) - 1; omega) (by rw [List.drop_zero]; exact HT.out)
        rw [List.drop_zero] at this
        exact this
      have HX2 : Hid (∀ x ∈ m.drop k, DP x) := fun x hx => HX.out x (List.mem_of_mem_drop hx)
      have hadd : (some ⟨b, off, none⟩ : Option Addr).map (fun x => x.add k) = some ⟨b, off + k, none⟩ := by show some (Addr.add _ k) = _; rw [show (⟨b, off, none⟩ : Addr).add k = ⟨b, off + k, none⟩ by unfold Addr.add; split <;> simp_all]
      have hrd := HR.out.from k hk2
      rw [hadd] at hrd
      have HRD : Hid (Ri wo (if cap' = k then some ⟨b, off, none⟩ else some ⟨b, off + k, none⟩) (cap' - k) (m.drop k)) := hrd
      have hdl : (m.drop k).length = m.length - k := List.length_drop
      have HGF : Hid (∀ b1 o, (if cap' = k then some ⟨b, off, none⟩ else some ⟨b, off + k, none⟩ : Option Addr) = some ⟨b1, o, none⟩ → G b1) := fun b1 o e => by
        split at e <;> (cases e; exact HG.out b off rfl)
      clear hadd hrd
      clear hrn hkl HT HX HK0 HR
      go_wp2_with fail
      refine hlay.mono ?_
      rintro e u1 ⟨rfl, hP2, hK2⟩
      have HRD2 : Hid (Ri u1 (if cap' = k then some ⟨b, off, none⟩ else some ⟨b, off + k, none⟩) (cap' - k) (m.drop k)) := HRD.out.kept hK2 HGF.out
      replace hK := hK.trans hK2
      clear hlay hP hK2 HRD
      go_wp2
      go_roundw
      case rel => exact ⟨m.drop k, _, _, _, by rw [hdl], HRD2.out, HGF.out, HT2.out, HX2.out, by omega, hP2, hK⟩
      case measure => show m.length - k < m.length; omega

set_option maxHeartbeats 2000000 in
set_option maxRecDepth 100000 in
theorem eachC_any (B c : Nat) (G : Nat → Prop) (ys : List Nat) (a : Option Addr) (cap : Nat) (l : List Int) (w : World) (h : Pc w B G ⟨ys, [], false⟩) (hr : Ri w a cap l) (hG : ∀ b o, a = some ⟨b, o, none⟩ → G b) (hc : w.cell? ⟨c, 0, none⟩ = some (pg B)) (hGc : G c)
    (hx : ∀ x ∈ l, DC x) (hl2 : l.length ≤ 2000) (hl : (ys ++ pk PC l).length ≤ 20000) :
    Calls Try.prog 21 #[.slice a l.length cap, .int .i64 64, .func (.func 39) #[] #[], .func (.func 40) #[] #[pg c]] w fun e w' => e = .returned (.tuple #[]) ∧ Pc w' B G ⟨ys ++ pk PC l, [], false⟩ ∧ Keep G w w' := by
  obtain ⟨tot, htot⟩ : ∃ t, ys ++ pk PC l = t := ⟨_, rfl⟩
  rw [htot] at hl ⊢
  have HC : Hid (w.cell? ⟨c, 0, none⟩ = some (pg B)) := hc
  have HGc : Hid (G c) := hGc
  have HTOT : Hid (ys ++ pk PC l = tot) := htot
  clear hc hGc htot
  go_enter Try.func21, Try.ntmps21
  go_wp2
  go_loopw [0] (fun v wr => ∃ (m : List Int) (a' : Option Addr) (cap' : Nat) (zs : List Nat), v = .slice a' m.length cap' ∧ Ri wr a' cap' m ∧ (∀ b o, a' = some ⟨b, o, none⟩ → G b) ∧ zs ++ pk PC m = tot ∧ (∀ x ∈ m, DC x) ∧ m.length ≤ 2000 ∧ Pc wr B G ⟨zs, [], false⟩ ∧ Keep G w wr) (fun v _ => slLen v)
  case atStart => exact ⟨l, a, cap, ys, rfl, hr, hG, HTOT.out, hx, hl2, h, Keep.refl _ _⟩
  case round =>
    clear h hr hG hx hl2 HTOT
    obtain ⟨m, a', cap', zs, rfl, hr, hG, ht, hx, hl2, hP, hK⟩ := hrel
    have HT : Hid (zs ++ pk PC m = tot) := ht
    have hzl : zs.length ≤ 20000 := by rw [← ht, List.length_append] at hl; omega
    have HX : Hid (∀ x ∈ m, DC x) := hx
    have HG : Hid (∀ b o, a' = some ⟨b, o, none⟩ → G b) := hG
    have HR : Hid (Ri wr a' cap' m) := hr
    have hcp := hr.2.1
    have hcm := hr.2.2.1
    unfold maxLen at hcm
    clear ht hx hG hr
    by_cases hm0 : 0 < m.length
    rotate_left
    · obtain rfl : m = [] := List.length_eq_zero_iff.1 (by omega)
      have HZ : Hid (zs = tot) := by show _ = _; rw [← HT.out, pk_nil, List.append_nil]
      rw [HZ.out] at hP
      clear HT HX HG HR HZ hzl hm0 hl2 hcp
      go_wp2
      go_end0
      exact ⟨rfl, hP, hK⟩
    obtain ⟨b, off, ea, hb, d0⟩ := HR.out.get 0 hm0
    obtain ⟨x0, hx0⟩ : ∃ x, m.getD 0 0 = x := ⟨_, rfl⟩
    rw [hx0, Nat.add_zero] at d0
    have hk0 := ckdC_any x0 wr
    obtain ⟨c0, hc0⟩ : ∃ k, kdC x0 = k := ⟨_, rfl⟩
    obtain ⟨cz, hcz⟩ : ∃ z : Int, 64 * (c0 : Int) = z := ⟨_, rfl⟩
    rw [hc0, hcz] at hk0
    have HCZ : Hid (64 * (c0 : Int) = cz) := hcz
    have HK0 : Hid (kdC (m.getD 0 0) = c0) := by show _ = _; rw [hx0]; exact hc0
    have hc3 : c0 ≤ 2 := by rw [← hc0]; rcases kdC_cases x0 with h | h | h <;> omega
    subst ea
    clear hx0 hc0 hcz
    have g0 : (0 : Int) < (m.length : Int) := by omega
    go_wp2_with fail
    refine hk0.mono ?_
    rintro e u ⟨rfl, rfl⟩
    clear hk0 d0
    obtain ⟨wo, rfl⟩ : ∃ wo, wo = wr := ⟨_, rfl⟩
    go_upto_block 2 with fail
    go_cut [9] from 18 to 35 (fun s9 wx => ∃ k : Nat, s9 = .int .i64 (k : Int) ∧ rn PC.c PC.M m = k ∧ 1 ≤ k ∧ k ≤ m.length ∧ k ≤ 64 ∧ wo = wx)
    case first =>
      go_wp2_with fail
      go_loopw [9] (fun s9 wr => ∃ k : Nat, 1 ≤ k ∧ k ≤ m.length ∧ k ≤ 64 ∧ s9 = .int .i64 (k : Int) ∧ (∀ j, j < k → kdC (m.getD j 0) = c0) ∧ wo = wr) (fun s9 _ => m.length - (intOf s9).toNat)
      case atStart => exact ⟨1, Nat.le_refl _, by omega, by omega, rfl, (fun j hj => by rw [show j = 0 by omega]; exact HK0.out), rfl⟩
      case round =>
        obtain ⟨k, hk1, hk2, hkM, rfl, hsm, rfl⟩ := hrel
        have HSM : Hid (∀ j, j < k → kdC (m.getD j 0) = c0) := hsm
        clear hsm
        obtain ⟨mn, hmn⟩ : ∃ n : Nat, min (m.length : Int) 64 = (n : Int) := ⟨min m.length 64, by omega⟩
        have hmn2 : (mn = m.length ∧ m.length ≤ 64) ∨ (mn = 64 ∧ 64 ≤ m.length) := by omega
        by_cases h1 : k < mn
        rotate_left
        · have HRN : Hid (rn PC.c PC.M m = k) := rn_eq (c := kdC) (M := 64) hk1 hkM hk2 (fun j hj => (HSM.out j hj).trans HK0.out.symm) (by omega)
          have g1 : decide (k < mn) = false := decide_eq_false h1
          clear HSM h1 hmn2
          go_wp2
          go_meet
          exact ⟨k, rfl, HRN.out, hk1, hk2, hkM, rfl⟩
        obtain ⟨b', off', ea', hb', d1⟩ := HR.out.get k (by omega)
        obtain ⟨x, hxk⟩ : ∃ x, m.getD k 0 = x := ⟨_, rfl⟩
        rw [hxk] at d1
        have hk1' := ckdC_any x wo
        have g1 : decide (k < mn) = true := decide_eq_true h1
        have i1 : (0 : Int) ≤ (k : Int) := by omega
        have i2 : (k : Int) < (m.length : Int) := by omega
        cases ea'
        by_cases h2 : kdC x = c0
        · have HSM2 : Hid (∀ j, j < k + 1 → kdC (m.getD j 0) = c0) := fun j hj => by
            rcases Nat.lt_or_ge j k with h3 | h3
            · exact HSM.out j h3
            · rw [show j = k by omega, hxk]; exact h2
          rw [h2, HCZ.out] at hk1'
          have g2 : (cz == cz) = true := by simp
          clear HSM hxk h2
          go_wp2_with fail
          refine hk1'.mono ?_
          rintro e u ⟨rfl, rfl⟩
          clear hk1'
          go_wp2
          go_roundw
          case rel => exact ⟨k + 1, by omega, by omega, by omega, by go_num, HSM2.out, trivial⟩
          case measure => simp [intOf]; omega
        · have HRN : Hid (rn PC.c PC.M m = k) := rn_eq (c := kdC) (M := 64) hk1 hkM hk2 (fun j hj => (HSM.out j hj).trans HK0.out.symm) (.inr (.inr (by rw [hxk, HK0.out]; exact h2)))
          obtain ⟨cx, hcx⟩ : ∃ z : Int, 64 * ((kdC x : Nat) : Int) = z := ⟨_, rfl⟩
          have g2 : (cx == cz) = false := beq_eq_false_iff_ne.2 (by have := HCZ.out; omega)
          rw [hcx] at hk1'
          clear HSM hxk h2 hcx
          go_wp2_with fail
          refine hk1'.mono ?_
          rintro e u ⟨rfl, rfl⟩
          clear hk1'
          go_wp2
          go_meet
          exact ⟨k, rfl, HRN.out, hk1, hk2, hkM, rfl⟩
    case rest =>
      obtain ⟨k, rfl, hrn, hk1, hk2, hkM, rfl⟩ := hcut
      have hkl : (m.take k).length = k := by rw [List.length_take]; omega
      have hlay := layC_any B c G zs (some ⟨b, off, none⟩) cap' (m.take k) c0 wo hP (HR.out.take k) HG.out ((hK.cell (p := ⟨c, 0, none⟩) HGc.out).trans HC.out) HGc.out (layC_fit HX.out hrn HK0.out) (by omega) (by omega) (by omega)
      rw [hkl, HCZ.out] at hlay
      have HT2 : Hid (zs ++ [64 * c0 + k - 1] ++ (m.take k).flatMap (enC c0) ++ pk PC (m.drop k) = tot) := by
        show _ = _
        have := pk_step (P := PC) (by decide) (l := m) (i := 0) (e := k) (c0 := c0) (h := 64 * c0 + k - 1) (ys := zs) (tot := tot) hm0 (by rw [List.drop_zero]; exact hrn) (by omega) HK0.out (by show _ = 64 * c0 + (k - 0) - 1; omega) (by rw [List.drop_zero]; exact HT.out)
        rw [List.drop_zero] at this
        exact this
      have HX2 : Hid (∀ x ∈ m.drop k, DC x) := fun x hx => HX.out x (List.mem_of_mem_drop hx)
      have hadd : (some ⟨b, off, none⟩ : Option Addr).map (fun x => x.add k) = some ⟨b, off + k, none⟩ := by show some (Addr.add _ k) = _; rw [show (⟨b, off, none⟩ : Addr).add k = ⟨b, off + k, none⟩ by unfold Addr.add; split <;> simp_all]
      have hrd := HR.out.from k hk2
      rw [hadd] at hrd
      have HRD : Hid (Ri wo (if cap' = k then some ⟨b, off, none⟩ else some ⟨b, off + k, none⟩) (cap' - k) (m.drop k)) := hrd
      have hdl : (m.drop k).length = m.length - k := List.length_drop
      have HGF : Hid (∀ b1 o, (if cap' = k then some ⟨b, off, none⟩ else some ⟨b, off + k, none⟩ : Option Addr) = some ⟨b1, o, none⟩ → G b1) := fun b1 o e => by
        split at e <;> (cases e; exact HG.out b off rfl)
      clear hadd hrd
      clear hrn hkl HT HX HK0 HR
      go_wp2_with fail
      refine hlay.mono ?_
      rintro e u1 ⟨rfl, hP2, hK2⟩
      have HRD2 : Hid (Ri u1 (if cap' = k then some ⟨b, off, none⟩ else some ⟨b, off + k, none⟩) (cap' - k) (m.drop k)) := HRD.out.kept hK2 HGF.out
      replace hK := hK.trans hK2
      clear hlay hP hK2 HRD
      go_wp2
      go_roundw
      case rel => exact ⟨m.drop k, _, _, _, by rw [hdl], HRD2.out, HGF.out, HT2.out, HX2.out, by omega, hP2, hK⟩
      case measure => show m.length - k < m.length; omega


end Go.Proofs.Ytngkckannclcmaa
