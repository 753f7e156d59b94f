/-
  foundryref11.ReadPoints: the walk.
  packed.ReadPoints, packed.ReadChanges: the walks; what the laws of layer 11 ask of the code (CodP).
-/
import Derived.Test.YtngmcghmniakeaaGreatZB38
import Derived.Test.YtngmcghmniakeaaGreatZB39
import Derived.Test.YtngmcghmniakeaaGreatZB37
namespace Go.Proofs.YtngmcghmniakeaaGreat
open Go.RowKit Go.Maps
set_option linter.unusedSimpArgs false
set_option linter.unusedVariables false
theorem rp_none {b : List Nat} (h : rpO b = none) : rpL b = [] ∧ rpN b = 0 ∧ rpE b = 2 := by unfold rpL rpN rpE; rw [h]; exact ⟨rfl, rfl, rfl⟩
theorem ptN_le {b : List Nat} (hb : Byt b) : ptN b ≤ 32767 := by
  have h0 := nmV_lt hb 0 1
  have h1 := nmV_lt hb 1 1
  unfold ptN
  split <;> omega

end Go.Proofs.YtngmcghmniakeaaGreat

namespace Go.Proofs.YtngmcghmniakeaaGreat
open Go.RowKit Go.Maps
set_option linter.unusedSimpArgs false
set_option linter.unusedVariables false

theorem runV_P {b : List Nat} (hB : Byt b) (kd p k : Nat) : ∀ z ∈ runV RPt b kd p k, 0 ≤ z ∧ z ≤ 65535 := by
  intro z hz
  unfold runV at hz
  obtain ⟨i, _, rfl⟩ := List.mem_map.1 hz
  show 0 ≤ vlP b kd _ ∧ vlP b kd _ ≤ 65535
  unfold vlP
  have h1 := nmV_lt hB (((p + i * RPt.sz kd : Nat) : Int)) 1
  have h2 := nmV_lt hB (((p + i * RPt.sz kd : Nat) : Int)) 2
  simp only [Nat.pow_one, Nat.reducePow] at h1 h2
  split <;> omega
theorem rdF_P {b : List Nat} (hB : Byt b) : ∀ (f p n : Nat) (l : List Int) (e : Nat), rdF RPt b f p n = some (l, e) → ∀ z ∈ l, 0 ≤ z ∧ z ≤ 65535 := by
  intro f
  induction f with
  | zero =>
    intro p n l e h
    cases n with
    | zero => rw [rdF_zero] at h; cases h; intro z hz; cases hz
    | succ n => cases h
  | succ f ih =>
    intro p n l e h
    cases n with
    | zero => rw [rdF_zero] at h; cases h; intro z hz; cases hz
    | succ n =>
      rw [rdF] at h
      split at h
      · split at h
        · rename_i l' e' hr
          cases h
          intro z hz
          rcases List.mem_append.1 hz with hz | hz
          · exact runV_P hB _ _ _ z hz
          · exact ih _ _ _ _ hr z hz
        · cases h
      · cases h
theorem Io.sliceL {base : Nat} {w : World} {v : Value} {l : List Int} (h : Io base w v l) : ∃ a cap, v = .slice a l.length cap ∧ Ri w a cap l ∧ (∀ b o, a = some ⟨b, o, none⟩ → base ≤ b) ∧ (a = none → cap = 0) := by
  obtain ⟨a, cap, rfl, ht⟩ := h.slice
  refine ⟨a, cap, rfl, ht, fun b o e => ?_, fun e => ?_⟩
  · subst e
    exact h.lo (g := b) (by rcases h.2.2 with ⟨e, _⟩ | ⟨g, _, _, e, _⟩ <;> cases e; rfl)
  · subst e
    rcases h.2.2 with ⟨e, _⟩ | ⟨g, _, _, e, _⟩ <;> injection e with e1 e2 e3
    · cases e1
set_option maxHeartbeats 1000000 in
set_option maxRecDepth 100000 in
theorem cReadChangesL_any (a : Option Addr) (cap : Nat) (b : List Nat) (n : Int) (w : World) (h : Rb w a cap b) (hbl : b.length ≤ 100000) (hn : I64 n) :
    Calls Tryz.prog 162 #[.slice a b.length cap, .int .i64 n] w fun e w' => ∃ a' c', e = .returned (.tuple #[.slice a' (rcL b n).length c', .int .i64 (rcN b n), .int .i64 (rcE b n)]) ∧ Ri w' a' c' (rcL b n) ∧ (∀ b o, a' = some ⟨b, o, none⟩ → w.heap.size ≤ b) ∧ (a' = none → c' = 0) ∧ Below w.heap.size w w' := by
  by_cases h1 : 0 ≤ n ∧ n ≤ 2000
  rotate_left
  · have HE : Hid (rcL b n = [] ∧ rcN b n = 0 ∧ rcE b n = 4) := by
      have h0 : rcO b n = none := by rw [rcO, if_neg h1]
      refine ⟨(rc_out h0).1, (rc_out h0).2, ?_⟩
      rw [rcE, h0]
      exact if_neg h1
    by_cases h2 : n < 0
    · have g1 : decide (n < 0) = true := decide_eq_true h2
      clear h h1 h2
      go_enter Tryz.func162, Tryz.ntmps162
      go_wp2
      go_ret3
      exact ⟨none, 0, by rw [HE.out.1, HE.out.2.1, HE.out.2.2]; rfl, by rw [HE.out.1]; exact Ri.nil _ _ _ (Nat.zero_le _), (fun _ _ e => by cases e), (fun _ => rfl), Below.refl _ _⟩
    · have g1 : decide (n < 0) = false := decide_eq_false h2
      have g2 : decide (2000 < n) = true := decide_eq_true (by omega)
      clear h h1 h2
      go_enter Tryz.func162, Tryz.ntmps162
      go_wp2
      go_ret3
      exact ⟨none, 0, by rw [HE.out.1, HE.out.2.1, HE.out.2.2]; rfl, by rw [HE.out.1]; exact Ri.nil _ _ _ (Nat.zero_le _), (fun _ _ e => by cases e), (fun _ => rfl), Below.refl _ _⟩
  obtain ⟨N, rfl⟩ : ∃ N : Nat, n = (N : Int) := ⟨n.toNat, by omega⟩
  have HO : Hid (rcO b (N : Int) = rdF RC b N 0 N) := by show _ = _; rw [rcO, if_pos (by omega), Int.toNat_natCast]
  have HNN : Hid (rcO b (N : Int) = none → rcL b (N : Int) = [] ∧ rcN b (N : Int) = 0 ∧ rcE b (N : Int) = 2) := fun h0 => by
    refine ⟨(rc_out h0).1, (rc_out h0).2, ?_⟩
    rw [rcE, h0]
    exact if_pos (by omega)
  have hr := rrC_any a cap b 0 N w h hbl (Nat.zero_le _) (by omega)
  have hr : Calls Tryz.prog 159 #[.slice a b.length cap, .int .i64 0, .int .i64 (N : Int), .int .i64 64, .func (.func 184) #[] #[]] w _ := hr
  have g1 : decide ((N : Int) < 0) = false := decide_eq_false (by omega)
  have g2 : decide (2000 < (N : Int)) = false := decide_eq_false (by omega)
  have g0 : (0 : Int) ≤ (N : Int) := by omega
  have g3 : (N : Int) ≤ 2000 := h1.2
  clear h h1
  go_enter Tryz.func162, Tryz.ntmps162
  go_wp2_with fail
  refine hr.mono ?_
  rintro e u1 ⟨⟨l, e1, v, hl, rfl, hIo⟩ | ⟨hl, rfl⟩, hb1⟩
  · have HY : Hid (rcL b (N : Int) = l ∧ rcN b (N : Int) = (e1 : Int) ∧ rcE b (N : Int) = 0) := by
      unfold rcL rcN rcE
      rw [HO.out, hl]
      exact ⟨rfl, rfl, rfl⟩
    obtain ⟨av, cv, rfl, hri, hlo⟩ := hIo.sliceL
    clear hr hl HO HNN hIo
    go_wp2
    go_ret3
    exact ⟨av, cv, by rw [HY.out.1, HY.out.2.1, HY.out.2.2]; rfl, by rw [HY.out.1]; exact hri, hlo.1, hlo.2, hb1⟩
  · have HNO : Hid (_) := HNN.out (HO.out.trans hl)
    clear hr hl HO HNN
    go_wp2
    go_ret3
    exact ⟨none, 0, by rw [HNO.out.1, HNO.out.2.1, HNO.out.2.2]; rfl, by rw [HNO.out.1]; exact Ri.nil _ _ _ (Nat.zero_le _), (fun _ _ e => by cases e), (fun _ => rfl), hb1⟩

set_option maxHeartbeats 1000000 in
set_option maxRecDepth 100000 in
theorem cReadPointsL_any (a : Option Addr) (cap : Nat) (b : List Nat) (w : World) (h : Rb w a cap b) (hbl : b.length ≤ 100000) :
    Calls Tryz.prog 103 #[.slice a b.length cap] w fun e w' => ∃ a' c', e = .returned (.tuple #[.slice a' (rpL b).length c', .int .i64 (rpN b), .int .i64 (rpE b)]) ∧ Ri w' a' c' (rpL b) ∧ (∀ b o, a' = some ⟨b, o, none⟩ → w.heap.size ≤ b) ∧ (a' = none → c' = 0) ∧ Below w.heap.size w w' := by
  have HNN : Hid (rpO b = none → rpL b = [] ∧ rpN b = 0 ∧ rpE b = 2) := fun h0 => by
    unfold rpL rpN rpE
    rw [h0]
    exact ⟨rfl, rfl, rfl⟩
  have hB := h.lim
  have hc := readCount_any a cap b w h
  have hA2 : ptA b = 1 ∨ ptA b = 2 := by unfold ptA; split <;> omega
  cases ho : ptO b with
  | false =>
    have HNO : Hid (_) := HNN.out (by rw [rpO, ho]; rfl)
    rw [ho] at hc
    clear h HNN ho
    go_enter Tryz.func103, Tryz.ntmps103
    go_wp2_with fail
    refine hc.mono ?_
    rintro e u1 ⟨z, rfl, _, rfl⟩
    clear hc
    go_wp2
    go_ret3
    exact ⟨none, 0, by rw [HNO.out.1, HNO.out.2.1, HNO.out.2.2]; rfl, by rw [HNO.out.1]; exact Ri.nil _ _ _ (Nat.zero_le _), (fun _ _ e => by cases e), (fun _ => rfl), Below.refl _ _⟩
  | true =>
    have hAl : ptA b ≤ b.length := of_decide_eq_true ho
    have HRO : Hid (rpO b = (match rdF RPt b (ptN b) (ptA b) (ptN b) with | some p => if ptB (sums 0 p.1) then some (sums 0 p.1, p.2) else none | none => none)) := by
      show _ = _
      rw [rpO, ho]
      rfl
    have HPP : Hid (∀ l e, rdF RPt b (ptN b) (ptA b) (ptN b) = some (l, e) → (∀ z ∈ l, 0 ≤ z ∧ z ≤ 65535) ∧ l.length ≤ 40000) := fun l e hl => ⟨rdF_P hB _ _ _ _ _ hl, by have := (rdF_len _ _ _ _ _ _ _ hl).1; have := ptN_le hB; omega⟩
    have hr := rrP_any a cap b (ptA b) (ptN b) w h hbl hAl (by have := ptN_le hB; omega)
    rw [ho] at hc
    obtain ⟨A, hA⟩ : ∃ n, ptA b = n := ⟨_, rfl⟩
    obtain ⟨N, hN⟩ : ∃ n, ptN b = n := ⟨_, rfl⟩
    rw [hA] at hc hr HRO HPP
    rw [hN] at hc hr HRO HPP
    clear h ho hA hN hAl hA2 hB
    go_enter Tryz.func103, Tryz.ntmps103
    go_wp2_with fail
    refine hc.mono ?_
    rintro e u1 ⟨z, rfl, hz, rfl⟩
    obtain rfl : z = (N : Int) := hz trivial
    clear hc hz
    go_wp2_with fail
    refine hr.mono ?_
    rintro e u1 ⟨⟨l, e1, v, hl, rfl, hIo⟩ | ⟨hl, rfl⟩, hb1⟩
    rotate_left
    · have HNO : Hid (_) := HNN.out (by rw [HRO.out, hl])
      clear hr hl HRO HNN HPP
      go_wp2
      go_ret3
      exact ⟨none, 0, by rw [HNO.out.1, HNO.out.2.1, HNO.out.2.2]; rfl, by rw [HNO.out.1]; exact Ri.nil _ _ _ (Nat.zero_le _), (fun _ _ e => by cases e), (fun _ => rfl), hb1⟩
    obtain ⟨p1, p2⟩ := HPP.out l e1 hl
    have hau := caddUp_any w.heap.size v l u1 hIo p1 p2
    have HRO2 : Hid (rpO b = if ptB (sums 0 l) then some (sums 0 l, e1) else none) := by show _ = _; rw [HRO.out, hl]
    clear hr hl HRO HPP hIo p1 p2
    go_wp2_with fail
    refine hau.mono ?_
    rintro e u2 ⟨rfl, hIo, hb2⟩
    replace hb1 := hb1.trans hb2
    clear hau hb2
    obtain ⟨av, cv, rfl, hri, hlo⟩ := hIo.sliceL
    have hap := carePts_any av cv (sums 0 l) u2 hri
    cases hp : ptB (sums 0 l) with
    | false =>
      have HNO : Hid (_) := HNN.out (by rw [HRO2.out, hp]; rfl)
      rw [hp] at hap
      clear hp HRO2 HNN hIo
      go_wp2_with fail
      refine hap.mono ?_
      rintro e u3 ⟨rfl, rfl⟩
      clear hap
      go_wp2
      go_ret3
      exact ⟨none, 0, by rw [HNO.out.1, HNO.out.2.1, HNO.out.2.2]; rfl, by rw [HNO.out.1]; exact Ri.nil _ _ _ (Nat.zero_le _), (fun _ _ e => by cases e), (fun _ => rfl), hb1⟩
    | true =>
      have HY : Hid (rpL b = sums 0 l ∧ rpN b = (e1 : Int) ∧ rpE b = 0) := by
        unfold rpL rpN rpE
        rw [HRO2.out, hp]
        exact ⟨rfl, rfl, rfl⟩
      rw [hp] at hap
      clear hp HRO2 HNN hIo
      go_wp2_with fail
      refine hap.mono ?_
      rintro e u3 ⟨rfl, rfl⟩
      clear hap
      go_wp2
      go_ret3
      exact ⟨av, cv, by rw [HY.out.1, HY.out.2.1, HY.out.2.2]; rfl, by rw [HY.out.1]; exact hri, hlo.1, hlo.2, hb1⟩

theorem cReadChanges_any (a : Option Addr) (cap : Nat) (b : List Nat) (n : Int) (w : World) (h : Rb w a cap b) (hbl : b.length ≤ 100000) (hn : I64 n) :
    Calls Tryz.prog 162 #[.slice a b.length cap, .int .i64 n] w fun e w' => ∃ a' c', e = .returned (.tuple #[.slice a' (rcL b n).length c', .int .i64 (rcN b n), .int .i64 (rcE b n)]) ∧ Ri w' a' c' (rcL b n) ∧ Below w.heap.size w w' :=
  (cReadChangesL_any a cap b n w h hbl hn).mono (fun e w' ⟨a', c', h1, h2, _, _, h3⟩ => ⟨a', c', h1, h2, h3⟩)
theorem cReadPoints_any (a : Option Addr) (cap : Nat) (b : List Nat) (w : World) (h : Rb w a cap b) (hbl : b.length ≤ 100000) :
    Calls Tryz.prog 103 #[.slice a b.length cap] w fun e w' => ∃ a' c', e = .returned (.tuple #[.slice a' (rpL b).length c', .int .i64 (rpN b), .int .i64 (rpE b)]) ∧ Ri w' a' c' (rpL b) ∧ Below w.heap.size w w' :=
  (cReadPointsL_any a cap b w h hbl).mono (fun e w' ⟨a', c', h1, h2, _, _, h3⟩ => ⟨a', c', h1, h2, h3⟩)
theorem codP : CodP := ⟨fun a cap l w h _ => cPoints_any a cap l w h, fun a cap b w h hb => cReadPoints_any a cap b w h (by omega), fun a cap l w h _ => cChanges_any a cap l w h, fun a cap b n w h hb hn => cReadChanges_any a cap b n w h (by omega) hn⟩

end Go.Proofs.YtngmcghmniakeaaGreat
