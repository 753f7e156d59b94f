/-
  foundryref11.ReadChanges: the walk.
  packed: fieldOfPoints, fieldOfChanges, readCount: the walks.
-/
import Derived.Test.YtngmcghmniakeaaGreatZB33
import Derived.Test.YtngmcghmniakeaaGreatZB35
import Derived.Test.YtngmcghmniakeaaGreatZB34
import Derived.Test.YtngmcghmniakeaaGreatZB9
import Derived.Deep.CutRange
import Derived.Deep.CutBlock
import Derived.Test.YtngmcghmniakeaaGreatZB37
import Derived.Laws.EntriesVeiled
namespace Go.Proofs.YtngmcghmniakeaaGreat
open Go.RowKit Go.Maps
set_option linter.unusedSimpArgs false
set_option linter.unusedVariables false

/-- What is read, behind what has been read. -/
def onto (zs : List Int) (o : Option (List Int × Nat)) : Option (List Int × Nat) := o.map (fun q => (zs ++ q.1, q.2))
theorem onto_nil (o : Option (List Int × Nat)) : onto [] o = o := by cases o <;> simp [onto]
theorem onto_onto (zs ys : List Int) (o : Option (List Int × Nat)) : onto zs (onto ys o) = onto (zs ++ ys) o := by cases o <;> simp [onto]
theorem rdF_bad {R : Rp} {b : List Nat} {f p n : Nat} (hn : 0 < n) (h : hdB R b p n = false) : rdF R b f p n = none := by
  obtain ⟨n, rfl⟩ : ∃ m, n = m + 1 := ⟨n - 1, by omega⟩
  cases f with
  | zero => rfl
  | succ f => rw [rdF, h]; rfl
theorem rdF_step {R : Rp} {b : List Nat} {p n c kd : Nat} (h : hdB R b p n = true) (hc : c = nmV b (p : Int) 1 % R.M + 1) (hk : kd = nmV b (p : Int) 1 / R.M) : rdF R b n p n = onto (runV R b kd (p + 1) c) (rdF R b (n - c) (p + 1 + c * R.sz kd) (n - c)) := by
  subst hc hk
  have hh := of_decide_eq_true h
  obtain ⟨n, rfl⟩ : ∃ m, n = m + 1 := ⟨n - 1, by omega⟩
  rw [rdF, if_pos h, rdF_fuel R b n (n + 1 - (nmV b (p : Int) 1 % R.M + 1)) _ _ (by omega) (by omega)]
  unfold onto
  cases rdF R b (n + 1 - (nmV b (p : Int) 1 % R.M + 1)) (p + 1 + (nmV b (p : Int) 1 % R.M + 1) * R.sz (nmV b (p : Int) 1 / R.M)) (n + 1 - (nmV b (p : Int) 1 % R.M + 1)) with
  | none => rfl
  | some q => rfl
theorem inB_nat {l p n : Nat} : inB l (p : Int) (n : Int) = decide (p + n ≤ l) := by unfold inB; exact decide_eq_decide.2 ⟨fun h => by omega, fun h => by omega⟩
theorem sx8_i64 {v : Nat} (h : v < 256) : I64 (sx8 v) := by unfold sx8 I64; split <;> omega
theorem sx16_i64 {v : Nat} (h : v < 65536) : I64 (sx16 v) := by unfold sx16 I64; split <;> omega

theorem rc_out {b : List Nat} {n : Int} (h : rcO b n = none) : rcL b n = [] ∧ rcN b n = 0 := by unfold rcL rcN; rw [h]; exact ⟨rfl, rfl⟩
end Go.Proofs.YtngmcghmniakeaaGreat

namespace Go.Proofs.YtngmcghmniakeaaGreat
open Go.RowKit Go.Maps
set_option linter.unusedSimpArgs false
set_option linter.unusedVariables false

/-- A field: how a number is read, and how many bytes it takes, in a block. -/
def FB (w : World) (c : Nat) (F : Value) (wd : Int) : Prop := w.heap[c]? = some (.cells #[F, .int .i64 wd] 215 (0, 0))
theorem FB.lt {w : World} {c : Nat} {F : Value} {wd : Int} (h : FB w c F wd) : c < w.heap.size := (Array.getElem?_eq_some_iff.1 h).1
theorem FB.cells {w : World} {c : Nat} {F : Value} {wd : Int} (h : FB w c F wd) : w.cell? ⟨c, 0, none⟩ = some F ∧ w.cell? ⟨c, 1, none⟩ = some (.int .i64 wd) := ⟨cell_of_row w c 0 _ _ (0, 0) h, cell_of_row w c 1 _ _ (0, 0) h⟩
theorem FB.below {w w' : World} {c : Nat} {F : Value} {wd : Int} (h : FB w c F wd) (hb : Below w.heap.size w w') : FB w' c F wd := (hb.block c h.lt).trans h
theorem FB.grown {base : Nat} {w w' : World} {c : Nat} {F : Value} {wd : Int} {v : Value} {zs : List Int} (h : FB w c F wd) (hi : Io base w v zs) (hg : w.grownBy w' v.ownBlock) : FB w' c F wd := by
  refine (hg.block c h.lt (fun e => ?_)).trans h
  rcases hi.2.2 with ⟨e0, _⟩ | ⟨g1, cap, cur, k1, k2, k3, k4⟩
  · rw [e0] at e; cases e
  · rw [k1] at e
    have e' : some c = some g1 := e
    injection e' with e'
    rw [← e'] at k3
    have h' : w.heap[c]? = some (.cells #[F, .int .i64 wd] 215 (0, 0)) := h
    rw [k3] at h'
    cases h'
set_option maxHeartbeats 400000 in
set_option maxRecDepth 100000 in
theorem cfP0_any (w : World) :
    Calls Tryz.prog 160 #[.int .i64 0] w fun e w' => e = .returned (.tuple #[.agg #[.func (.func 183) #[] #[], .int .i64 1], .bool true]) ∧ Below w.heap.size w w' := by
  go_enter Tryz.func160, Tryz.ntmps160
  go_wp2
  (try simp only [Exit.inBlock, Exit.then])
  refine bodyPost_ret (v := .tuple #[.agg #[.func (.func 183) #[] #[], .int .i64 1], .bool true]) ?_ rfl ⟨rfl, bl1 _⟩
  simp [results, Tryz.results160, go_sem]
set_option maxHeartbeats 400000 in
set_option maxRecDepth 100000 in
theorem cfP1_any (w : World) :
    Calls Tryz.prog 160 #[.int .i64 128] w fun e w' => e = .returned (.tuple #[.agg #[.func (.func 48) #[] #[], .int .i64 2], .bool true]) ∧ Below w.heap.size w w' := by
  go_enter Tryz.func160, Tryz.ntmps160
  go_wp2
  (try simp only [Exit.inBlock, Exit.then])
  refine bodyPost_ret (v := .tuple #[.agg #[.func (.func 48) #[] #[], .int .i64 2], .bool true]) ?_ rfl ⟨rfl, bl1 _⟩
  simp [results, Tryz.results160, go_sem]
set_option maxHeartbeats 400000 in
set_option maxRecDepth 100000 in
theorem cfC0_any (w : World) :
    Calls Tryz.prog 184 #[.int .i64 0] w fun e w' => e = .returned (.tuple #[.agg #[.func (.func 197) #[] #[], .int .i64 1], .bool true]) ∧ Below w.heap.size w w' := by
  go_enter Tryz.func184, Tryz.ntmps184
  go_wp2
  (try simp only [Exit.inBlock, Exit.then])
  refine bodyPost_ret (v := .tuple #[.agg #[.func (.func 197) #[] #[], .int .i64 1], .bool true]) ?_ rfl ⟨rfl, bl1 _⟩
  simp [results, Tryz.results184, go_sem]
set_option maxHeartbeats 400000 in
set_option maxRecDepth 100000 in
theorem cfC1_any (w : World) :
    Calls Tryz.prog 184 #[.int .i64 64] w fun e w' => e = .returned (.tuple #[.agg #[.func (.func 157) #[] #[], .int .i64 2], .bool true]) ∧ Below w.heap.size w w' := by
  go_enter Tryz.func184, Tryz.ntmps184
  go_wp2
  (try simp only [Exit.inBlock, Exit.then])
  refine bodyPost_ret (v := .tuple #[.agg #[.func (.func 157) #[] #[], .int .i64 2], .bool true]) ?_ rfl ⟨rfl, bl1 _⟩
  simp [results, Tryz.results184, go_sem]
set_option maxHeartbeats 400000 in
set_option maxRecDepth 100000 in
theorem cfC2_any (w : World) :
    Calls Tryz.prog 184 #[.int .i64 128] w fun e w' => e = .returned (.tuple #[.agg #[.func (.func 198) #[] #[], .int .i64 0], .bool true]) ∧ Below w.heap.size w w' := by
  go_enter Tryz.func184, Tryz.ntmps184
  go_wp2
  (try simp only [Exit.inBlock, Exit.then])
  refine bodyPost_ret (v := .tuple #[.agg #[.func (.func 198) #[] #[], .int .i64 0], .bool true]) ?_ rfl ⟨rfl, bl1 _⟩
  simp [results, Tryz.results184, go_sem]
set_option maxHeartbeats 400000 in
set_option maxRecDepth 100000 in
theorem cfC3_any (w : World) :
    Calls Tryz.prog 184 #[.int .i64 192] w fun e w' => e = .returned (.tuple #[.agg #[.nilFunc, .int .i64 0], .bool false]) ∧ Below w.heap.size w w' := by
  go_enter Tryz.func184, Tryz.ntmps184
  go_wp2
  (try simp only [Exit.inBlock, Exit.then])
  refine bodyPost_ret (v := .tuple #[.agg #[.nilFunc, .int .i64 0], .bool false]) ?_ rfl ⟨rfl, bl1 _⟩
  simp [results, Tryz.results184, go_sem]

theorem nmV_two {b : List Nat} (hB : Byt b) (h : 2 ≤ b.length) : nmV b 0 2 = nmV b 0 1 * 256 + nmV b 1 1 := by
  match b, h with
  | x :: y :: t, _ =>
    have e1 : nmV (x :: y :: t) 0 2 = V8 [x, y] := by
      unfold nmV
      rw [if_pos (by simp only [inB, decide_eq_true_iff, List.length_cons]; omega)]
      rfl
    have e2 : nmV (x :: y :: t) 0 1 = V8 [x] := by
      unfold nmV
      rw [if_pos (by simp only [inB, decide_eq_true_iff, List.length_cons]; omega)]
      rfl
    have e3 : nmV (x :: y :: t) 1 1 = V8 [y] := by
      unfold nmV
      rw [if_pos (by simp only [inB, decide_eq_true_iff, List.length_cons]; omega)]
      rfl
    rw [e1, e2, e3]
    simp [V8]
    omega
set_option maxHeartbeats 1000000 in
set_option maxRecDepth 100000 in
theorem readCount_any (a : Option Addr) (cap : Nat) (b : List Nat) (w : World) (h : Rb w a cap b) :
    Calls Tryz.prog 158 #[.slice a b.length cap] w fun e w' => ∃ z : Int, e = .returned (.tuple #[.int .i64 z, .int .i64 (ptA b : Int), .bool (ptO b)]) ∧ (ptO b = true → z = (ptN b : Int)) ∧ w = w' := by
  have hlt := nmV_lt h.lim 0 1
  have hlt2 := nmV_lt h.lim 0 2
  have hu := u8_any a cap b 0 w h ⟨by decide, by decide⟩
  have hv := u16_any a cap b 0 w h ⟨by decide, by decide⟩
  have HT : Hid (2 ≤ b.length → nmV b 0 2 = nmV b 0 1 * 256 + nmV b 1 1) := fun h2 => nmV_two h.lim h2
  rw [show inB b.length 0 1 = decide (1 ≤ b.length) from (inB_nat (p := 0) (n := 1)).trans (by rw [Nat.zero_add])] at hu
  rw [show inB b.length 0 2 = decide (2 ≤ b.length) from (inB_nat (p := 0) (n := 2)).trans (by rw [Nat.zero_add])] at hv
  obtain ⟨x, hx⟩ : ∃ x, nmV b 0 1 = x := ⟨_, rfl⟩
  obtain ⟨y, hy⟩ : ∃ x, nmV b 0 2 = x := ⟨_, rfl⟩
  rw [hx] at hu hlt HT
  rw [hy] at hv hlt2 HT
  simp only [Nat.pow_one] at hlt
  have hlt2 : y < 65536 := by simpa using hlt2
  clear h
  by_cases h1 : 128 ≤ x
  · have HA : Hid (ptA b = 2) := by show _ = _; unfold ptA; rw [hx, if_pos h1]
    have HO : Hid (ptO b = decide (2 ≤ b.length)) := by show _ = _; unfold ptO; rw [HA.out]
    have HN : Hid (2 ≤ b.length → (y : Int) - 32768 = (ptN b : Int)) := fun h2 => by
      have := HT.out h2
      unfold ptN
      rw [hx, if_pos h1]
      omega
    obtain ⟨q, hq⟩ : ∃ q, decide (2 ≤ b.length) = q := ⟨_, rfl⟩
    rw [hq] at hv HO
    have HQ : Hid (q = true → 2 ≤ b.length) := fun h => of_decide_eq_true (hq.trans h)
    have g1 : ¬ (x : Int) < 128 := by omega
    clear hx hy hq h1 HT
    go_enter Tryz.func158, Tryz.ntmps158
    go_wp2_with fail
    refine hu.mono ?_
    rintro e u ⟨rfl, rfl⟩
    clear hu
    go_wp2_with fail
    refine hv.mono ?_
    rintro e u ⟨rfl, rfl⟩
    clear hv
    go_wp2
    go_ret3
    exact ⟨(y : Int) - 32768, by rw [HA.out, HO.out]; rfl, fun h => HN.out (HQ.out (by rw [← HO.out]; exact h)), rfl⟩
  · have HA : Hid (ptA b = 1) := by show _ = _; unfold ptA; rw [hx, if_neg h1]
    have HO : Hid (ptO b = decide (1 ≤ b.length)) := by show _ = _; unfold ptO; rw [HA.out]
    have HN : Hid ((x : Int) = (ptN b : Int)) := by show _ = _; unfold ptN; rw [hx, if_neg h1]
    obtain ⟨q, hq⟩ : ∃ q, decide (1 ≤ b.length) = q := ⟨_, rfl⟩
    rw [hq] at hu HO
    have g1 : (x : Int) < 128 := by omega
    clear hx hy hq h1 HT hv
    go_enter Tryz.func158, Tryz.ntmps158
    go_wp2_with fail
    refine hu.mono ?_
    rintro e u ⟨rfl, rfl⟩
    clear hu
    go_wp2
    go_ret3
    exact ⟨(x : Int), by rw [HA.out, HO.out]; rfl, fun _ => HN.out, rfl⟩

end Go.Proofs.YtngmcghmniakeaaGreat
