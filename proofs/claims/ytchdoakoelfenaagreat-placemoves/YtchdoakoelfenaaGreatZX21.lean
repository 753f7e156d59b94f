/-
  What is met: the first one, and how it ends; a row of one int of the call's own (no walks).
  classes.Meet: the walk.
  slices.Backward over a row of ints, and what it gives: the walks of the iterator.
  classes.Back: the walk (a range over what slices.Backward gives).
-/
import Derived.Test.YtchdoakoelfenaaGreatZX1
import Derived.Test.YtchdoakoelfenaaGreatZX4
import Derived.Test.YtchdoakoelfenaaGreatZX20
import Derived.BigQuiet
import Derived.Deep.QuietTactic
import Derived.Outline
import Derived.RangeFuncNested
import Derived.RangeFuncBound
import Derived.RangeFuncCalls
import Derived.RangeFuncLeaves
import Derived.RangeFuncBox
import Derived.Shelf.Abstract
import Derived.Shelf.RegionOpen
import Derived.OwnWalkIn
import Derived.TacticsInMore
import Derived.LoopNIn
import Derived.LoopIn
namespace Go.Proofs.YtchdoakoelfenaaGreat
open Go.RowKit Go.Maps
set_option linter.unusedSimpArgs false
set_option linter.unusedVariables false

theorem meQ_not {ms : List Bool} {L : List Int} {sk : Bool} {i : Int} {A : List Int} (h : ¬ (plB L i = true ∧ L.getD i.toNat 0 = A.getD 0 0)) : meQ ms L sk i A = none := by
  cases A with
  | nil => rfl
  | cons g t => exact meQ_no h
theorem meQ_nil0 {ms : List Bool} {L : List Int} {sk : Bool} {i : Int} {A : List Int} (h : A.length = 0) : meQ ms L sk i A = none := by
  cases A with
  | nil => rfl
  | cons g t => simp at h
theorem MeI.one {ms : List Bool} {L : List Int} {sk : Bool} {i : Int} {A : List Int} (hA : 0 < A.length) (h1 : plB L i = true) (h2 : L.getD i.toNat 0 = A.getD 0 0) : MeI ms L sk i A 1 [i] i := by
  cases A with
  | nil => simp at hA
  | cons g t => exact MeI.first h1 h2
/-- What Meet answers, and where. -/
structure MetA (ms : List Bool) (L : List Int) (sk : Bool) (i : Int) (A : List Int) (base : Nat) (w' : World) (e : Ending) : Prop where
  out : ∃ v, e = .returned (.tuple #[v, .bool (meB ms L sk i A)]) ∧ Io base w' v (meL ms L sk i A)
theorem MetA.no {ms : List Bool} {L : List Int} {sk : Bool} {i : Int} {A : List Int} {base : Nat} {w' : World} (h : meQ ms L sk i A = none) : MetA ms L sk i A base w' (.returned (.tuple #[.slice none 0 0, .bool false])) := by
  refine ⟨.slice none 0 0, ?_, ?_⟩
  · unfold meB; rw [h]; rfl
  · unfold meL; rw [h]; exact Io.nil _ _
theorem MetA.yes {ms : List Bool} {L : List Int} {sk : Bool} {i : Int} {A : List Int} {base : Nat} {w' : World} {v : Value} {l : List Int} (h : meQ ms L sk i A = some l) (hv : Io base w' v l) : MetA ms L sk i A base w' (.returned (.tuple #[v, .bool true])) := by
  refine ⟨v, ?_, ?_⟩
  · unfold meB; rw [h]; rfl
  · unfold meL; rw [h]; exact hv
theorem Io.one {base : Nat} {w : World} {z : Int} (hz : I64 z) (hb : base ≤ w.heap.size) : Io base (w.alloc (.cells #[.int .i64 z] 3)) (.slice (some ⟨w.heap.size, 0, none⟩) 1 1) [z] :=
  ⟨fun s hs => by rw [List.mem_singleton.1 hs]; exact hz, rfl, .inr ⟨w.heap.size, 1, #[.int .i64 z], rfl, hb, heap_alloc_new w _, Nat.le_refl _, by unfold maxLen; omega, rfl, rfl⟩⟩
/-- The next place is a place. -/
theorem nx_pl {ms : List Bool} {L : List Int} {sk : Bool} {i : Int} (h : plB L i = true) : nxQ ms L sk i = -1 ∨ ∃ m : Nat, nxQ ms L sk i = (m : Int) ∧ m < L.length := by
  have hp := plB_iff.1 h
  obtain ⟨j, rfl⟩ : ∃ j : Nat, i = (j : Int) := ⟨i.toNat, by omega⟩
  rcases nxQ_is (ms := ms) (sk := sk) (show j < L.length by omega) with ⟨h1, _⟩ | ⟨m, h1, _, h3, _⟩
  · exact .inl h1
  · exact .inr ⟨m, h1, h3⟩

end Go.Proofs.YtchdoakoelfenaaGreat

namespace Go.Proofs.YtchdoakoelfenaaGreat
open Go.RowKit Go.Maps
set_option linter.unusedSimpArgs false
set_option linter.unusedVariables false

set_option maxHeartbeats 4000000 in
set_option maxRecDepth 100000 in
theorem cmeet_any (S : Nat → Prop) (a : Option Addr) (ca : Nat) (L : List Int) (b : Option Addr) (cb : Nat) (ms : List Bool) (i : Int) (q : Option Addr) (cq : Nat) (A : List Int) (sk : Bool) (w : World)
    (hL : Ri w a ca L) (hm : Gr El.bool S w b cb ms) (hi : I64 i) (hA : Ri w q cq A) (hA2 : A.length ≤ 1000) :
    Calls Tryz.prog 44 #[.slice a L.length ca, .slice b ms.length cb, .int .i64 i, .slice q A.length cq, .bool sk] w fun e w' => MetA ms L sk i A w.heap.size w' e ∧ Below w.heap.size w w' := by
  have kl := hL.lenB
  obtain ⟨hi1, hi2⟩ := hi
  by_cases h0 : A.length = 0
  · have HF : Hid (meQ ms L sk i A = none) := meQ_nil0 h0
    have HNO : Hid (∀ U, MetA ms L sk i A w.heap.size U (.returned (.tuple #[.slice none 0 0, .bool false]))) := fun U => MetA.no HF.out
    clear hL hm hA
    go_enter Tryz.func44, Tryz.ntmps44
    go_wp2_with fail
    go_quiet (fail)
    go_wp2
    go_ret2
    exact ⟨HNO.out _, below_drewN (Below.refl _ _) _⟩
  have e0 : ((A.length : Int) == 0) = false := by rw [beq_eq_false_iff_ne]; omega
  cases hp : plB L i with
  | false =>
    have hpl := fun W => cplace_any a ca L i W kl
    rw [hp] at hpl
    have HPL : ∀ W, Calls Tryz.prog 54 #[.slice a L.length ca, .int .i64 i] W fun e w' => e = .returned (.bool false) ∧ w' = W := fun W => (hpl W).mono fun _ _ h => ⟨h.1, h.2.symm⟩
    have HF : Hid (meQ ms L sk i A = none) := meQ_not (fun h => by rw [hp] at h; cases h.1)
    have HNO : Hid (∀ U, MetA ms L sk i A w.heap.size U (.returned (.tuple #[.slice none 0 0, .bool false]))) := fun U => MetA.no HF.out
    clear hL hm hA hpl hp HF
    go_enter Tryz.func44, Tryz.ntmps44
    go_wp2_with fail
    go_quiet ((go_at_call 54; exact Calls.quiet_of_same (HPL _)))
    go_wp2
    go_ret2
    exact ⟨HNO.out _, below_drewN (Below.refl _ _) _⟩
  | true =>
  have hpl := fun W => cplace_any a ca L i W kl
  rw [hp] at hpl
  have HPL : ∀ W, Calls Tryz.prog 54 #[.slice a L.length ca, .int .i64 i] W fun e w' => e = .returned (.bool true) ∧ w' = W := fun W => (hpl W).mono fun _ _ h => ⟨h.1, h.2.symm⟩
  obtain ⟨p1, p2⟩ := plB_iff.1 hp
  obtain ⟨k, rfl⟩ : ∃ k : Nat, i = (k : Int) := ⟨i.toNat, by omega⟩
  have hk : k < L.length := by omega
  have hA0 : 0 < A.length := by omega
  obtain ⟨b0, o0, rfl, hb0, c0⟩ := hL.at (Below.refl _ _) k hk
  obtain ⟨b1, o1, rfl, hb1, c1⟩ := hA.at (Below.refl _ _) 0 hA0
  rw [Nat.add_zero] at c1
  have HNE : Hid (¬ L.getD k 0 = A.getD 0 0 → meQ ms L sk (k : Int) A = none) := fun h => meQ_not (fun h1 => h h1.2)
  have HEQ : Hid (L.getD k 0 = A.getD 0 0 → MeI ms L sk (k : Int) A 1 [(k : Int)] (k : Int)) := fun h => MeI.one hA0 hp h
  have HIK : Hid (I64 (k : Int)) := ⟨by omega, by omega⟩
  have HL : Hid (Ri w (some ⟨b0, o0, none⟩) ca L) := hL
  have HM : Hid (Gr El.bool S w b cb ms) := hm
  have HA : Hid (Ri w (some ⟨b1, o1, none⟩) cq A) := hA
  obtain ⟨x, hx⟩ : ∃ x, L.getD k 0 = x := ⟨_, rfl⟩
  obtain ⟨y, hy⟩ : ∃ y, A.getD 0 0 = y := ⟨_, rfl⟩
  rw [hx] at c0 HNE HEQ
  rw [hy] at c1 HNE HEQ
  have i1 : (0 : Int) ≤ (k : Int) := by omega
  have i2 : (0 : Int) < (A.length : Int) := by omega
  clear hL hm hA hpl hp hx hy
  by_cases hxy : x = y
  rotate_left
  · have d1 : ((x : Int) != (y : Int)) = true := by simp; exact hxy
    have HNO : Hid (∀ U, MetA ms L sk (k : Int) A w.heap.size U (.returned (.tuple #[.slice none 0 0, .bool false]))) := fun U => MetA.no (HNE.out hxy)
    clear HNE HEQ HL HM HA hxy
    go_enter Tryz.func44, Tryz.ntmps44
    go_wp2_with fail
    go_quiet ((go_at_call 54; exact Calls.quiet_of_same (HPL _)))
    go_wp2
    go_ret2
    exact ⟨HNO.out _, below_drewN (Below.refl _ _) _⟩
  subst hxy
  have d1 : ((x : Int) != (x : Int)) = false := by simp
  have HI1 : Hid (_) := HEQ.out rfl
  have hcap := HA.out.2.1
  have hcap2 := HA.out.2.2.1
  unfold maxLen at hcap2
  clear HNE HEQ h0
  by_cases hlast : A.length = 1
  · have HY : Hid (∀ U v, Io w.heap.size U v [(k : Int)] → MetA ms L sk (k : Int) A w.heap.size U (.returned (.tuple #[v, .bool true]))) := fun U v hv => MetA.yes (MeI.done (by rw [hlast]; exact HI1.out)) hv
    have hn0 : A.length - 1 = 0 := by omega
    clear hlast HI1 HL HM HA
    by_cases hc1 : cq = 1
    · subst hc1
      go_enter Tryz.func44, Tryz.ntmps44
      go_wp2_with fail
      go_quiet ((go_at_call 54; exact Calls.quiet_of_same (HPL _)))
      have hBW : Below w.heap.size w (w.drewN nq) := below_drewN (Below.refl _ _) _
      clear c0 c1 HPL
      generalize w.drewN nq = W at hBW ⊢
      have HI0 : Hid (Io w.heap.size (W.alloc (.cells #[.int .i64 (k : Int)] 3)) (.slice (some ⟨W.heap.size, 0, none⟩) 1 1) [(k : Int)]) := Io.one HIK.out hBW.size
      have HB0 : Hid (Below w.heap.size w (W.alloc (.cells #[.int .i64 (k : Int)] 3))) := hBW.trans ((bl1 _).mono hBW.size)
      clear hBW
      go_wp2
      go_loopw [12, 39] (fun v i wr => v = .slice (some ⟨W.heap.size, 0, none⟩) 1 1 ∧ i = .int .i64 0 ∧ wr = W.alloc (.cells #[.int .i64 (k : Int)] 3)) (fun _ _ _ => 0)
      case atStart => exact ⟨rfl, rfl, rfl⟩
      case round =>
        obtain ⟨rfl, rfl, rfl⟩ := hrel
        go_wp2
        go_ret2
        exact ⟨HY.out _ _ HI0.out, HB0.out⟩
    · go_enter Tryz.func44, Tryz.ntmps44
      go_wp2_with fail
      go_quiet ((go_at_call 54; exact Calls.quiet_of_same (HPL _)))
      have hBW : Below w.heap.size w (w.drewN nq) := below_drewN (Below.refl _ _) _
      clear c0 c1 HPL
      generalize w.drewN nq = W at hBW ⊢
      have HI0 : Hid (Io w.heap.size (W.alloc (.cells #[.int .i64 (k : Int)] 3)) (.slice (some ⟨W.heap.size, 0, none⟩) 1 1) [(k : Int)]) := Io.one HIK.out hBW.size
      have HB0 : Hid (Below w.heap.size w (W.alloc (.cells #[.int .i64 (k : Int)] 3))) := hBW.trans ((bl1 _).mono hBW.size)
      clear hBW
      go_wp2
      go_loopw [12, 39] (fun v i wr => v = .slice (some ⟨W.heap.size, 0, none⟩) 1 1 ∧ i = .int .i64 0 ∧ wr = W.alloc (.cells #[.int .i64 (k : Int)] 3)) (fun _ _ _ => 0)
      case atStart => exact ⟨rfl, rfl, rfl⟩
      case round =>
        obtain ⟨rfl, rfl, rfl⟩ := hrel
        go_wp2
        go_ret2
        exact ⟨HY.out _ _ HI0.out, HB0.out⟩
  have hc1 : ¬ cq = 1 := by omega
  obtain ⟨n, hn⟩ : ∃ n, A.length - 1 = n := ⟨_, rfl⟩
  have hn1 : n + 1 ≤ A.length := by omega
  have hn2 : A.length ≤ n + 1 := by omega
  clear hlast
  go_enter Tryz.func44, Tryz.ntmps44
  go_wp2_with fail
  go_quiet ((go_at_call 54; exact Calls.quiet_of_same (HPL _)))
  have hBW : Below w.heap.size w (w.drewN nq) := below_drewN (Below.refl _ _) _
  clear c0 c1 HPL
  generalize w.drewN nq = W at hBW ⊢
  have HI0 : Hid (Io w.heap.size (W.alloc (.cells #[.int .i64 (k : Int)] 3)) (.slice (some ⟨W.heap.size, 0, none⟩) 1 1) [(k : Int)]) := Io.one HIK.out hBW.size
  have HB0 : Hid (Below w.heap.size w (W.alloc (.cells #[.int .i64 (k : Int)] 3))) := hBW.trans ((bl1 _).mono hBW.size)
  clear hBW
  go_wp2
  clear hn
  go_loopw [2, 12, 39] (fun z v i wr => ∃ (j : Nat) (at' : Int) (l : List Int), j ≤ n ∧ i = .int .i64 (j : Int) ∧ z = .int .i64 at' ∧ Hid (MeI ms L sk (k : Int) A (j + 1) l at') ∧ Io w.heap.size wr v l ∧ Below w.heap.size w wr) (fun _ _ i _ => n - (intOf i).toNat)
  case atStart => exact ⟨0, (k : Int), [(k : Int)], Nat.zero_le _, rfl, rfl, HI1, HI0.out, HB0.out⟩
  case round =>
    clear HI1 HI0 HB0
    obtain ⟨j, z, l, hj, rfl, rfl, HI, hIo, hB⟩ := hrel
    obtain ⟨av, cv, rfl, hri⟩ := hIo.slice
    have HLEN : Hid (l.length = j + 1) := HI.out.len
    have hl1 : l.length ≤ j + 1 := by rw [HLEN.out]; exact Nat.le_refl _
    have hpz := plB_iff.1 HI.out.pl
    by_cases hjn0 : j < n
    · have hjn : j + 1 < A.length := by omega
      obtain ⟨b2, o2, e2, _, c2⟩ := HA.out.at hB (j + 1) hjn
      cases e2
      have HST : Hid (_) := HI.out.stop hjn
      have HMO : Hid (_) := HI.out.more hjn
      have HNX : Hid (_) := nx_pl (ms := ms) (sk := sk) HI.out.pl
      have hnx := cnext_any S (some ⟨b0, o0, none⟩) ca L b cb ms z sk wr (HL.out.below hB) (HM.out.below hB) ⟨by omega, by omega⟩
      obtain ⟨r, hr⟩ : ∃ r, nxQ ms L sk z = r := ⟨_, rfl⟩
      obtain ⟨g, hg⟩ : ∃ g, A.getD (j + 1) 0 = g := ⟨_, rfl⟩
      rw [hr] at hnx HST HMO HNX
      rw [hg] at c2 HST HMO
      have hadd : o1 + (j + 1) = o1 + 1 + j := by omega
      rw [hadd] at c2
      have i3 : (j : Int) < (n : Int) := by omega
      have i4 : (0 : Int) ≤ (j : Int) := by omega
      clear hr hg HI hri hpz hadd
      go_wp2_with fail
      refine hnx.mono ?_
      rintro e u ⟨rfl, hbu⟩
      have hBu := hB.trans (hbu.mono hB.size)
      have hIu := hIo.below hbu
      clear hnx hbu hB c2 hIo
      rcases HNX.out with rfl | ⟨m, rfl, hm⟩
      · have HNO : Hid (∀ U, MetA ms L sk (k : Int) A w.heap.size U (.returned (.tuple #[.slice none 0 0, .bool false]))) := fun U => MetA.no (HST.out (.inl rfl))
        clear HST HMO HNX hIu
        go_wp2
        go_ret2
        exact ⟨HNO.out _, hBu⟩
      · obtain ⟨b4, o4, e4, _, c4⟩ := HL.out.at hBu m hm
        cases e4
        rw [Int.toNat_natCast] at HST HMO
        obtain ⟨x2, hx2⟩ : ∃ x, L.getD m 0 = x := ⟨_, rfl⟩
        rw [hx2] at c4 HST HMO
        have e5 : ((m : Int) == -1) = false := by rw [beq_eq_false_iff_ne]; omega
        have i5 : (0 : Int) ≤ (m : Int) := by omega
        have i6 : (m : Int) < (L.length : Int) := by omega
        clear hx2 HNX
        by_cases hxg : x2 = g
        rotate_left
        · have d2 : ((x2 : Int) != (g : Int)) = true := by simp; exact hxg
          have HNO : Hid (∀ U, MetA ms L sk (k : Int) A w.heap.size U (.returned (.tuple #[.slice none 0 0, .bool false]))) := fun U => MetA.no (HST.out (.inr hxg))
          clear HST HMO hIu hxg
          go_wp2
          go_ret2
          exact ⟨HNO.out _, hBu⟩
        subst hxg
        have d2 : ((x2 : Int) != (x2 : Int)) = false := by simp
        have HMI : Hid (_) := HMO.out (fun h => by
          rcases h with h | h
          · omega
          · exact h rfl)
        have HIM : Hid (I64 (m : Int)) := ⟨by omega, by omega⟩
        clear HST HMO
        have hT5 := hIu.below (bl1 (.cells #[.int .i64 (m : Int)] 3))
        have hN := heap_alloc_new u (.cells #[.int .i64 (m : Int)] 3)
        have n0 := cell_of_row _ u.heap.size 0 _ _ (0, 0) hN
        have hll : l.length + 1 ≤ 1000000 := by omega
        have hB6 : Below w.heap.size w (u.alloc (.cells #[.int .i64 (m : Int)] 3)) := hBu.alloc hBu.size _
        clear hN hIu
        go_wp2_with (at_builtin; refine wpList_append_int rfl _ _ rfl w.heap.size _ l rfl hT5 u.heap.size (m : Int) rfl n0 HIM.out hll hB6.size ?_)
        intro v' w9 hT9 hgrow
        have hB9 : Below w.heap.size w w9 := hB6.grown hgrow hB6.size (fun k hk => hT5.lo hk)
        clear hgrow hT5 n0 hB6 hBu hll
        go_wp2
        go_roundw
        case rel => exact ⟨j + 1, (m : Int), _, hjn0, by go_num, rfl, HMI, hT9, hB9⟩
        case measure => simp [intOf]; omega
    · have HY : Hid (MetA ms L sk (k : Int) A w.heap.size wr (.returned (.tuple #[.slice av l.length cv, .bool true]))) := MetA.yes (MeI.done (by rw [show A.length = j + 1 by omega]; exact HI.out)) hIo
      have g4 : ¬ (j : Int) < (n : Int) := by omega
      clear HI hri hpz hIo
      go_wp2
      go_ret2
      exact ⟨HY.out, hB⟩

end Go.Proofs.YtchdoakoelfenaaGreat

namespace Go.Proofs.YtchdoakoelfenaaGreat
open Go.RowKit Go.Maps Go.Shelf
set_option linter.unusedSimpArgs false
set_option linter.unusedVariables false
attribute [local go_sem] Oper.semAt_some

/-- The places of a row that are there. -/
abbrev Ix19 (n : Nat) := { j : Nat // j < n }
/-- What has come when r rounds are over. -/
def dnL (n r : Nat) : List Nat := (List.range r).map (fun j => n - 1 - j)
theorem dnL_succ (n r : Nat) : dnL n (r + 1) = dnL n r ++ [n - 1 - r] := by simp [dnL, List.range_succ]
theorem dnL_len (n r : Nat) : (dnL n r).length = r := by simp [dnL]
theorem dnL_mem {n r i : Nat} : i ∈ dnL n r ↔ ∃ j, j < r ∧ n - 1 - j = i := by simp [dnL]
def vals19 {n : Nat} (xs : List (Ix19 n)) : List Nat := xs.map (fun x => x.1)
theorem vals19_app {n : Nat} (xs : List (Ix19 n)) (x : Ix19 n) : vals19 (xs ++ [x]) = vals19 xs ++ [x.1] := by simp [vals19]

set_option maxRecDepth 100000 in
set_option maxHeartbeats 2000000 in
set_option maxRecDepth 100000 in
theorem back1_in (F : Fence) (n : Nat) (hf : F.fn 70) (hro : F.round = none) (hn : 1 ≤ n) (l Bs n₀ b off len cap : Nat) (f : Nat → Int) (hreach : len ≤ 9223372036854775807) (hb : b < n₀) (hBn : Bs < n₀) (J Jx : List (Ix19 len) → World → Prop)
    (hY : ∀ (pre : List (Ix19 len)) (x : Ix19 len) W, J pre W → pre.length < len → YieldAt F (n - 1) Tryz.prog l #[.int .i64 (x.1 : Int), .int .i64 (f x.1)] W fun e W' =>
      (e = .returned (.bool true) ∧ J (pre ++ [x]) W' ∧ Below n₀ W W') ∨ (e = .returned (.bool false) ∧ Jx (pre ++ [x]) W'))
    (W : World) (hBs : W.cell? ⟨Bs, 0, none⟩ = some (.slice (some ⟨b, off, none⟩) len cap)) (hc : ∀ j, j < len → W.cell? ⟨b, off + j, none⟩ = some (.int .i64 (f j))) (h0 : J [] W) :
    CallsIn F n Tryz.prog 70 #[.func (.yield l) #[] #[], .pointer (some ⟨Bs, 0, none⟩)] W fun e W' => (∃ v, e = .returned v) ∧
      ((∃ ys : List (Ix19 len), vals19 ys = dnL len len ∧ J ys W') ∨ (∃ pre : List (Ix19 len), (∃ k, k ≤ len ∧ vals19 pre = dnL len k) ∧ Jx pre W')) := by
  refine callsIn_of_wp Tryz.func70 rfl hf ?_ hro
  simp only [Tryz.ntmps70, List.size_toArray, List.length_cons, List.length_nil, Nat.reduceAdd, Nat.reduceSub, Array.replicate_succ, Array.replicate_zero, List.push_toArray, List.append_toArray, List.nil_append, List.cons_append]
  gi_wp2
  gi_loopw [3] (fun i wr => ∃ (r : Nat) (z : Int) (pre : List (Ix19 len)), r ≤ len ∧ Hid (z = (len : Int) - 1 - (r : Int)) ∧ i = .int .i64 z ∧ Hid (vals19 pre = dnL len r) ∧ J pre wr ∧ Below n₀ W wr)
    (fun i _ => (intOf i + 1).toNat)
  case atStart => exact ⟨0, (len : Int) - 1, [], Nat.zero_le _, (by show _ = _; omega), rfl, rfl, h0, Below.refl _ _⟩
  case round =>
    obtain ⟨r, z, pre, hr, HZ, rfl, HP, hJs, hnx⟩ := hrel
    have cB := (hnx.cell (p := ⟨Bs, 0, none⟩) hBn).trans hBs
    by_cases hlt : r < len
    · obtain ⟨j, hj⟩ : ∃ j : Nat, len - 1 - r = j := ⟨_, rfl⟩
      obtain rfl : z = (j : Int) := by have := HZ.out; omega
      have hjl : j < len := by omega
      have c0 := (hnx.cell (p := ⟨b, off + j, none⟩) hb).trans (hc j hjl)
      have HPL : Hid (pre.length < len) := by
        have h1 : (vals19 pre).length = r := by rw [HP.out, dnL_len]
        show _ < _
        rw [← h1] at hlt
        simpa [vals19] using hlt
      have HP2 : Hid (vals19 (pre ++ [⟨j, hjl⟩]) = dnL len (r + 1)) := by show _ = _; rw [vals19_app, HP.out, dnL_succ, hj]
      have HZ2 : Hid ((j : Int) - 1 = (len : Int) - 1 - ((r + 1 : Nat) : Int)) := by show _ = _; have := HZ.out; omega
      have i1 : (0 : Int) ≤ (j : Int) := by omega
      have i2 : (j : Int) < (len : Int) := by omega
      have hYY := hY pre ⟨j, hjl⟩ wr hJs HPL.out
      dsimp only at hYY
      obtain ⟨fn, tmps, assign, body, hy, hR⟩ := hYY
      clear hj HZ HP HPL hY
      gi_wp2
      refine hR.mono ?_
      rintro e W3 (⟨rfl, hJ3, hk3⟩ | ⟨rfl, hJx3⟩)
      · gi_wp2
        go_roundw
        case rel => exact ⟨r + 1, _, _, by omega, HZ2, rfl, HP2, hJ3, hnx.trans hk3⟩
        case measure => simp [intOf]
      · gi_wp2
        refine bodyPost_ret (results_none rfl _ _ _) rfl ?_
        exact ⟨⟨_, rfl⟩, .inr ⟨_, ⟨r + 1, by omega, HP2.out⟩, hJx3⟩⟩
    · obtain rfl : r = len := by omega
      obtain rfl : z = -1 := by have := HZ.out; omega
      clear HZ hY
      gi_wp2
      go_end0
      exact ⟨⟨_, rfl⟩, .inl ⟨_, HP.out, hJs⟩⟩

set_option maxHeartbeats 1000000 in
set_option maxRecDepth 100000 in
theorem back_in (F : Fence) (n : Nat) (hf : F.fn 55) (hro : F.round = none) (a : Option Addr) (len cap : Nat) (w : World) :
    CallsIn F n Tryz.prog 55 #[.slice a len cap] w fun e w' => e = .returned (.func (.func 70) #[] #[.pointer (some ⟨w.heap.size, 0, none⟩)]) ∧ w' = w.alloc (.cells #[.slice a len cap] 23) := by
  refine callsIn_of_wp Tryz.func55 rfl hf ?_ hro
  simp only [Tryz.ntmps55, List.size_toArray, List.length_cons, List.length_nil, Nat.reduceAdd, Nat.reduceSub, Array.replicate_succ, Array.replicate_zero, List.push_toArray, List.append_toArray, List.nil_append, List.cons_append]
  gi_wp2
  go_ret
  exact ⟨rfl, rfl⟩

theorem back_stops (F : Fence) (n : Nat) (hf : F.fn 70) (hro : F.round = none) (hn : 1 ≤ n) (Bs n₀ b off len cap : Nat) (f : Nat → Int) (hreach : len ≤ 9223372036854775807) (w : World) (hBs : Bs < w.heap.size) (hBn : Bs < n₀) (hb : b < n₀) (hn₀ : n₀ ≤ w.heap.size)
    (hc : w.cell? ⟨Bs, 0, none⟩ = some (.slice (some ⟨b, off, none⟩) len cap)) (hI : ∀ j, j < len → w.cell? ⟨b, off + j, none⟩ = some (.int .i64 (f j))) :
    SeqStopsK F n Tryz.prog 70 #[.pointer (some ⟨Bs, 0, none⟩)] (fun x : Ix19 len => #[Value.int .i64 (x.1 : Int), Value.int .i64 (f x.1)]) (Below n₀) (fun ys => vals19 ys = dnL len len)
      (fun pre => ∃ k, k ≤ len ∧ vals19 pre = dnL len k) len w := fun l J Jx W hW _ _ hY h0 =>
  back1_in F n hf hro hn l Bs n₀ b off len cap f hreach hb hBn J Jx hY W ((hW.cell (p := ⟨Bs, 0, none⟩) hBs).trans hc) (fun j hj => (hW.cell (p := ⟨b, off + j, none⟩) (Nat.lt_of_lt_of_le hb hn₀)).trans (hI j hj)) h0

end Go.Proofs.YtchdoakoelfenaaGreat

namespace Go.Proofs.YtchdoakoelfenaaGreat
open Go.RowKit Go.Maps Go.Shelf
set_option linter.unusedSimpArgs false
set_option linter.unusedVariables false
attribute [local go_sem] Oper.semAt_some

theorem bk_all {ms : List Bool} {L : List Int} : ∀ k, (∀ j, j < k → mkB ms (L.getD j 0) = true) → bkF ms L k = -1 := by
  intro k
  induction k with
  | zero => intro _; rfl
  | succ k ih =>
    intro h
    rw [bkF_on (h k (by omega))]
    exact ih (fun j hj => h j (by omega))
theorem bk_done {ms : List Bool} {L : List Int} {f : Nat → Int} (hf : ∀ j, f j = L.getD j 0) {k : Nat} {ys : List (Ix19 k)} (h : vals19 ys = dnL k k) (hp : ∀ x ∈ ys, mkB ms (f x.1) = true) : bkF ms L k = -1 := by
  refine bk_all k (fun j hj => ?_)
  have hm : j ∈ vals19 ys := by rw [h]; exact dnL_mem.2 ⟨k - 1 - j, by omega, by omega⟩
  obtain ⟨x, hx, e⟩ := List.mem_map.1 hm
  have := hp x hx
  rw [hf, e] at this
  exact this
theorem bk_stop {ms : List Bool} {L : List Int} {f : Nat → Int} (hf : ∀ j, f j = L.getD j 0) {k r : Nat} {ini : List (Ix19 k)} {x : Ix19 k} (hr : r ≤ k) (h : vals19 (ini ++ [x]) = dnL k r) (hp : ∀ y ∈ ini, mkB ms (f y.1) = true) (hx : mkB ms (f x.1) = false) : bkF ms L k = (x.1 : Int) := by
  obtain ⟨r', rfl⟩ : ∃ r', r = r' + 1 := by
    cases r with
    | zero => simp [vals19, dnL] at h
    | succ r' => exact ⟨r', rfl⟩
  rw [vals19_app, dnL_succ] at h
  obtain ⟨h1, h2⟩ := List.append_inj' h rfl
  have h3 : x.1 = k - 1 - r' := by simpa using h2
  rw [hf] at hx
  refine bk_next k x.2 hx (fun i hi1 hi2 => ?_)
  have hm : i ∈ vals19 ini := by rw [h1]; exact dnL_mem.2 ⟨k - 1 - i, by omega, by omega⟩
  obtain ⟨y, hy, e⟩ := List.mem_map.1 hm
  have := hp y hy
  rw [hf, e] at this
  exact this
theorem keeps_below {W U : World} (h : Below W.heap.size W U) : KeepsOthers W U := ⟨h.size, fun k o hk _ => (h.block k (Array.getElem?_eq_some_iff.1 hk).1).trans hk⟩
theorem boxed_below {W U : World} {B : Nat} {t : TypeId} {v : Value} (h : Boxed W B t v) (hb : Below W.heap.size W U) : Boxed U B t v := (hb.block B h.lt).trans h

set_option maxRecDepth 100000 in
set_option maxHeartbeats 4000000 in
set_option maxRecDepth 100000 in
theorem cback_any (S : Nat → Prop) (a : Option Addr) (ca : Nat) (L : List Int) (b : Option Addr) (cb : Nat) (ms : List Bool) (i : Int) (w : World) (hL : Ri w a ca L) (hm : Gr El.bool S w b cb ms) (hi : I64 i) :
    Calls Tryz.prog 43 #[.slice a L.length ca, .slice b ms.length cb, .int .i64 i] w fun e w' => e = .returned (.int .i64 (bkQ ms L i)) ∧ Below w.heap.size w w' := by
  have kl := hL.lenB
  obtain ⟨hi1, hi2⟩ := hi
  have hpl := fun W => cplace_any a ca L i W kl
  cases hp : plB L i with
  | false =>
    rw [hp] at hpl
    have HF : Hid (bkQ ms L i = -1) := bkQ_no hp
    clear hp hL hm
    refine (callsIn_wide (n := 6)).1 ?_
    refine callsIn_of_wp_marks Tryz.func43 rfl trivial ?_ rfl
    simp only [Tryz.ntmps43, List.size_toArray, List.length_cons, List.length_nil, Nat.reduceAdd, Nat.reduceSub, Array.replicate_succ, Array.replicate_zero, List.push_toArray, List.append_toArray, List.nil_append, List.cons_append]
    gi_wp2_with (refine ⟨trivial, ?_⟩; gi_at_call 54; refine (callsIn_wide.2 (hpl _)).mono ?_; rintro e w' ⟨rfl, rfl⟩)
    have c0 : ((w.alloc (.cells #[.slice b ms.length cb] 30)).alloc (.cells #[.int .i64 (-1)] 3)).cell? ⟨w.heap.size + 1, 0, none⟩ = some (.int .i64 (-1)) := by
      have h := (Boxed.new (w.alloc (.cells #[.slice b ms.length cb] 30)) 3 (.int .i64 (-1))).cell
      rw [World.size_alloc] at h
      exact h
    refine ⟨.int .i64 (-1), ?_, rt_int HF.out.symm, (bl1 _).trans ((bl1 _).mono (bl1 _).size)⟩
    simp [results, Tryz.f43, go_sem, c0]
  | true =>
  rw [hp] at hpl
  obtain ⟨p1, p2⟩ := plB_iff.1 hp
  obtain ⟨k, rfl⟩ : ∃ k : Nat, i = (k : Int) := ⟨i.toNat, by omega⟩
  have hk : k < L.length := by omega
  have HX : Hid (bkQ ms L (k : Int) = bkF ms L k) := bkQ_yes hk
  obtain ⟨b0, off, rfl, hb0, _⟩ := hL.at (Below.refl _ _) k hk
  obtain ⟨f, hf⟩ : ∃ f : Nat → Int, ∀ j, f j = L.getD j 0 := ⟨_, fun _ => rfl⟩
  have hcap := hL.2.1
  have hcap2 := hL.2.2.1
  unfold maxLen at hcap2
  have HLF : Hid (∀ W, Below w.heap.size w W → ∀ j, j < k → W.cell? ⟨b0, off + j, none⟩ = some (.int .i64 (f j))) := fun W hW j hj => by
    obtain ⟨b1, o1, e1, _, c1⟩ := hL.at hW j (by omega)
    cases e1
    rw [hf]
    exact c1
  have HFI : Hid (∀ j, j < k → I64 (f j)) := fun j hj => by rw [hf]; exact hL.i64 (by omega)
  have HFF : Hid (∀ j, f j = L.getD j 0) := hf
  have HM : Hid (Gr El.bool S w b cb ms) := hm
  clear hp hL hm hf
  refine (callsIn_wide (n := 6)).1 ?_
  refine callsIn_of_wp_marks Tryz.func43 rfl trivial ?_ rfl
  simp only [Tryz.ntmps43, List.size_toArray, List.length_cons, List.length_nil, Nat.reduceAdd, Nat.reduceSub, Array.replicate_succ, Array.replicate_zero, List.push_toArray, List.append_toArray, List.nil_append, List.cons_append]
  gi_wp2_with first
    | (refine ⟨trivial, ?_⟩; gi_at_call 54; refine (callsIn_wide.2 (hpl _)).mono ?_; rintro e w' ⟨rfl, rfl⟩)
    | (refine ⟨trivial, ?_⟩; gi_at_call 55; refine (back_in Fence.wide _ trivial rfl _ _ _ _).mono ?_; rintro e w' ⟨rfl, rfl⟩)
  have bM := Boxed.new w 30 (.slice b ms.length cb)
  have bR := Boxed.new (w.alloc (.cells #[.slice b ms.length cb] 30)) 3 (.int .i64 0)
  have bN := Boxed.new ((w.alloc (.cells #[.slice b ms.length cb] 30)).alloc (.cells #[.int .i64 0] 3)) 23 (.slice (some ⟨b0, off, none⟩) k ca)
  have bM2 := (bM.alloc (.cells #[.int .i64 0] 3)).alloc (.cells #[.slice (some ⟨b0, off, none⟩) k ca] 23)
  have bR2 := bR.alloc (.cells #[.slice (some ⟨b0, off, none⟩) k ca] 23)
  simp only [World.size_alloc] at bR2 bN
  obtain ⟨W0, hW0⟩ : ∃ W0, W0 = (((w.alloc (.cells #[.slice b ms.length cb] 30)).alloc (.cells #[.int .i64 0] 3)).alloc (.cells #[.slice (some ⟨b0, off, none⟩) k ca] 23)) := ⟨_, rfl⟩
  have hs0 : W0.heap.size = w.heap.size + 3 := by rw [hW0]; simp
  have hB0 : Below w.heap.size w W0 := by rw [hW0]; exact (((Below.refl _ w).alloc (Nat.le_refl _) _).alloc (by simp) _).alloc (by simp; omega) _
  rw [← hW0] at bM2 bR2 bN
  rw [← hW0]
  clear hW0 bM bR hpl
  refine wpIn_rangeFunc_ownG (F := Fence.wide) rfl (by omega) (gf := 70) (lb := #[.pointer (some ⟨w.heap.size + 1 + 1, 0, none⟩)]) rfl trivial (enters_of Tryz.func70 (by kernel_rfl) rfl)
    (back_stops Fence.wide _ trivial rfl (by omega) (w.heap.size + 1 + 1) (w.heap.size + 3) b0 off k ca f (by omega) W0 (by omega) (by omega) (by omega) (by omega) bN.cell (HLF.out _ hB0)) belowK_t (belowK_b (by omega)) (Below.refl _ _) (fun _ => rfl)
    (fun pre W => ((∀ x ∈ pre, mkB ms (f x.1) = true) ∧ (Boxed W w.heap.size 30 (.slice b ms.length cb) ∧ Boxed W (w.heap.size + 1) 3 (.int .i64 0) ∧ w.heap.size + 3 ≤ W.heap.size)) ∧ Below w.heap.size w W)
    (fun c pre W => ((c = .ret ∧ ∃ ini last, pre = ini ++ [last] ∧ (∀ x ∈ ini, mkB ms (f x.1) = true) ∧ mkB ms (f last.1) = false ∧ Boxed W (w.heap.size + 1) 3 (.int .i64 (last.1 : Int))) ∧ Below w.heap.size w W))
    (OwnFrom.and (OwnFrom.and (ownFrom_pure _ _) (OwnFrom.and (Own.from (boxed_own _ _ _) _) (OwnFrom.and (Own.from (boxed_own _ _ _) _) (fun s A B row hs hg hr => Nat.le_trans hs hg.size)))) (ownFrom_below (Nat.le_refl _) (by omega)))
    (fun c => OwnFrom.and (Own.from (fun s A B row hs hg hr => by obtain ⟨hc, ini, last, e1, e2, e3, e4⟩ := hs; exact ⟨hc, ini, last, e1, e2, e3, boxed_own _ _ (fun _ : Unit => _) () A B row e4 hg hr⟩) _) (ownFrom_below (Nat.le_refl _) (by omega)))
    ⟨⟨(fun x hx => by cases hx), bM2, bR2, by omega⟩, hB0⟩
    (fun x => { tmps := #[.slice (some ⟨b0, off, none⟩) L.length ca, .slice b ms.length cb, .int .i64 (k : Int), undef, .pointer (some ⟨w.heap.size, 0, none⟩), undef, .pointer (some ⟨w.heap.size + 1, 0, none⟩), .int .i64 (x.1 : Int), .int .i64 (f x.1), .slice (some ⟨b0, off, none⟩) L.length ca, .int .i64 (k : Int), .bool true, .bool false, .slice (some ⟨b0, off, none⟩) L.length ca, .int .i64 (k : Int), .slice (some ⟨b0, off, none⟩) k ca, .func (.func 70) #[] #[.pointer (some ⟨w.heap.size + 1 + 1, 0, none⟩)], .int .i64 (x.1 : Int), .int .i64 (f x.1), undef, undef, undef, undef, undef], defers := [] }) ?assign ?body ?done ?stop
  case assign =>
    intro l x W K hK
    gi_wp2
    exact hK
  case body =>
    rintro l pre x W ⟨⟨hp, bx, bR, hsz⟩, hB⟩ _
    have hd : 1 ≤ 6 - 1 - 1 := by omega
    have hmk := cmark_any S b cb ms (f x.1) W (HM.out.below hB) (HFI.out _ x.2)
    have cM := bx.cell
    have cR := bR.cell
    have cF := bR.frozen
    obtain ⟨q, hq⟩ : ∃ q, mkB ms (f x.1) = q := ⟨_, rfl⟩
    have HQ : Hid (mkB ms (f x.1) = q) := hq
    have HBX : Hid (Boxed W w.heap.size 30 (.slice b ms.length cb)) := bx
    have HBR : Hid (Boxed W (w.heap.size + 1) 3 (.int .i64 0)) := bR
    have HPP : Hid (∀ x ∈ pre, mkB ms (f x.1) = true) := hp
    rw [hq] at hmk
    clear hq bx bR hp
    gi_wp2_with (refine ⟨trivial, ?_⟩; gi_at_call 32; refine (CallsIn.inRound l (callsIn_wide.2 hmk)).mono ?_)
    rintro e u ⟨rfl, hbu⟩
    have hB2 := hB.trans (hbu.mono hB.size)
    have bxu := boxed_below HBX.out hbu
    have bRu := boxed_below HBR.out hbu
    have HKE : Hid (KeepsOthers W u) := keeps_below hbu
    have HKB : Hid (Below (w.heap.size + 3) W u) := hbu.mono hsz
    have HSZ : Hid (w.heap.size + 3 ≤ u.heap.size) := Nat.le_trans hsz hbu.size
    have cR2 := bRu.cell
    have cF2 := bRu.frozen
    have HBX2 : Hid (Boxed u w.heap.size 30 (.slice b ms.length cb)) := bxu
    have HBR2 : Hid (Boxed u (w.heap.size + 1) 3 (.int .i64 0)) := bRu
    clear hmk hbu bxu bRu HBX HBR cM cR cF hsz
    cases q with
    | true =>
      gi_wp2
      exact ⟨HKE.out.from _, HKB.out, ⟨⟨fun y hy => by
        rcases List.mem_append.1 hy with hy | hy
        · exact HPP.out y hy
        · rw [List.mem_singleton.1 hy]; exact HQ.out, HBX2.out, HBR2.out, HSZ.out⟩, hB2⟩⟩
    | false =>
      gi_wp2
      exact ⟨(HKE.out.trans (KeepsOthers.setCell _ _ _)).from _, ⟨⟨rfl, pre, x, rfl, HPP.out, HQ.out, HBR2.out.set _⟩, hB2.setCell (p := ⟨w.heap.size + 1, 0, none⟩) (by simp) _⟩⟩
  case done =>
    rintro D ys W hD hys ⟨⟨hp, bx, bR, hsz⟩, hB⟩ hK
    have HF : Hid (bkQ ms L (k : Int) = -1) := by show _ = _; rw [HX.out]; exact bk_done HFF.out hys hp
    have cR := bR.cell
    have cF := bR.frozen
    clear hp bx hsz
    gi_wp2
    have hK' := (KeepsOthers.setCell W ⟨w.heap.size + 1, 0, none⟩ (.int .i64 (-1))).same D _ hK rfl
    refine ⟨by simp, .inl ⟨_, _, rfl, run_takeDeferred hK', ?_⟩⟩
    have hc5 := cell_kept (bR.set (.int .i64 (-1))).cell (grownBy_putObj' _ D (.deferred none)) (fun r e => by cases e; exact ⟨_, hK', rfl⟩)
    refine ⟨.int .i64 (-1), ?_, rt_int HF.out.symm, (hB.setCell (p := ⟨w.heap.size + 1, 0, none⟩) (by simp) _).trans (belowK_b (w := w) (Nat.le_refl _) _ D _ _ (by omega) hK' rfl rfl)⟩
    simp [results, Tryz.f43, go_sem, hc5]
  case stop =>
    rintro D c pre W hD ⟨r, hr, hys⟩ ⟨⟨rfl, ini, last, rfl, hp, hl, bR⟩, hB⟩ hK
    have HF : Hid (bkQ ms L (k : Int) = (last.1 : Int)) := by show _ = _; rw [HX.out]; exact bk_stop HFF.out hr hys hp hl
    have cR := bR.cell
    clear hp hl hys
    gi_wp2
    refine ⟨by simp, .inl ⟨_, _, rfl, run_takeDeferred hK, ?_⟩⟩
    have hc5 := cell_kept cR (grownBy_putObj' _ D (.deferred none)) (fun r e => by cases e; exact ⟨_, hK, rfl⟩)
    refine ⟨.int .i64 (last.1 : Int), ?_, rt_int HF.out.symm, hB.trans (belowK_b (w := w) (Nat.le_refl _) W D _ _ (by omega) hK rfl rfl)⟩
    simp [results, Tryz.f43, go_sem, hc5]

end Go.Proofs.YtchdoakoelfenaaGreat
