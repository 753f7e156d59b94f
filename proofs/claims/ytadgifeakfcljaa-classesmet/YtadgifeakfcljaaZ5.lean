/-
  What a law of layer 19 is told of what came in: a line with its marks; what is asked; ints; two ints.
  What is met: the first one, and how it ends; a row of one int of the call's own (no walks).
  classes.Meet: the walk.
  foundryref19.Meet: the walk.
  Rows of ints, cut; what Put lays (no walks).
-/
import Derived.Test.YtadgifeakfcljaaZ4
import Derived.Test.YtadgifeakfcljaaZ1
import Derived.Test.YtadgifeakfcljaaZ2
import Derived.BigQuiet
import Derived.Deep.QuietTactic
import Derived.Outline
namespace Go.Proofs.Ytadgifeakfcljaa
open Go.RowKit
open Go.ChangeShapes Go.WideShapes Go.Joins Go.Deep
set_option linter.unusedSimpArgs false
set_option linter.unusedVariables false

theorem opens_intY : Opens El.int 3 := Opens.int Try.underlying3 (by kernel_rfl)
theorem opens_boolY : Opens El.bool 4 := Opens.bool Try.underlying4 (by kernel_rfl)
theorem opens_isY : Opens El.int.row 22 := Opens.row opens_intY Try.underlying22 (by kernel_rfl) Nat.one_pos (of_decide_eq_true (by kernel_rfl))
theorem opens_bsY : Opens El.bool.row 23 := Opens.row opens_boolY Try.underlying23 (by kernel_rfl) Nat.one_pos (of_decide_eq_true (by kernel_rfl))
theorem opens_lineY : Opens (El.int.row.cat El.bool.row) 25 := Opens.struct Try.underlying25 (by kernel_rfl) (OpensF.more opens_isY rfl (OpensF.last opens_bsY rfl))
theorem opens_askedY : Opens (El.int.row.cat El.bool) 33 := Opens.struct Try.underlying33 (by kernel_rfl) (OpensF.more opens_isY rfl (OpensF.last opens_boolY rfl))
set_option maxRecDepth 100000 in
/-- A line, by value. -/
theorem open_lineY {H : Type} {enc : TypeId × Value → H} {W : World} {held : Bool} {r : Reach} {b0 : Nat} {v : Value} {d : DataW H} {p : List MemPlace}
    (hv : Value.okWide Try.prog W r b0 25 v) (hd : DataW.Trod enc Try.prog W 0 (fun _ => true) held 25 v d p) (hz : ∀ n ∈ d.weights Try.prog 25, n ≤ reachBytes) :
    ∃ a ca, ∃ l : List Int, ∃ b cb, ∃ m : List Bool, v = .agg #[.slice a l.length ca, .slice b m.length cb] ∧ Ri W a ca l ∧ Gr El.bool (fun k => k < W.heap.size) W b cb m := by
  obtain ⟨cs, ⟨l, m⟩, rfl, us, ts, e, ⟨a, ca, h1, _, h2, _⟩, b, cb, h3, _, h4, _⟩ := opens_lineY.agg Try.underlying25 hv hd hz
  subst h1 h3
  refine ⟨a, ca, l, b, cb, m, ?_, h2.ri, h4⟩
  congr 1
  apply Array.ext'
  rw [e]
  rfl
set_option maxRecDepth 100000 in
/-- What is asked, by value. -/
theorem open_askedY {H : Type} {enc : TypeId × Value → H} {W : World} {held : Bool} {r : Reach} {b0 : Nat} {v : Value} {d : DataW H} {p : List MemPlace}
    (hv : Value.okWide Try.prog W r b0 33 v) (hd : DataW.Trod enc Try.prog W 0 (fun _ => true) held 33 v d p) (hz : ∀ n ∈ d.weights Try.prog 33, n ≤ reachBytes) :
    ∃ a ca, ∃ l : List Int, ∃ sk : Bool, v = .agg #[.slice a l.length ca, .bool sk] ∧ Ri W a ca l := by
  obtain ⟨cs, ⟨l, sk⟩, rfl, us, ts, e, ⟨a, ca, h1, _, h2, _⟩, h3⟩ := opens_askedY.agg Try.underlying33 hv hd hz
  have h3' : ts = [.bool sk] := h3
  subst h1 h3'
  refine ⟨a, ca, l, sk, ?_, h2.ri⟩
  congr 1
  apply Array.ext'
  rw [e]
  rfl
set_option maxRecDepth 100000 in
theorem open_isY {H : Type} {enc : TypeId × Value → H} {W : World} {held : Bool} {a : Option Addr} {len cap : Nat} {d : DataW H} {p : List MemPlace}
    (hd : DataW.Trod enc Try.prog W 0 (fun _ => true) held 22 (.slice a len cap) d p) (hz : ∀ n ∈ d.weights Try.prog 22, n ≤ reachBytes) : ∃ l : List Int, len = l.length ∧ Gr El.int (fun k => k < W.heap.size) W a cap l := by
  obtain ⟨l, a', cap', e, _, hg, _⟩ := opens_isY.cell hd hz rfl
  simp at e
  obtain ⟨rfl, rfl, rfl⟩ := e
  exact ⟨l, rfl, hg⟩
theorem array2Y {α : Type} {cs : Array α} (h : cs.size = 2) : ∃ x y, cs = #[x, y] := by
  rcases cs with ⟨l⟩
  rcases l with _ | ⟨x, _ | ⟨y, _ | ⟨z, l⟩⟩⟩
  · simp at h
  · simp at h
  · exact ⟨x, y, rfl⟩
  · simp at h
set_option maxRecDepth 100000 in
/-- Two ints, by value. -/
theorem open_nnY {H : Type} {enc : TypeId × Value → H} {W : World} {held : Bool} {r : Reach} {b0 : Nat} {v : Value} {d : DataW H} {p : List MemPlace}
    (hv : Value.okWide Try.prog W r b0 38 v) (h : DataW.Trod enc Try.prog W 0 (fun _ => true) held 38 v d p) :
    ∃ x y : Int, v = .agg #[.int .i64 x, .int .i64 y] ∧ I64 x ∧ I64 y := by
  have hC : Try.prog.cellsOf 38 = 2 := by kernel_rfl
  have hc : Try.prog.cellsOf 3 = 1 := by kernel_rfl
  simp only [Value.okWide, Try.underlying38] at hv
  obtain ⟨cs, rfl, hsz, _⟩ := hv
  obtain ⟨c0, c1, rfl⟩ := array2Y (hsz.trans hC)
  obtain ⟨fuel, hf⟩ := h
  obtain ⟨zs, m, _, _, _, hl, ht⟩ := DataW.trod_array Try.underlying38 hf
  have h0 := ht 0 (by decide)
  have h1 := ht 1 (by decide)
  rw [hc] at h0 h1
  rw [List.getElem?_eq_getElem (by omega)] at h0 h1
  obtain ⟨x, e0, _, w0⟩ := DataW.trod_int Try.underlying3 h0
  obtain ⟨y, e1, _, w1⟩ := DataW.trod_int Try.underlying3 h1
  simp [Value.cells] at e0 e1
  subst e0 e1
  simp [Lit.wf, IntKind.min, IntKind.max, IntKind.bits, IntKind.signed] at w0 w1
  exact ⟨x, y, rfl, ⟨by omega, by omega⟩, ⟨by omega, by omega⟩⟩

end Go.Proofs.Ytadgifeakfcljaa

namespace Go.Proofs.Ytadgifeakfcljaa
open Go.RowKit Go.Maps
set_option linter.unusedSimpArgs false
set_option linter.unusedVariables false

theorem meQ_not {ms : List Bool} {L : List Int} {sk : Bool} {i : Int} {A : List Int} (h : ¬ (plB L i = true ∧ L.getD i.toNat 0 = A.getD 0 0)) : meQ ms L sk i A = none := by
  cases A with
  | nil => rfl
  | cons g t => exact meQ_no h
theorem meQ_nil0 {ms : List Bool} {L : List Int} {sk : Bool} {i : Int} {A : List Int} (h : A.length = 0) : meQ ms L sk i A = none := by
  cases A with
  | nil => rfl
  | cons g t => simp at h
theorem MeI.one {ms : List Bool} {L : List Int} {sk : Bool} {i : Int} {A : List Int} (hA : 0 < A.length) (h1 : plB L i = true) (h2 : L.getD i.toNat 0 = A.getD 0 0) : MeI ms L sk i A 1 [i] i := by
  cases A with
  | nil => simp at hA
  | cons g t => exact MeI.first h1 h2
/-- What Meet answers, and where. -/
structure MetA (ms : List Bool) (L : List Int) (sk : Bool) (i : Int) (A : List Int) (base : Nat) (w' : World) (e : Ending) : Prop where
  out : ∃ v, e = .returned (.tuple #[v, .bool (meB ms L sk i A)]) ∧ Io base w' v (meL ms L sk i A)
theorem MetA.no {ms : List Bool} {L : List Int} {sk : Bool} {i : Int} {A : List Int} {base : Nat} {w' : World} (h : meQ ms L sk i A = none) : MetA ms L sk i A base w' (.returned (.tuple #[.slice none 0 0, .bool false])) := by
  refine ⟨.slice none 0 0, ?_, ?_⟩
  · unfold meB; rw [h]; rfl
  · unfold meL; rw [h]; exact Io.nil _ _
theorem MetA.yes {ms : List Bool} {L : List Int} {sk : Bool} {i : Int} {A : List Int} {base : Nat} {w' : World} {v : Value} {l : List Int} (h : meQ ms L sk i A = some l) (hv : Io base w' v l) : MetA ms L sk i A base w' (.returned (.tuple #[v, .bool true])) := by
  refine ⟨v, ?_, ?_⟩
  · unfold meB; rw [h]; rfl
  · unfold meL; rw [h]; exact hv
theorem Io.one {base : Nat} {w : World} {z : Int} (hz : I64 z) (hb : base ≤ w.heap.size) : Io base (w.alloc (.cells #[.int .i64 z] 3)) (.slice (some ⟨w.heap.size, 0, none⟩) 1 1) [z] :=
  ⟨fun s hs => by rw [List.mem_singleton.1 hs]; exact hz, rfl, .inr ⟨w.heap.size, 1, #[.int .i64 z], rfl, hb, heap_alloc_new w _, Nat.le_refl _, by unfold maxLen; omega, rfl, rfl⟩⟩
/-- The next place is a place. -/
theorem nx_pl {ms : List Bool} {L : List Int} {sk : Bool} {i : Int} (h : plB L i = true) : nxQ ms L sk i = -1 ∨ ∃ m : Nat, nxQ ms L sk i = (m : Int) ∧ m < L.length := by
  have hp := plB_iff.1 h
  obtain ⟨j, rfl⟩ : ∃ j : Nat, i = (j : Int) := ⟨i.toNat, by omega⟩
  rcases nxQ_is (ms := ms) (sk := sk) (show j < L.length by omega) with ⟨h1, _⟩ | ⟨m, h1, _, h3, _⟩
  · exact .inl h1
  · exact .inr ⟨m, h1, h3⟩

end Go.Proofs.Ytadgifeakfcljaa

namespace Go.Proofs.Ytadgifeakfcljaa
open Go.RowKit Go.Maps
set_option linter.unusedSimpArgs false
set_option linter.unusedVariables false

set_option maxHeartbeats 4000000 in
set_option maxRecDepth 100000 in
theorem cmeet_any (S : Nat → Prop) (a : Option Addr) (ca : Nat) (L : List Int) (b : Option Addr) (cb : Nat) (ms : List Bool) (i : Int) (q : Option Addr) (cq : Nat) (A : List Int) (sk : Bool) (w : World)
    (hL : Ri w a ca L) (hm : Gr El.bool S w b cb ms) (hi : I64 i) (hA : Ri w q cq A) (hA2 : A.length ≤ 1000) :
    Calls Try.prog 16 #[.slice a L.length ca, .slice b ms.length cb, .int .i64 i, .slice q A.length cq, .bool sk] w fun e w' => MetA ms L sk i A w.heap.size w' e ∧ Below w.heap.size w w' := by
  have kl := hL.lenB
  obtain ⟨hi1, hi2⟩ := hi
  by_cases h0 : A.length = 0
  · have HF : Hid (meQ ms L sk i A = none) := meQ_nil0 h0
    have HNO : Hid (∀ U, MetA ms L sk i A w.heap.size U (.returned (.tuple #[.slice none 0 0, .bool false]))) := fun U => MetA.no HF.out
    clear hL hm hA
    go_enter Try.func16, Try.ntmps16
    go_wp2_with fail
    go_quiet (fail)
    go_wp2
    go_ret2
    exact ⟨HNO.out _, below_drewN (Below.refl _ _) _⟩
  have e0 : ((A.length : Int) == 0) = false := by rw [beq_eq_false_iff_ne]; omega
  cases hp : plB L i with
  | false =>
    have hpl := fun W => cplace_any a ca L i W kl
    rw [hp] at hpl
    have HPL : ∀ W, Calls Try.prog 21 #[.slice a L.length ca, .int .i64 i] W fun e w' => e = .returned (.bool false) ∧ w' = W := fun W => (hpl W).mono fun _ _ h => ⟨h.1, h.2.symm⟩
    have HF : Hid (meQ ms L sk i A = none) := meQ_not (fun h => by rw [hp] at h; cases h.1)
    have HNO : Hid (∀ U, MetA ms L sk i A w.heap.size U (.returned (.tuple #[.slice none 0 0, .bool false]))) := fun U => MetA.no HF.out
    clear hL hm hA hpl hp HF
    go_enter Try.func16, Try.ntmps16
    go_wp2_with fail
    go_quiet ((go_at_call 21; exact Calls.quiet_of_same (HPL _)))
    go_wp2
    go_ret2
    exact ⟨HNO.out _, below_drewN (Below.refl _ _) _⟩
  | true =>
  have hpl := fun W => cplace_any a ca L i W kl
  rw [hp] at hpl
  have HPL : ∀ W, Calls Try.prog 21 #[.slice a L.length ca, .int .i64 i] W fun e w' => e = .returned (.bool true) ∧ w' = W := fun W => (hpl W).mono fun _ _ h => ⟨h.1, h.2.symm⟩
  obtain ⟨p1, p2⟩ := plB_iff.1 hp
  obtain ⟨k, rfl⟩ : ∃ k : Nat, i = (k : Int) := ⟨i.toNat, by omega⟩
  have hk : k < L.length := by omega
  have hA0 : 0 < A.length := by omega
  obtain ⟨b0, o0, rfl, hb0, c0⟩ := hL.at (Below.refl _ _) k hk
  obtain ⟨b1, o1, rfl, hb1, c1⟩ := hA.at (Below.refl _ _) 0 hA0
  rw [Nat.add_zero] at c1
  have HNE : Hid (¬ L.getD k 0 = A.getD 0 0 → meQ ms L sk (k : Int) A = none) := fun h => meQ_not (fun h1 => h h1.2)
  have HEQ : Hid (L.getD k 0 = A.getD 0 0 → MeI ms L sk (k : Int) A 1 [(k : Int)] (k : Int)) := fun h => MeI.one hA0 hp h
  have HIK : Hid (I64 (k : Int)) := ⟨by omega, by omega⟩
  have HL : Hid (Ri w (some ⟨b0, o0, none⟩) ca L) := hL
  have HM : Hid (Gr El.bool S w b cb ms) := hm
  have HA : Hid (Ri w (some ⟨b1, o1, none⟩) cq A) := hA
  obtain ⟨x, hx⟩ : ∃ x, L.getD k 0 = x := ⟨_, rfl⟩
  obtain ⟨y, hy⟩ : ∃ y, A.getD 0 0 = y := ⟨_, rfl⟩
  rw [hx] at c0 HNE HEQ
  rw [hy] at c1 HNE HEQ
  have i1 : (0 : Int) ≤ (k : Int) := by omega
  have i2 : (0 : Int) < (A.length : Int) := by omega
  clear hL hm hA hpl hp hx hy
  by_cases hxy : x = y
  rotate_left
  · have d1 : ((x : Int) != (y : Int)) = true := by simp; exact hxy
    have HNO : Hid (∀ U, MetA ms L sk (k : Int) A w.heap.size U (.returned (.tuple #[.slice none 0 0, .bool false]))) := fun U => MetA.no (HNE.out hxy)
    clear HNE HEQ HL HM HA hxy
    go_enter Try.func16, Try.ntmps16
    go_wp2_with fail
    go_quiet ((go_at_call 21; exact Calls.quiet_of_same (HPL _)))
    go_wp2
    go_ret2
    exact ⟨HNO.out _, below_drewN (Below.refl _ _) _⟩
  subst hxy
  have d1 : ((x : Int) != (x : Int)) = false := by simp
  have HI1 : Hid (_) := HEQ.out rfl
  have hcap := HA.out.2.1
  have hcap2 := HA.out.2.2.1
  unfold maxLen at hcap2
  clear HNE HEQ h0
  by_cases hlast : A.length = 1
  · have HY : Hid (∀ U v, Io w.heap.size U v [(k : Int)] → MetA ms L sk (k : Int) A w.heap.size U (.returned (.tuple #[v, .bool true]))) := fun U v hv => MetA.yes (MeI.done (by rw [hlast]; exact HI1.out)) hv
    have hn0 : A.length - 1 = 0 := by omega
    clear hlast HI1 HL HM HA
    by_cases hc1 : cq = 1
    · subst hc1
      go_enter Try.func16, Try.ntmps16
      go_wp2_with fail
      go_quiet ((go_at_call 21; exact Calls.quiet_of_same (HPL _)))
      have hBW : Below w.heap.size w (w.drewN nq) := below_drewN (Below.refl _ _) _
      clear c0 c1 HPL
      generalize w.drewN nq = W at hBW ⊢
      have HI0 : Hid (Io w.heap.size (W.alloc (.cells #[.int .i64 (k : Int)] 3)) (.slice (some ⟨W.heap.size, 0, none⟩) 1 1) [(k : Int)]) := Io.one HIK.out hBW.size
      have HB0 : Hid (Below w.heap.size w (W.alloc (.cells #[.int .i64 (k : Int)] 3))) := hBW.trans ((bl1 _).mono hBW.size)
      clear hBW
      go_wp2
      go_loopw [12, 39] (fun v i wr => v = .slice (some ⟨W.heap.size, 0, none⟩) 1 1 ∧ i = .int .i64 0 ∧ wr = W.alloc (.cells #[.int .i64 (k : Int)] 3)) (fun _ _ _ => 0)
      case atStart => exact ⟨rfl, rfl, rfl⟩
      case round =>
        obtain ⟨rfl, rfl, rfl⟩ := hrel
        go_wp2
        go_ret2
        exact ⟨HY.out _ _ HI0.out, HB0.out⟩
    · go_enter Try.func16, Try.ntmps16
      go_wp2_with fail
      go_quiet ((go_at_call 21; exact Calls.quiet_of_same (HPL _)))
      have hBW : Below w.heap.size w (w.drewN nq) := below_drewN (Below.refl _ _) _
      clear c0 c1 HPL
      generalize w.drewN nq = W at hBW ⊢
      have HI0 : Hid (Io w.heap.size (W.alloc (.cells #[.int .i64 (k : Int)] 3)) (.slice (some ⟨W.heap.size, 0, none⟩) 1 1) [(k : Int)]) := Io.one HIK.out hBW.size
      have HB0 : Hid (Below w.heap.size w (W.alloc (.cells #[.int .i64 (k : Int)] 3))) := hBW.trans ((bl1 _).mono hBW.size)
      clear hBW
      go_wp2
      go_loopw [12, 39] (fun v i wr => v = .slice (some ⟨W.heap.size, 0, none⟩) 1 1 ∧ i = .int .i64 0 ∧ wr = W.alloc (.cells #[.int .i64 (k : Int)] 3)) (fun _ _ _ => 0)
      case atStart => exact ⟨rfl, rfl, rfl⟩
      case round =>
        obtain ⟨rfl, rfl, rfl⟩ := hrel
        go_wp2
        go_ret2
        exact ⟨HY.out _ _ HI0.out, HB0.out⟩
  have hc1 : ¬ cq = 1 := by omega
  obtain ⟨n, hn⟩ : ∃ n, A.length - 1 = n := ⟨_, rfl⟩
  have hn1 : n + 1 ≤ A.length := by omega
  have hn2 : A.length ≤ n + 1 := by omega
  clear hlast
  go_enter Try.func16, Try.ntmps16
  go_wp2_with fail
  go_quiet ((go_at_call 21; exact Calls.quiet_of_same (HPL _)))
  have hBW : Below w.heap.size w (w.drewN nq) := below_drewN (Below.refl _ _) _
  clear c0 c1 HPL
  generalize w.drewN nq = W at hBW ⊢
  have HI0 : Hid (Io w.heap.size (W.alloc (.cells #[.int .i64 (k : Int)] 3)) (.slice (some ⟨W.heap.size, 0, none⟩) 1 1) [(k : Int)]) := Io.one HIK.out hBW.size
  have HB0 : Hid (Below w.heap.size w (W.alloc (.cells #[.int .i64 (k : Int)] 3))) := hBW.trans ((bl1 _).mono hBW.size)
  clear hBW
  go_wp2
  clear hn
  go_loopw [2, 12, 39] (fun z v i wr => ∃ (j : Nat) (at' : Int) (l : List Int), j ≤ n ∧ i = .int .i64 (j : Int) ∧ z = .int .i64 at' ∧ Hid (MeI ms L sk (k : Int) A (j + 1) l at') ∧ Io w.heap.size wr v l ∧ Below w.heap.size w wr) (fun _ _ i _ => n - (intOf i).toNat)
  case atStart => exact ⟨0, (k : Int), [(k : Int)], Nat.zero_le _, rfl, rfl, HI1, HI0.out, HB0.out⟩
  case round =>
    clear HI1 HI0 HB0
    obtain ⟨j, z, l, hj, rfl, rfl, HI, hIo, hB⟩ := hrel
    obtain ⟨av, cv, rfl, hri⟩ := hIo.slice
    have HLEN : Hid (l.length = j + 1) := HI.out.len
    have hl1 : l.length ≤ j + 1 := by rw [HLEN.out]; exact Nat.le_refl _
    have hpz := plB_iff.1 HI.out.pl
    by_cases hjn0 : j < n
    · have hjn : j + 1 < A.length := by omega
      obtain ⟨b2, o2, e2, _, c2⟩ := HA.out.at hB (j + 1) hjn
      cases e2
      have HST : Hid (_) := HI.out.stop hjn
      have HMO : Hid (_) := HI.out.more hjn
      have HNX : Hid (_) := nx_pl (ms := ms) (sk := sk) HI.out.pl
      have hnx := cnext_any S (some ⟨b0, o0, none⟩) ca L b cb ms z sk wr (HL.out.below hB) (HM.out.below hB) ⟨by omega, by omega⟩
      obtain ⟨r, hr⟩ : ∃ r, nxQ ms L sk z = r := ⟨_, rfl⟩
      obtain ⟨g, hg⟩ : ∃ g, A.getD (j + 1) 0 = g := ⟨_, rfl⟩
      rw [hr] at hnx HST HMO HNX
      rw [hg] at c2 HST HMO
      have hadd : o1 + (j + 1) = o1 + 1 + j := by omega
      rw [hadd] at c2
      have i3 : (j : Int) < (n : Int) := by omega
      have i4 : (0 : Int) ≤ (j : Int) := by omega
      clear hr hg HI hri hpz hadd
      go_wp2_with fail
      refine hnx.mono ?_
      rintro e u ⟨rfl, hbu⟩
      have hBu := hB.trans (hbu.mono hB.size)
      have hIu := hIo.below hbu
      clear hnx hbu hB c2 hIo
      rcases HNX.out with rfl | ⟨m, rfl, hm⟩
      · have HNO : Hid (∀ U, MetA ms L sk (k : Int) A w.heap.size U (.returned (.tuple #[.slice none 0 0, .bool false]))) := fun U => MetA.no (HST.out (.inl rfl))
        clear HST HMO HNX hIu
        go_wp2
        go_ret2
        exact ⟨HNO.out _, hBu⟩
      · obtain ⟨b4, o4, e4, _, c4⟩ := HL.out.at hBu m hm
        cases e4
        rw [Int.toNat_natCast] at HST HMO
        obtain ⟨x2, hx2⟩ : ∃ x, L.getD m 0 = x := ⟨_, rfl⟩
        rw [hx2] at c4 HST HMO
        have e5 : ((m : Int) == -1) = false := by rw [beq_eq_false_iff_ne]; omega
        have i5 : (0 : Int) ≤ (m : Int) := by omega
        have i6 : (m : Int) < (L.length : Int) := by omega
        clear hx2 HNX
        by_cases hxg : x2 = g
        rotate_left
        · have d2 : ((x2 : Int) != (g : Int)) = true := by simp; exact hxg
          have HNO : Hid (∀ U, MetA ms L sk (k : Int) A w.heap.size U (.returned (.tuple #[.slice none 0 0, .bool false]))) := fun U => MetA.no (HST.out (.inr hxg))
          clear HST HMO hIu hxg
          go_wp2
          go_ret2
          exact ⟨HNO.out _, hBu⟩
        subst hxg
        have d2 : ((x2 : Int) != (x2 : Int)) = false := by simp
        have HMI : Hid (_) := HMO.out (fun h => by
          rcases h with h | h
          · omega
          · exact h rfl)
        have HIM : Hid (I64 (m : Int)) := ⟨by omega, by omega⟩
        clear HST HMO
        have hT5 := hIu.below (bl1 (.cells #[.int .i64 (m : Int)] 3))
        have hN := heap_alloc_new u (.cells #[.int .i64 (m : Int)] 3)
        have n0 := cell_of_row _ u.heap.size 0 _ _ (0, 0) hN
        have hll : l.length + 1 ≤ 1000000 := by omega
        have hB6 : Below w.heap.size w (u.alloc (.cells #[.int .i64 (m : Int)] 3)) := hBu.alloc hBu.size _
        clear hN hIu
        go_wp2_with (at_builtin; refine wpList_append_int rfl _ _ rfl w.heap.size _ l rfl hT5 u.heap.size (m : Int) rfl n0 HIM.out hll hB6.size ?_)
        intro v' w9 hT9 hgrow
        have hB9 : Below w.heap.size w w9 := hB6.grown hgrow hB6.size (fun k hk => hT5.lo hk)
        clear hgrow hT5 n0 hB6 hBu hll
        go_wp2
        go_roundw
        case rel => exact ⟨j + 1, (m : Int), _, hjn0, by go_num, rfl, HMI, hT9, hB9⟩
        case measure => simp [intOf]; omega
    · have HY : Hid (MetA ms L sk (k : Int) A w.heap.size wr (.returned (.tuple #[.slice av l.length cv, .bool true]))) := MetA.yes (MeI.done (by rw [show A.length = j + 1 by omega]; exact HI.out)) hIo
      have g4 : ¬ (j : Int) < (n : Int) := by omega
      clear HI hri hpz hIo
      go_wp2
      go_ret2
      exact ⟨HY.out, hB⟩

end Go.Proofs.Ytadgifeakfcljaa

namespace Go.Proofs.Ytadgifeakfcljaa
open Go.RowKit Go.Maps
set_option linter.unusedSimpArgs false
set_option linter.unusedVariables false

set_option maxHeartbeats 4000000 in
set_option maxRecDepth 100000 in
theorem smeet_any (S : Nat → Prop) (a : Option Addr) (ca : Nat) (L : List Int) (b : Option Addr) (cb : Nat) (ms : List Bool) (i : Int) (q : Option Addr) (cq : Nat) (A : List Int) (sk : Bool) (w : World)
    (hL : Ri w a ca L) (hm : Gr El.bool S w b cb ms) (hi : I64 i) (hA : Ri w q cq A) (hA2 : A.length ≤ 1000) :
    Calls Try.prog 17 #[.slice a L.length ca, .slice b ms.length cb, .int .i64 i, .slice q A.length cq, .bool sk] w fun e w' => MetA ms L sk i A w.heap.size w' e ∧ Below w.heap.size w w' := by
  have kl := hL.lenB
  obtain ⟨hi1, hi2⟩ := hi
  by_cases h0 : A.length = 0
  · have HF : Hid (meQ ms L sk i A = none) := meQ_nil0 h0
    have HNO : Hid (∀ U, MetA ms L sk i A w.heap.size U (.returned (.tuple #[.slice none 0 0, .bool false]))) := fun U => MetA.no HF.out
    clear hL hm hA
    go_enter Try.func17, Try.ntmps17
    go_wp2_with fail
    go_quiet (fail)
    go_wp2
    go_ret2
    exact ⟨HNO.out _, below_drewN (Below.refl _ _) _⟩
  have e0 : ((A.length : Int) == 0) = false := by rw [beq_eq_false_iff_ne]; omega
  cases hp : plB L i with
  | false =>
    have hpl := fun W => splace_any a ca L i W kl
    rw [hp] at hpl
    have HPL : ∀ W, Calls Try.prog 22 #[.slice a L.length ca, .int .i64 i] W fun e w' => e = .returned (.bool false) ∧ w' = W := fun W => (hpl W).mono fun _ _ h => ⟨h.1, h.2.symm⟩
    have HF : Hid (meQ ms L sk i A = none) := meQ_not (fun h => by rw [hp] at h; cases h.1)
    have HNO : Hid (∀ U, MetA ms L sk i A w.heap.size U (.returned (.tuple #[.slice none 0 0, .bool false]))) := fun U => MetA.no HF.out
    clear hL hm hA hpl hp HF
    go_enter Try.func17, Try.ntmps17
    go_wp2_with fail
    go_quiet ((go_at_call 22; exact Calls.quiet_of_same (HPL _)))
    go_wp2
    go_ret2
    exact ⟨HNO.out _, below_drewN (Below.refl _ _) _⟩
  | true =>
  have hpl := fun W => splace_any a ca L i W kl
  rw [hp] at hpl
  have HPL : ∀ W, Calls Try.prog 22 #[.slice a L.length ca, .int .i64 i] W fun e w' => e = .returned (.bool true) ∧ w' = W := fun W => (hpl W).mono fun _ _ h => ⟨h.1, h.2.symm⟩
  obtain ⟨p1, p2⟩ := plB_iff.1 hp
  obtain ⟨k, rfl⟩ : ∃ k : Nat, i = (k : Int) := ⟨i.toNat, by omega⟩
  have hk : k < L.length := by omega
  have hA0 : 0 < A.length := by omega
  obtain ⟨b0, o0, rfl, hb0, c0⟩ := hL.at (Below.refl _ _) k hk
  obtain ⟨b1, o1, rfl, hb1, c1⟩ := hA.at (Below.refl _ _) 0 hA0
  rw [Nat.add_zero] at c1
  have HNE : Hid (¬ L.getD k 0 = A.getD 0 0 → meQ ms L sk (k : Int) A = none) := fun h => meQ_not (fun h1 => h h1.2)
  have HEQ : Hid (L.getD k 0 = A.getD 0 0 → MeI ms L sk (k : Int) A 1 [(k : Int)] (k : Int)) := fun h => MeI.one hA0 hp h
  have HIK : Hid (I64 (k : Int)) := ⟨by omega, by omega⟩
  have HL : Hid (Ri w (some ⟨b0, o0, none⟩) ca L) := hL
  have HM : Hid (Gr El.bool S w b cb ms) := hm
  have HA : Hid (Ri w (some ⟨b1, o1, none⟩) cq A) := hA
  obtain ⟨x, hx⟩ : ∃ x, L.getD k 0 = x := ⟨_, rfl⟩
  obtain ⟨y, hy⟩ : ∃ y, A.getD 0 0 = y := ⟨_, rfl⟩
  rw [hx] at c0 HNE HEQ
  rw [hy] at c1 HNE HEQ
  have i1 : (0 : Int) ≤ (k : Int) := by omega
  have i2 : (0 : Int) < (A.length : Int) := by omega
  clear hL hm hA hpl hp hx hy
  by_cases hxy : x = y
  rotate_left
  · have d1 : ((x : Int) != (y : Int)) = true := by simp; exact hxy
    have HNO : Hid (∀ U, MetA ms L sk (k : Int) A w.heap.size U (.returned (.tuple #[.slice none 0 0, .bool false]))) := fun U => MetA.no (HNE.out hxy)
    clear HNE HEQ HL HM HA hxy
    go_enter Try.func17, Try.ntmps17
    go_wp2_with fail
    go_quiet ((go_at_call 22; exact Calls.quiet_of_same (HPL _)))
    go_wp2
    go_ret2
    exact ⟨HNO.out _, below_drewN (Below.refl _ _) _⟩
  subst hxy
  have d1 : ((x : Int) != (x : Int)) = false := by simp
  have HI1 : Hid (_) := HEQ.out rfl
  clear HNE HEQ h0
  go_enter Try.func17, Try.ntmps17
  go_wp2_with fail
  go_quiet ((go_at_call 22; exact Calls.quiet_of_same (HPL _)))
  have hBW : Below w.heap.size w (w.drewN nq) := below_drewN (Below.refl _ _) _
  clear c0 c1 HPL
  generalize w.drewN nq = W at hBW ⊢
  have HI0 : Hid (Io w.heap.size (W.alloc (.cells #[.int .i64 (k : Int)] 3)) (.slice (some ⟨W.heap.size, 0, none⟩) 1 1) [(k : Int)]) := Io.one HIK.out hBW.size
  have HB0 : Hid (Below w.heap.size w (W.alloc (.cells #[.int .i64 (k : Int)] 3))) := hBW.trans ((bl1 _).mono hBW.size)
  clear hBW
  go_wp2
  go_loopw [2, 13, 14] (fun z v i wr => ∃ (j : Nat) (at' : Int) (l : List Int), j < A.length ∧ i = .int .i64 ((j : Int) + 1) ∧ z = .int .i64 at' ∧ Hid (MeI ms L sk (k : Int) A (j + 1) l at') ∧ Io w.heap.size wr v l ∧ Below w.heap.size w wr) (fun _ _ i _ => A.length - (intOf i).toNat)
  case atStart => exact ⟨0, (k : Int), [(k : Int)], hA0, rfl, rfl, HI1, HI0.out, HB0.out⟩
  case round =>
    clear HI1 HI0 HB0
    obtain ⟨j, z, l, hj, rfl, rfl, HI, hIo, hB⟩ := hrel
    obtain ⟨av, cv, rfl, hri⟩ := hIo.slice
    have HLEN : Hid (l.length = j + 1) := HI.out.len
    have hl1 : l.length ≤ j + 1 := by rw [HLEN.out]; exact Nat.le_refl _
    have hpz := plB_iff.1 HI.out.pl
    by_cases hjn : j + 1 < A.length
    · obtain ⟨b2, o2, e2, _, c2⟩ := HA.out.at hB (j + 1) hjn
      cases e2
      have HST : Hid (_) := HI.out.stop hjn
      have HMO : Hid (_) := HI.out.more hjn
      have HNX : Hid (_) := nx_pl (ms := ms) (sk := sk) HI.out.pl
      have hnx := snext_any S (some ⟨b0, o0, none⟩) ca L b cb ms z sk wr (HL.out.below hB) (HM.out.below hB) ⟨by omega, by omega⟩
      obtain ⟨r, hr⟩ : ∃ r, nxQ ms L sk z = r := ⟨_, rfl⟩
      obtain ⟨g, hg⟩ : ∃ g, A.getD (j + 1) 0 = g := ⟨_, rfl⟩
      rw [hr] at hnx HST HMO HNX
      rw [hg] at c2 HST HMO
      have i3 : (j : Int) + 1 < (A.length : Int) := by omega
      have i4 : (0 : Int) ≤ (j : Int) + 1 := by omega
      clear hr hg HI hri hpz
      go_wp2_with fail
      refine hnx.mono ?_
      rintro e u ⟨rfl, hbu⟩
      have hBu := hB.trans (hbu.mono hB.size)
      have c3 := (hbu.cell (p := ⟨b1, o1 + (j + 1), none⟩) (Nat.lt_of_lt_of_le hb1 hB.size)).trans c2
      have hIu := hIo.below hbu
      clear hnx hbu hB c2 hIo
      rcases HNX.out with rfl | ⟨m, rfl, hm⟩
      · have HNO : Hid (∀ U, MetA ms L sk (k : Int) A w.heap.size U (.returned (.tuple #[.slice none 0 0, .bool false]))) := fun U => MetA.no (HST.out (.inl rfl))
        clear HST HMO HNX hIu
        go_wp2_with fail
        go_quiet (fail)
        go_wp2
        go_ret2
        exact ⟨HNO.out _, below_drewN hBu _⟩
      · obtain ⟨b4, o4, e4, _, c4⟩ := HL.out.at hBu m hm
        cases e4
        rw [Int.toNat_natCast] at HST HMO
        obtain ⟨x2, hx2⟩ : ∃ x, L.getD m 0 = x := ⟨_, rfl⟩
        rw [hx2] at c4 HST HMO
        have e5 : ((m : Int) == -1) = false := by rw [beq_eq_false_iff_ne]; omega
        have i5 : (0 : Int) ≤ (m : Int) := by omega
        have i6 : (m : Int) < (L.length : Int) := by omega
        clear hx2 HNX
        by_cases hxg : x2 = g
        rotate_left
        · have d2 : ((x2 : Int) != (g : Int)) = true := by simp; exact hxg
          have HNO : Hid (∀ U, MetA ms L sk (k : Int) A w.heap.size U (.returned (.tuple #[.slice none 0 0, .bool false]))) := fun U => MetA.no (HST.out (.inr hxg))
          clear HST HMO hIu hxg
          go_wp2_with fail
          go_quiet (fail)
          go_wp2
          go_ret2
          exact ⟨HNO.out _, below_drewN hBu _⟩
        subst hxg
        have d2 : ((x2 : Int) != (x2 : Int)) = false := by simp
        have HMI : Hid (_) := HMO.out (fun h => by
          rcases h with h | h
          · omega
          · exact h rfl)
        have HIM : Hid (I64 (m : Int)) := ⟨by omega, by omega⟩
        clear HST HMO
        go_wp2_with fail
        go_quiet (fail)
        have hIq : Io w.heap.size (u.drewN nq) _ l := hIu.below (below_drewN (Below.refl _ _) _)
        have hBq := below_drewN hBu nq
        clear c3 c4 hIu hBu
        generalize u.drewN nq = y1 at hIq hBq ⊢
        have hT5 := hIq.below (bl1 (.cells #[.int .i64 (m : Int)] 3))
        have hN := heap_alloc_new y1 (.cells #[.int .i64 (m : Int)] 3)
        have n0 := cell_of_row _ y1.heap.size 0 _ _ (0, 0) hN
        have hll : l.length + 1 ≤ 1000000 := by omega
        have hB6 : Below w.heap.size w (y1.alloc (.cells #[.int .i64 (m : Int)] 3)) := hBq.alloc hBq.size _
        clear hN hIq
        go_wp2_with (at_builtin; refine wpList_append_int rfl _ _ rfl w.heap.size _ l rfl hT5 y1.heap.size (m : Int) rfl n0 HIM.out hll hB6.size ?_)
        intro v' w9 hT9 hgrow
        have hB9 : Below w.heap.size w w9 := hB6.grown hgrow hB6.size (fun k hk => hT5.lo hk)
        clear hgrow hT5 n0 hB6 hBq hll
        go_wp2
        go_roundw
        case rel => exact ⟨j + 1, (m : Int), _, hjn, by go_num, rfl, HMI, hT9, hB9⟩
        case measure => simp [intOf]; omega
    · have HY : Hid (MetA ms L sk (k : Int) A w.heap.size wr (.returned (.tuple #[.slice av l.length cv, .bool true]))) := MetA.yes (MeI.done (by rw [show A.length = j + 1 by omega]; exact HI.out)) hIo
      have g4 : ¬ (j : Int) + 1 < (A.length : Int) := by omega
      clear HI hri hpz hIo
      go_wp2
      go_ret2
      exact ⟨HY.out, hB⟩

end Go.Proofs.Ytadgifeakfcljaa

namespace Go.Proofs.Ytadgifeakfcljaa
open Go.RowKit Go.Maps
set_option linter.unusedSimpArgs false
set_option linter.unusedVariables false

theorem Gr.anyI {S S' : Nat → Prop} {w : World} {a : Option Addr} {cap : Nat} {l : List Int} (h : Gr El.int S w a cap l) : Gr El.int S' w a cap l := by
  refine ⟨h.1, h.2.1, h.2.2.1, fun i hi => ?_⟩
  obtain ⟨b, off, vs, e, hb, hr, hc⟩ := h.2.2.2 i hi
  exact ⟨b, off, vs, e, hb, El.int_rep.2 (El.int_rep.1 hr), hc⟩
theorem Gr.cutI {S : Nat → Prop} {w : World} {a : Option Addr} {cap : Nat} {l : List Int} (h : Gr El.int S w a cap l) (n : Nat) (hn : n ≤ l.length) : Gr El.int S w (if cap = n then a else a.map (fun x => x.add n)) (cap - n) (l.drop n) := by
  by_cases h0 : n < l.length
  · obtain ⟨b, off, e, hb⟩ := h.blk (fun e => by rw [e] at h0; simp at h0)
    subst e
    have := h.1
    rw [if_neg (by omega)]
    have hadd : (⟨b, off, none⟩ : Addr).add n = ⟨b, off + n * El.int.sz, none⟩ := by
      show _ = (⟨b, off + n * 1, none⟩ : Addr)
      rw [Nat.mul_one]
      unfold Addr.add
      split <;> simp_all
    show Gr El.int S w (some ((⟨b, off, none⟩ : Addr).add n)) _ _
    rw [hadd]
    exact h.from n hn
  · have e : l.drop n = [] := List.drop_eq_nil_of_le (by omega)
    rw [e]
    refine Gr.nil _ _ _ _ _ (Nat.le_trans (Nat.sub_le _ _) h.2.1) (fun e2 => ?_)
    by_cases hc : cap = n
    · omega
    · rw [if_neg hc] at e2
      have := h.2.2.1 (by cases a with | none => rfl | some x => cases e2)
      omega
/-- What Put answers, and where. -/
structure PutA (L : List Int) (f t : Int) (o : List Int) (base : Nat) (w' : World) (e : Ending) : Prop where
  out : ∃ v, e = .returned v ∧ Gi base w' v (puL L f t o)
theorem infoG_i64 : (Try.prog.info? 3).map (fun i => (i.zero, i.size, i.bytes)) = some (some (.int .i64 0), El.int.sz, 8) := by kernel_rfl

end Go.Proofs.Ytadgifeakfcljaa
