/-
  subst.One: the walk.
  foundryref19.Next, Back: the walks.
  foundryref19.Meet: the walk.
  foundryref19.Put: the walk.
-/
import Derived.Test.YtechkkefpigcaaaDoorZL8
import Derived.Test.YtechkkefpigcaaaDoorZL2
import Derived.Test.YtechkkefpigcaaaDoorZL7
import Derived.BigQuiet
import Derived.Deep.QuietTactic
import Derived.Outline
import Derived.Test.YtechkkefpigcaaaDoorZL3
namespace Go.Proofs.YtechkkefpigcaaaDoor
open Go.RowKit Go.Maps
set_option linter.unusedSimpArgs false
set_option linter.unusedVariables false

/-- Whether anything may be done. -/
def onG (l : List Lk) (k : Int) (L : List Int) (i : Int) : Bool := plB L i && (isLk l.length k && (puB (l.getD k.toNat Lk.none).kd && foU l 65536))
def onL (l : List Lk) (ms : List Bool) (k : Int) (L : List Int) (i : Int) : List Int := if onG l k L i then duL l ms 7 k.toNat L i else L
def onO (l : List Lk) (ms : List Bool) (k : Int) (L : List Int) (i : Int) : Int := if onG l k L i then duO l ms 7 k.toNat L i else i
def onB (l : List Lk) (ms : List Bool) (k : Int) (L : List Int) (i : Int) : Bool := if onG l k L i then duB l ms 7 k.toNat L i else false
/-- What One answers. -/
structure OnA (l : List Lk) (ms : List Bool) (k : Int) (L : List Int) (i : Int) (w' : World) (e : Ending) : Prop where
  out : ∃ a c, e = .returned (.tuple #[.slice a (onL l ms k L i).length c, .int .i64 (onO l ms k L i), .bool (onB l ms k L i)]) ∧ Gr El.int (fun _ => True) w' a c (onL l ms k L i)
theorem OnA.no {l : List Lk} {ms : List Bool} {k : Int} {L : List Int} {i : Int} {w' : World} (h : onG l k L i = false) {a : Option Addr} {c : Nat} (hg : Gr El.int (fun _ => True) w' a c L) : OnA l ms k L i w' (.returned (.tuple #[.slice a L.length c, .int .i64 i, .bool false])) := by
  refine ⟨a, c, ?_, ?_⟩
  · unfold onL onO onB; rw [h]; rfl
  · unfold onL; rw [h]; exact hg
theorem OnA.yes {l : List Lk} {ms : List Bool} {k : Nat} {L : List Int} {i : Int} {w' : World} {e : Ending} (h : onG l (k : Int) L i = true) (hd : DuA l ms 7 k L i w' e) : OnA l ms (k : Int) L i w' e := by
  obtain ⟨a, c, he, hg⟩ := hd
  refine ⟨a, c, ?_, ?_⟩
  · unfold onL onO onB; rw [h, Int.toNat_natCast]; exact he
  · unfold onL; rw [h, Int.toNat_natCast]; exact hg

set_option maxHeartbeats 4000000 in
set_option maxRecDepth 100000 in
theorem coneU_any (l : List Lk) (ms : List Bool) (Sl Sm S : Nat → Prop) (la : Option Addr) (lc : Nat) (mb : Option Addr) (mc : Nat) (k : Int) (a : Option Addr) (ca : Nat) (L : List Int) (i : Int) (w : World)
    (hl : Gr LkE Sl w la lc l) (hms : Gr El.bool Sm w mb mc ms) (hL : Gr El.int S w a ca L) (hk : I64 k) (hi : I64 i) (hle : L.length ≤ 200) (hT : Spn w) :
    Calls Tryd.prog 11 #[.slice la l.length lc, .int .i64 k, .slice mb ms.length mc, .slice a L.length ca, .int .i64 i] w fun e w' => OnA l ms k L i w' e ∧ Below w.heap.size w w' := by
  have kl := hL.lenB
  have kll := hl.lenB
  have hcl := fun U (hU : Below w.heap.size w U) => ccloneI_any S a ca L U (hL.below hU) (by omega)
  have hcl0 := hcl w (Below.refl _ _)
  by_cases h0 : i < 0
  · have HF : Hid (onG l k L i = false) := by show _ = _; unfold onG; rw [plB_no (by omega)]; rfl
    have g0 : decide (i < 0) = true := decide_eq_true h0
    clear h0 hl hms hL hT hcl
    go_enter Tryd.func11, Tryd.ntmps11
    go_wp2_with fail
    refine hcl0.mono ?_
    rintro e u ⟨⟨v, rfl, hv⟩, hbu⟩
    obtain ⟨va, vc, rfl, hvg⟩ := hv.io.grL (S := fun _ => True)
    have HV : Hid (OnA l ms k L i u (.returned (.tuple #[.slice va L.length vc, .int .i64 i, .bool false]))) := OnA.no HF.out hvg
    clear hcl0 hv hvg
    go_wp2
    go_ret3
    exact ⟨HV.out, hbu⟩
  have g0 : decide (i < 0) = false := decide_eq_false h0
  by_cases h1 : (L.length : Int) ≤ i
  · have HF : Hid (onG l k L i = false) := by show _ = _; unfold onG; rw [plB_no (by omega)]; rfl
    have g1 : decide ((L.length : Int) ≤ i) = true := decide_eq_true h1
    clear h0 h1 hl hms hL hT hcl
    go_enter Tryd.func11, Tryd.ntmps11
    go_wp2_with fail
    refine hcl0.mono ?_
    rintro e u ⟨⟨v, rfl, hv⟩, hbu⟩
    obtain ⟨va, vc, rfl, hvg⟩ := hv.io.grL (S := fun _ => True)
    have HV : Hid (OnA l ms k L i u (.returned (.tuple #[.slice va L.length vc, .int .i64 i, .bool false]))) := OnA.no HF.out hvg
    clear hcl0 hv hvg
    go_wp2
    go_ret3
    exact ⟨HV.out, hbu⟩
  have g1 : decide ((L.length : Int) ≤ i) = false := decide_eq_false h1
  have hpl : plB L i = true := plB_iff.2 ⟨by omega, by omega⟩
  have hlk := isLook_any la l.length lc k w hk kll
  by_cases h2 : 0 ≤ k ∧ k < (l.length : Int)
  rotate_left
  · rw [isLk_no h2] at hlk
    have HF : Hid (onG l k L i = false) := by show _ = _; unfold onG; rw [hpl, isLk_no h2]; rfl
    clear h0 h1 h2 hpl hl hms hL hT hcl
    go_enter Tryd.func11, Tryd.ntmps11
    go_wp2_with fail
    refine hlk.mono ?_
    rintro e u ⟨rfl, rfl⟩
    clear hlk
    go_wp2_with fail
    refine hcl0.mono ?_
    rintro e u ⟨⟨v, rfl, hv⟩, hbu⟩
    obtain ⟨va, vc, rfl, hvg⟩ := hv.io.grL (S := fun _ => True)
    have HV : Hid (OnA l ms k L i u (.returned (.tuple #[.slice va L.length vc, .int .i64 i, .bool false]))) := OnA.no HF.out hvg
    clear hcl0 hv hvg
    go_wp2
    go_ret3
    exact ⟨HV.out, hbu⟩
  rw [isLk_iff.2 h2] at hlk
  have HG : Hid (onG l k L i = (puB (l.getD k.toNat Lk.none).kd && foU l 65536)) := by show _ = _; unfold onG; rw [hpl, isLk_iff.2 h2]; rfl
  obtain ⟨q, rfl⟩ : ∃ q : Nat, k = (q : Int) := ⟨k.toNat, by omega⟩
  rw [Int.toNat_natCast] at HG
  have hq : q < l.length := by omega
  obtain ⟨i1, i2⟩ := h2
  have HL : Hid (Gr LkE Sl w la lc l) := hl
  obtain ⟨lb, lo, ra, rc, rfl, hkd, hall⟩ := hl.lkAll q hq
  obtain ⟨-, d0, -, -⟩ := hall w (Below.refl _ _)
  have HPU : Hid (puB (l.getD q Lk.none).kd = true → foU l 65536 = true → DoC l ms 7) := fun _ h => do_any l ms 65536 h 7 (by omega)
  have hfo := cformU_any Sl (some ⟨lb, lo, none⟩) lc l 65536 w hl ⟨by omega, by omega⟩ hT
  obtain ⟨kd, hkk⟩ : ∃ kd, (l.getD q Lk.none).kd = kd := ⟨_, rfl⟩
  have HKD : Hid ((l.getD q Lk.none).kd = kd) := hkk
  rw [hkk] at d0 hkd HG HPU
  have hpu := puts_any kd w hkd
  clear hkk hall
  cases hp : puB kd with
  | false =>
    rw [hp] at hpu HG
    have HF : Hid (onG l (q : Int) L i = false) := HG.out
    clear h0 h1 hpl hl hms hL hT hcl hfo hp HPU HKD
    go_enter Tryd.func11, Tryd.ntmps11
    go_wp2_with fail
    refine hlk.mono ?_
    rintro e u ⟨rfl, rfl⟩
    clear hlk
    go_wp2_with fail
    refine hpu.mono ?_
    rintro e u ⟨rfl, rfl⟩
    clear hpu
    go_wp2_with fail
    refine hcl0.mono ?_
    rintro e u ⟨⟨v, rfl, hv⟩, hbu⟩
    obtain ⟨va, vc, rfl, hvg⟩ := hv.io.grL (S := fun _ => True)
    have HV : Hid (OnA l ms (q : Int) L i u (.returned (.tuple #[.slice va L.length vc, .int .i64 i, .bool false]))) := OnA.no HF.out hvg
    clear hcl0 hv hvg d0
    go_wp2
    go_ret3
    exact ⟨HV.out, hbu⟩
  | true =>
    rw [hp, Bool.true_and] at HG
    rw [hp] at hpu
    have HPD : Hid (puB (l.getD q Lk.none).kd = true) := by show _ = _; rw [HKD.out, hp]
    cases hf : foU l 65536 with
    | false =>
      rw [hf] at hfo HG
      have HF : Hid (onG l (q : Int) L i = false) := HG.out
      clear h0 h1 hpl hl hms hL hT hp HPU HKD HPD hf
      go_enter Tryd.func11, Tryd.ntmps11
      go_wp2_with fail
      refine hlk.mono ?_
      rintro e u ⟨rfl, rfl⟩
      clear hlk
      go_wp2_with fail
      refine hpu.mono ?_
      rintro e u ⟨rfl, rfl⟩
      clear hpu
      go_wp2_with fail
      refine hfo.mono ?_
      rintro e u2 ⟨rfl, hb2⟩
      have hcl2 := hcl u2 hb2
      clear hfo hcl d0 hcl0
      go_wp2_with fail
      refine hcl2.mono ?_
      rintro e u ⟨⟨v, rfl, hv⟩, hbu⟩
      obtain ⟨va, vc, rfl, hvg⟩ := hv.io.grL (S := fun _ => True)
      have HV : Hid (OnA l ms (q : Int) L i u (.returned (.tuple #[.slice va L.length vc, .int .i64 i, .bool false]))) := OnA.no HF.out hvg
      have hfin := hb2.trans (hbu.mono hb2.size)
      clear hcl2 hv hvg
      go_wp2
      go_ret3
      exact ⟨HV.out, hfin⟩
    | true =>
      rw [hf] at hfo HG
      have HF : Hid (onG l (q : Int) L i = true) := HG.out
      have HDO : Hid (∀ U, Below w.heap.size w U → Calls Tryd.prog 23 #[.agg #[.slice (some ⟨lb, lo, none⟩) l.length lc, .slice mb ms.length mc], .int .i64 q, .slice a L.length ca, .int .i64 i, .int .i64 1] U fun e w' => DuA l ms 7 q L i w' e ∧ Below U.heap.size U w') := fun U hU =>
        HPU.out hp hf Sl Sm S (some ⟨lb, lo, none⟩) lc mb mc q a ca L i U (HL.out.below hU) (hms.below hU) (hL.below hU) hq HPD.out hpl hle
      clear h0 h1 hpl hl hms hL hT hp HPU HKD HPD hf hcl hcl0 HL
      go_enter Tryd.func11, Tryd.ntmps11
      go_wp2_with fail
      refine hlk.mono ?_
      rintro e u ⟨rfl, rfl⟩
      clear hlk
      go_wp2_with fail
      refine hpu.mono ?_
      rintro e u ⟨rfl, rfl⟩
      clear hpu
      go_wp2_with fail
      refine hfo.mono ?_
      rintro e u2 ⟨rfl, hb2⟩
      have hdo := HDO.out u2 hb2
      clear hfo d0 HDO
      go_wp2_with fail
      refine hdo.mono ?_
      rintro e u3 ⟨hd, hb3⟩
      have hon := OnA.yes HF.out hd
      obtain ⟨oa, oc, rfl, hgr⟩ := hd
      have HV : Hid (OnA l ms (q : Int) L i u3 (.returned (.tuple #[.slice oa (duL l ms 7 q L i).length oc, .int .i64 (duO l ms 7 q L i), .bool (duB l ms 7 q L i)]))) := hon
      have hfin := hb2.trans (hb3.mono hb2.size)
      generalize duL l ms 7 q L i = o at HV hgr
      generalize duO l ms 7 q L i = on at HV
      generalize duB l ms 7 q L i = od at HV
      clear hdo hon hgr
      go_wp2
      go_ret3
      exact ⟨HV.out, hfin⟩

end Go.Proofs.YtechkkefpigcaaaDoor

namespace Go.Proofs.YtechkkefpigcaaaDoor
open Go.RowKit Go.Maps
set_option linter.unusedSimpArgs false
set_option linter.unusedVariables false

theorem psB_skR {ms : List Bool} {L : List Int} {sk : Bool} {i : Nat} (h : sk = false) : psB ms L sk i = false := by unfold psB; rw [h]; rfl
theorem psB_yesR {ms : List Bool} {L : List Int} {i : Nat} {g : Int} (h : L.getD i 0 = g) : psB ms L true i = mkB ms g := by unfold psB; rw [h]; rfl

set_option maxHeartbeats 2000000 in
set_option maxRecDepth 100000 in
theorem snext_any (S : Nat → Prop) (a : Option Addr) (ca : Nat) (L : List Int) (b : Option Addr) (cb : Nat) (ms : List Bool) (i : Int) (sk : Bool) (w : World) (hL : Ri w a ca L) (hm : Gr El.bool S w b cb ms) (hi : I64 i) :
    Calls Tryd.prog 46 #[.slice a L.length ca, .slice b ms.length cb, .int .i64 i, .bool sk] w fun e w' => e = .returned (.int .i64 (nxQ ms L sk i)) ∧ Below w.heap.size w w' := by
  have kl := hL.lenB
  obtain ⟨hi1, hi2⟩ := hi
  have hpl := splace_any a ca L i w kl
  cases hp : plB L i with
  | false =>
    rw [hp] at hpl
    have HF : Hid (nxQ ms L sk i = -1) := nxQ_no hp
    clear hp hL hm
    go_enter Tryd.func46, Tryd.ntmps46
    go_wp2_with fail
    refine hpl.mono ?_
    rintro e u ⟨rfl, rfl⟩
    clear hpl
    go_wp2
    go_ret
    exact ⟨rt_int HF.out.symm, Below.refl _ _⟩
  | true =>
  rw [hp] at hpl
  obtain ⟨p1, p2⟩ := plB_iff.1 hp
  obtain ⟨k, rfl⟩ : ∃ k : Nat, i = (k : Int) := ⟨i.toNat, by omega⟩
  have hk : k < L.length := by omega
  have HX : Hid (nxQ ms L sk (k : Int) = nxF ms L sk (L.length - (k + 1)) (k + 1)) := nxQ_yes hk
  have HL : Hid (Ri w a ca L) := hL
  have HM : Hid (Gr El.bool S w b cb ms) := hm
  clear hp hL hm
  go_enter Tryd.func46, Tryd.ntmps46
  go_wp2_with fail
  refine hpl.mono ?_
  rintro e u ⟨rfl, rfl⟩
  clear hpl
  go_wp2
  go_loopw [2] (fun i wr => ∃ j : Nat, j ≤ L.length ∧ i = .int .i64 j ∧ Hid (nxQ ms L sk (k : Int) = nxF ms L sk (L.length - j) j) ∧ Below w.heap.size w wr) (fun i _ => L.length - (intOf i).toNat)
  case atStart => exact ⟨k + 1, by omega, by go_num, HX, Below.refl _ _⟩
  case round =>
    obtain ⟨j, hj, rfl, HJ, hB⟩ := hrel
    by_cases hjn : j < L.length
    · obtain ⟨b1, o1, ea, _, c0⟩ := HL.out.at hB j hjn
      subst ea
      have HG : Hid (I64 (L.getD j 0)) := HL.out.i64 hjn
      have HON : Hid (_) := nxF_on (ms := ms) (sk := sk) hjn
      have HOF : Hid (_) := nxF_off (ms := ms) (sk := sk) hjn
      have HPS : Hid (∀ q, mkB ms (L.getD j 0) = q → psB ms L true j = q) := fun q hq => by rw [psB_yesR rfl]; exact hq
      obtain ⟨g, hg⟩ : ∃ g, L.getD j 0 = g := ⟨_, rfl⟩
      rw [hg] at c0 HG HPS
      have i1 : (0 : Int) ≤ (j : Int) := by omega
      have i2 : (j : Int) < (L.length : Int) := by omega
      have d1 : decide ((j : Int) < (L.length : Int)) = true := decide_eq_true i2
      have d1n : decide (j < L.length) = true := decide_eq_true hjn
      have e1 : ¬ (j : Int) = (L.length : Int) := by omega
      have e2 : ¬ j = L.length := by omega
      clear hg
      cases sk with
      | false =>
        have HF : Hid (nxQ ms L false (k : Int) = (j : Int)) := by show _ = _; rw [HJ.out, HOF.out (psB_skR rfl)]
        clear HJ HON HOF HPS
        go_wp2
        go_ret
        exact ⟨rt_int HF.out.symm, hB⟩
      | true =>
      have hmk := smark_any S b cb ms g wr (HM.out.below hB) HG.out
      cases hq : mkB ms g with
      | true =>
        rw [hq] at hmk
        have HJ2 : Hid (nxQ ms L true (k : Int) = nxF ms L true (L.length - (j + 1)) (j + 1)) := by show _ = _; rw [HJ.out]; exact HON.out (HPS.out _ hq)
        clear HJ HON HOF HPS hq
        go_wp2_with fail
        refine hmk.mono ?_
        rintro e u ⟨rfl, hb1⟩
        have hB2 := hB.trans (hb1.mono hB.size)
        clear hmk hb1 hB
        go_wp2
        go_roundw
        case rel => exact ⟨j + 1, by omega, by go_num, HJ2, hB2⟩
        case measure => simp [intOf]; omega
      | false =>
        rw [hq] at hmk
        have HF : Hid (nxQ ms L true (k : Int) = (j : Int)) := by show _ = _; rw [HJ.out, HOF.out (HPS.out _ hq)]
        clear HJ HON HOF HPS hq
        go_wp2_with fail
        refine hmk.mono ?_
        rintro e u ⟨rfl, hb1⟩
        have hB2 := hB.trans (hb1.mono hB.size)
        clear hmk hb1 hB
        go_wp2
        go_ret
        exact ⟨rt_int HF.out.symm, hB2⟩
    · have HF : Hid (nxQ ms L sk (k : Int) = -1) := by show _ = _; rw [HJ.out]; exact nxF_end (by omega)
      obtain rfl : j = L.length := by omega
      have g4 : ¬ (L.length : Int) < (L.length : Int) := by omega
      have d1 : decide ((L.length : Int) < (L.length : Int)) = false := decide_eq_false g4
      have d1n : decide (L.length < L.length) = false := decide_eq_false (by omega)
      clear HJ
      go_wp2
      go_ret
      exact ⟨rt_int HF.out.symm, hB⟩

end Go.Proofs.YtechkkefpigcaaaDoor

namespace Go.Proofs.YtechkkefpigcaaaDoor
open Go.RowKit Go.Maps
set_option linter.unusedSimpArgs false
set_option linter.unusedVariables false

set_option maxHeartbeats 4000000 in
set_option maxRecDepth 100000 in
theorem smeet_any (S : Nat → Prop) (a : Option Addr) (ca : Nat) (L : List Int) (b : Option Addr) (cb : Nat) (ms : List Bool) (i : Int) (q : Option Addr) (cq : Nat) (A : List Int) (sk : Bool) (w : World)
    (hL : Ri w a ca L) (hm : Gr El.bool S w b cb ms) (hi : I64 i) (hA : Ri w q cq A) (hA2 : A.length ≤ 1000) :
    Calls Tryd.prog 36 #[.slice a L.length ca, .slice b ms.length cb, .int .i64 i, .slice q A.length cq, .bool sk] w fun e w' => MetA ms L sk i A w.heap.size w' e ∧ Below w.heap.size w w' := by
  have kl := hL.lenB
  obtain ⟨hi1, hi2⟩ := hi
  by_cases h0 : A.length = 0
  · have HF : Hid (meQ ms L sk i A = none) := meQ_nil0 h0
    have HNO : Hid (∀ U, MetA ms L sk i A w.heap.size U (.returned (.tuple #[.slice none 0 0, .bool false]))) := fun U => MetA.no HF.out
    clear hL hm hA
    go_enter Tryd.func36, Tryd.ntmps36
    go_wp2_with fail
    go_quiet (fail)
    go_wp2
    go_ret2
    exact ⟨HNO.out _, below_drewN (Below.refl _ _) _⟩
  have e0 : ((A.length : Int) == 0) = false := by rw [beq_eq_false_iff_ne]; omega
  cases hp : plB L i with
  | false =>
    have hpl := fun W => splace_any a ca L i W kl
    rw [hp] at hpl
    have HPL : ∀ W, Calls Tryd.prog 45 #[.slice a L.length ca, .int .i64 i] W fun e w' => e = .returned (.bool false) ∧ w' = W := fun W => (hpl W).mono fun _ _ h => ⟨h.1, h.2.symm⟩
    have HF : Hid (meQ ms L sk i A = none) := meQ_not (fun h => by rw [hp] at h; cases h.1)
    have HNO : Hid (∀ U, MetA ms L sk i A w.heap.size U (.returned (.tuple #[.slice none 0 0, .bool false]))) := fun U => MetA.no HF.out
    clear hL hm hA hpl hp HF
    go_enter Tryd.func36, Tryd.ntmps36
    go_wp2_with fail
    go_quiet ((go_at_call 45; exact Calls.quiet_of_same (HPL _)))
    go_wp2
    go_ret2
    exact ⟨HNO.out _, below_drewN (Below.refl _ _) _⟩
  | true =>
  have hpl := fun W => splace_any a ca L i W kl
  rw [hp] at hpl
  have HPL : ∀ W, Calls Tryd.prog 45 #[.slice a L.length ca, .int .i64 i] W fun e w' => e = .returned (.bool true) ∧ w' = W := fun W => (hpl W).mono fun _ _ h => ⟨h.1, h.2.symm⟩
  obtain ⟨p1, p2⟩ := plB_iff.1 hp
  obtain ⟨k, rfl⟩ : ∃ k : Nat, i = (k : Int) := ⟨i.toNat, by omega⟩
  have hk : k < L.length := by omega
  have hA0 : 0 < A.length := by omega
  obtain ⟨b0, o0, rfl, hb0, c0⟩ := hL.at (Below.refl _ _) k hk
  obtain ⟨b1, o1, rfl, hb1, c1⟩ := hA.at (Below.refl _ _) 0 hA0
  rw [Nat.add_zero] at c1
  have HNE : Hid (¬ L.getD k 0 = A.getD 0 0 → meQ ms L sk (k : Int) A = none) := fun h => meQ_not (fun h1 => h h1.2)
  have HEQ : Hid (L.getD k 0 = A.getD 0 0 → MeI ms L sk (k : Int) A 1 [(k : Int)] (k : Int)) := fun h => MeI.one hA0 hp h
  have HIK : Hid (I64 (k : Int)) := ⟨by omega, by omega⟩
  have HL : Hid (Ri w (some ⟨b0, o0, none⟩) ca L) := hL
  have HM : Hid (Gr El.bool S w b cb ms) := hm
  have HA : Hid (Ri w (some ⟨b1, o1, none⟩) cq A) := hA
  obtain ⟨x, hx⟩ : ∃ x, L.getD k 0 = x := ⟨_, rfl⟩
  obtain ⟨y, hy⟩ : ∃ y, A.getD 0 0 = y := ⟨_, rfl⟩
  rw [hx] at c0 HNE HEQ
  rw [hy] at c1 HNE HEQ
  have i1 : (0 : Int) ≤ (k : Int) := by omega
  have i2 : (0 : Int) < (A.length : Int) := by omega
  clear hL hm hA hpl hp hx hy
  by_cases hxy : x = y
  rotate_left
  · have d1 : ((x : Int) != (y : Int)) = true := by simp; exact hxy
    have HNO : Hid (∀ U, MetA ms L sk (k : Int) A w.heap.size U (.returned (.tuple #[.slice none 0 0, .bool false]))) := fun U => MetA.no (HNE.out hxy)
    clear HNE HEQ HL HM HA hxy
    go_enter Tryd.func36, Tryd.ntmps36
    go_wp2_with fail
    go_quiet ((go_at_call 45; exact Calls.quiet_of_same (HPL _)))
    go_wp2
    go_ret2
    exact ⟨HNO.out _, below_drewN (Below.refl _ _) _⟩
  subst hxy
  have d1 : ((x : Int) != (x : Int)) = false := by simp
  have HI1 : Hid (_) := HEQ.out rfl
  clear HNE HEQ h0
  go_enter Tryd.func36, Tryd.ntmps36
  go_wp2_with fail
  go_quiet ((go_at_call 45; exact Calls.quiet_of_same (HPL _)))
  have hBW : Below w.heap.size w (w.drewN nq) := below_drewN (Below.refl _ _) _
  clear c0 c1 HPL
  generalize w.drewN nq = W at hBW ⊢
  have HI0 : Hid (Io w.heap.size (W.alloc (.cells #[.int .i64 (k : Int)] 3)) (.slice (some ⟨W.heap.size, 0, none⟩) 1 1) [(k : Int)]) := Io.one HIK.out hBW.size
  have HB0 : Hid (Below w.heap.size w (W.alloc (.cells #[.int .i64 (k : Int)] 3))) := hBW.trans ((bl1 _).mono hBW.size)
  clear hBW
  go_wp2
  go_loopw [2, 13, 14] (fun z v i wr => ∃ (j : Nat) (at' : Int) (l : List Int), j < A.length ∧ i = .int .i64 ((j : Int) + 1) ∧ z = .int .i64 at' ∧ Hid (MeI ms L sk (k : Int) A (j + 1) l at') ∧ Io w.heap.size wr v l ∧ Below w.heap.size w wr) (fun _ _ i _ => A.length - (intOf i).toNat)
  case atStart => exact ⟨0, (k : Int), [(k : Int)], hA0, rfl, rfl, HI1, HI0.out, HB0.out⟩
  case round =>
    clear HI1 HI0 HB0
    obtain ⟨j, z, l, hj, rfl, rfl, HI, hIo, hB⟩ := hrel
    obtain ⟨av, cv, rfl, hri⟩ := hIo.slice
    have HLEN : Hid (l.length = j + 1) := HI.out.len
    have hl1 : l.length ≤ j + 1 := by rw [HLEN.out]; exact Nat.le_refl _
    have hpz := plB_iff.1 HI.out.pl
    by_cases hjn : j + 1 < A.length
    · obtain ⟨b2, o2, e2, _, c2⟩ := HA.out.at hB (j + 1) hjn
      cases e2
      have HST : Hid (_) := HI.out.stop hjn
      have HMO : Hid (_) := HI.out.more hjn
      have HNX : Hid (_) := nx_pl (ms := ms) (sk := sk) HI.out.pl
      have hnx := snext_any S (some ⟨b0, o0, none⟩) ca L b cb ms z sk wr (HL.out.below hB) (HM.out.below hB) ⟨by omega, by omega⟩
      obtain ⟨r, hr⟩ : ∃ r, nxQ ms L sk z = r := ⟨_, rfl⟩
      obtain ⟨g, hg⟩ : ∃ g, A.getD (j + 1) 0 = g := ⟨_, rfl⟩
      rw [hr] at hnx HST HMO HNX
      rw [hg] at c2 HST HMO
      have i3 : (j : Int) + 1 < (A.length : Int) := by omega
      have i4 : (0 : Int) ≤ (j : Int) + 1 := by omega
      clear hr hg HI hri hpz
      go_wp2_with fail
      refine hnx.mono ?_
      rintro e u ⟨rfl, hbu⟩
      have hBu := hB.trans (hbu.mono hB.size)
      have c3 := (hbu.cell (p := ⟨b1, o1 + (j + 1), none⟩) (Nat.lt_of_lt_of_le hb1 hB.size)).trans c2
      have hIu := hIo.below hbu
      clear hnx hbu hB c2 hIo
      rcases HNX.out with rfl | ⟨m, rfl, hm⟩
      · have HNO : Hid (∀ U, MetA ms L sk (k : Int) A w.heap.size U (.returned (.tuple #[.slice none 0 0, .bool false]))) := fun U => MetA.no (HST.out (.inl rfl))
        clear HST HMO HNX hIu
        go_wp2_with fail
        go_quiet (fail)
        go_wp2
        go_ret2
        exact ⟨HNO.out _, below_drewN hBu _⟩
      · obtain ⟨b4, o4, e4, _, c4⟩ := HL.out.at hBu m hm
        cases e4
        rw [Int.toNat_natCast] at HST HMO
        obtain ⟨x2, hx2⟩ : ∃ x, L.getD m 0 = x := ⟨_, rfl⟩
        rw [hx2] at c4 HST HMO
        have e5 : ((m : Int) == -1) = false := by rw [beq_eq_false_iff_ne]; omega
        have i5 : (0 : Int) ≤ (m : Int) := by omega
        have i6 : (m : Int) < (L.length : Int) := by omega
        clear hx2 HNX
        by_cases hxg : x2 = g
        rotate_left
        · have d2 : ((x2 : Int) != (g : Int)) = true := by simp; exact hxg
          have HNO : Hid (∀ U, MetA ms L sk (k : Int) A w.heap.size U (.returned (.tuple #[.slice none 0 0, .bool false]))) := fun U => MetA.no (HST.out (.inr hxg))
          clear HST HMO hIu hxg
          go_wp2_with fail
          go_quiet (fail)
          go_wp2
          go_ret2
          exact ⟨HNO.out _, below_drewN hBu _⟩
        subst hxg
        have d2 : ((x2 : Int) != (x2 : Int)) = false := by simp
        have HMI : Hid (_) := HMO.out (fun h => by
          rcases h with h | h
          · omega
          · exact h rfl)
        have HIM : Hid (I64 (m : Int)) := ⟨by omega, by omega⟩
        clear HST HMO
        go_wp2_with fail
        go_quiet (fail)
        have hIq : Io w.heap.size (u.drewN nq) _ l := hIu.below (below_drewN (Below.refl _ _) _)
        have hBq := below_drewN hBu nq
        clear c3 c4 hIu hBu
        generalize u.drewN nq = y1 at hIq hBq ⊢
        have hT5 := hIq.below (bl1 (.cells #[.int .i64 (m : Int)] 3))
        have hN := heap_alloc_new y1 (.cells #[.int .i64 (m : Int)] 3)
        have n0 := cell_of_row _ y1.heap.size 0 _ _ (0, 0) hN
        have hll : l.length + 1 ≤ 1000000 := by omega
        have hB6 : Below w.heap.size w (y1.alloc (.cells #[.int .i64 (m : Int)] 3)) := hBq.alloc hBq.size _
        clear hN hIq
        go_wp2_with (at_builtin; refine wpList_append_int rfl _ _ rfl w.heap.size _ l rfl hT5 y1.heap.size (m : Int) rfl n0 HIM.out hll hB6.size ?_)
        intro v' w9 hT9 hgrow
        have hB9 : Below w.heap.size w w9 := hB6.grown hgrow hB6.size (fun k hk => hT5.lo hk)
        clear hgrow hT5 n0 hB6 hBq hll
        go_wp2
        go_roundw
        case rel => exact ⟨j + 1, (m : Int), _, hjn, by go_num, rfl, HMI, hT9, hB9⟩
        case measure => simp [intOf]; omega
    · have HY : Hid (MetA ms L sk (k : Int) A w.heap.size wr (.returned (.tuple #[.slice av l.length cv, .bool true]))) := MetA.yes (MeI.done (by rw [show A.length = j + 1 by omega]; exact HI.out)) hIo
      have g4 : ¬ (j : Int) + 1 < (A.length : Int) := by omega
      clear HI hri hpz hIo
      go_wp2
      go_ret2
      exact ⟨HY.out, hB⟩

end Go.Proofs.YtechkkefpigcaaaDoor

namespace Go.Proofs.YtechkkefpigcaaaDoor
open Go.RowKit Go.Maps
set_option linter.unusedSimpArgs false
set_option linter.unusedVariables false

set_option maxHeartbeats 4000000 in
set_option maxRecDepth 100000 in
theorem sput_any (S S2 : Nat → Prop) (a : Option Addr) (ca : Nat) (L : List Int) (f t : Int) (b : Option Addr) (cb : Nat) (o : List Int) (w : World)
    (hL : Gr El.int S w a ca L) (ho : Gr El.int S2 w b cb o) (hf : I64 f) (ht : I64 t) (hl1 : L.length ≤ 1000) (hl2 : o.length ≤ 1000) :
    Calls Tryd.prog 37 #[.slice a L.length ca, .int .i64 f, .int .i64 t, .slice b o.length cb] w fun e w' => PutA L f t o w.heap.size w' e ∧ Below w.heap.size w w' := by
  have kl := hL.lenB
  obtain ⟨f1, f2⟩ := hf
  obtain ⟨t1, t2⟩ := ht
  have hN0 : Gi w.heap.size w (.slice none 0 0) [] := Gi.nil _ _
  by_cases hgood : 0 ≤ f ∧ f ≤ t ∧ t ≤ (L.length : Int)
  · obtain ⟨g1, g2, g3⟩ := hgood
    obtain ⟨p, rfl⟩ : ∃ p : Nat, f = (p : Int) := ⟨f.toNat, by omega⟩
    obtain ⟨q, rfl⟩ : ∃ q : Nat, t = (q : Int) := ⟨t.toNat, by omega⟩
    have hpq : p ≤ q := by omega
    have hqL : q ≤ L.length := by omega
    have hcap := hL.1
    have HF : Hid (puL L (p : Int) (q : Int) o = L.take p ++ o ++ L.drop q) := puL_yes hpq hqL
    have d1 : decide ((p : Int) < 0) = false := decide_eq_false (by omega)
    have d2 : decide ((q : Int) < (p : Int)) = false := decide_eq_false (by omega)
    have d2n : decide (q < p) = false := decide_eq_false (by omega)
    have d3 : decide ((L.length : Int) < (q : Int)) = false := decide_eq_false (by omega)
    have d3n : decide (L.length < q) = false := decide_eq_false (by omega)
    have hT := hL.take p
    have hlp : (L.take p).length = p := by rw [List.length_take]; omega
    have HT : Hid (Gr El.int (fun k => False ∧ (Value.slice none 0 0).ownBlock ≠ some k) w a ca (L.take p)) := hT.anyI
    have HL : Hid (Gr El.int S w a ca L) := hL
    have HO : Hid (Gr El.int S2 w b cb o) := ho
    obtain ⟨P, hP⟩ : ∃ P, L.take p = P := ⟨_, rfl⟩
    rw [hP] at HT HF hlp
    have HLP : Hid (P.length = p) := hlp
    have hlp1 : P.length ≤ 1000 := by omega
    clear hL ho hT hP hlp
    go_enter Tryd.func37, Tryd.ntmps37
    have hll : ([] : List Int).length + P.length ≤ 1000000 := by simp; omega
    go_wp2_with (at_builtin; refine wpList_append_el 23 3 Tryd.underlying23 infoG_i64 rfl (by decide) (by decide) rfl _ _ rfl w.heap.size (fun _ => False) _ [] rfl hN0 a ca _ P HLP.out.symm rfl HT.out hll (Nat.le_refl _) ?_)
    intro v1 w1 hT1 hgrow _
    have hB1 : Below w.heap.size w w1 := (Below.refl _ _).grown hgrow (Nat.le_refl _) (fun k hk => by cases hk)
    obtain ⟨a1, c1, e1, -, -⟩ := hT1.slice
    subst e1
    have HT1 : Hid (Gw El.int 3 w.heap.size (fun _ => False) w1 (.slice a1 P.length c1) P) := hT1
    have HO1 : Hid (Gr El.int (fun k => False ∧ (Value.slice a1 P.length c1).ownBlock ≠ some k) w1 b cb o) := (HO.out.below hB1).anyI
    have hll2 : P.length + o.length ≤ 1000000 := by omega
    have hW1 := hB1.size
    clear hgrow hT1 hll hN0
    go_wp2_with (at_builtin; refine wpList_append_el 23 3 Tryd.underlying23 infoG_i64 rfl (by decide) (by decide) rfl _ _ rfl w.heap.size (fun _ => False) _ P rfl HT1.out b cb _ o rfl rfl HO1.out hll2 hW1 ?_)
    intro v2 w2 hT2 hgrow _
    have hB2 : Below w.heap.size w w2 := hB1.grown hgrow hW1 (fun k hk => (HT1.out.lo hk).1)
    have hlen2 : (P ++ o).length ≤ 2000 := by rw [List.length_append]; omega
    obtain ⟨R, hR⟩ : ∃ R, P ++ o = R := ⟨_, rfl⟩
    rw [hR] at hT2 HF hlen2
    obtain ⟨a2, c2, e2, -, -⟩ := hT2.slice
    subst e2
    have HT2 : Hid (Gw El.int 3 w.heap.size (fun _ => False) w2 (.slice a2 R.length c2) R) := hT2
    have HQ : Hid (Gr El.int (fun k => False ∧ (Value.slice a2 R.length c2).ownBlock ≠ some k) w2 (if ca = q then a else a.map (fun x => x.add q)) (ca - q) (L.drop q)) := ((HL.out.below hB2).cutI q hqL).anyI
    have hlen3 : (L.drop q).length ≤ 1000 := by rw [List.length_drop]; omega
    have HLD : Hid (L.length - q = (L.drop q).length) := by show _ = _; rw [List.length_drop]
    obtain ⟨D, hD⟩ : ∃ D, L.drop q = D := ⟨_, rfl⟩
    rw [hD] at HQ hlen3 HLD HF
    have hll3 : R.length + D.length ≤ 1000000 := by omega
    have hW2 := hB2.size
    clear hgrow hT2 HT1 HO1 hll2 hW1 hB1 hR hD
    by_cases hc : ca = q
    · subst hc
      rw [if_pos rfl, Nat.sub_self] at HQ
      have HLD0 : Hid (0 = D.length) := by have := HLD.out; show _ = _; omega
      go_wp2_with (at_builtin; refine wpList_append_el 23 3 Tryd.underlying23 infoG_i64 rfl (by decide) (by decide) rfl _ _ rfl w.heap.size (fun _ => False) _ R rfl HT2.out _ _ _ D HLD0.out rfl HQ.out hll3 hW2 ?_)
      intro v3 w3 hT3 hgrow _
      have hB3 : Below w.heap.size w w3 := hB2.grown hgrow hW2 (fun k hk => (HT2.out.lo hk).1)
      have HV : Hid (PutA L (p : Int) (ca : Int) o w.heap.size w3 (.returned v3)) := ⟨_, rfl, by rw [HF.out]; exact hT3⟩
      clear hgrow hT3 hll3 hW2
      go_wp2
      go_ret
      exact ⟨HV.out, hB3⟩
    · rw [if_neg hc] at HQ
      go_wp2_with (at_builtin; refine wpList_append_el 23 3 Tryd.underlying23 infoG_i64 rfl (by decide) (by decide) rfl _ _ rfl w.heap.size (fun _ => False) _ R rfl HT2.out _ _ _ D HLD.out rfl HQ.out hll3 hW2 ?_)
      intro v3 w3 hT3 hgrow _
      have hB3 : Below w.heap.size w w3 := hB2.grown hgrow hW2 (fun k hk => (HT2.out.lo hk).1)
      have HV : Hid (PutA L (p : Int) (q : Int) o w.heap.size w3 (.returned v3)) := ⟨_, rfl, by rw [HF.out]; exact hT3⟩
      clear hgrow hT3 hll3 hW2
      go_wp2
      go_ret
      exact ⟨HV.out, hB3⟩
  · have HF : Hid (puL L f t o = L) := puL_no hgood
    have HL : Hid (Gr El.int (fun k => False ∧ (Value.slice none 0 0).ownBlock ≠ some k) w a ca L) := hL.anyI
    have hll : ([] : List Int).length + L.length ≤ 1000000 := by simp; omega
    by_cases b1 : f < 0
    · have d1 : decide (f < 0) = true := decide_eq_true b1
      clear hgood hL ho b1
      go_enter Tryd.func37, Tryd.ntmps37
      go_wp2_with (at_builtin; refine wpList_append_el 23 3 Tryd.underlying23 infoG_i64 rfl (by decide) (by decide) rfl _ _ rfl w.heap.size (fun _ => False) _ [] rfl hN0 a ca _ L rfl rfl HL.out hll (Nat.le_refl _) ?_)
      intro v1 w1 hT1 hgrow _
      have hB1 : Below w.heap.size w w1 := (Below.refl _ _).grown hgrow (Nat.le_refl _) (fun k hk => by cases hk)
      have HV : Hid (PutA L f t o w.heap.size w1 (.returned v1)) := ⟨_, rfl, by rw [HF.out]; exact hT1⟩
      clear hgrow hT1 hll hN0
      go_wp2
      go_ret
      exact ⟨HV.out, hB1⟩
    have d1 : decide (f < 0) = false := decide_eq_false b1
    by_cases b2 : t < f
    · have d2 : decide (t < f) = true := decide_eq_true b2
      clear hgood hL ho b1 b2
      go_enter Tryd.func37, Tryd.ntmps37
      go_wp2_with (at_builtin; refine wpList_append_el 23 3 Tryd.underlying23 infoG_i64 rfl (by decide) (by decide) rfl _ _ rfl w.heap.size (fun _ => False) _ [] rfl hN0 a ca _ L rfl rfl HL.out hll (Nat.le_refl _) ?_)
      intro v1 w1 hT1 hgrow _
      have hB1 : Below w.heap.size w w1 := (Below.refl _ _).grown hgrow (Nat.le_refl _) (fun k hk => by cases hk)
      have HV : Hid (PutA L f t o w.heap.size w1 (.returned v1)) := ⟨_, rfl, by rw [HF.out]; exact hT1⟩
      clear hgrow hT1 hll hN0
      go_wp2
      go_ret
      exact ⟨HV.out, hB1⟩
    have d2 : decide (t < f) = false := decide_eq_false b2
    have d3 : decide ((L.length : Int) < t) = true := decide_eq_true (by omega)
    clear hgood hL ho b1 b2
    go_enter Tryd.func37, Tryd.ntmps37
    go_wp2_with (at_builtin; refine wpList_append_el 23 3 Tryd.underlying23 infoG_i64 rfl (by decide) (by decide) rfl _ _ rfl w.heap.size (fun _ => False) _ [] rfl hN0 a ca _ L rfl rfl HL.out hll (Nat.le_refl _) ?_)
    intro v1 w1 hT1 hgrow _
    have hB1 : Below w.heap.size w w1 := (Below.refl _ _).grown hgrow (Nat.le_refl _) (fun k hk => by cases hk)
    have HV : Hid (PutA L f t o w.heap.size w1 (.returned v1)) := ⟨_, rfl, by rw [HF.out]; exact hT1⟩
    clear hgrow hT1 hll hN0
    go_wp2
    go_ret
    exact ⟨HV.out, hB1⟩

end Go.Proofs.YtechkkefpigcaaaDoor
