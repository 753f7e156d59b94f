/-
  foundrylaw21.PlaceLays: the walk.
-/
import Derived.Test.YtchdoakoelfenaaZJ25
namespace Go.Proofs.Ytchdoakoelfenaa
open Go.RowKit Go.Maps
set_option linter.unusedSimpArgs false
set_option linter.unusedVariables false

set_option maxHeartbeats 4000000 in
set_option maxRecDepth 100000 in
theorem placeLays_any (a : Option Addr) (ca : Nat) (L : List Int) (b : Option Addr) (cb : Nat) (A : List Int) (w : World) (h : Ri w a ca L) (h2 : Ri w b cb A) :
    Calls Try.prog 3 #[.slice a L.length ca, .slice b A.length cb] w fun e w' => e = .returned (.bool true) ∧ Below w.heap.size w w' := by
  have kl := h.lenB
  have ka := h2.lenB
  have HH : Hid (Ri w a ca L) := h
  have HA : Hid (Ri w b cb A) := h2
  have haw := awake21_any w
  clear h h2
  go_enter Try.func3, Try.ntmps3
  go_wp2_with fail
  refine haw.mono ?_
  rintro e u ⟨rfl, hb⟩
  clear haw
  by_cases n1 : 200 < L.length
  · have d1 : decide ((200 : Int) < (L.length : Int)) = true := decide_eq_true (by omega)
    have e1 : decide (200 < L.length) = true := decide_eq_true n1
    have haw := awake21_any u
    clear n1
    go_wp2_with fail
    refine haw.mono ?_
    rintro e u2 ⟨rfl, hb2⟩
    have hfin := hb.trans (hb2.mono hb.size)
    clear haw hb2
    go_wp2
    go_ret
    exact ⟨rfl, hfin⟩
  have d1 : decide ((200 : Int) < (L.length : Int)) = false := decide_eq_false (by omega)
  have e1 : decide (200 < L.length) = false := decide_eq_false n1
  by_cases n2 : 200 < A.length
  · have d2 : decide ((200 : Int) < (A.length : Int)) = true := decide_eq_true (by omega)
    have e2 : decide (200 < A.length) = true := decide_eq_true n2
    have haw := awake21_any u
    clear n1 n2
    go_wp2_with fail
    refine haw.mono ?_
    rintro e u2 ⟨rfl, hb2⟩
    have hfin := hb.trans (hb2.mono hb.size)
    clear haw hb2
    go_wp2
    go_ret
    exact ⟨rfl, hfin⟩
  have d2 : decide ((200 : Int) < (A.length : Int)) = false := decide_eq_false (by omega)
  have e2 : decide (200 < A.length) = false := decide_eq_false n2
  have hla := clay_any a ca L b cb A u (HH.out.below hb) (HA.out.below hb) (by omega)
  have HSL : Hid (∀ U, Below u.heap.size u U → Calls Try.prog 10 #[.slice a L.length ca, .slice b A.length cb] U fun e w' => RowP (laL L A) U.heap.size w' e ∧ Below U.heap.size U w') := fun U hU => slay_any a ca L b cb A U ((HH.out.below hb).below hU) ((HA.out.below hb).below hU) (by omega)
  go_wp2_with fail
  refine hla.mono ?_
  rintro e u2 ⟨⟨v, rfl, hv⟩, hb2⟩
  obtain ⟨qa, qc, rfl, hq, -⟩ := hv.slice
  have hsl := HSL.out u2 hb2
  have hbu := hb.trans (hb2.mono hb.size)
  clear hla hv
  go_wp2_with fail
  refine hsl.mono ?_
  rintro e u3 ⟨⟨v, rfl, hv⟩, hb3⟩
  obtain ⟨ra, rc, rfl, hr, -⟩ := hv.slice
  have hsa := ssameP_any _ _ qa qc ra rc (laL L A) u3 (hq.below hb3) hr
  have hbu3 := hbu.trans (hb3.mono hbu.size)
  clear hsl hv hq hr hb3 hb2
  go_wp2_with fail
  refine hsa.mono ?_
  rintro e u4 ⟨rfl, hb4⟩
  have hfin := hbu3.trans (hb4.mono hbu3.size)
  clear hsa hb4
  go_wp2
  go_ret
  exact ⟨rfl, hfin⟩

end Go.Proofs.Ytchdoakoelfenaa
