/-
  subst.Line: the walk.
  foundryref06.SameInts: the walk.
  foundrylaw19.awake, few; foundryref06.SameInts of any two rows: the walks.
  foundrylaw20.awake, few; foundryref20.Few: the walks. How lookups that a law makes itself lie.
  What a law is told of a slice of bytes, or of int32, that came in.
-/
import Derived.Test.YtechkkefpigcaaaDoorZM8
import Derived.Test.YtechkkefpigcaaaDoorZM2
import Derived.BigQuiet
import Derived.Deep.QuietTactic
import Derived.WalkSmall
import Derived.Outline
import Derived.Test.YtechkkefpigcaaaDoorZM7
import Derived.Test.YtechkkefpigcaaaDoorZM3
import Derived.Deep.CutBlock
import Derived.Deep.CutRange
import Derived.Test.YtechkkefpigcaaaDoorZM6
import Derived.Test.YtechkkefpigcaaaDoorZM1
import Derived.ProofKit
namespace Go.Proofs.YtechkkefpigcaaaDoor
open Go.RowKit Go.Maps
set_option linter.unusedSimpArgs false
set_option linter.unusedVariables false

/-- What Line answers. -/
structure LiA (l : List Lk) (ms : List Bool) (k : Int) (L : List Int) (w' : World) (e : Ending) : Prop where
  out : ∃ a c, e = .returned (.tuple #[.slice a (liL l ms k L).length c, .int .i64 (liE l ms k L)]) ∧ Gr El.int (fun _ => True) w' a c (liL l ms k L)
theorem LiA.nil {l : List Lk} {ms : List Bool} {k : Int} {L : List Int} {w' : World} {e : Int} (h : liL l ms k L = [] ∧ liE l ms k L = e) : LiA l ms k L w' (.returned (.tuple #[.slice none 0 0, .int .i64 e])) := by
  refine ⟨none, 0, ?_, ?_⟩
  · rw [h.1, h.2]; rfl
  · rw [h.1]; exact Gr.nil _ _ _ _ _ (Nat.zero_le _) (fun _ => rfl)
theorem LiA.yes {l : List Lk} {ms : List Bool} {k : Int} {L X : List Int} {w' : World} (h : liL l ms k L = X ∧ liE l ms k L = 0) {a : Option Addr} {c : Nat} (hg : Gr El.int (fun _ => True) w' a c X) : LiA l ms k L w' (.returned (.tuple #[.slice a X.length c, .int .i64 0])) := by
  refine ⟨a, c, ?_, ?_⟩
  · rw [h.1, h.2]
  · rw [h.1]; exact hg
theorem li_bad {l : List Lk} {ms : List Bool} {k : Int} {L : List Int} (h : foU l 65536 = false) : liL l ms k L = [] ∧ liE l ms k L = 1 := by unfold liL liE; rw [h]; exact ⟨rfl, rfl⟩
theorem li_long {l : List Lk} {ms : List Bool} {k : Int} {L : List Int} (h : foU l 65536 = true) (h1 : 100 < L.length) : liL l ms k L = [] ∧ liE l ms k L = 3 := by unfold liL liE; rw [h, if_pos rfl, if_pos rfl, if_pos h1, if_pos h1]; exact ⟨rfl, rfl⟩
theorem li_none {l : List Lk} {ms : List Bool} {k : Int} {L : List Int} (h : foU l 65536 = true) (h1 : ¬ 100 < L.length) (h2 : ¬ (0 ≤ k ∧ k < (l.length : Int))) : liL l ms k L = [] ∧ liE l ms k L = 5 := by unfold liL liE; rw [h, if_pos rfl, if_pos rfl, if_neg h1, if_neg h1, if_neg h2, if_neg h2]; exact ⟨rfl, rfl⟩
theorem li_other {l : List Lk} {ms : List Bool} {k : Nat} {L : List Int} (h : foU l 65536 = true) (h1 : ¬ 100 < L.length) (h2 : k < l.length) (h3 : puB (l.getD k Lk.none).kd = false) : liL l ms (k : Int) L = L ∧ liE l ms (k : Int) L = 0 := by
  unfold liL liE
  rw [h, if_pos rfl, if_pos rfl, if_neg h1, if_neg h1, if_pos (show 0 ≤ (k : Int) ∧ (k : Int) < (l.length : Int) from ⟨by omega, by omega⟩), if_pos (show 0 ≤ (k : Int) ∧ (k : Int) < (l.length : Int) from ⟨by omega, by omega⟩), Int.toNat_natCast, h3]
  exact ⟨rfl, rfl⟩
theorem li_stuck {l : List Lk} {ms : List Bool} {k : Nat} {L : List Int} (h : foU l 65536 = true) (h1 : ¬ 100 < L.length) (h2 : k < l.length) (h3 : puB (l.getD k Lk.none).kd = true) (h4 : liQ l ms k L 0 = none) : liL l ms (k : Int) L = [] ∧ liE l ms (k : Int) L = 3 := by
  unfold liL liE
  rw [h, if_pos rfl, if_pos rfl, if_neg h1, if_neg h1, if_pos (show 0 ≤ (k : Int) ∧ (k : Int) < (l.length : Int) from ⟨by omega, by omega⟩), if_pos (show 0 ≤ (k : Int) ∧ (k : Int) < (l.length : Int) from ⟨by omega, by omega⟩), Int.toNat_natCast, h3, h4]
  exact ⟨rfl, rfl⟩
theorem li_through {l : List Lk} {ms : List Bool} {k : Nat} {L X : List Int} (h : foU l 65536 = true) (h1 : ¬ 100 < L.length) (h2 : k < l.length) (h3 : puB (l.getD k Lk.none).kd = true) (h4 : liQ l ms k L 0 = some X) : liL l ms (k : Int) L = X ∧ liE l ms (k : Int) L = 0 := by
  unfold liL liE
  rw [h, if_pos rfl, if_pos rfl, if_neg h1, if_neg h1, if_pos (show 0 ≤ (k : Int) ∧ (k : Int) < (l.length : Int) from ⟨by omega, by omega⟩), if_pos (show 0 ≤ (k : Int) ∧ (k : Int) < (l.length : Int) from ⟨by omega, by omega⟩), Int.toNat_natCast, h3, h4]
  exact ⟨rfl, rfl⟩
/-- A slice's length. -/
def slLn : Value → Int
  | .slice _ n _ => (n : Int)
  | _ => 0
theorem slLn_slice (a : Option Addr) (n c : Nat) : slLn (.slice a n c) = (n : Int) := rfl
theorem go_no {l : List Lk} {ms : List Bool} {k : Nat} {X : List Int} {i : Int} (h : duB l ms 7 k X i = false) : goO l ms k X i = i + 1 := by unfold goO; rw [if_pos (.inl h)]
theorem go_same {l : List Lk} {ms : List Bool} {k : Nat} {X : List Int} {i : Int} (h : duO l ms 7 k X i = i) (h2 : X.length ≤ (duL l ms 7 k X i).length) : goO l ms k X i = i + 1 := by unfold goO; rw [if_pos (.inr ⟨h, h2⟩)]
theorem go_on {l : List Lk} {ms : List Bool} {k : Nat} {X : List Int} {i : Int} (h : duB l ms 7 k X i = true) (h2 : ¬ (duO l ms 7 k X i = i ∧ X.length ≤ (duL l ms 7 k X i).length)) : goO l ms k X i = duO l ms 7 k X i := by
  unfold goO
  rw [if_neg (fun h3 => by
    rcases h3 with h3 | h3
    · rw [h] at h3; cases h3
    · exact h2 h3)]

set_option maxHeartbeats 8000000 in
set_option maxRecDepth 100000 in
theorem clineU_any (l : List Lk) (ms : List Bool) (Sl Sm S : Nat → Prop) (la : Option Addr) (lc : Nat) (mb : Option Addr) (mc : Nat) (k : Int) (a : Option Addr) (ca : Nat) (L : List Int) (w : World)
    (hl : Gr LkE Sl w la lc l) (hms : Gr El.bool Sm w mb mc ms) (hL : Gr El.int S w a ca L) (hk : I64 k) (hle : L.length ≤ 200) (hT : Spn w) :
    Calls Tryd.prog 18 #[.slice la l.length lc, .int .i64 k, .slice mb ms.length mc, .slice a L.length ca] w fun e w' => LiA l ms k L w' e ∧ Below w.heap.size w w' := by
  have kl := hL.lenB
  have kll := hl.lenB
  have hfo := cformU_any Sl la lc l 65536 w hl ⟨by omega, by omega⟩ hT
  cases hf : foU l 65536 with
  | false =>
    rw [hf] at hfo
    have HF : Hid (∀ U, LiA l ms k L U (.returned (.tuple #[.slice none 0 0, .int .i64 1]))) := fun U => LiA.nil (li_bad hf)
    clear hl hms hL hT hf
    go_enter Tryd.func18, Tryd.ntmps18
    go_wp2_with fail
    refine hfo.mono ?_
    rintro e u ⟨rfl, hbu⟩
    clear hfo
    go_wp2
    go_ret2
    exact ⟨HF.out _, hbu⟩
  | true =>
  rw [hf] at hfo
  by_cases h1 : 100 < L.length
  · have HF : Hid (∀ U, LiA l ms k L U (.returned (.tuple #[.slice none 0 0, .int .i64 3]))) := fun U => LiA.nil (li_long hf h1)
    have g1 : (100 : Int) < (L.length : Int) := by omega
    have d1 : decide ((100 : Int) < (L.length : Int)) = true := decide_eq_true g1
    clear hl hms hL hT hf h1 g1
    go_enter Tryd.func18, Tryd.ntmps18
    go_wp2_with fail
    refine hfo.mono ?_
    rintro e u ⟨rfl, hbu⟩
    clear hfo
    go_wp2
    go_ret2
    exact ⟨HF.out _, hbu⟩
  have d1 : decide ((100 : Int) < (L.length : Int)) = false := decide_eq_false (by omega)
  by_cases h2 : 0 ≤ k ∧ k < (l.length : Int)
  rotate_left
  · have HF : Hid (∀ U, LiA l ms k L U (.returned (.tuple #[.slice none 0 0, .int .i64 5]))) := fun U => LiA.nil (li_none hf h1 h2)
    have hlk := fun U => isLook_any la l.length lc k U hk kll
    rw [isLk_no h2] at hlk
    clear hl hms hL hT hf h1 h2
    go_enter Tryd.func18, Tryd.ntmps18
    go_wp2_with fail
    refine hfo.mono ?_
    rintro e u ⟨rfl, hbu⟩
    clear hfo
    replace hlk := hlk u
    go_wp2_with fail
    refine hlk.mono ?_
    rintro e u2 ⟨rfl, rfl⟩
    clear hlk
    go_wp2
    go_ret2
    exact ⟨HF.out _, hbu⟩
  have hlk := fun U => isLook_any la l.length lc k U hk kll
  rw [isLk_iff.2 h2] at hlk
  obtain ⟨i1, i2⟩ := h2
  obtain ⟨q, rfl⟩ : ∃ q : Nat, k = (q : Int) := ⟨k.toNat, by omega⟩
  have hq : q < l.length := by omega
  have HL : Hid (Gr LkE Sl w la lc l) := hl
  obtain ⟨lb, lo, ra, rc, rfl, hkd, hall⟩ := hl.lkAll q hq
  have HKC : Hid (∀ u, Below w.heap.size w u → u.cell? ⟨lb, lo + q * 3, none⟩ = some (.int .i64 (l.getD q Lk.none).kd)) := fun u hu => (hall u hu).2.1
  have HOT : Hid (puB (l.getD q Lk.none).kd = false → liL l ms (q : Int) L = L ∧ liE l ms (q : Int) L = 0) := fun h => li_other hf h1 hq h
  have HST : Hid (puB (l.getD q Lk.none).kd = true → liQ l ms q L 0 = none → liL l ms (q : Int) L = [] ∧ liE l ms (q : Int) L = 3) := fun h h4 => li_stuck hf h1 hq h h4
  have HTH : Hid (puB (l.getD q Lk.none).kd = true → ∀ X, liQ l ms q L 0 = some X → liL l ms (q : Int) L = X ∧ liE l ms (q : Int) L = 0) := fun h X h4 => li_through hf h1 hq h h4
  have HGL : Hid (puB (l.getD q Lk.none).kd = true → ∀ (X : List Int) (i : Int), 0 ≤ i → i < (X.length : Int) → i ≤ goO l ms q X i ∧ goO l ms q X i ≤ (X.length : Int) + 8 ∧ ((duL l ms 7 q X i).length : Int) - goO l ms q X i < (X.length : Int) - i ∧ (duL l ms 7 q X i).length ≤ X.length + 7) := fun h X i h0 h3 => go_less (ms := ms) hf hq h h0 h3
  have HON : Hid (puB (l.getD q Lk.none).kd = true → ∀ (X : List Int) (i : Int), 0 ≤ i → i < (X.length : Int) → ¬ 100 < (duL l ms 7 q X i).length → liQ l ms q X i = liQ l ms q (duL l ms 7 q X i) (goO l ms q X i)) := fun h X i h0 h3 h4 => liQ_on hf hq h h0 h3 h4
  have HDO : Hid (puB (l.getD q Lk.none).kd = true → ∀ U, Below w.heap.size w U → ∀ xa xc (X : List Int) (i : Int), Gr El.int (fun _ => True) U xa xc X → X.length ≤ 100 → 0 ≤ i → i < (X.length : Int) → Calls Tryd.prog 23 #[.agg #[.slice (some ⟨lb, lo, none⟩) l.length lc, .slice mb ms.length mc], .int .i64 q, .slice xa X.length xc, .int .i64 i, .int .i64 1] U fun e w' => DuA l ms 7 q X i w' e ∧ Below U.heap.size U w') := fun hp U hU xa xc X i hX hXl h0 h3 =>
    do_any l ms 65536 hf 7 (by omega) Sl Sm (fun _ => True) (some ⟨lb, lo, none⟩) lc mb mc q xa xc X i U (HL.out.below hU) (hms.below hU) hX hq hp (plB_iff.2 ⟨h0, h3⟩) (by omega)
  have hcl := fun U (hU : Below w.heap.size w U) => ccloneI_any S a ca L U (hL.below hU) (by omega)
  obtain ⟨kd, hkk⟩ : ∃ kd, (l.getD q Lk.none).kd = kd := ⟨_, rfl⟩
  rw [hkk] at HKC hkd HOT HST HTH HGL HON HDO
  have hpu := fun U => puts_any kd U hkd
  have h1' : L.length ≤ 100 := by omega
  clear hkk hall hl hms hL hT hf h1 HL
  go_enter Tryd.func18, Tryd.ntmps18
  go_wp2_with fail
  refine hfo.mono ?_
  rintro e u ⟨rfl, hbu⟩
  clear hfo
  replace hlk := hlk u
  go_wp2_with fail
  refine hlk.mono ?_
  rintro e u2 ⟨rfl, rfl⟩
  replace hcl := hcl _ hbu
  clear hlk
  go_wp2_with fail
  refine hcl.mono ?_
  rintro e u3 ⟨⟨v, rfl, hv⟩, hb3⟩
  obtain ⟨va, vc, rfl, hvg⟩ := hv.io.grL (S := fun _ => True)
  have hw3 := hbu.trans (hb3.mono hbu.size)
  have c0 := HKC.out u3 hw3
  replace hpu := hpu u3
  clear hcl hv
  cases hp : puB kd with
  | false =>
    rw [hp] at hpu
    have HV : Hid (LiA l ms (q : Int) L u3 (.returned (.tuple #[.slice va L.length vc, .int .i64 0]))) := LiA.yes (HOT.out hp) hvg
    clear HOT HST HTH HGL HON HDO hp hvg
    go_wp2_with fail
    refine hpu.mono ?_
    rintro e u4 ⟨rfl, rfl⟩
    clear hpu c0
    go_wp2
    go_ret2
    exact ⟨HV.out, hw3⟩
  | true =>
    rw [hp] at hpu
    have HST2 : Hid (liQ l ms q L 0 = none → ∀ U, LiA l ms (q : Int) L U (.returned (.tuple #[.slice none 0 0, .int .i64 3]))) := fun h U => LiA.nil (HST.out hp h)
    have HTH2 : Hid (∀ X, liQ l ms q L 0 = some X → ∀ U xa xc, Gr El.int (fun _ => True) U xa xc X → LiA l ms (q : Int) L U (.returned (.tuple #[.slice xa X.length xc, .int .i64 0]))) := fun X h U xa xc hX => LiA.yes (HTH.out hp X h) hX
    have HGL2 := HGL.out hp
    have HGL : Hid (∀ (X : List Int) (i : Int), 0 ≤ i → i < (X.length : Int) → i ≤ goO l ms q X i ∧ goO l ms q X i ≤ (X.length : Int) + 8 ∧ ((duL l ms 7 q X i).length : Int) - goO l ms q X i < (X.length : Int) - i ∧ (duL l ms 7 q X i).length ≤ X.length + 7) := HGL2
    have HON2 := HON.out hp
    have HON : Hid (∀ (X : List Int) (i : Int), 0 ≤ i → i < (X.length : Int) → ¬ 100 < (duL l ms 7 q X i).length → liQ l ms q X i = liQ l ms q (duL l ms 7 q X i) (goO l ms q X i)) := HON2
    have HDO2 := HDO.out hp
    have HDO : Hid (∀ U, Below w.heap.size w U → ∀ xa xc (X : List Int) (i : Int), Gr El.int (fun _ => True) U xa xc X → X.length ≤ 100 → 0 ≤ i → i < (X.length : Int) → Calls Tryd.prog 23 #[.agg #[.slice (some ⟨lb, lo, none⟩) l.length lc, .slice mb ms.length mc], .int .i64 q, .slice xa X.length xc, .int .i64 i, .int .i64 1] U fun e w' => DuA l ms 7 q X i w' e ∧ Below U.heap.size U w') := HDO2
    obtain ⟨V, hV, XV, hbV⟩ : ∃ V, V = u3.alloc (.cells #[.slice (some ⟨lb, lo, none⟩) l.length lc, .slice mb ms.length mc] 55) ∧ Bk 55 V u3.heap.size [.slice (some ⟨lb, lo, none⟩) l.length lc, .slice mb ms.length mc] ∧ Below u3.heap.size u3 V := ⟨_, rfl, Bk.new _ _ _, bl1 _⟩
    have hwV := hw3.trans (hbV.mono hw3.size)
    have hvg2 := hvg.below hbV
    have HXV : Hid (Bk 55 V u3.heap.size [.slice (some ⟨lb, lo, none⟩) l.length lc, .slice mb ms.length mc]) := XV
    have HWV : Hid (Below w.heap.size w V) := hwV
    clear HOT HST HTH hp hvg HGL2 HON2 HDO2 XV hwV
    go_wp2_with fail
    refine hpu.mono ?_
    rintro e u4 ⟨rfl, rfl⟩
    clear hpu c0 hbV
    go_upto_region 11 with fail
    rw [← hV]
    clear hV
    go_wp2
    go_loopw [3, 11] (fun vl vi wr => ∃ (X : List Int) (xa : Option Addr) (xc : Nat) (i : Int), vl = .slice xa X.length xc ∧ vi = .int .i64 i ∧ Hid (Gr El.int (fun _ => True) wr xa xc X) ∧ X.length ≤ 100 ∧ 0 ≤ i ∧ i ≤ 1000 ∧ Hid (liQ l ms q L 0 = liQ l ms q X i) ∧ Below V.heap.size V wr) (fun vl vi _ => (slLn vl - intOf vi).toNat)
    case atStart => exact ⟨L, va, vc, 0, rfl, rfl, hvg2, h1', by omega, by omega, rfl, Below.refl _ _⟩
    case round =>
      clear hvg2
      obtain ⟨X, xa, xc, i, rfl, rfl, HG, hX, h0, h9, HQ, hB⟩ := hrel
      have hwr := HWV.out.trans (hB.mono HWV.out.size)
      by_cases hin : i < (X.length : Int)
      · obtain ⟨y0, y1, -⟩ := (HXV.out.below hB).two
        have hdo := HDO.out wr hwr xa xc X i HG.out hX h0 hin
        obtain ⟨m1, m2, m3, m4⟩ := HGL.out X i h0 hin
        have HLG : Hid (100 < (duL l ms 7 q X i).length → liQ l ms q L 0 = none) := fun h => by rw [HQ.out]; exact liQ_long h0 hin h
        have HNX : Hid (¬ 100 < (duL l ms 7 q X i).length → liQ l ms q L 0 = liQ l ms q (duL l ms 7 q X i) (goO l ms q X i)) := fun h => by rw [HQ.out]; exact HON.out X i h0 hin h
        have HN : Hid (duB l ms 7 q X i = false → goO l ms q X i = i + 1) := go_no
        have HS : Hid (duO l ms 7 q X i = i → X.length ≤ (duL l ms 7 q X i).length → goO l ms q X i = i + 1) := go_same
        have HO : Hid (duB l ms 7 q X i = true → ¬ (duO l ms 7 q X i = i ∧ X.length ≤ (duL l ms 7 q X i).length) → goO l ms q X i = duO l ms 7 q X i) := go_on
        go_wp2_with fail
        refine hdo.mono ?_
        rintro e u5 ⟨⟨oa, oc, rfl, hgr⟩, hb5⟩
        have hV5 := hB.trans (hb5.mono hB.size)
        have hw5 := hwr.trans (hb5.mono hwr.size)
        generalize duL l ms 7 q X i = o at hgr m3 m4 HLG HNX HS HO
        generalize duO l ms 7 q X i = on at HS HO
        generalize duB l ms 7 q X i = od at HN HO
        generalize goO l ms q X i = gg at m1 m2 m3 HNX HN HS HO
        have HGR : Hid (Gr El.int (fun _ => True) u5 oa oc o) := hgr
        have HGG : Hid (i ≤ gg ∧ gg ≤ (X.length : Int) + 8 ∧ (o.length : Int) - gg < (X.length : Int) - i ∧ i < (X.length : Int)) := ⟨m1, m2, m3, hin⟩
        clear hdo hgr HG HQ y0 y1 m1 m2 m3 hb5 hB
        by_cases hlo : 100 < o.length
        · have d2 : (100 : Int) < (o.length : Int) := by omega
          have HV := HST2.out (HLG.out hlo) u5
          have HV2 : Hid (LiA l ms (q : Int) L u5 (.returned (.tuple #[.slice none 0 0, .int .i64 3]))) := HV
          clear HV HLG HNX HN HS HO hlo hin HGG
          go_wp2
          go_ret2
          exact ⟨HV2.out, hw5⟩
        have d2 : ¬ (100 : Int) < (o.length : Int) := by omega
        have HNX2 : Hid (liQ l ms q L 0 = liQ l ms q o gg) := HNX.out hlo
        clear HLG HNX
        cases od with
        | false =>
          have HE : Hid (gg = i + 1) := HN.out rfl
          clear HN HS HO hin hlo
          go_wp2
          go_roundw
          case rel => exact ⟨o, oa, oc, i + 1, rfl, rfl, HGR, by omega, by omega, by have := HGG.out; have := HE.out; omega, by rw [← HE.out]; exact HNX2, hV5⟩
          case measure => have := HGG.out; have := HE.out; simp only [slLn_slice, intOf]; omega
        | true =>
          by_cases hoi : on = i
          · subst hoi
            by_cases hll : X.length ≤ o.length
            · have HE : Hid (gg = on + 1) := HS.out rfl hll
              have d3 : decide ((X.length : Int) ≤ (o.length : Int)) = true := decide_eq_true (by omega)
              have d3n : decide (X.length ≤ o.length) = true := decide_eq_true hll
              clear HN HS HO hin hlo hll
              go_wp2
              go_roundw
              case rel => exact ⟨o, oa, oc, on + 1, rfl, rfl, HGR, by omega, by omega, by have := HGG.out; have := HE.out; omega, by rw [← HE.out]; exact HNX2, hV5⟩
              case measure => have := HGG.out; have := HE.out; simp only [slLn_slice, intOf]; omega
            · have HE : Hid (gg = on) := HO.out rfl (fun h => hll h.2)
              have d3 : decide ((X.length : Int) ≤ (o.length : Int)) = false := decide_eq_false (by omega)
              have d3n : decide (X.length ≤ o.length) = false := decide_eq_false hll
              clear HN HS HO hin hlo hll
              go_wp2
              go_roundw
              case rel => exact ⟨o, oa, oc, on, rfl, rfl, HGR, by omega, by omega, by have := HGG.out; have := HE.out; omega, by rw [← HE.out]; exact HNX2, hV5⟩
              case measure => have := HGG.out; have := HE.out; simp only [slLn_slice, intOf]; omega
          · have HE : Hid (gg = on) := HO.out rfl (fun h => hoi h.1)
            have d3 : (on == i) = false := beq_eq_false_iff_ne.2 hoi
            clear HN HS HO hin hlo hoi
            go_wp2
            go_roundw
            case rel => exact ⟨o, oa, oc, on, rfl, rfl, HGR, by omega, by have := HGG.out; have := HE.out; omega, by have := HGG.out; have := HE.out; omega, by rw [← HE.out]; exact HNX2, hV5⟩
            case measure => have := HGG.out; have := HE.out; simp only [slLn_slice, intOf]; omega
      · have HV := HTH2.out X (by rw [HQ.out]; exact liQ_end h0 hin) wr xa xc HG.out
        have HV2 : Hid (LiA l ms (q : Int) L wr (.returned (.tuple #[.slice xa X.length xc, .int .i64 0]))) := HV
        clear HV HQ HG
        go_wp2
        go_ret2
        exact ⟨HV2.out, hwr⟩

end Go.Proofs.YtechkkefpigcaaaDoor

namespace Go.Proofs.YtechkkefpigcaaaDoor
open Go.RowKit Go.Maps
set_option linter.unusedSimpArgs false
set_option linter.unusedVariables false

set_option maxHeartbeats 1000000 in
set_option maxRecDepth 100000 in
theorem ssameI_any (a b : Option Addr) (ca cb : Nat) (zs : List Int) (w : World) (ha : Ri w a ca zs) (hb : Ri w b cb zs) :
    Calls Tryd.prog 13 #[.slice a zs.length ca, .slice b zs.length cb] w fun e w' => e = .returned (.bool true) ∧ Below w.heap.size w w' := by
  have k1 := ha.2.1
  have k2 := ha.2.2.1
  unfold maxLen at k2
  have hne : ((zs.length : Int) != (zs.length : Int)) = false := by simp
  have HA : Hid (Ri w a ca zs) := ha
  have HB : Hid (Ri w b cb zs) := hb
  clear ha hb
  go_enter Tryd.func13, Tryd.ntmps13
  go_wp2
  go_loopw [5] (fun i wr => ∃ k : Nat, k ≤ zs.length ∧ i = .int .i64 k ∧ Below w.heap.size w wr) (fun i _ => zs.length - (intOf i).toNat)
  case atStart => exact ⟨0, Nat.zero_le _, rfl, Below.refl _ _⟩
  case round =>
    obtain ⟨k, hk, rfl, hnx⟩ := hrel
    by_cases hkn : k < zs.length
    · obtain ⟨b1, o1, rfl, _, c1⟩ := HA.out.at hnx k hkn
      obtain ⟨b2, o2, rfl, _, c2⟩ := HB.out.at hnx k hkn
      obtain ⟨x, hx⟩ : ∃ x, zs.getD k 0 = x := ⟨_, rfl⟩
      rw [hx] at c1 c2
      have hxx : ((x : Int) != (x : Int)) = false := by simp
      clear hx
      have i1 : (0 : Int) ≤ (k : Int) := by omega
      have i2 : (k : Int) < (zs.length : Int) := by omega
      go_wp2_with fail
      go_quiet (fail)
      go_wp2
      go_roundw
      case rel => exact ⟨k + 1, by omega, by go_num, below_drewN hnx _⟩
      case measure => simp [intOf]; omega
    · go_wp2
      go_ret
      exact ⟨rfl, hnx⟩

end Go.Proofs.YtechkkefpigcaaaDoor

namespace Go.Proofs.YtechkkefpigcaaaDoor
open Go.RowKit Go.Maps
set_option linter.unusedSimpArgs false
set_option linter.unusedVariables false

theorem bk_bools {S : Nat → Prop} {t : TypeId} {w : World} {g : Nat} {ms : List Bool} (h : Bk t w g (ms.map Value.bool)) (hl : ms.length ≤ 1000) : Gr El.bool S w (some ⟨g, 0, none⟩) ms.length ms := by
  refine ⟨Nat.le_refl _, by unfold maxLen; omega, (fun e => by cases e), fun i hi => ⟨g, 0, [.bool (ms.getD i false)], rfl, h.lt, rfl, fun j hj => ?_⟩⟩
  obtain rfl : j = 0 := by simp [El.bool] at hj; exact hj
  show w.cell? ⟨g, 0 + i * 1 + 0, none⟩ = _
  rw [Nat.zero_add, Nat.mul_one, Nat.add_zero, h.cell i (by rw [List.length_map]; exact hi)]
  simp [List.getD, hi]
theorem bk_ints {t : TypeId} {w : World} {g : Nat} {zs : List Int} (h : Bk t w g (zs.map (Value.int .i64))) (hz : ∀ z ∈ zs, I64 z) (hl : zs.length ≤ 1000) : Ri w (some ⟨g, 0, none⟩) zs.length zs := by
  refine ⟨hz, Nat.le_refl _, by unfold maxLen; omega, .inr ⟨g, 0, rfl, h.lt, fun i hi => ?_⟩⟩
  rw [Nat.zero_add, h.cell i (by rw [List.length_map]; exact hi)]
  simp [List.getD, hi]

/-- Whether a line is of a size that is looked at. -/
def feB (L : List Int) (ms : List Bool) : Bool := decide (L.length ≤ 200) && decide (ms.length ≤ 1000)
theorem feB_iff {L : List Int} {ms : List Bool} : feB L ms = true ↔ L.length ≤ 200 ∧ ms.length ≤ 1000 := by unfold feB; rw [Bool.and_eq_true, decide_eq_true_iff, decide_eq_true_iff]

theorem two_cY {n b p q : Nat} {w U : World} {v0 v1 : Value} (hb : Below n w U) (hlt : b < n) (hC : w.cell? ⟨b, p, none⟩ = some v0 ∧ w.cell? ⟨b, q, none⟩ = some v1) : U.cell? ⟨b, p, none⟩ = some v0 ∧ U.cell? ⟨b, q, none⟩ = some v1 :=
  ⟨(hb.cell (p := ⟨b, p, none⟩) hlt).trans hC.1, (hb.cell (p := ⟨b, q, none⟩) hlt).trans hC.2⟩

end Go.Proofs.YtechkkefpigcaaaDoor

namespace Go.Proofs.YtechkkefpigcaaaDoor
open Go.RowKit Go.Maps
set_option linter.unusedSimpArgs false
set_option linter.unusedVariables false

/-- A row in a block known whole. -/
theorem gr_of_bk {α : Type} {E : El α} {S : Nat → Prop} {t : TypeId} {w : World} {g : Nat} {cs : List Value} (vss : List (List Value)) {l : List α} (hb : Bk t w g cs) (hcs : cs = vss.flatten) (hl : vss.length = l.length)
    (hrep : ∀ i, i < l.length → E.rep S w (vss.getD i []) (l.getD i E.dfl)) (hle : l.length ≤ 1000) : Gr E S w (some ⟨g, 0, none⟩) l.length l := by
  have h5 : ∀ i, i < vss.length → (vss.getD i []).length = E.sz := fun i hi => E.len (hrep i (by omega))
  refine ⟨Nat.le_refl _, by unfold maxLen; omega, (fun e => by cases e), fun i hi => ⟨g, 0, vss.getD i [], rfl, hb.lt, hrep i hi, fun j hj => ?_⟩⟩
  have hlt : i * E.sz + j < cs.length := by
    rw [hcs, flat_len' h5]
    have := Nat.mul_le_mul_right E.sz (show i + 1 ≤ vss.length by omega)
    rw [Nat.add_mul] at this
    omega
  rw [Nat.zero_add, hb.cell _ hlt, hcs]
  exact flat_get h5 (by omega) hj
theorem rowT {α : Type} {E : El α} {w : World} {a : Option Addr} {c : Nat} {l : List α} (h : Gr E (fun _ => True) w a c l) (hl : l.length ≤ 1000) : E.row.rep (fun _ => True) w [.slice a l.length c] l := ⟨a, c, rfl, fun _ _ _ _ => trivial, h, by omega⟩
/-- Ints in a block known whole. -/
theorem grI_of_bk {t : TypeId} {w : World} {g : Nat} {zs : List Int} (hb : Bk t w g (zs.map (Value.int .i64))) (hz : ∀ z ∈ zs, I64 z) (hl : zs.length ≤ 1000) : Gr El.int (fun _ => True) w (some ⟨g, 0, none⟩) zs.length zs := by
  refine ⟨Nat.le_refl _, by unfold maxLen; omega, (fun e => by cases e), fun i hi => ⟨g, 0, [.int .i64 (zs.getD i 0)], rfl, hb.lt, El.int_rep.2 ⟨rfl, hz _ (by rw [List.getD_eq_getElem?_getD, List.getElem?_eq_getElem hi]; exact List.getElem_mem hi)⟩, fun j hj => ?_⟩⟩
  obtain rfl : j = 0 := by simp [El.int, El.num] at hj; exact hj
  show w.cell? ⟨g, 0 + i * 1 + 0, none⟩ = _
  rw [Nat.zero_add, Nat.mul_one, Nat.add_zero, hb.cell i (by rw [List.length_map]; exact hi)]
  simp [List.getD, hi]
theorem gr1_of_bk {α : Type} {E : El α} {S : Nat → Prop} {t : TypeId} {w : World} {g : Nat} {cs : List Value} {x : α} (hb : Bk t w g cs) (hr : E.rep S w cs x) : Gr E S w (some ⟨g, 0, none⟩) 1 [x] := Gr.one hr hb.lt (fun j hj => hb.cell j (by rw [E.len hr]; exact hj))
theorem gr2_of_bk {α : Type} {E : El α} {S : Nat → Prop} {t : TypeId} {w : World} {g : Nat} {cs ds : List Value} {x y : α} (hb : Bk t w g (cs ++ ds)) (hr : E.rep S w cs x) (hr2 : E.rep S w ds y) : Gr E S w (some ⟨g, 0, none⟩) 2 [x, y] :=
  gr_of_bk (l := [x, y]) [cs, ds] hb (by simp) rfl (fun i hi => by
    have h2 : i = 0 ∨ i = 1 := by simp at hi; omega
    rcases h2 with rfl | rfl
    · exact hr
    · exact hr2) (by simp)
/-- A rule without slots. -/
def ru0 (inn out : List Int) (lk : Int) : Ru := ⟨inn, out, 0, lk, (0, 0), (0, 0), (0, 0)⟩
theorem ru0_rep {w : World} {a : Option Addr} {ca : Nat} {b : Option Addr} {cb : Nat} {inn out : List Int} {lk : Int} (h1 : Gr El.int (fun _ => True) w a ca inn) (h2 : Gr El.int (fun _ => True) w b cb out) (hl : I64 lk) (l1 : inn.length ≤ 1000) (l2 : out.length ≤ 1000) :
    RuE.rep (fun _ => True) w [.slice a inn.length ca, .slice b out.length cb, .int .i64 0, .int .i64 lk, .int .i64 0, .int .i64 0, .int .i64 0, .int .i64 0, .int .i64 0, .int .i64 0] (ru0 inn out lk) :=
  RuE_rep.2 ⟨a, ca, b, cb, rfl, rowT h1 l1, rowT h2 l2, ⟨by show (-9223372036854775808 : Int) ≤ 0; omega, by show (0 : Int) ≤ 9223372036854775807; omega⟩, hl, ⟨⟨by show (-9223372036854775808 : Int) ≤ 0; omega, by show (0 : Int) ≤ 9223372036854775807; omega⟩, ⟨by show (-9223372036854775808 : Int) ≤ 0; omega, by show (0 : Int) ≤ 9223372036854775807; omega⟩⟩, ⟨⟨by show (-9223372036854775808 : Int) ≤ 0; omega, by show (0 : Int) ≤ 9223372036854775807; omega⟩, ⟨by show (-9223372036854775808 : Int) ≤ 0; omega, by show (0 : Int) ≤ 9223372036854775807; omega⟩⟩, ⟨by show (-9223372036854775808 : Int) ≤ 0; omega, by show (0 : Int) ≤ 9223372036854775807; omega⟩, ⟨by show (-9223372036854775808 : Int) ≤ 0; omega, by show (0 : Int) ≤ 9223372036854775807; omega⟩⟩
theorem lk0_rep {w : World} {a : Option Addr} {c : Nat} {kd : Int} {sk : Bool} {rs : List Ru} (h : Gr RuE (fun _ => True) w a c rs) (hk : I64 kd) (hl : rs.length ≤ 1000) : LkE.rep (fun _ => True) w [.int .i64 kd, .bool sk, .slice a rs.length c] ⟨kd, sk, rs⟩ := LkE_rep.2 ⟨a, c, rfl, hk, rowT h hl⟩

set_option maxHeartbeats 4000000 in
set_option maxRecDepth 100000 in
theorem awake20_any (w : World) (hT : Spn w) :
    Calls Tryd.prog 9 #[] w fun e w' => e = .returned (.bool true) ∧ Below w.heap.size w w' := by
  obtain ⟨W0, hW0⟩ : ∃ W0, W0 = w.alloc (.cells #[.int .i64 1, .int .i64 2] 3) := ⟨_, rfl⟩
  have sW0 : W0.heap.size = w.heap.size + 1 := by rw [hW0, World.size_alloc]
  have dW0 : Below w.heap.size w W0 := by rw [hW0]; exact bl1 _
  have cW0 : Below w.heap.size w W0 := dW0
  have BW0 : Bk 3 W0 (w.heap.size) [.int .i64 1, .int .i64 2] := by rw [hW0]; exact Bk.new _ _ _
  obtain ⟨W1, hW1⟩ : ∃ W1, W1 = W0.alloc (.cells #[.int .i64 9] 3) := ⟨_, rfl⟩
  have sW1 : W1.heap.size = w.heap.size + 1 + 1 := by rw [hW1, World.size_alloc, sW0]
  have dW1 : Below W0.heap.size W0 W1 := by rw [hW1]; exact bl1 _
  have cW1 : Below w.heap.size w W1 := cW0.trans (dW1.mono cW0.size)
  have BW1 : Bk 3 W1 (w.heap.size + 1) [.int .i64 9] := by rw [hW1, ← sW0]; exact Bk.new _ _ _
  replace BW0 := BW0.below dW1
  obtain ⟨W2, hW2⟩ : ∃ W2, W2 = W1.alloc (.cells #[.slice (some ⟨w.heap.size, 0, none⟩) 2 2, .slice (some ⟨w.heap.size + 1, 0, none⟩) 1 1, .int .i64 0, .int .i64 0, .int .i64 0, .int .i64 0, .int .i64 0, .int .i64 0, .int .i64 0, .int .i64 0] 46) := ⟨_, rfl⟩
  have sW2 : W2.heap.size = w.heap.size + 1 + 1 + 1 := by rw [hW2, World.size_alloc, sW1]
  have dW2 : Below W1.heap.size W1 W2 := by rw [hW2]; exact bl1 _
  have cW2 : Below w.heap.size w W2 := cW1.trans (dW2.mono cW1.size)
  have BW2 : Bk 46 W2 (w.heap.size + 1 + 1) [.slice (some ⟨w.heap.size, 0, none⟩) 2 2, .slice (some ⟨w.heap.size + 1, 0, none⟩) 1 1, .int .i64 0, .int .i64 0, .int .i64 0, .int .i64 0, .int .i64 0, .int .i64 0, .int .i64 0, .int .i64 0] := by rw [hW2, ← sW1]; exact Bk.new _ _ _
  replace BW0 := BW0.below dW2
  replace BW1 := BW1.below dW2
  obtain ⟨W3, hW3⟩ : ∃ W3, W3 = W2.alloc (.cells #[.int .i64 3, .bool false, .slice (some ⟨w.heap.size + 1 + 1, 0, none⟩) 1 1] 41) := ⟨_, rfl⟩
  have sW3 : W3.heap.size = w.heap.size + 1 + 1 + 1 + 1 := by rw [hW3, World.size_alloc, sW2]
  have dW3 : Below W2.heap.size W2 W3 := by rw [hW3]; exact bl1 _
  have cW3 : Below w.heap.size w W3 := cW2.trans (dW3.mono cW2.size)
  have BW3 : Bk 41 W3 (w.heap.size + 1 + 1 + 1) [.int .i64 3, .bool false, .slice (some ⟨w.heap.size + 1 + 1, 0, none⟩) 1 1] := by rw [hW3, ← sW2]; exact Bk.new _ _ _
  replace BW0 := BW0.below dW3
  replace BW1 := BW1.below dW3
  replace BW2 := BW2.below dW3
  obtain ⟨W4, hW4⟩ : ∃ W4, W4 = W3.alloc (.cells #[.int .i64 1, .int .i64 2, .int .i64 2] 3) := ⟨_, rfl⟩
  have sW4 : W4.heap.size = w.heap.size + 1 + 1 + 1 + 1 + 1 := by rw [hW4, World.size_alloc, sW3]
  have dW4 : Below W3.heap.size W3 W4 := by rw [hW4]; exact bl1 _
  have cW4 : Below w.heap.size w W4 := cW3.trans (dW4.mono cW3.size)
  have BW4 : Bk 3 W4 (w.heap.size + 1 + 1 + 1 + 1) [.int .i64 1, .int .i64 2, .int .i64 2] := by rw [hW4, ← sW3]; exact Bk.new _ _ _
  replace BW0 := BW0.below dW4
  replace BW1 := BW1.below dW4
  replace BW2 := BW2.below dW4
  replace BW3 := BW3.below dW4
  have r0 := grI_of_bk (zs := [1, 2]) BW0 (by intro z hz; simp at hz; rcases hz with rfl | rfl <;> exact ⟨by omega, by omega⟩) (by decide)
  have r1 := grI_of_bk (zs := [9]) BW1 (by intro z hz; simp at hz; subst hz; exact ⟨by omega, by omega⟩) (by decide)
  have r4 := grI_of_bk (zs := [1, 2, 2]) BW4 (by intro z hz; simp at hz; rcases hz with rfl | rfl <;> exact ⟨by omega, by omega⟩) (by decide)
  have r2 : Gr RuE (fun _ => True) W4 (some ⟨w.heap.size + 1 + 1, 0, none⟩) 1 [ru0 [1, 2] [9] 0] := gr1_of_bk BW2 (ru0_rep r0 r1 ⟨by omega, by omega⟩ (by decide) (by decide))
  have r3 : Gr LkE (fun _ => True) W4 (some ⟨w.heap.size + 1 + 1 + 1, 0, none⟩) 1 [⟨3, false, [ru0 [1, 2] [9] 0]⟩] := gr1_of_bk BW3 (lk0_rep r2 ⟨by omega, by omega⟩ (by decide))
  have hli : Calls Tryd.prog 18 #[.slice (some ⟨w.heap.size + 1 + 1 + 1, 0, none⟩) 1 1, .int .i64 0, .slice none 0 0, .slice (some ⟨w.heap.size + 1 + 1 + 1 + 1, 0, none⟩) 3 3] W4 fun e w' => LiA [⟨3, false, [ru0 [1, 2] [9] 0]⟩] [] 0 [1, 2, 2] w' e ∧ Below W4.heap.size W4 w' :=
    clineU_any [⟨3, false, [ru0 [1, 2] [9] 0]⟩] [] (fun _ => True) (fun _ => True) (fun _ => True) _ _ none 0 0 _ _ [1, 2, 2] W4 r3 (Gr.nil _ _ _ _ _ (Nat.zero_le _) (fun _ => rfl)) r4 ⟨by omega, by omega⟩ (by decide) (hT.below cW4)
  have e1 : liL [⟨3, false, [ru0 [1, 2] [9] 0]⟩] [] 0 [1, 2, 2] = [9, 2] := by decide +kernel
  have e2 : liE [⟨3, false, [ru0 [1, 2] [9] 0]⟩] [] 0 [1, 2, 2] = 0 := by decide +kernel
  clear r0 r1 r2 r3 r4 BW0 BW1 BW2 BW3 BW4 hT cW0 cW1 cW2 cW3
  go_enter Tryd.func9, Tryd.ntmps9
  go_wp2_with fail
  rw [← hW0, ← hW1, ← hW2, ← hW3, ← hW4]
  clear hW0 dW0 sW0 hW1 dW1 sW1 hW2 dW2 sW2 hW3 dW3 sW3 hW4 dW4 sW4
  refine hli.mono ?_
  rintro e u ⟨⟨oa, oc, he, hgr⟩, hbu⟩
  rw [e1, e2] at he
  rw [e1] at hgr
  obtain rfl : e = .returned (.tuple #[.slice oa 2 oc, .int .i64 0]) := he
  obtain ⟨ob, oo, rfl, _, x0⟩ := hgr.ri.at (Below.refl _ _) 0 (by decide)
  obtain ⟨ob2, oo2, e9, _, x1⟩ := hgr.ri.at (Below.refl _ _) 1 (by decide)
  cases e9
  rw [Nat.add_zero] at x0
  replace x0 : u.cell? ⟨ob, oo, none⟩ = some (.int .i64 9) := x0
  replace x1 : u.cell? ⟨ob, oo + 1, none⟩ = some (.int .i64 2) := x1
  have hfin := cW4.trans (hbu.mono cW4.size)
  clear hli hgr hbu e1 e2
  go_wp2
  go_ret
  exact ⟨rfl, hfin⟩

/-- A Bool, whichever. -/
structure BoolL (e : Ending) : Prop where
  out : ∃ b, e = .returned (.bool b)

set_option maxHeartbeats 8000000 in
set_option maxRecDepth 100000 in
theorem sfew20_any (S : Nat → Prop) (a : Option Addr) (ca : Nat) (l : List Lk) (w : World) (hl : Gr LkE S w a ca l) :
    Calls Tryd.prog 19 #[.slice a l.length ca] w fun e w' => BoolL e ∧ Below w.heap.size w w' := by
  have kl := hl.lenB
  have HL : Hid (Gr LkE S w a ca l) := hl
  clear hl
  go_enter Tryd.func19, Tryd.ntmps19
  go_wp2
  go_loopw [3, 4] (fun vn vi wr => ∃ (z : Int) (k : Nat), vn = .int .i64 z ∧ vi = .int .i64 k ∧ k ≤ l.length ∧ Below w.heap.size w wr) (fun _ vi _ => l.length - (intOf vi).toNat)
  case atStart => exact ⟨0, 0, rfl, rfl, Nat.zero_le _, Below.refl _ _⟩
  case round =>
    obtain ⟨z, k, rfl, rfl, hk, hB⟩ := hrel
    by_cases hkn : k < l.length
    · have e1 : decide (k < l.length) = true := decide_eq_true hkn
      have e2 : decide ((k : Int) < (l.length : Int)) = true := decide_eq_true (by omega)
      by_cases hz : z ≤ 600
      · have e3 : decide (z ≤ 600) = true := decide_eq_true hz
        obtain ⟨b, off, ra, rc, rfl, -, hall⟩ := HL.out.lkAll k hkn
        have HALL : Hid (∀ u, Below w.heap.size w u → Gr RuE S u ra rc (l.getD k Lk.none).rs ∧ u.cell? ⟨b, off + k * 3 + 2, none⟩ = some (.slice ra (l.getD k Lk.none).rs.length rc)) := fun u hu => ⟨(hall u hu).1, (hall u hu).2.2.2⟩
        have kr := (hall wr hB).1.lenB
        obtain ⟨rs, hrs⟩ : ∃ rs, (l.getD k Lk.none).rs = rs := ⟨_, rfl⟩
        rw [hrs] at HALL kr
        obtain ⟨z1, hz1⟩ : ∃ z1, IntKind.i64.wrap (z + 1) = z1 := ⟨_, rfl⟩
        clear hall hrs hz
        have i1 : (0 : Int) ≤ (k : Int) := by omega
        have i2 : (k : Int) < (l.length : Int) := by omega
        go_wp2
        clear e3 e1 e2
        go_loopw [3, 5] (fun vn vj wr => ∃ (z : Int) (j : Nat), vn = .int .i64 z ∧ vj = .int .i64 j ∧ j ≤ rs.length ∧ Below w.heap.size w wr) (fun _ vj _ => rs.length - (intOf vj).toNat)
        case atStart => exact ⟨_, 0, rfl, rfl, Nat.zero_le _, hB⟩
        case round =>
          clear hB hz1
          rename World => wx
          obtain ⟨z2, j, rfl, rfl, hj, hB⟩ := hrel
          obtain ⟨hrs, d2⟩ := HALL.out wx hB
          by_cases hjn : j < rs.length
          · have e1 : decide (j < rs.length) = true := decide_eq_true hjn
            have e2 : decide ((j : Int) < (rs.length : Int)) = true := decide_eq_true (by omega)
            by_cases hz2 : z2 ≤ 600
            · have e3 : decide (z2 ≤ 600) = true := decide_eq_true hz2
              obtain ⟨rb, ro, a1, c1, a2, c2, rfl, hrb, -, -, -, x0, x1, -⟩ := hrs.ru10 (Below.refl _ _) j hjn
              have i3 : (0 : Int) ≤ (j : Int) := by omega
              have i4 : (j : Int) < (rs.length : Int) := by omega
              clear hrs hz2
              go_wp2
              go_quiet (fail)
              have hfin := hB.trans ((below_drewN (Below.refl wx.heap.size wx) nq).mono hB.size)
              generalize wx.drewN nq = uf at hfin
              clear x0 x1 d2 e3
              go_wp2
              go_roundw
              case rel => exact ⟨_, j + 1, rfl, by go_num, by omega, hfin⟩
              case measure => simp [intOf]; omega
            · have e3 : decide (z2 ≤ 600) = false := decide_eq_false hz2
              clear hrs hz2
              go_wp2
              go_roundw
              case rel => exact ⟨_, k + 1, rfl, by go_num, by omega, hB⟩
              case measure => simp [intOf]; omega
          · have e1 : decide (j < rs.length) = false := decide_eq_false hjn
            have e2 : decide ((j : Int) < (rs.length : Int)) = false := decide_eq_false (by omega)
            clear hrs hjn
            go_wp2
            go_roundw
            case rel => exact ⟨_, k + 1, rfl, by go_num, by omega, hB⟩
            case measure => simp [intOf]; omega
      · have e3 : decide (z ≤ 600) = false := decide_eq_false hz
        clear hz
        go_wp2
        go_ret
        exact ⟨⟨_, rfl⟩, hB⟩
    · have e1 : decide (k < l.length) = false := decide_eq_false hkn
      have e2 : decide ((k : Int) < (l.length : Int)) = false := decide_eq_false (by omega)
      clear hkn
      go_wp2
      go_ret
      exact ⟨⟨_, rfl⟩, hB⟩

/-- Few, and what follows of it. -/
structure FewL (L : List Int) (ms : List Bool) (e : Ending) : Prop where
  out : ∃ b, e = .returned (.bool b) ∧ (b = true → L.length ≤ 150 ∧ ms.length ≤ 1000)

set_option maxHeartbeats 2000000 in
set_option maxRecDepth 100000 in
theorem few20_any (S : Nat → Prop) (la : Option Addr) (lc : Nat) (l : List Lk) (a : Option Addr) (ca : Nat) (L : List Int) (b : Option Addr) (cb : Nat) (ms : List Bool) (w : World) (hl : Gr LkE S w la lc l) (k1 : L.length ≤ 9223372036854775807) (k2 : ms.length ≤ 9223372036854775807) :
    Calls Tryd.prog 10 #[.slice la l.length lc, .agg #[.slice a L.length ca, .slice b ms.length cb]] w fun e w' => FewL L ms e ∧ Below w.heap.size w w' := by
  obtain ⟨U, hU, X1, hbU⟩ : ∃ U, U = w.alloc (.cells #[.slice a L.length ca, .slice b ms.length cb] 26) ∧ Bk 26 U w.heap.size [.slice a L.length ca, .slice b ms.length cb] ∧ Below w.heap.size w U := ⟨_, rfl, Bk.new _ _ _, bl1 _⟩
  have hfe := sfew20_any S la lc l U (hl.below hbU)
  go_enter Tryd.func10, Tryd.ntmps10
  go_upto_region 1 with fail
  rw [← hU]
  clear hU hl
  go_wp2_with fail
  refine hfe.mono ?_
  rintro e u ⟨⟨q, rfl⟩, hbu⟩
  obtain ⟨x0, x1, -⟩ := (X1.below hbu).two
  have hfin := hbU.trans (hbu.mono hbU.size)
  clear hfe X1 hbu
  cases q with
  | false =>
    go_wp2
    go_ret
    exact ⟨⟨false, rfl, fun h => by cases h⟩, hfin⟩
  | true =>
    by_cases f1 : L.length ≤ 150
    · have d1 : decide ((L.length : Int) ≤ 150) = true := decide_eq_true (by omega)
      by_cases f2 : ms.length ≤ 1000
      · have d2 : decide ((ms.length : Int) ≤ 1000) = true := decide_eq_true (by omega)
        have HF : Hid (FewL L ms (.returned (.bool true))) := ⟨true, rfl, fun _ => ⟨f1, f2⟩⟩
        clear f1 f2
        go_wp2
        go_ret
        exact ⟨HF.out, hfin⟩
      · have d2 : decide ((ms.length : Int) ≤ 1000) = false := decide_eq_false (by omega)
        clear f1 f2
        go_wp2
        go_ret
        exact ⟨⟨false, rfl, fun h => by cases h⟩, hfin⟩
    · have d1 : decide ((L.length : Int) ≤ 150) = false := decide_eq_false (by omega)
      clear f1
      go_wp2
      go_ret
      exact ⟨⟨false, rfl, fun h => by cases h⟩, hfin⟩

end Go.Proofs.YtechkkefpigcaaaDoor

namespace Go.Proofs.YtechkkefpigcaaaDoor
open Go.RowKit
set_option linter.unusedSimpArgs false
set_option linter.unusedVariables false

/-- A slice of integers that came in: it is nil; or it leads to a row of 'cap' cells, the numbers 'zs' (the first 'len' are its elements), each fitting its kind. -/
def IsRowK (k : IntKind) (w : World) (a : Option Addr) (len cap : Nat) (zs : List Int) : Prop :=
  (a = none ∧ len = 0 ∧ cap = 0 ∧ zs = []) ∨
  ∃ x, a = some x ∧ len ≤ cap ∧ cap ≤ maxLen ∧ zs.length = cap ∧ (∀ i, i < zs.length → w.cell? (x.add i) = some (.int k (zs.getD i 0))) ∧ ∀ n ∈ zs, (Lit.int k n).wf = true

theorem wfo_u8_bounds {n : Int} (h : (Lit.int .u8 n).wf = true) : 0 ≤ n ∧ n < 256 := by
  simp [Lit.wf, IntKind.min, IntKind.max, IntKind.bits, IntKind.signed] at h
  omega
theorem wfo_i32_bounds {n : Int} (h : (Lit.int .i32 n).wf = true) : -2147483648 ≤ n ∧ n ≤ 2147483647 := by
  simp [Lit.wf, IntKind.min, IntKind.max, IntKind.bits, IntKind.signed] at h
  omega
theorem wfo_i64_bounds {n : Int} (h : (Lit.int .i64 n).wf = true) : -9223372036854775808 ≤ n ∧ n ≤ 9223372036854775807 := by
  simp [Lit.wf, IntKind.min, IntKind.max, IntKind.bits, IntKind.signed] at h
  omega

theorem IsRowK.cells {k : IntKind} {w : World} {a : Option Addr} {len cap : Nat} {zs : List Int} (h : IsRowK k w a len cap zs) :
    ∃ ys : List Int, len = ys.length ∧ (∀ y ∈ ys, (Lit.int k y).wf = true) ∧ ys.length ≤ cap ∧ cap ≤ maxLen ∧ (a = none → cap = 0) ∧
      (ys = [] ∨ ∃ b off, a = some ⟨b, off, none⟩ ∧ b < w.heap.size ∧ ∀ i, i < ys.length → w.cell? ⟨b, off + i, none⟩ = some (.int k (ys.getD i 0))) := by
  rcases h with ⟨rfl, rfl, rfl, rfl⟩ | ⟨x, rfl, h1, h2, h3, hc, hw⟩
  · exact ⟨[], rfl, (fun y hy => by cases hy), Nat.le_refl _, Nat.zero_le _, fun _ => rfl, .inl rfl⟩
  · refine ⟨zs.take len, by simp; omega, fun y hy => hw y (List.mem_of_mem_take hy), by simp; omega, h2, (by simp), ?_⟩
    by_cases h0 : len = 0
    · exact .inl (by simp [h0])
    · obtain ⟨b, off, spot⟩ := x
      have c0 := hc 0 (by omega)
      have hspot : spot = none := by simpa [Addr.add] using World.cell?_spot c0
      subst hspot
      refine .inr ⟨b, off, rfl, ?_, fun i hi => ?_⟩
      · have := World.block_lt_of_cell? w _ c0
        simpa [Addr.add] using this
      · simp at hi
        have hadd : (⟨b, off, none⟩ : Addr).add i = ⟨b, off + i, none⟩ := by unfold Addr.add; split <;> simp_all
        have hci := hc i (by omega)
        rw [hadd] at hci
        rw [hci]
        simp [List.getD, show i < len by omega]

theorem IsRowK.rb {w : World} {a : Option Addr} {len cap : Nat} {zs : List Int} (h : IsRowK .u8 w a len cap zs) : ∃ xs : List Nat, len = xs.length ∧ Rb w a cap xs := by
  obtain ⟨ys, h1, h2, h3, h4, h5, h6⟩ := h.cells
  have hb : ∀ y ∈ ys, 0 ≤ y ∧ y < 256 := fun y hy => wfo_u8_bounds (h2 y hy)
  refine ⟨ys.map Int.toNat, by simp [h1], ?_, by simpa using h3, h4, h5, ?_⟩
  · intro x hx
    obtain ⟨y, hy, rfl⟩ := List.mem_map.1 hx
    have := hb y hy
    omega
  · rcases h6 with rfl | ⟨b, off, e, hlt, hc⟩
    · exact .inl rfl
    · refine .inr ⟨b, off, e, hlt, fun i hi => ?_⟩
      simp at hi
      rw [hc i hi]
      have h0 : ys.getD i 0 = ys[i] := by simp [List.getD, hi]
      have hy := hb ys[i] (List.getElem_mem hi)
      rw [h0]
      simp [List.getD, hi]
      omega

end Go.Proofs.YtechkkefpigcaaaDoor
