/-
  foundryref20.copied, One: the walks.
  What a law is told of a slice of bytes, or of int32, that came in.
  What a law is told of things that came in, one for all (Opens).
  What a law of layer 19 is told of what came in: a line with its marks; what is asked; ints; two ints.
  What a law of layer 20 is told of what came in: lookups; a line with its marks; ints; two and three uint8. What the row's list gives: the table of what each kind of lookup may have.
-/
import Derived.Test.YtechkkefpigcaaaDoorZL12
import Derived.Test.YtechkkefpigcaaaDoorZL10
import Derived.Test.YtechkkefpigcaaaDoorZL1
import Derived.ProofKit
import Derived.Test.YtechkkefpigcaaaDoorZL2
import Derived.Deep.Strs
import Derived.OpenShut
import Derived.SizedLaws
import Derived.Lib.SmallJoins
import Derived.Test.YtechkkefpigcaaaDoorZL3
import Derived.Test.YtechkkefpigcaaaDoorZL6
import Derived.Test.YtechkkefpigcaaaDoorZL7
import Derived.Test.YtechkkefpigcaaaDoorRows
import Derived.LaidLaws
import Derived.Lib.LaidTab
namespace Go.Proofs.YtechkkefpigcaaaDoor
open Go.RowKit Go.Maps
set_option linter.unusedSimpArgs false
set_option linter.unusedVariables false

set_option maxHeartbeats 1000000 in
set_option maxRecDepth 100000 in
theorem scopied_any (S : Nat → Prop) (a : Option Addr) (ca : Nat) (L : List Int) (w : World) (h : Gr El.int S w a ca L) (hl : L.length ≤ 1000) :
    Calls Tryd.prog 25 #[.slice a L.length ca] w fun e w' => RowI L w.heap.size w' e ∧ Below w.heap.size w w' := by
  have hN0 : Gi w.heap.size w (.slice none 0 0) [] := Gi.nil _ _
  have HL : Hid (Gr El.int (fun k => False ∧ (Value.slice none 0 0).ownBlock ≠ some k) w a ca L) := h.anyI
  have kl := h.lenB
  have hll : ([] : List Int).length + L.length ≤ 1000000 := by simp; omega
  have hW : w.heap.size ≤ w.heap.size := Nat.le_refl _
  clear h
  go_enter Tryd.func25, Tryd.ntmps25
  go_wp2_with (at_builtin; refine wpList_append_el 23 3 Tryd.underlying23 infoG_i64 rfl (by decide) (by decide) rfl _ _ rfl w.heap.size (fun _ => False) _ [] rfl hN0 _ _ _ L rfl rfl HL.out hll hW ?_)
  intro v1 w1 hT1 hgrow _
  have hB1 : Below w.heap.size w w1 := (Below.refl _ _).grown hgrow hW (fun k hk => by cases hk)
  have HV : Hid (RowI L w.heap.size w1 (.returned v1)) := ⟨_, rfl, hT1⟩
  clear hgrow hT1 hll hW hN0
  go_wp2
  go_ret
  exact ⟨HV.out, hB1⟩

/-- The same question, asked in the reference's order. -/
theorem onG_no {l : List Lk} {k : Int} {L : List Int} {i : Int} (h : isLk l.length k = false ∨ plB L i = false ∨ foU l 65536 = false ∨ puB (l.getD k.toNat Lk.none).kd = false) : onG l k L i = false := by
  unfold onG
  rcases h with h | h | h | h
  · rw [h]; cases plB L i <;> rfl
  · rw [h]; rfl
  · rw [h]; cases plB L i <;> cases isLk l.length k <;> cases puB (l.getD k.toNat Lk.none).kd <;> rfl
  · rw [h]; cases plB L i <;> cases isLk l.length k <;> rfl

set_option maxHeartbeats 4000000 in
set_option maxRecDepth 100000 in
theorem sone20_any (l : List Lk) (ms : List Bool) (Sl Sm S : Nat → Prop) (la : Option Addr) (lc : Nat) (mb : Option Addr) (mc : Nat) (k : Int) (a : Option Addr) (ca : Nat) (L : List Int) (i : Int) (w : World)
    (hl : Gr LkE Sl w la lc l) (hms : Gr El.bool Sm w mb mc ms) (hL : Gr El.int S w a ca L) (hk : I64 k) (hi : I64 i) (hle : L.length ≤ 200) :
    Calls Tryd.prog 12 #[.slice la l.length lc, .int .i64 k, .slice mb ms.length mc, .slice a L.length ca, .int .i64 i] w fun e w' => OnA l ms k L i w' e ∧ Below w.heap.size w w' := by
  have kl := hL.lenB
  have kll := hl.lenB
  have hcl := fun U (hU : Below w.heap.size w U) => scopied_any S a ca L U (hL.below hU) (by omega)
  have hcl0 := hcl w (Below.refl _ _)
  by_cases h2 : k < 0
  · have HF : Hid (onG l k L i = false) := onG_no (.inl (isLk_no (by omega)))
    have g0 : decide (k < 0) = true := decide_eq_true h2
    clear h2 hl hms hL hcl
    go_enter Tryd.func12, Tryd.ntmps12
    go_wp2_with fail
    refine hcl0.mono ?_
    rintro e u ⟨⟨v, rfl, hv⟩, hbu⟩
    obtain ⟨va, vc, rfl, hvg⟩ := hv.io.grL (S := fun _ => True)
    have HV : Hid (OnA l ms k L i u (.returned (.tuple #[.slice va L.length vc, .int .i64 i, .bool false]))) := OnA.no HF.out hvg
    clear hcl0 hv hvg
    go_wp2
    go_ret3
    exact ⟨HV.out, hbu⟩
  have g0 : decide (k < 0) = false := decide_eq_false h2
  by_cases h3 : (l.length : Int) ≤ k
  · have HF : Hid (onG l k L i = false) := onG_no (.inl (isLk_no (by omega)))
    have g1 : decide ((l.length : Int) ≤ k) = true := decide_eq_true h3
    clear h2 h3 hl hms hL hcl
    go_enter Tryd.func12, Tryd.ntmps12
    go_wp2_with fail
    refine hcl0.mono ?_
    rintro e u ⟨⟨v, rfl, hv⟩, hbu⟩
    obtain ⟨va, vc, rfl, hvg⟩ := hv.io.grL (S := fun _ => True)
    have HV : Hid (OnA l ms k L i u (.returned (.tuple #[.slice va L.length vc, .int .i64 i, .bool false]))) := OnA.no HF.out hvg
    clear hcl0 hv hvg
    go_wp2
    go_ret3
    exact ⟨HV.out, hbu⟩
  have g1 : decide ((l.length : Int) ≤ k) = false := decide_eq_false h3
  by_cases h0 : i < 0
  · have HF : Hid (onG l k L i = false) := onG_no (.inr (.inl (plB_no (by omega))))
    have g2 : decide (i < 0) = true := decide_eq_true h0
    clear h0 h2 h3 hl hms hL hcl
    go_enter Tryd.func12, Tryd.ntmps12
    go_wp2_with fail
    refine hcl0.mono ?_
    rintro e u ⟨⟨v, rfl, hv⟩, hbu⟩
    obtain ⟨va, vc, rfl, hvg⟩ := hv.io.grL (S := fun _ => True)
    have HV : Hid (OnA l ms k L i u (.returned (.tuple #[.slice va L.length vc, .int .i64 i, .bool false]))) := OnA.no HF.out hvg
    clear hcl0 hv hvg
    go_wp2
    go_ret3
    exact ⟨HV.out, hbu⟩
  have g2 : decide (i < 0) = false := decide_eq_false h0
  by_cases h1 : (L.length : Int) ≤ i
  · have HF : Hid (onG l k L i = false) := onG_no (.inr (.inl (plB_no (by omega))))
    have g3 : decide ((L.length : Int) ≤ i) = true := decide_eq_true h1
    clear h0 h1 h2 h3 hl hms hL hcl
    go_enter Tryd.func12, Tryd.ntmps12
    go_wp2_with fail
    refine hcl0.mono ?_
    rintro e u ⟨⟨v, rfl, hv⟩, hbu⟩
    obtain ⟨va, vc, rfl, hvg⟩ := hv.io.grL (S := fun _ => True)
    have HV : Hid (OnA l ms k L i u (.returned (.tuple #[.slice va L.length vc, .int .i64 i, .bool false]))) := OnA.no HF.out hvg
    clear hcl0 hv hvg
    go_wp2
    go_ret3
    exact ⟨HV.out, hbu⟩
  have g3 : decide ((L.length : Int) ≤ i) = false := decide_eq_false h1
  have hpl : plB L i = true := plB_iff.2 ⟨by omega, by omega⟩
  obtain ⟨q, rfl⟩ : ∃ q : Nat, k = (q : Int) := ⟨k.toNat, by omega⟩
  have hq : q < l.length := by omega
  have HG : Hid (onG l (q : Int) L i = (puB (l.getD q Lk.none).kd && foU l 65536)) := by show _ = _; unfold onG; rw [hpl, isLk_iff.2 ⟨by omega, by omega⟩, Int.toNat_natCast]; rfl
  have i1 : (0 : Int) ≤ (q : Int) := by omega
  have i2 : (q : Int) < (l.length : Int) := by omega
  have HL : Hid (Gr LkE Sl w la lc l) := hl
  obtain ⟨lb, lo, ra, rc, rfl, hkd, hall⟩ := hl.lkAll q hq
  have HKC : Hid (∀ u, Below w.heap.size w u → u.cell? ⟨lb, lo + q * 3, none⟩ = some (.int .i64 (l.getD q Lk.none).kd)) := fun u hu => (hall u hu).2.1
  have HDN : Hid (foU l 65536 = true → DoS l ms 7) := fun h => done_any l ms 65536 h 7 (by omega)
  have hfo := sformU_any Sl (some ⟨lb, lo, none⟩) lc l 65536 w hl ⟨by omega, by omega⟩
  obtain ⟨kd, hkk⟩ : ∃ kd, (l.getD q Lk.none).kd = kd := ⟨_, rfl⟩
  have HKD : Hid ((l.getD q Lk.none).kd = kd) := hkk
  rw [hkk] at hkd HG HKC
  have hpu := fun U => sputs_any kd U hkd
  clear hkk hall h0 h1 h2 h3
  cases hf : foU l 65536 with
  | false =>
    rw [hf] at hfo
    have HF : Hid (onG l (q : Int) L i = false) := onG_no (.inr (.inr (.inl hf)))
    clear hl hms hL hpu HKD HKC HDN HG hf hpl
    go_enter Tryd.func12, Tryd.ntmps12
    go_wp2_with fail
    refine hfo.mono ?_
    rintro e u2 ⟨rfl, hb2⟩
    have hcl2 := hcl u2 hb2
    clear hfo hcl hcl0
    go_wp2_with fail
    refine hcl2.mono ?_
    rintro e u ⟨⟨v, rfl, hv⟩, hbu⟩
    obtain ⟨va, vc, rfl, hvg⟩ := hv.io.grL (S := fun _ => True)
    have HV : Hid (OnA l ms (q : Int) L i u (.returned (.tuple #[.slice va L.length vc, .int .i64 i, .bool false]))) := OnA.no HF.out hvg
    have hfin := hb2.trans (hbu.mono hb2.size)
    clear hcl2 hv hvg
    go_wp2
    go_ret3
    exact ⟨HV.out, hfin⟩
  | true =>
    rw [hf] at hfo
    rw [hf, Bool.and_true] at HG
    have HDN2 : DoS l ms 7 := HDN.out hf
    cases hp : puB kd with
    | false =>
      rw [hp] at hpu HG
      have HF : Hid (onG l (q : Int) L i = false) := HG.out
      clear hl hms hL hp HKD HDN HDN2 hf hpl
      go_enter Tryd.func12, Tryd.ntmps12
      go_wp2_with fail
      refine hfo.mono ?_
      rintro e u2 ⟨rfl, hb2⟩
      have hcl2 := hcl u2 hb2
      have d0 := HKC.out u2 hb2
      replace hpu := hpu u2
      clear hfo hcl hcl0
      go_wp2_with fail
      refine hpu.mono ?_
      rintro e u3 ⟨rfl, rfl⟩
      clear hpu d0
      go_wp2_with fail
      refine hcl2.mono ?_
      rintro e u ⟨⟨v, rfl, hv⟩, hbu⟩
      obtain ⟨va, vc, rfl, hvg⟩ := hv.io.grL (S := fun _ => True)
      have HV : Hid (OnA l ms (q : Int) L i u (.returned (.tuple #[.slice va L.length vc, .int .i64 i, .bool false]))) := OnA.no HF.out hvg
      have hfin := hb2.trans (hbu.mono hb2.size)
      clear hcl2 hv hvg
      go_wp2
      go_ret3
      exact ⟨HV.out, hfin⟩
    | true =>
      rw [hp] at hpu HG
      have HF : Hid (onG l (q : Int) L i = true) := HG.out
      have HPD : Hid (puB (l.getD q Lk.none).kd = true) := by show _ = _; rw [HKD.out, hp]
      have HDO : Hid (∀ U, Below w.heap.size w U → Calls Tryd.prog 26 #[.slice (some ⟨lb, lo, none⟩) l.length lc, .int .i64 q, .slice mb ms.length mc, .slice a L.length ca, .int .i64 i, .int .i64 1] U fun e w' => DuA l ms 7 q L i w' e ∧ Below U.heap.size U w') := fun U hU =>
        HDN2 Sl Sm S (some ⟨lb, lo, none⟩) lc mb mc q a ca L i U (HL.out.below hU) (hms.below hU) (hL.below hU) hq HPD.out hpl hle
      have HDL : Hid ((duL l ms 7 q L i).length ≤ 300) := by
        show _ ≤ _
        unfold duL
        cases hd : duF l ms 7 q L i with
        | none => show L.length ≤ _; omega
        | some d => have := (du_f hf 7 q L i d hq HPD.out hpl hd).len; show d.1.length ≤ _; omega
      clear hl hms hL hp HKD HDN HDN2 HPD hf hpl hcl hcl0 HL
      go_enter Tryd.func12, Tryd.ntmps12
      go_wp2_with fail
      refine hfo.mono ?_
      rintro e u2 ⟨rfl, hb2⟩
      have hdo := HDO.out u2 hb2
      have d0 := HKC.out u2 hb2
      replace hpu := hpu u2
      clear hfo HDO
      go_wp2_with fail
      refine hpu.mono ?_
      rintro e u3 ⟨rfl, rfl⟩
      clear hpu d0
      go_wp2_with fail
      refine hdo.mono ?_
      rintro e u3 ⟨⟨oa, oc, rfl, hgr⟩, hb3⟩
      have hw3 := hb2.trans (hb3.mono hb2.size)
      have hcp := scopied_any (fun _ => True) oa oc (duL l ms 7 q L i) u3 hgr (by have := HDL.out; omega)
      have HON : Hid (∀ U a c, Gr El.int (fun _ => True) U a c (duL l ms 7 q L i) → OnA l ms (q : Int) L i U (.returned (.tuple #[.slice a (duL l ms 7 q L i).length c, .int .i64 (duO l ms 7 q L i), .bool (duB l ms 7 q L i)]))) := fun U a c h => OnA.yes HF.out ⟨a, c, rfl, h⟩
      generalize duL l ms 7 q L i = o at hcp HON
      generalize duO l ms 7 q L i = on at HON
      generalize duB l ms 7 q L i = od at HON
      clear hdo hgr HDL
      go_wp2_with fail
      refine hcp.mono ?_
      rintro e u4 ⟨⟨v, rfl, hv⟩, hb4⟩
      obtain ⟨va, vc, rfl, hvg⟩ := hv.io.grL (S := fun _ => True)
      have HV : Hid (OnA l ms (q : Int) L i u4 (.returned (.tuple #[.slice va o.length vc, .int .i64 on, .bool od]))) := HON.out u4 va vc hvg
      have hfin := hw3.trans (hb4.mono hw3.size)
      clear hcp HON hv hvg
      go_wp2
      go_ret3
      exact ⟨HV.out, hfin⟩

end Go.Proofs.YtechkkefpigcaaaDoor

namespace Go.Proofs.YtechkkefpigcaaaDoor
open Go.RowKit
set_option linter.unusedSimpArgs false
set_option linter.unusedVariables false

/-- A slice of integers that came in: it is nil; or it leads to a row of 'cap' cells, the numbers 'zs' (the first 'len' are its elements), each fitting its kind. -/
def IsRowK (k : IntKind) (w : World) (a : Option Addr) (len cap : Nat) (zs : List Int) : Prop :=
  (a = none ∧ len = 0 ∧ cap = 0 ∧ zs = []) ∨
  ∃ x, a = some x ∧ len ≤ cap ∧ cap ≤ maxLen ∧ zs.length = cap ∧ (∀ i, i < zs.length → w.cell? (x.add i) = some (.int k (zs.getD i 0))) ∧ ∀ n ∈ zs, (Lit.int k n).wf = true

theorem wfo_u8_bounds {n : Int} (h : (Lit.int .u8 n).wf = true) : 0 ≤ n ∧ n < 256 := by
  simp [Lit.wf, IntKind.min, IntKind.max, IntKind.bits, IntKind.signed] at h
  omega
theorem wfo_i32_bounds {n : Int} (h : (Lit.int .i32 n).wf = true) : -2147483648 ≤ n ∧ n ≤ 2147483647 := by
  simp [Lit.wf, IntKind.min, IntKind.max, IntKind.bits, IntKind.signed] at h
  omega
theorem wfo_i64_bounds {n : Int} (h : (Lit.int .i64 n).wf = true) : -9223372036854775808 ≤ n ∧ n ≤ 9223372036854775807 := by
  simp [Lit.wf, IntKind.min, IntKind.max, IntKind.bits, IntKind.signed] at h
  omega

theorem IsRowK.cells {k : IntKind} {w : World} {a : Option Addr} {len cap : Nat} {zs : List Int} (h : IsRowK k w a len cap zs) :
    ∃ ys : List Int, len = ys.length ∧ (∀ y ∈ ys, (Lit.int k y).wf = true) ∧ ys.length ≤ cap ∧ cap ≤ maxLen ∧ (a = none → cap = 0) ∧
      (ys = [] ∨ ∃ b off, a = some ⟨b, off, none⟩ ∧ b < w.heap.size ∧ ∀ i, i < ys.length → w.cell? ⟨b, off + i, none⟩ = some (.int k (ys.getD i 0))) := by
  rcases h with ⟨rfl, rfl, rfl, rfl⟩ | ⟨x, rfl, h1, h2, h3, hc, hw⟩
  · exact ⟨[], rfl, (fun y hy => by cases hy), Nat.le_refl _, Nat.zero_le _, fun _ => rfl, .inl rfl⟩
  · refine ⟨zs.take len, by simp; omega, fun y hy => hw y (List.mem_of_mem_take hy), by simp; omega, h2, (by simp), ?_⟩
    by_cases h0 : len = 0
    · exact .inl (by simp [h0])
    · obtain ⟨b, off, spot⟩ := x
      have c0 := hc 0 (by omega)
      have hspot : spot = none := by simpa [Addr.add] using World.cell?_spot c0
      subst hspot
      refine .inr ⟨b, off, rfl, ?_, fun i hi => ?_⟩
      · have := World.block_lt_of_cell? w _ c0
        simpa [Addr.add] using this
      · simp at hi
        have hadd : (⟨b, off, none⟩ : Addr).add i = ⟨b, off + i, none⟩ := by unfold Addr.add; split <;> simp_all
        have hci := hc i (by omega)
        rw [hadd] at hci
        rw [hci]
        simp [List.getD, show i < len by omega]

theorem IsRowK.rb {w : World} {a : Option Addr} {len cap : Nat} {zs : List Int} (h : IsRowK .u8 w a len cap zs) : ∃ xs : List Nat, len = xs.length ∧ Rb w a cap xs := by
  obtain ⟨ys, h1, h2, h3, h4, h5, h6⟩ := h.cells
  have hb : ∀ y ∈ ys, 0 ≤ y ∧ y < 256 := fun y hy => wfo_u8_bounds (h2 y hy)
  refine ⟨ys.map Int.toNat, by simp [h1], ?_, by simpa using h3, h4, h5, ?_⟩
  · intro x hx
    obtain ⟨y, hy, rfl⟩ := List.mem_map.1 hx
    have := hb y hy
    omega
  · rcases h6 with rfl | ⟨b, off, e, hlt, hc⟩
    · exact .inl rfl
    · refine .inr ⟨b, off, e, hlt, fun i hi => ?_⟩
      simp at hi
      rw [hc i hi]
      have h0 : ys.getD i 0 = ys[i] := by simp [List.getD, hi]
      have hy := hb ys[i] (List.getElem_mem hi)
      rw [h0]
      simp [List.getD, hi]
      omega

end Go.Proofs.YtechkkefpigcaaaDoor

namespace Go.Proofs.YtechkkefpigcaaaDoor
open Go.RowKit
open Go.ChangeShapes Go.WideShapes Go.Joins Go.Deep
set_option linter.unusedSimpArgs false
set_option linter.unusedVariables false

/-- What came in as data of a type lies as such a thing. -/
def Opens {α : Type} (E : El α) (t : TypeId) : Prop :=
  Tryd.prog.cellsOf t = E.sz ∧ ∀ (H : Type) (enc : TypeId × Value → H) (W : World) (held : Bool) (fuel : Nat) (cs : List Value) (x : DataW H × List MemPlace),
    DataW.trod enc Tryd.prog W 0 (fun _ => true) held fuel t cs = some x → (∀ n ∈ x.1.weights Tryd.prog t, n ≤ reachBytes) → ∃ y : α, E.rep (fun k => k < W.heap.size) W cs y
theorem Opens.num {t : TypeId} {k : IntKind} {lo hi : Int} (ht : Tryd.prog.underlying t = some (.int k)) (hc : Tryd.prog.cellsOf t = 1) (hb : ∀ z, (Lit.int k z).wf = true → lo ≤ z ∧ z ≤ hi) : Opens (El.num k lo hi) t :=
  ⟨hc, fun H enc W held fuel cs x h hz => by
    obtain ⟨z, e, _, hw⟩ := DataW.trod_int ht h
    exact ⟨z, e, hb z hw⟩⟩
theorem Opens.int {t : TypeId} (ht : Tryd.prog.underlying t = some (.int .i64)) (hc : Tryd.prog.cellsOf t = 1) : Opens El.int t := Opens.num ht hc (fun z hw => wfo_i64_bounds hw)
theorem Opens.bool {t : TypeId} (ht : Tryd.prog.underlying t = some .bool) (hc : Tryd.prog.cellsOf t = 1) : Opens El.bool t :=
  ⟨hc, fun H enc W held fuel cs x h hz => by
    obtain ⟨z, e, _⟩ := DataW.trod_bool ht h
    exact ⟨z, e⟩⟩
theorem Opens.str {t : TypeId} (ht : Tryd.prog.underlying t = some .string) (hc : Tryd.prog.cellsOf t = 1) : Opens El.str t :=
  ⟨hc, fun H enc W held fuel cs x h hz => by
    obtain ⟨z, e, _, hw⟩ := DataW.trod_string ht h
    exact ⟨z, e, hw⟩⟩
theorem Opens.via {α β : Type} {E : El α} {t : TypeId} (h : Opens E t) {f : β → α} {d : β} (hf : ∀ x, ∃ y, f y = x) : Opens (E.via f d) t :=
  ⟨h.1, fun H enc W held fuel cs x h1 hz => by
    obtain ⟨z, hz⟩ := h.2 H enc W held fuel cs x h1 hz
    obtain ⟨y, rfl⟩ := hf z
    exact ⟨y, hz⟩⟩
theorem list_of_ltG {α : Type} {d : α} {p : Nat → α → Prop} : ∀ n, (∀ i, i < n → ∃ o, p i o) → ∃ os : List α, os.length = n ∧ ∀ i, i < n → p i (os.getD i d) := by
  intro n
  induction n with
  | zero => exact fun _ => ⟨[], rfl, fun i hi => by omega⟩
  | succ n ih =>
    intro h
    obtain ⟨os, hl, ho⟩ := ih (fun i hi => h i (by omega))
    obtain ⟨o, h1⟩ := h n (by omega)
    refine ⟨os ++ [o], by simp [hl], fun i hi => ?_⟩
    by_cases hi' : i < n
    · have e : (os ++ [o]).getD i d = os.getD i d := by simp [List.getD, List.getElem?_append_left (show i < os.length by omega)]
      rw [e]
      exact ho i hi'
    · have e : i = n := by omega
      subst e
      have e : (os ++ [o]).getD i d = o := by simp [List.getD, ← hl]
      rw [e]
      exact h1
theorem weights_all {H : Type} {P : Program} {e : TypeId} {d : DataW H} : ∀ {l : List (DataW H)}, d ∈ l → ∀ {n : Nat}, n ∈ d.weights P e → n ∈ DataW.weightsAll P e l
  | c :: l, h, n, hn => by
    rw [DataW.weightsAll, List.mem_append]
    rcases List.mem_cons.1 h with h | h
    · exact .inl (by rw [← h]; exact hn)
    · exact .inr (weights_all h hn)
theorem Opens.row {α : Type} {E : El α} {t e : TypeId} (h : Opens E e) (ht : Tryd.prog.underlying t = some (.slice e)) (hc : Tryd.prog.cellsOf t = 1) (hsz : 0 < E.sz) (hby : 1 ≤ Tryd.prog.bytesOf e) : Opens E.row t :=
  ⟨hc, fun H enc W held fuel cs x hf hz => by
    rcases open_slice ht hf with ⟨hcs, _⟩ | ⟨ad, len, cap, m, n, D, Pl, hcs, _, hl, hm, hmm, hx, hel⟩
    · exact ⟨[], none, 0, hcs, (fun b o e1 => by cases e1), Gr.nil _ _ _ _ _ (Nat.zero_le _) (fun _ => rfl), Nat.zero_le _⟩
    · have hle : len ≤ m := by rw [hmm]; split <;> omega
      subst hx
      have hzm : ∀ i, i < len → ∀ k ∈ (D i).weights Tryd.prog e, k ≤ reachBytes := by
        intro i hi k hk
        refine hz k ?_
        simp only [DataW.weights, ht, List.mem_cons, List.mem_append]
        exact .inr (.inl (weights_all (List.mem_map.2 ⟨i, List.mem_range.2 hi, rfl⟩) hk))
      have hzl : len ≤ 140737488351232 := by
        have h1 := hz ((((List.range len).map D).length + ((List.range (m - len)).map fun j => D (len + j)).length) * Tryd.prog.bytesOf e) (by simp only [DataW.weights, ht]; exact List.mem_cons_self)
        rw [List.length_map, List.length_map, List.length_range, List.length_range] at h1
        have h2 : (len + (m - len)) * 1 ≤ (len + (m - len)) * Tryd.prog.bytesOf e := Nat.mul_le_mul_left _ hby
        have h3 : reachBytes = 140737488351232 := rfl
        omega
      have hone : ∀ i, i < len → ∃ o : α, ∃ vs, E.rep (fun k => k < W.heap.size) W vs o ∧ ∀ j, j < E.sz → W.cell? ((ad.add (i * E.sz)).add j) = vs[j]? := by
        intro i hi
        obtain ⟨cs', hc', ht'⟩ := hel i (by omega)
        rw [h.1] at hc'
        obtain ⟨hlen, _, hcell⟩ := World.cells?_some hc'
        obtain ⟨o, ho⟩ := h.2 H enc W held n cs' _ ht' (hzm i hi)
        refine ⟨o, cs', ho, fun j hj => ?_⟩
        have := hcell j (by omega)
        rw [this, List.getElem?_eq_getElem (by omega)]
      obtain ⟨os, hol, ho⟩ := list_of_ltG (d := E.dfl) len hone
      have key : ∀ i, i < len → ∃ b off vs, ad = ⟨b, off, none⟩ ∧ b < W.heap.size ∧ E.rep (fun k => k < W.heap.size) W vs (os.getD i E.dfl) ∧ ∀ j, j < E.sz → W.cell? ⟨b, off + i * E.sz + j, none⟩ = vs[j]? := by
        intro i hi
        obtain ⟨vs, h1, h2⟩ := ho i hi
        obtain ⟨b, off, spot⟩ := ad
        have h0 := h2 0 hsz
        have hv : 0 < vs.length := by rw [E.len h1]; exact hsz
        rw [List.getElem?_eq_getElem hv] at h0
        have hspot : spot = none := by
          obtain ⟨vs', h1', h2'⟩ := ho 0 (by omega)
          have h0' := h2' 0 hsz
          rw [List.getElem?_eq_getElem (by rw [E.len h1']; exact hsz)] at h0'
          have := World.cell?_spot h0'
          simpa [Addr.add] using this
        subst hspot
        have hadd : ∀ i, (⟨b, off, none⟩ : Addr).add i = ⟨b, off + i, none⟩ := by intro i; unfold Addr.add; split <;> simp_all
        have hadd2 : ∀ i j, ((⟨b, off, none⟩ : Addr).add i).add j = ⟨b, off + i + j, none⟩ := by intro i j; rw [hadd]; unfold Addr.add; split <;> simp_all
        have hlt := World.block_lt_of_cell? W _ h0
        rw [hadd2] at hlt
        exact ⟨b, off, vs, rfl, hlt, h1, fun j hj => by rw [← hadd2]; exact h2 j hj⟩
      refine ⟨os, some ad, cap, by rw [hcs, hol], fun b o e1 hne => ?_, ⟨by omega, hm, (fun e => by cases e), fun i hi => ?_⟩, by rw [hol]; exact hzl⟩
      · obtain ⟨b', off', _, e2, hb', _⟩ := key 0 (by have := List.length_pos_iff.2 hne; omega)
        rw [e2] at e1
        cases e1
        exact hb'
      · obtain ⟨b, off, vs, e2, hb, h1, h2⟩ := key i (by omega)
        exact ⟨b, off, vs, by rw [e2], hb, h1, h2⟩⟩
/-- Fields, one behind the other. -/
def OpensF {α : Type} (E : El α) (fs : List Field) (off : Nat) : Prop :=
  ∀ (H : Type) (enc : TypeId × Value → H) (W : World) (held : Bool) (n : Nat) (cs : List Value), (∀ f ∈ fs, ∃ y, DataW.trod enc Tryd.prog W 0 (fun _ => true) held n f.type ((cs.drop f.offset).take (Tryd.prog.cellsOf f.type)) = some y ∧ ∀ k ∈ y.1.weights Tryd.prog f.type, k ≤ reachBytes) →
    ∃ x : α, E.rep (fun k => k < W.heap.size) W ((cs.drop off).take E.sz) x
theorem OpensF.last {α : Type} {E : El α} {f : Field} {off : Nat} (h : Opens E f.type) (ho : f.offset = off) : OpensF E [f] off := by
  intro H enc W held n cs hy
  obtain ⟨y, hy, hz⟩ := hy f (by simp)
  rw [h.1, ho] at hy
  exact h.2 H enc W held n _ y hy hz
theorem OpensF.more {α β : Type} {E : El α} {F : El β} {f : Field} {fs : List Field} {off : Nat} (h : Opens E f.type) (ho : f.offset = off) (hs : OpensF F fs (off + E.sz)) : OpensF (E.cat F) (f :: fs) off := by
  intro H enc W held n cs hy
  obtain ⟨y, hy0, hz0⟩ := hy f (by simp)
  rw [h.1, ho] at hy0
  obtain ⟨x, hx⟩ := h.2 H enc W held n _ y hy0 hz0
  obtain ⟨z, hz⟩ := hs H enc W held n cs (fun g hg => hy g (by simp [hg]))
  refine ⟨(x, z), (cs.drop off).take E.sz, (cs.drop (off + E.sz)).take F.sz, ?_, hx, hz⟩
  show (cs.drop off).take (E.sz + F.sz) = _
  rw [List.take_add, List.drop_drop]
theorem Opens.struct {α : Type} {E : El α} {t : TypeId} {fs : Array Field} (ht : Tryd.prog.underlying t = some (.struct fs)) (hc : Tryd.prog.cellsOf t = E.sz) (h : OpensF E fs.toList 0) : Opens E t :=
  ⟨hc, fun H enc W held fuel cs x hf hz => by
    obtain ⟨xs, n, _, hx, hl, hlen, hff⟩ := DataW.trod_struct ht hf
    subst hx
    obtain ⟨y, hy⟩ := h H enc W held n cs (fun f hf' => by
      obtain ⟨i, hi, e⟩ := List.getElem_of_mem hf'
      have := hff i f (by rw [← e]; simp)
      have hix : i < xs.length := by simpa [hlen] using hi
      rw [this]
      refine ⟨xs[i]'hix, by rw [List.getElem?_eq_getElem], fun k hk => hz k ?_⟩
      simp only [DataW.weights, ht]
      refine DataW.weights_mem_each (j := i) (t := f.type) (d := (xs[i]'hix).1) ?_ ?_ k hk
      · rw [List.getElem?_map, List.getElem?_eq_getElem hi, e]
        rfl
      · rw [List.getElem?_map, List.getElem?_eq_getElem hix]
        rfl)
    rw [List.drop_zero, List.take_of_length_le (by rw [hl, hc]; exact Nat.le_refl _)] at hy
    exact ⟨y, hy⟩⟩
set_option maxRecDepth 100000 in
/-- A struct by value. -/
theorem Opens.agg {α : Type} {E : El α} {t : TypeId} (h : Opens E t) {fs : Array Field} (ht : Tryd.prog.underlying t = some (.struct fs)) {H : Type} {enc : TypeId × Value → H} {W : World} {held : Bool} {r : Reach} {b0 : Nat} {v : Value} {d : DataW H} {p : List MemPlace}
    (hv : Value.okWide Tryd.prog W r b0 t v) (hd : DataW.Trod enc Tryd.prog W 0 (fun _ => true) held t v d p) (hz : ∀ n ∈ d.weights Tryd.prog t, n ≤ reachBytes) : ∃ (cs : Array Value) (y : α), v = .agg cs ∧ E.rep (fun k => k < W.heap.size) W cs.toList y := by
  obtain ⟨cs, rfl, hsz⟩ := okWide_struct ht hv
  obtain ⟨fuel, hf⟩ := hd
  obtain ⟨y, hy⟩ := h.2 H enc W held fuel _ _ hf hz
  exact ⟨cs, y, rfl, by simpa [Value.cells] using hy⟩
set_option maxRecDepth 100000 in
/-- Anything of one cell. -/
theorem Opens.cell {α : Type} {E : El α} {t : TypeId} (h : Opens E t) {H : Type} {enc : TypeId × Value → H} {W : World} {held : Bool} {v : Value} {d : DataW H} {p : List MemPlace}
    (hd : DataW.Trod enc Tryd.prog W 0 (fun _ => true) held t v d p) (hz : ∀ n ∈ d.weights Tryd.prog t, n ≤ reachBytes) (hone : v.cells = #[v]) : ∃ y : α, E.rep (fun k => k < W.heap.size) W [v] y := by
  obtain ⟨fuel, hf⟩ := hd
  obtain ⟨y, hy⟩ := h.2 H enc W held fuel _ _ hf hz
  exact ⟨y, by simpa [hone] using hy⟩

end Go.Proofs.YtechkkefpigcaaaDoor

namespace Go.Proofs.YtechkkefpigcaaaDoor
open Go.RowKit
open Go.ChangeShapes Go.WideShapes Go.Joins Go.Deep
set_option linter.unusedSimpArgs false
set_option linter.unusedVariables false

theorem opens_intY : Opens El.int 3 := Opens.int Tryd.underlying3 (by kernel_rfl)
theorem opens_boolY : Opens El.bool 4 := Opens.bool Tryd.underlying4 (by kernel_rfl)
theorem opens_isY : Opens El.int.row 23 := Opens.row opens_intY Tryd.underlying23 (by kernel_rfl) Nat.one_pos (of_decide_eq_true (by kernel_rfl))
theorem opens_bsY : Opens El.bool.row 24 := Opens.row opens_boolY Tryd.underlying24 (by kernel_rfl) Nat.one_pos (of_decide_eq_true (by kernel_rfl))
set_option maxRecDepth 100000 in
theorem open_isY {H : Type} {enc : TypeId × Value → H} {W : World} {held : Bool} {a : Option Addr} {len cap : Nat} {d : DataW H} {p : List MemPlace}
    (hd : DataW.Trod enc Tryd.prog W 0 (fun _ => true) held 23 (.slice a len cap) d p) (hz : ∀ n ∈ d.weights Tryd.prog 23, n ≤ reachBytes) : ∃ l : List Int, len = l.length ∧ Gr El.int (fun k => k < W.heap.size) W a cap l := by
  obtain ⟨l, a', cap', e, _, hg, _⟩ := opens_isY.cell hd hz rfl
  simp at e
  obtain ⟨rfl, rfl, rfl⟩ := e
  exact ⟨l, rfl, hg⟩
theorem array2Y {α : Type} {cs : Array α} (h : cs.size = 2) : ∃ x y, cs = #[x, y] := by
  rcases cs with ⟨l⟩
  rcases l with _ | ⟨x, _ | ⟨y, _ | ⟨z, l⟩⟩⟩
  · simp at h
  · simp at h
  · exact ⟨x, y, rfl⟩
  · simp at h
end Go.Proofs.YtechkkefpigcaaaDoor

namespace Go.Proofs.YtechkkefpigcaaaDoor
open Go.RowKit
open Go.ChangeShapes Go.WideShapes Go.Joins Go.Deep
set_option linter.unusedSimpArgs false
set_option linter.unusedVariables false

theorem opens_slotU : Opens SlU 44 := Opens.struct (E := El.int.cat El.int) Tryd.underlying44 (by kernel_rfl) (OpensF.more opens_intY rfl (OpensF.last opens_intY rfl))
theorem opens_ruleU : Opens RuE 46 :=
  (Opens.struct (E := El.int.row.cat (El.int.row.cat (El.int.cat (El.int.cat (SlU.cat (SlU.cat SlU)))))) Tryd.underlying46 (by kernel_rfl)
    (OpensF.more opens_isY rfl (OpensF.more opens_isY rfl (OpensF.more opens_intY rfl (OpensF.more opens_intY rfl (OpensF.more opens_slotU rfl (OpensF.more opens_slotU rfl (OpensF.last opens_slotU rfl)))))))).via (fun x => ⟨⟨x.1, x.2.1, x.2.2.1, x.2.2.2.1, x.2.2.2.2.1, x.2.2.2.2.2.1, x.2.2.2.2.2.2⟩, rfl⟩)
theorem opens_rulesU : Opens RuE.row 39 := Opens.row opens_ruleU Tryd.underlying39 (by kernel_rfl) (by decide) (of_decide_eq_true (by kernel_rfl))
theorem opens_lookU : Opens LkE 41 :=
  (Opens.struct (E := El.int.cat (El.bool.cat RuE.row)) Tryd.underlying41 (by kernel_rfl) (OpensF.more opens_intY rfl (OpensF.more opens_boolY rfl (OpensF.last opens_rulesU rfl)))).via (fun x => ⟨⟨x.1, x.2.1, x.2.2⟩, rfl⟩)
theorem opens_looksU : Opens LkE.row 22 := Opens.row opens_lookU Tryd.underlying22 (by kernel_rfl) (by decide) (of_decide_eq_true (by kernel_rfl))
set_option maxRecDepth 100000 in
/-- Lookups. -/
theorem open_looksU {H : Type} {enc : TypeId × Value → H} {W : World} {held : Bool} {a : Option Addr} {len cap : Nat} {d : DataW H} {p : List MemPlace}
    (hd : DataW.Trod enc Tryd.prog W 0 (fun _ => true) held 22 (.slice a len cap) d p) (hz : ∀ n ∈ d.weights Tryd.prog 22, n ≤ reachBytes) : ∃ l : List Lk, len = l.length ∧ Gr LkE (fun k => k < W.heap.size) W a cap l := by
  obtain ⟨l, a', cap', e, _, hg, _⟩ := opens_looksU.cell hd hz rfl
  simp at e
  obtain ⟨rfl, rfl, rfl⟩ := e
  exact ⟨l, rfl, hg⟩
theorem opens_lineU : Opens (El.int.row.cat El.bool.row) 26 := Opens.struct Tryd.underlying26 (by kernel_rfl) (OpensF.more opens_isY rfl (OpensF.last opens_bsY rfl))
set_option maxRecDepth 100000 in
/-- A line, by value. -/
theorem open_lineU {H : Type} {enc : TypeId × Value → H} {W : World} {held : Bool} {r : Reach} {b0 : Nat} {v : Value} {d : DataW H} {p : List MemPlace}
    (hv : Value.okWide Tryd.prog W r b0 26 v) (hd : DataW.Trod enc Tryd.prog W 0 (fun _ => true) held 26 v d p) (hz : ∀ n ∈ d.weights Tryd.prog 26, n ≤ reachBytes) :
    ∃ a ca, ∃ l : List Int, ∃ b cb, ∃ m : List Bool, v = .agg #[.slice a l.length ca, .slice b m.length cb] ∧ Gr El.int (fun k => k < W.heap.size) W a ca l ∧ Gr El.bool (fun k => k < W.heap.size) W b cb m := by
  obtain ⟨cs, ⟨l, m⟩, rfl, us, ts, e, ⟨a, ca, h1, _, h2, _⟩, b, cb, h3, _, h4, _⟩ := opens_lineU.agg Tryd.underlying26 hv hd hz
  subst h1 h3
  refine ⟨a, ca, l, b, cb, m, ?_, h2, h4⟩
  congr 1
  apply Array.ext'
  rw [e]
  rfl
theorem array3Y {α : Type} {cs : Array α} (h : cs.size = 3) : ∃ x y z, cs = #[x, y, z] := by
  rcases cs with ⟨l⟩
  rcases l with _ | ⟨x, _ | ⟨y, _ | ⟨z, _ | ⟨u, l⟩⟩⟩⟩
  · simp at h
  · simp at h
  · simp at h
  · exact ⟨x, y, z, rfl⟩
  · simp at h
set_option maxRecDepth 100000 in
/-- Two uint8, by value. -/
theorem open_ggU {H : Type} {enc : TypeId × Value → H} {W : World} {held : Bool} {r : Reach} {b0 : Nat} {v : Value} {d : DataW H} {p : List MemPlace}
    (hv : Value.okWide Tryd.prog W r b0 42 v) (h : DataW.Trod enc Tryd.prog W 0 (fun _ => true) held 42 v d p) :
    ∃ x y : Int, v = .agg #[.int .u8 x, .int .u8 y] ∧ (0 ≤ x ∧ x < 256) ∧ (0 ≤ y ∧ y < 256) := by
  have hC : Tryd.prog.cellsOf 42 = 2 := by kernel_rfl
  have hc : Tryd.prog.cellsOf 5 = 1 := by kernel_rfl
  simp only [Value.okWide, Tryd.underlying42] at hv
  obtain ⟨cs, rfl, hsz, _⟩ := hv
  obtain ⟨c0, c1, rfl⟩ := array2Y (hsz.trans hC)
  obtain ⟨fuel, hf⟩ := h
  obtain ⟨zs, m, _, _, _, hl, ht⟩ := DataW.trod_array Tryd.underlying42 hf
  have h0 := ht 0 (by decide)
  have h1 := ht 1 (by decide)
  rw [hc] at h0 h1
  rw [List.getElem?_eq_getElem (by omega)] at h0 h1
  obtain ⟨x, e0, _, w0⟩ := DataW.trod_int Tryd.underlying5 h0
  obtain ⟨y, e1, _, w1⟩ := DataW.trod_int Tryd.underlying5 h1
  simp [Value.cells] at e0 e1
  subst e0 e1
  simp [Lit.wf, IntKind.min, IntKind.max, IntKind.bits, IntKind.signed] at w0 w1
  exact ⟨x, y, rfl, ⟨by omega, by omega⟩, ⟨by omega, by omega⟩⟩
set_option maxRecDepth 100000 in
/-- Three uint8, by value. -/
theorem open_gggU {H : Type} {enc : TypeId × Value → H} {W : World} {held : Bool} {r : Reach} {b0 : Nat} {v : Value} {d : DataW H} {p : List MemPlace}
    (hv : Value.okWide Tryd.prog W r b0 48 v) (h : DataW.Trod enc Tryd.prog W 0 (fun _ => true) held 48 v d p) :
    ∃ x y z : Int, v = .agg #[.int .u8 x, .int .u8 y, .int .u8 z] ∧ (0 ≤ x ∧ x < 256) ∧ (0 ≤ y ∧ y < 256) ∧ (0 ≤ z ∧ z < 256) := by
  have hC : Tryd.prog.cellsOf 48 = 3 := by kernel_rfl
  have hc : Tryd.prog.cellsOf 5 = 1 := by kernel_rfl
  simp only [Value.okWide, Tryd.underlying48] at hv
  obtain ⟨cs, rfl, hsz, _⟩ := hv
  obtain ⟨c0, c1, c2, rfl⟩ := array3Y (hsz.trans hC)
  obtain ⟨fuel, hf⟩ := h
  obtain ⟨zs, m, _, _, _, hl, ht⟩ := DataW.trod_array Tryd.underlying48 hf
  have h0 := ht 0 (by decide)
  have h1 := ht 1 (by decide)
  have h2 := ht 2 (by decide)
  rw [hc] at h0 h1 h2
  rw [List.getElem?_eq_getElem (by omega)] at h0 h1 h2
  obtain ⟨x, e0, _, w0⟩ := DataW.trod_int Tryd.underlying5 h0
  obtain ⟨y, e1, _, w1⟩ := DataW.trod_int Tryd.underlying5 h1
  obtain ⟨z, e2, _, w2⟩ := DataW.trod_int Tryd.underlying5 h2
  simp [Value.cells] at e0 e1 e2
  subst e0 e1 e2
  simp [Lit.wf, IntKind.min, IntKind.max, IntKind.bits, IntKind.signed] at w0 w1 w2
  exact ⟨x, y, z, rfl, ⟨by omega, by omega⟩, ⟨by omega, by omega⟩, ⟨by omega, by omega⟩⟩

theorem spn_one {H : Type} {enc : TypeId × Value → H} {W : World} {base : Nat} {sp : Nat → Bool} {held : Bool} {fuel : Nat} {cs : List Value} {z : Int} {x : DataW H × List MemPlace} (h : DataW.trod enc Tryd.prog W base sp held fuel 3 cs = some x) (hx : x.1 = .lit (.int .i64 z)) : cs = [.int .i64 z] := by
  obtain ⟨n, e, h2, _⟩ := DataW.trod_int Tryd.underlying3 h
  rw [h2] at hx
  simp at hx
  rw [e, hx]
theorem four_of {α : Type} {l : List α} (h : l.length = 4) : ∃ a b c d, l = [a, b, c, d] := by
  rcases l with _ | ⟨a, _ | ⟨b, _ | ⟨c, _ | ⟨d, _ | ⟨e, l⟩⟩⟩⟩⟩ <;> simp at h
  exact ⟨a, b, c, d, rfl⟩
set_option maxRecDepth 100000 in
/-- What one entry of the table reads as. -/
theorem spn_four {H : Type} {enc : TypeId × Value → H} {W : World} {base : Nat} {sp : Nat → Bool} {held : Bool} {fuel : Nat} {cs : List Value} {z0 z1 z2 z3 : Int} {x : DataW H × List MemPlace}
    (h : DataW.trod enc Tryd.prog W base sp held fuel 69 cs = some x) (hx : x.1 = .agg [.lit (.int .i64 z0), .lit (.int .i64 z1), .lit (.int .i64 z2), .lit (.int .i64 z3)]) : cs = [.int .i64 z0, .int .i64 z1, .int .i64 z2, .int .i64 z3] := by
  obtain ⟨xs, n, _, hxx, hl, hlen, hff⟩ := DataW.trod_struct Tryd.underlying69 h
  have hc4 : Tryd.prog.cellsOf 69 = 4 := by kernel_rfl
  have hc1 : Tryd.prog.cellsOf 3 = 1 := by kernel_rfl
  rw [hc4] at hl
  obtain ⟨x0, x1, x2, x3, rfl⟩ := four_of (l := xs) hlen
  obtain ⟨c0, c1, c2, c3, rfl⟩ := four_of hl
  rw [hxx] at hx
  simp only [List.map_cons, List.map_nil, DataW.agg.injEq, List.cons.injEq, and_true] at hx
  obtain ⟨e0, e1, e2, e3⟩ := hx
  have h0 : DataW.trod enc Tryd.prog W base sp held n 3 (([c0, c1, c2, c3].drop 0).take (Tryd.prog.cellsOf 3)) = some x0 := hff 0 _ rfl
  have h1 : DataW.trod enc Tryd.prog W base sp held n 3 (([c0, c1, c2, c3].drop 1).take (Tryd.prog.cellsOf 3)) = some x1 := hff 1 _ rfl
  have h2 : DataW.trod enc Tryd.prog W base sp held n 3 (([c0, c1, c2, c3].drop 2).take (Tryd.prog.cellsOf 3)) = some x2 := hff 2 _ rfl
  have h3 : DataW.trod enc Tryd.prog W base sp held n 3 (([c0, c1, c2, c3].drop 3).take (Tryd.prog.cellsOf 3)) = some x3 := hff 3 _ rfl
  rw [hc1] at h0 h1 h2 h3
  have r0 := spn_one h0 e0
  have r1 := spn_one h1 e1
  have r2 := spn_one h2 e2
  have r3 := spn_one h3 e3
  simp at r0 r1 r2 r3
  rw [r0, r1, r2, r3]
theorem five_of {α : Type} {l : List α} (h : l.length = 5) : ∃ a b c d e, l = [a, b, c, d, e] := by
  rcases l with _ | ⟨a, _ | ⟨b, _ | ⟨c, _ | ⟨d, _ | ⟨e, _ | ⟨f, l⟩⟩⟩⟩⟩⟩ <;> simp at h
  exact ⟨a, b, c, d, e, rfl⟩
theorem gSpan : Tryd.prog.globalNamed "foundry/subst.spans" = some 0 := by kernel_rfl
theorem gSpanType : (Tryd.prog.globals[0]?).map (·.type) = some 70 := by kernel_rfl
set_option maxRecDepth 100000 in
/-- What the row's list gives: the table. -/
theorem spn_of {W : World} (h : laidMet Tryd.prog [("foundry/subst.spans", Rows.laid_foundry_subst_spans)] W) : Spn W := by
  obtain ⟨ps, ⟨g', t', ⟨cs⟩, fuel, p, q, hg', ht', hvar, hd, _, _⟩, _⟩ := h
  obtain rfl := Option.some.inj (gSpan.symm.trans hg')
  obtain rfl := Option.some.inj (gSpanType.symm.trans ht')
  have hd2 : DataW.trod _ Tryd.prog W _ _ _ fuel 70 cs = some _ := hd
  obtain ⟨xs, m, _, hxx, hl, hlen, ht⟩ := DataW.trod_array Tryd.underlying70 hd2
  have hC : Tryd.prog.cellsOf 70 = 20 := by kernel_rfl
  have hc : Tryd.prog.cellsOf 69 = 4 := by kernel_rfl
  obtain ⟨x0, x1, x2, x3, x4, rfl⟩ := five_of hlen
  have hx := congrArg Prod.fst hxx
  simp only [Rows.laid_foundry_subst_spans, List.map_cons, List.map_nil, DataW.agg.injEq, List.cons.injEq, and_true] at hx
  obtain ⟨e0, e1, e2, e3, e4⟩ := hx
  have h0 := ht 0 (by decide)
  have h1 := ht 1 (by decide)
  have h2 := ht 2 (by decide)
  have h3 := ht 3 (by decide)
  have h4 := ht 4 (by decide)
  rw [hc] at h0 h1 h2 h3 h4
  have r0 := spn_four h0 e0.symm
  have r1 := spn_four h1 e1.symm
  have r2 := spn_four h2 e2.symm
  have r3 := spn_four h3 e3.symm
  have r4 := spn_four h4 e4.symm
  rw [hC] at hl
  have hall : cs = spN.map (fun (z : Nat) => Value.int .i64 (z : Int)) := by
    have hh : cs = ((cs.drop (0 * 4)).take 4) ++ (((cs.drop (1 * 4)).take 4) ++ (((cs.drop (2 * 4)).take 4) ++ (((cs.drop (3 * 4)).take 4) ++ ((cs.drop (4 * 4)).take 4)))) := by
      rw [List.take_of_length_le (l := cs.drop (4 * 4)) (by rw [List.length_drop]; omega)]
      have k3 : (cs.drop (3 * 4)).take 4 ++ cs.drop (4 * 4) = cs.drop (3 * 4) := by
        have := List.take_append_drop 4 (cs.drop (3 * 4))
        rwa [List.drop_drop] at this
      have k2 : (cs.drop (2 * 4)).take 4 ++ cs.drop (3 * 4) = cs.drop (2 * 4) := by
        have := List.take_append_drop 4 (cs.drop (2 * 4))
        rwa [List.drop_drop] at this
      have k1 : (cs.drop (1 * 4)).take 4 ++ cs.drop (2 * 4) = cs.drop (1 * 4) := by
        have := List.take_append_drop 4 (cs.drop (1 * 4))
        rwa [List.drop_drop] at this
      have k0 : (cs.drop (0 * 4)).take 4 ++ cs.drop (1 * 4) = cs := by
        simp
      rw [k3, k2, k1, k0]
    rw [hh, r0, r1, r2, r3, r4]
    rfl
  have hsz : 0 < W.heap.size := by
    unfold World.var? at hvar
    rw [gSpan] at hvar
    simp only [Option.bind_some] at hvar
    cases hb : W.heap[0]? with
    | none => rw [hb] at hvar; cases hvar
    | some o => exact (Array.getElem?_eq_some_iff.1 hb).1
  refine ⟨hsz, fun i hi => ?_⟩
  have h9 := World.var?_cell gSpan hvar i
  rw [hall] at h9
  rw [h9]
  have h20 : i < spN.length := hi
  simp [List.getD, h20]

end Go.Proofs.YtechkkefpigcaaaDoor
