/-
  classes.Back: the walk (a range over what slices.Backward gives).
  foundryref19.Next, Back: the walks.
  What a law is told of a slice of bytes, or of int32, that came in.
  What a law is told of things that came in, one for all (Opens).
  Rows of ints of the call's own (Gi): as Io, but with what is told of where they lie.
-/
import Derived.Test.YtadgifeakfcljaaZ3
import Derived.Test.YtadgifeakfcljaaZ2
import Derived.Test.YtadgifeakfcljaaZ1
import Derived.ProofKit
import Derived.Deep.Strs
import Derived.OpenShut
import Derived.SizedLaws
import Derived.Lib.SmallJoins
namespace Go.Proofs.Ytadgifeakfcljaa
open Go.RowKit Go.Maps Go.Shelf
set_option linter.unusedSimpArgs false
set_option linter.unusedVariables false
attribute [local go_sem] Oper.semAt_some

theorem bk_all {ms : List Bool} {L : List Int} : ∀ k, (∀ j, j < k → mkB ms (L.getD j 0) = true) → bkF ms L k = -1 := by
  intro k
  induction k with
  | zero => intro _; rfl
  | succ k ih =>
    intro h
    rw [bkF_on (h k (by omega))]
    exact ih (fun j hj => h j (by omega))
theorem bk_done {ms : List Bool} {L : List Int} {f : Nat → Int} (hf : ∀ j, f j = L.getD j 0) {k : Nat} {ys : List (Ix19 k)} (h : vals19 ys = dnL k k) (hp : ∀ x ∈ ys, mkB ms (f x.1) = true) : bkF ms L k = -1 := by
  refine bk_all k (fun j hj => ?_)
  have hm : j ∈ vals19 ys := by rw [h]; exact dnL_mem.2 ⟨k - 1 - j, by omega, by omega⟩
  obtain ⟨x, hx, e⟩ := List.mem_map.1 hm
  have := hp x hx
  rw [hf, e] at this
  exact this
theorem bk_stop {ms : List Bool} {L : List Int} {f : Nat → Int} (hf : ∀ j, f j = L.getD j 0) {k r : Nat} {ini : List (Ix19 k)} {x : Ix19 k} (hr : r ≤ k) (h : vals19 (ini ++ [x]) = dnL k r) (hp : ∀ y ∈ ini, mkB ms (f y.1) = true) (hx : mkB ms (f x.1) = false) : bkF ms L k = (x.1 : Int) := by
  obtain ⟨r', rfl⟩ : ∃ r', r = r' + 1 := by
    cases r with
    | zero => simp [vals19, dnL] at h
    | succ r' => exact ⟨r', rfl⟩
  rw [vals19_app, dnL_succ] at h
  obtain ⟨h1, h2⟩ := List.append_inj' h rfl
  have h3 : x.1 = k - 1 - r' := by simpa using h2
  rw [hf] at hx
  refine bk_next k x.2 hx (fun i hi1 hi2 => ?_)
  have hm : i ∈ vals19 ini := by rw [h1]; exact dnL_mem.2 ⟨k - 1 - i, by omega, by omega⟩
  obtain ⟨y, hy, e⟩ := List.mem_map.1 hm
  have := hp y hy
  rw [hf, e] at this
  exact this
theorem keeps_below {W U : World} (h : Below W.heap.size W U) : KeepsOthers W U := ⟨h.size, fun k o hk _ => (h.block k (Array.getElem?_eq_some_iff.1 hk).1).trans hk⟩
theorem boxed_below {W U : World} {B : Nat} {t : TypeId} {v : Value} (h : Boxed W B t v) (hb : Below W.heap.size W U) : Boxed U B t v := (hb.block B h.lt).trans h

set_option maxRecDepth 100000 in
set_option maxHeartbeats 4000000 in
set_option maxRecDepth 100000 in
theorem cback_any (S : Nat → Prop) (a : Option Addr) (ca : Nat) (L : List Int) (b : Option Addr) (cb : Nat) (ms : List Bool) (i : Int) (w : World) (hL : Ri w a ca L) (hm : Gr El.bool S w b cb ms) (hi : I64 i) :
    Calls Try.prog 12 #[.slice a L.length ca, .slice b ms.length cb, .int .i64 i] w fun e w' => e = .returned (.int .i64 (bkQ ms L i)) ∧ Below w.heap.size w w' := by
  have kl := hL.lenB
  obtain ⟨hi1, hi2⟩ := hi
  have hpl := fun W => cplace_any a ca L i W kl
  cases hp : plB L i with
  | false =>
    rw [hp] at hpl
    have HF : Hid (bkQ ms L i = -1) := bkQ_no hp
    clear hp hL hm
    refine (callsIn_wide (n := 6)).1 ?_
    refine callsIn_of_wp_marks Try.func12 rfl trivial ?_ rfl
    simp only [Try.ntmps12, List.size_toArray, List.length_cons, List.length_nil, Nat.reduceAdd, Nat.reduceSub, Array.replicate_succ, Array.replicate_zero, List.push_toArray, List.append_toArray, List.nil_append, List.cons_append]
    gi_wp2_with (refine ⟨trivial, ?_⟩; gi_at_call 21; refine (callsIn_wide.2 (hpl _)).mono ?_; rintro e w' ⟨rfl, rfl⟩)
    have c0 : ((w.alloc (.cells #[.slice b ms.length cb] 23)).alloc (.cells #[.int .i64 (-1)] 3)).cell? ⟨w.heap.size + 1, 0, none⟩ = some (.int .i64 (-1)) := by
      have h := (Boxed.new (w.alloc (.cells #[.slice b ms.length cb] 23)) 3 (.int .i64 (-1))).cell
      rw [World.size_alloc] at h
      exact h
    refine ⟨.int .i64 (-1), ?_, rt_int HF.out.symm, (bl1 _).trans ((bl1 _).mono (bl1 _).size)⟩
    simp [results, Try.f12, go_sem, c0]
  | true =>
  rw [hp] at hpl
  obtain ⟨p1, p2⟩ := plB_iff.1 hp
  obtain ⟨k, rfl⟩ : ∃ k : Nat, i = (k : Int) := ⟨i.toNat, by omega⟩
  have hk : k < L.length := by omega
  have HX : Hid (bkQ ms L (k : Int) = bkF ms L k) := bkQ_yes hk
  obtain ⟨b0, off, rfl, hb0, _⟩ := hL.at (Below.refl _ _) k hk
  obtain ⟨f, hf⟩ : ∃ f : Nat → Int, ∀ j, f j = L.getD j 0 := ⟨_, fun _ => rfl⟩
  have hcap := hL.2.1
  have hcap2 := hL.2.2.1
  unfold maxLen at hcap2
  have HLF : Hid (∀ W, Below w.heap.size w W → ∀ j, j < k → W.cell? ⟨b0, off + j, none⟩ = some (.int .i64 (f j))) := fun W hW j hj => by
    obtain ⟨b1, o1, e1, _, c1⟩ := hL.at hW j (by omega)
    cases e1
    rw [hf]
    exact c1
  have HFI : Hid (∀ j, j < k → I64 (f j)) := fun j hj => by rw [hf]; exact hL.i64 (by omega)
  have HFF : Hid (∀ j, f j = L.getD j 0) := hf
  have HM : Hid (Gr El.bool S w b cb ms) := hm
  clear hp hL hm hf
  refine (callsIn_wide (n := 6)).1 ?_
  refine callsIn_of_wp_marks Try.func12 rfl trivial ?_ rfl
  simp only [Try.ntmps12, List.size_toArray, List.length_cons, List.length_nil, Nat.reduceAdd, Nat.reduceSub, Array.replicate_succ, Array.replicate_zero, List.push_toArray, List.append_toArray, List.nil_append, List.cons_append]
  gi_wp2_with first
    | (refine ⟨trivial, ?_⟩; gi_at_call 21; refine (callsIn_wide.2 (hpl _)).mono ?_; rintro e w' ⟨rfl, rfl⟩)
    | (refine ⟨trivial, ?_⟩; gi_at_call 23; refine (back_in Fence.wide _ trivial rfl _ _ _ _).mono ?_; rintro e w' ⟨rfl, rfl⟩)
  have bM := Boxed.new w 23 (.slice b ms.length cb)
  have bR := Boxed.new (w.alloc (.cells #[.slice b ms.length cb] 23)) 3 (.int .i64 0)
  have bN := Boxed.new ((w.alloc (.cells #[.slice b ms.length cb] 23)).alloc (.cells #[.int .i64 0] 3)) 22 (.slice (some ⟨b0, off, none⟩) k ca)
  have bM2 := (bM.alloc (.cells #[.int .i64 0] 3)).alloc (.cells #[.slice (some ⟨b0, off, none⟩) k ca] 22)
  have bR2 := bR.alloc (.cells #[.slice (some ⟨b0, off, none⟩) k ca] 22)
  simp only [World.size_alloc] at bR2 bN
  obtain ⟨W0, hW0⟩ : ∃ W0, W0 = (((w.alloc (.cells #[.slice b ms.length cb] 23)).alloc (.cells #[.int .i64 0] 3)).alloc (.cells #[.slice (some ⟨b0, off, none⟩) k ca] 22)) := ⟨_, rfl⟩
  have hs0 : W0.heap.size = w.heap.size + 3 := by rw [hW0]; simp
  have hB0 : Below w.heap.size w W0 := by rw [hW0]; exact (((Below.refl _ w).alloc (Nat.le_refl _) _).alloc (by simp) _).alloc (by simp; omega) _
  rw [← hW0] at bM2 bR2 bN
  rw [← hW0]
  clear hW0 bM bR hpl
  refine wpIn_rangeFunc_ownG (F := Fence.wide) rfl (by omega) (gf := 26) (lb := #[.pointer (some ⟨w.heap.size + 1 + 1, 0, none⟩)]) rfl trivial (enters_of Try.func26 (by kernel_rfl) rfl)
    (back_stops Fence.wide _ trivial rfl (by omega) (w.heap.size + 1 + 1) (w.heap.size + 3) b0 off k ca f (by omega) W0 (by omega) (by omega) (by omega) (by omega) bN.cell (HLF.out _ hB0)) belowK_t (belowK_b (by omega)) (Below.refl _ _) (fun _ => rfl)
    (fun pre W => ((∀ x ∈ pre, mkB ms (f x.1) = true) ∧ (Boxed W w.heap.size 23 (.slice b ms.length cb) ∧ Boxed W (w.heap.size + 1) 3 (.int .i64 0) ∧ w.heap.size + 3 ≤ W.heap.size)) ∧ Below w.heap.size w W)
    (fun c pre W => ((c = .ret ∧ ∃ ini last, pre = ini ++ [last] ∧ (∀ x ∈ ini, mkB ms (f x.1) = true) ∧ mkB ms (f last.1) = false ∧ Boxed W (w.heap.size + 1) 3 (.int .i64 (last.1 : Int))) ∧ Below w.heap.size w W))
    (OwnFrom.and (OwnFrom.and (ownFrom_pure _ _) (OwnFrom.and (Own.from (boxed_own _ _ _) _) (OwnFrom.and (Own.from (boxed_own _ _ _) _) (fun s A B row hs hg hr => Nat.le_trans hs hg.size)))) (ownFrom_below (Nat.le_refl _) (by omega)))
    (fun c => OwnFrom.and (Own.from (fun s A B row hs hg hr => by obtain ⟨hc, ini, last, e1, e2, e3, e4⟩ := hs; exact ⟨hc, ini, last, e1, e2, e3, boxed_own _ _ (fun _ : Unit => _) () A B row e4 hg hr⟩) _) (ownFrom_below (Nat.le_refl _) (by omega)))
    ⟨⟨(fun x hx => by cases hx), bM2, bR2, by omega⟩, hB0⟩
    (fun x => { tmps := #[.slice (some ⟨b0, off, none⟩) L.length ca, .slice b ms.length cb, .int .i64 (k : Int), undef, .pointer (some ⟨w.heap.size, 0, none⟩), undef, .pointer (some ⟨w.heap.size + 1, 0, none⟩), .int .i64 (x.1 : Int), .int .i64 (f x.1), .slice (some ⟨b0, off, none⟩) L.length ca, .int .i64 (k : Int), .bool true, .bool false, .slice (some ⟨b0, off, none⟩) L.length ca, .int .i64 (k : Int), .slice (some ⟨b0, off, none⟩) k ca, .func (.func 26) #[] #[.pointer (some ⟨w.heap.size + 1 + 1, 0, none⟩)], .int .i64 (x.1 : Int), .int .i64 (f x.1), undef, undef, undef, undef, undef], defers := [] }) ?assign ?body ?done ?stop
  case assign =>
    intro l x W K hK
    gi_wp2
    exact hK
  case body =>
    rintro l pre x W ⟨⟨hp, bx, bR, hsz⟩, hB⟩ _
    have hd : 1 ≤ 6 - 1 - 1 := by omega
    have hmk := cmark_any S b cb ms (f x.1) W (HM.out.below hB) (HFI.out _ x.2)
    have cM := bx.cell
    have cR := bR.cell
    have cF := bR.frozen
    obtain ⟨q, hq⟩ : ∃ q, mkB ms (f x.1) = q := ⟨_, rfl⟩
    have HQ : Hid (mkB ms (f x.1) = q) := hq
    have HBX : Hid (Boxed W w.heap.size 23 (.slice b ms.length cb)) := bx
    have HBR : Hid (Boxed W (w.heap.size + 1) 3 (.int .i64 0)) := bR
    have HPP : Hid (∀ x ∈ pre, mkB ms (f x.1) = true) := hp
    rw [hq] at hmk
    clear hq bx bR hp
    gi_wp2_with (refine ⟨trivial, ?_⟩; gi_at_call 14; refine (CallsIn.inRound l (callsIn_wide.2 hmk)).mono ?_)
    rintro e u ⟨rfl, hbu⟩
    have hB2 := hB.trans (hbu.mono hB.size)
    have bxu := boxed_below HBX.out hbu
    have bRu := boxed_below HBR.out hbu
    have HKE : Hid (KeepsOthers W u) := keeps_below hbu
    have HKB : Hid (Below (w.heap.size + 3) W u) := hbu.mono hsz
    have HSZ : Hid (w.heap.size + 3 ≤ u.heap.size) := Nat.le_trans hsz hbu.size
    have cR2 := bRu.cell
    have cF2 := bRu.frozen
    have HBX2 : Hid (Boxed u w.heap.size 23 (.slice b ms.length cb)) := bxu
    have HBR2 : Hid (Boxed u (w.heap.size + 1) 3 (.int .i64 0)) := bRu
    clear hmk hbu bxu bRu HBX HBR cM cR cF hsz
    cases q with
    | true =>
      gi_wp2
      exact ⟨HKE.out.from _, HKB.out, ⟨⟨fun y hy => by
        rcases List.mem_append.1 hy with hy | hy
        · exact HPP.out y hy
        · rw [List.mem_singleton.1 hy]; exact HQ.out, HBX2.out, HBR2.out, HSZ.out⟩, hB2⟩⟩
    | false =>
      gi_wp2
      exact ⟨(HKE.out.trans (KeepsOthers.setCell _ _ _)).from _, ⟨⟨rfl, pre, x, rfl, HPP.out, HQ.out, HBR2.out.set _⟩, hB2.setCell (p := ⟨w.heap.size + 1, 0, none⟩) (by simp) _⟩⟩
  case done =>
    rintro D ys W hD hys ⟨⟨hp, bx, bR, hsz⟩, hB⟩ hK
    have HF : Hid (bkQ ms L (k : Int) = -1) := by show _ = _; rw [HX.out]; exact bk_done HFF.out hys hp
    have cR := bR.cell
    have cF := bR.frozen
    clear hp bx hsz
    gi_wp2
    have hK' := (KeepsOthers.setCell W ⟨w.heap.size + 1, 0, none⟩ (.int .i64 (-1))).same D _ hK rfl
    refine ⟨by simp, .inl ⟨_, _, rfl, run_takeDeferred hK', ?_⟩⟩
    have hc5 := cell_kept (bR.set (.int .i64 (-1))).cell (grownBy_putObj' _ D (.deferred none)) (fun r e => by cases e; exact ⟨_, hK', rfl⟩)
    refine ⟨.int .i64 (-1), ?_, rt_int HF.out.symm, (hB.setCell (p := ⟨w.heap.size + 1, 0, none⟩) (by simp) _).trans (belowK_b (w := w) (Nat.le_refl _) _ D _ _ (by omega) hK' rfl rfl)⟩
    simp [results, Try.f12, go_sem, hc5]
  case stop =>
    rintro D c pre W hD ⟨r, hr, hys⟩ ⟨⟨rfl, ini, last, rfl, hp, hl, bR⟩, hB⟩ hK
    have HF : Hid (bkQ ms L (k : Int) = (last.1 : Int)) := by show _ = _; rw [HX.out]; exact bk_stop HFF.out hr hys hp hl
    have cR := bR.cell
    clear hp hl hys
    gi_wp2
    refine ⟨by simp, .inl ⟨_, _, rfl, run_takeDeferred hK, ?_⟩⟩
    have hc5 := cell_kept cR (grownBy_putObj' _ D (.deferred none)) (fun r e => by cases e; exact ⟨_, hK, rfl⟩)
    refine ⟨.int .i64 (last.1 : Int), ?_, rt_int HF.out.symm, hB.trans (belowK_b (w := w) (Nat.le_refl _) W D _ _ (by omega) hK rfl rfl)⟩
    simp [results, Try.f12, go_sem, hc5]

end Go.Proofs.Ytadgifeakfcljaa

namespace Go.Proofs.Ytadgifeakfcljaa
open Go.RowKit Go.Maps
set_option linter.unusedSimpArgs false
set_option linter.unusedVariables false

theorem psB_skR {ms : List Bool} {L : List Int} {sk : Bool} {i : Nat} (h : sk = false) : psB ms L sk i = false := by unfold psB; rw [h]; rfl
theorem psB_yesR {ms : List Bool} {L : List Int} {i : Nat} {g : Int} (h : L.getD i 0 = g) : psB ms L true i = mkB ms g := by unfold psB; rw [h]; rfl

set_option maxHeartbeats 2000000 in
set_option maxRecDepth 100000 in
theorem snext_any (S : Nat → Prop) (a : Option Addr) (ca : Nat) (L : List Int) (b : Option Addr) (cb : Nat) (ms : List Bool) (i : Int) (sk : Bool) (w : World) (hL : Ri w a ca L) (hm : Gr El.bool S w b cb ms) (hi : I64 i) :
    Calls Try.prog 11 #[.slice a L.length ca, .slice b ms.length cb, .int .i64 i, .bool sk] w fun e w' => e = .returned (.int .i64 (nxQ ms L sk i)) ∧ Below w.heap.size w w' := by
  have kl := hL.lenB
  obtain ⟨hi1, hi2⟩ := hi
  have hpl := splace_any a ca L i w kl
  cases hp : plB L i with
  | false =>
    rw [hp] at hpl
    have HF : Hid (nxQ ms L sk i = -1) := nxQ_no hp
    clear hp hL hm
    go_enter Try.func11, Try.ntmps11
    go_wp2_with fail
    refine hpl.mono ?_
    rintro e u ⟨rfl, rfl⟩
    clear hpl
    go_wp2
    go_ret
    exact ⟨rt_int HF.out.symm, Below.refl _ _⟩
  | true =>
  rw [hp] at hpl
  obtain ⟨p1, p2⟩ := plB_iff.1 hp
  obtain ⟨k, rfl⟩ : ∃ k : Nat, i = (k : Int) := ⟨i.toNat, by omega⟩
  have hk : k < L.length := by omega
  have HX : Hid (nxQ ms L sk (k : Int) = nxF ms L sk (L.length - (k + 1)) (k + 1)) := nxQ_yes hk
  have HL : Hid (Ri w a ca L) := hL
  have HM : Hid (Gr El.bool S w b cb ms) := hm
  clear hp hL hm
  go_enter Try.func11, Try.ntmps11
  go_wp2_with fail
  refine hpl.mono ?_
  rintro e u ⟨rfl, rfl⟩
  clear hpl
  go_wp2
  go_loopw [2] (fun i wr => ∃ j : Nat, j ≤ L.length ∧ i = .int .i64 j ∧ Hid (nxQ ms L sk (k : Int) = nxF ms L sk (L.length - j) j) ∧ Below w.heap.size w wr) (fun i _ => L.length - (intOf i).toNat)
  case atStart => exact ⟨k + 1, by omega, by go_num, HX, Below.refl _ _⟩
  case round =>
    obtain ⟨j, hj, rfl, HJ, hB⟩ := hrel
    by_cases hjn : j < L.length
    · obtain ⟨b1, o1, ea, _, c0⟩ := HL.out.at hB j hjn
      subst ea
      have HG : Hid (I64 (L.getD j 0)) := HL.out.i64 hjn
      have HON : Hid (_) := nxF_on (ms := ms) (sk := sk) hjn
      have HOF : Hid (_) := nxF_off (ms := ms) (sk := sk) hjn
      have HPS : Hid (∀ q, mkB ms (L.getD j 0) = q → psB ms L true j = q) := fun q hq => by rw [psB_yesR rfl]; exact hq
      obtain ⟨g, hg⟩ : ∃ g, L.getD j 0 = g := ⟨_, rfl⟩
      rw [hg] at c0 HG HPS
      have i1 : (0 : Int) ≤ (j : Int) := by omega
      have i2 : (j : Int) < (L.length : Int) := by omega
      have d1 : decide ((j : Int) < (L.length : Int)) = true := decide_eq_true i2
      have d1n : decide (j < L.length) = true := decide_eq_true hjn
      have e1 : ¬ (j : Int) = (L.length : Int) := by omega
      have e2 : ¬ j = L.length := by omega
      clear hg
      cases sk with
      | false =>
        have HF : Hid (nxQ ms L false (k : Int) = (j : Int)) := by show _ = _; rw [HJ.out, HOF.out (psB_skR rfl)]
        clear HJ HON HOF HPS
        go_wp2
        go_ret
        exact ⟨rt_int HF.out.symm, hB⟩
      | true =>
      have hmk := smark_any S b cb ms g wr (HM.out.below hB) HG.out
      cases hq : mkB ms g with
      | true =>
        rw [hq] at hmk
        have HJ2 : Hid (nxQ ms L true (k : Int) = nxF ms L true (L.length - (j + 1)) (j + 1)) := by show _ = _; rw [HJ.out]; exact HON.out (HPS.out _ hq)
        clear HJ HON HOF HPS hq
        go_wp2_with fail
        refine hmk.mono ?_
        rintro e u ⟨rfl, hb1⟩
        have hB2 := hB.trans (hb1.mono hB.size)
        clear hmk hb1 hB
        go_wp2
        go_roundw
        case rel => exact ⟨j + 1, by omega, by go_num, HJ2, hB2⟩
        case measure => simp [intOf]; omega
      | false =>
        rw [hq] at hmk
        have HF : Hid (nxQ ms L true (k : Int) = (j : Int)) := by show _ = _; rw [HJ.out, HOF.out (HPS.out _ hq)]
        clear HJ HON HOF HPS hq
        go_wp2_with fail
        refine hmk.mono ?_
        rintro e u ⟨rfl, hb1⟩
        have hB2 := hB.trans (hb1.mono hB.size)
        clear hmk hb1 hB
        go_wp2
        go_ret
        exact ⟨rt_int HF.out.symm, hB2⟩
    · have HF : Hid (nxQ ms L sk (k : Int) = -1) := by show _ = _; rw [HJ.out]; exact nxF_end (by omega)
      obtain rfl : j = L.length := by omega
      have g4 : ¬ (L.length : Int) < (L.length : Int) := by omega
      have d1 : decide ((L.length : Int) < (L.length : Int)) = false := decide_eq_false g4
      have d1n : decide (L.length < L.length) = false := decide_eq_false (by omega)
      clear HJ
      go_wp2
      go_ret
      exact ⟨rt_int HF.out.symm, hB⟩

set_option maxHeartbeats 2000000 in
set_option maxRecDepth 100000 in
theorem sback_any (S : Nat → Prop) (a : Option Addr) (ca : Nat) (L : List Int) (b : Option Addr) (cb : Nat) (ms : List Bool) (i : Int) (w : World) (hL : Ri w a ca L) (hm : Gr El.bool S w b cb ms) (hi : I64 i) :
    Calls Try.prog 13 #[.slice a L.length ca, .slice b ms.length cb, .int .i64 i] w fun e w' => e = .returned (.int .i64 (bkQ ms L i)) ∧ Below w.heap.size w w' := by
  have kl := hL.lenB
  obtain ⟨hi1, hi2⟩ := hi
  have hpl := splace_any a ca L i w kl
  cases hp : plB L i with
  | false =>
    rw [hp] at hpl
    have HF : Hid (bkQ ms L i = -1) := bkQ_no hp
    clear hp hL hm
    go_enter Try.func13, Try.ntmps13
    go_wp2_with fail
    refine hpl.mono ?_
    rintro e u ⟨rfl, rfl⟩
    clear hpl
    go_wp2
    go_ret
    exact ⟨rt_int HF.out.symm, Below.refl _ _⟩
  | true =>
  rw [hp] at hpl
  obtain ⟨p1, p2⟩ := plB_iff.1 hp
  obtain ⟨k, rfl⟩ : ∃ k : Nat, i = (k : Int) := ⟨i.toNat, by omega⟩
  have hk : k < L.length := by omega
  have HX : Hid (bkQ ms L (k : Int) = bkF ms L k) := bkQ_yes hk
  have HL : Hid (Ri w a ca L) := hL
  have HM : Hid (Gr El.bool S w b cb ms) := hm
  clear hp hL hm
  go_enter Try.func13, Try.ntmps13
  go_wp2_with fail
  refine hpl.mono ?_
  rintro e u ⟨rfl, rfl⟩
  clear hpl
  go_wp2
  go_loopw [2] (fun i wr => ∃ (m : Nat) (z : Int), m ≤ k ∧ Hid (z = (m : Int) - 1) ∧ i = .int .i64 z ∧ Hid (bkQ ms L (k : Int) = bkF ms L m) ∧ Below w.heap.size w wr) (fun i _ => (intOf i + 1).toNat)
  case atStart => exact ⟨k, _, Nat.le_refl _, rfl, rfl, HX, Below.refl _ _⟩
  case round =>
    obtain ⟨m, z, hm, HZ, rfl, HJ, hB⟩ := hrel
    cases m with
    | zero =>
      obtain rfl : z = -1 := by have := HZ.out; omega
      have HF : Hid (bkQ ms L (k : Int) = -1) := HJ.out
      clear HJ HZ
      go_wp2
      go_ret
      exact ⟨rt_int HF.out.symm, hB⟩
    | succ m =>
    obtain rfl : z = (m : Int) := by have := HZ.out; omega
    have hmn : m < L.length := by omega
    obtain ⟨b1, o1, ea, _, c0⟩ := HL.out.at hB m hmn
    subst ea
    have HG : Hid (I64 (L.getD m 0)) := HL.out.i64 hmn
    have HON : Hid (mkB ms (L.getD m 0) = true → bkF ms L (m + 1) = bkF ms L m) := fun h => bkF_on h
    have HOF : Hid (mkB ms (L.getD m 0) = false → bkF ms L (m + 1) = (m : Int)) := fun h => bkF_off h
    obtain ⟨g, hg⟩ : ∃ g, L.getD m 0 = g := ⟨_, rfl⟩
    rw [hg] at c0 HG HON HOF
    have i1 : (0 : Int) ≤ (m : Int) := by omega
    have i2 : (m : Int) < (L.length : Int) := by omega
    have d1 : decide ((0 : Int) ≤ (m : Int)) = true := decide_eq_true i1
    have i3 : ¬ (m : Int) < 0 := by omega
    have hmk := smark_any S b cb ms g wr (HM.out.below hB) HG.out
    clear hg HZ
    cases hq : mkB ms g with
    | true =>
      rw [hq] at hmk
      have HJ2 : Hid (bkQ ms L (k : Int) = bkF ms L m) := by show _ = _; rw [HJ.out]; exact HON.out hq
      clear HJ HON HOF hq
      go_wp2_with fail
      refine hmk.mono ?_
      rintro e u ⟨rfl, hb1⟩
      have hB2 := hB.trans (hb1.mono hB.size)
      clear hmk hb1 hB
      go_wp2
      go_roundw
      case rel => exact ⟨m, _, by omega, rfl, rfl, HJ2, hB2⟩
      case measure => simp [intOf]
    | false =>
      rw [hq] at hmk
      have HF : Hid (bkQ ms L (k : Int) = (m : Int)) := by show _ = _; rw [HJ.out]; exact HOF.out hq
      clear HJ HON HOF hq
      go_wp2_with fail
      refine hmk.mono ?_
      rintro e u ⟨rfl, hb1⟩
      have hB2 := hB.trans (hb1.mono hB.size)
      clear hmk hb1 hB
      go_wp2
      go_ret
      exact ⟨rt_int HF.out.symm, hB2⟩

end Go.Proofs.Ytadgifeakfcljaa

namespace Go.Proofs.Ytadgifeakfcljaa
open Go.RowKit
set_option linter.unusedSimpArgs false
set_option linter.unusedVariables false

/-- A slice of integers that came in: it is nil; or it leads to a row of 'cap' cells, the numbers 'zs' (the first 'len' are its elements), each fitting its kind. -/
def IsRowK (k : IntKind) (w : World) (a : Option Addr) (len cap : Nat) (zs : List Int) : Prop :=
  (a = none ∧ len = 0 ∧ cap = 0 ∧ zs = []) ∨
  ∃ x, a = some x ∧ len ≤ cap ∧ cap ≤ maxLen ∧ zs.length = cap ∧ (∀ i, i < zs.length → w.cell? (x.add i) = some (.int k (zs.getD i 0))) ∧ ∀ n ∈ zs, (Lit.int k n).wf = true

theorem wfo_u8_bounds {n : Int} (h : (Lit.int .u8 n).wf = true) : 0 ≤ n ∧ n < 256 := by
  simp [Lit.wf, IntKind.min, IntKind.max, IntKind.bits, IntKind.signed] at h
  omega
theorem wfo_i32_bounds {n : Int} (h : (Lit.int .i32 n).wf = true) : -2147483648 ≤ n ∧ n ≤ 2147483647 := by
  simp [Lit.wf, IntKind.min, IntKind.max, IntKind.bits, IntKind.signed] at h
  omega
theorem wfo_i64_bounds {n : Int} (h : (Lit.int .i64 n).wf = true) : -9223372036854775808 ≤ n ∧ n ≤ 9223372036854775807 := by
  simp [Lit.wf, IntKind.min, IntKind.max, IntKind.bits, IntKind.signed] at h
  omega

theorem IsRowK.cells {k : IntKind} {w : World} {a : Option Addr} {len cap : Nat} {zs : List Int} (h : IsRowK k w a len cap zs) :
    ∃ ys : List Int, len = ys.length ∧ (∀ y ∈ ys, (Lit.int k y).wf = true) ∧ ys.length ≤ cap ∧ cap ≤ maxLen ∧ (a = none → cap = 0) ∧
      (ys = [] ∨ ∃ b off, a = some ⟨b, off, none⟩ ∧ b < w.heap.size ∧ ∀ i, i < ys.length → w.cell? ⟨b, off + i, none⟩ = some (.int k (ys.getD i 0))) := by
  rcases h with ⟨rfl, rfl, rfl, rfl⟩ | ⟨x, rfl, h1, h2, h3, hc, hw⟩
  · exact ⟨[], rfl, (fun y hy => by cases hy), Nat.le_refl _, Nat.zero_le _, fun _ => rfl, .inl rfl⟩
  · refine ⟨zs.take len, by simp; omega, fun y hy => hw y (List.mem_of_mem_take hy), by simp; omega, h2, (by simp), ?_⟩
    by_cases h0 : len = 0
    · exact .inl (by simp [h0])
    · obtain ⟨b, off, spot⟩ := x
      have c0 := hc 0 (by omega)
      have hspot : spot = none := by simpa [Addr.add] using World.cell?_spot c0
      subst hspot
      refine .inr ⟨b, off, rfl, ?_, fun i hi => ?_⟩
      · have := World.block_lt_of_cell? w _ c0
        simpa [Addr.add] using this
      · simp at hi
        have hadd : (⟨b, off, none⟩ : Addr).add i = ⟨b, off + i, none⟩ := by unfold Addr.add; split <;> simp_all
        have hci := hc i (by omega)
        rw [hadd] at hci
        rw [hci]
        simp [List.getD, show i < len by omega]

theorem IsRowK.rb {w : World} {a : Option Addr} {len cap : Nat} {zs : List Int} (h : IsRowK .u8 w a len cap zs) : ∃ xs : List Nat, len = xs.length ∧ Rb w a cap xs := by
  obtain ⟨ys, h1, h2, h3, h4, h5, h6⟩ := h.cells
  have hb : ∀ y ∈ ys, 0 ≤ y ∧ y < 256 := fun y hy => wfo_u8_bounds (h2 y hy)
  refine ⟨ys.map Int.toNat, by simp [h1], ?_, by simpa using h3, h4, h5, ?_⟩
  · intro x hx
    obtain ⟨y, hy, rfl⟩ := List.mem_map.1 hx
    have := hb y hy
    omega
  · rcases h6 with rfl | ⟨b, off, e, hlt, hc⟩
    · exact .inl rfl
    · refine .inr ⟨b, off, e, hlt, fun i hi => ?_⟩
      simp at hi
      rw [hc i hi]
      have h0 : ys.getD i 0 = ys[i] := by simp [List.getD, hi]
      have hy := hb ys[i] (List.getElem_mem hi)
      rw [h0]
      simp [List.getD, hi]
      omega

end Go.Proofs.Ytadgifeakfcljaa

namespace Go.Proofs.Ytadgifeakfcljaa
open Go.RowKit
open Go.ChangeShapes Go.WideShapes Go.Joins Go.Deep
set_option linter.unusedSimpArgs false
set_option linter.unusedVariables false

/-- What came in as data of a type lies as such a thing. -/
def Opens {α : Type} (E : El α) (t : TypeId) : Prop :=
  Try.prog.cellsOf t = E.sz ∧ ∀ (H : Type) (enc : TypeId × Value → H) (W : World) (held : Bool) (fuel : Nat) (cs : List Value) (x : DataW H × List MemPlace),
    DataW.trod enc Try.prog W 0 (fun _ => true) held fuel t cs = some x → (∀ n ∈ x.1.weights Try.prog t, n ≤ reachBytes) → ∃ y : α, E.rep (fun k => k < W.heap.size) W cs y
theorem Opens.num {t : TypeId} {k : IntKind} {lo hi : Int} (ht : Try.prog.underlying t = some (.int k)) (hc : Try.prog.cellsOf t = 1) (hb : ∀ z, (Lit.int k z).wf = true → lo ≤ z ∧ z ≤ hi) : Opens (El.num k lo hi) t :=
  ⟨hc, fun H enc W held fuel cs x h hz => by
    obtain ⟨z, e, _, hw⟩ := DataW.trod_int ht h
    exact ⟨z, e, hb z hw⟩⟩
theorem Opens.int {t : TypeId} (ht : Try.prog.underlying t = some (.int .i64)) (hc : Try.prog.cellsOf t = 1) : Opens El.int t := Opens.num ht hc (fun z hw => wfo_i64_bounds hw)
theorem Opens.bool {t : TypeId} (ht : Try.prog.underlying t = some .bool) (hc : Try.prog.cellsOf t = 1) : Opens El.bool t :=
  ⟨hc, fun H enc W held fuel cs x h hz => by
    obtain ⟨z, e, _⟩ := DataW.trod_bool ht h
    exact ⟨z, e⟩⟩
theorem Opens.str {t : TypeId} (ht : Try.prog.underlying t = some .string) (hc : Try.prog.cellsOf t = 1) : Opens El.str t :=
  ⟨hc, fun H enc W held fuel cs x h hz => by
    obtain ⟨z, e, _, hw⟩ := DataW.trod_string ht h
    exact ⟨z, e, hw⟩⟩
theorem Opens.via {α β : Type} {E : El α} {t : TypeId} (h : Opens E t) {f : β → α} {d : β} (hf : ∀ x, ∃ y, f y = x) : Opens (E.via f d) t :=
  ⟨h.1, fun H enc W held fuel cs x h1 hz => by
    obtain ⟨z, hz⟩ := h.2 H enc W held fuel cs x h1 hz
    obtain ⟨y, rfl⟩ := hf z
    exact ⟨y, hz⟩⟩
theorem list_of_ltG {α : Type} {d : α} {p : Nat → α → Prop} : ∀ n, (∀ i, i < n → ∃ o, p i o) → ∃ os : List α, os.length = n ∧ ∀ i, i < n → p i (os.getD i d) := by
  intro n
  induction n with
  | zero => exact fun _ => ⟨[], rfl, fun i hi => by omega⟩
  | succ n ih =>
    intro h
    obtain ⟨os, hl, ho⟩ := ih (fun i hi => h i (by omega))
    obtain ⟨o, h1⟩ := h n (by omega)
    refine ⟨os ++ [o], by simp [hl], fun i hi => ?_⟩
    by_cases hi' : i < n
    · have e : (os ++ [o]).getD i d = os.getD i d := by simp [List.getD, List.getElem?_append_left (show i < os.length by omega)]
      rw [e]
      exact ho i hi'
    · have e : i = n := by omega
      subst e
      have e : (os ++ [o]).getD i d = o := by simp [List.getD, ← hl]
      rw [e]
      exact h1
theorem weights_all {H : Type} {P : Program} {e : TypeId} {d : DataW H} : ∀ {l : List (DataW H)}, d ∈ l → ∀ {n : Nat}, n ∈ d.weights P e → n ∈ DataW.weightsAll P e l
  | c :: l, h, n, hn => by
    rw [DataW.weightsAll, List.mem_append]
    rcases List.mem_cons.1 h with h | h
    · exact .inl (by rw [← h]; exact hn)
    · exact .inr (weights_all h hn)
theorem Opens.row {α : Type} {E : El α} {t e : TypeId} (h : Opens E e) (ht : Try.prog.underlying t = some (.slice e)) (hc : Try.prog.cellsOf t = 1) (hsz : 0 < E.sz) (hby : 1 ≤ Try.prog.bytesOf e) : Opens E.row t :=
  ⟨hc, fun H enc W held fuel cs x hf hz => by
    rcases open_slice ht hf with ⟨hcs, _⟩ | ⟨ad, len, cap, m, n, D, Pl, hcs, _, hl, hm, hmm, hx, hel⟩
    · exact ⟨[], none, 0, hcs, (fun b o e1 => by cases e1), Gr.nil _ _ _ _ _ (Nat.zero_le _) (fun _ => rfl), Nat.zero_le _⟩
    · have hle : len ≤ m := by rw [hmm]; split <;> omega
      subst hx
      have hzm : ∀ i, i < len → ∀ k ∈ (D i).weights Try.prog e, k ≤ reachBytes := by
        intro i hi k hk
        refine hz k ?_
        simp only [DataW.weights, ht, List.mem_cons, List.mem_append]
        exact .inr (.inl (weights_all (List.mem_map.2 ⟨i, List.mem_range.2 hi, rfl⟩) hk))
      have hzl : len ≤ 140737488351232 := by
        have h1 := hz ((((List.range len).map D).length + ((List.range (m - len)).map fun j => D (len + j)).length) * Try.prog.bytesOf e) (by simp only [DataW.weights, ht]; exact List.mem_cons_self)
        rw [List.length_map, List.length_map, List.length_range, List.length_range] at h1
        have h2 : (len + (m - len)) * 1 ≤ (len + (m - len)) * Try.prog.bytesOf e := Nat.mul_le_mul_left _ hby
        have h3 : reachBytes = 140737488351232 := rfl
        omega
      have hone : ∀ i, i < len → ∃ o : α, ∃ vs, E.rep (fun k => k < W.heap.size) W vs o ∧ ∀ j, j < E.sz → W.cell? ((ad.add (i * E.sz)).add j) = vs[j]? := by
        intro i hi
        obtain ⟨cs', hc', ht'⟩ := hel i (by omega)
        rw [h.1] at hc'
        obtain ⟨hlen, _, hcell⟩ := World.cells?_some hc'
        obtain ⟨o, ho⟩ := h.2 H enc W held n cs' _ ht' (hzm i hi)
        refine ⟨o, cs', ho, fun j hj => ?_⟩
        have := hcell j (by omega)
        rw [this, List.getElem?_eq_getElem (by omega)]
      obtain ⟨os, hol, ho⟩ := list_of_ltG (d := E.dfl) len hone
      have key : ∀ i, i < len → ∃ b off vs, ad = ⟨b, off, none⟩ ∧ b < W.heap.size ∧ E.rep (fun k => k < W.heap.size) W vs (os.getD i E.dfl) ∧ ∀ j, j < E.sz → W.cell? ⟨b, off + i * E.sz + j, none⟩ = vs[j]? := by
        intro i hi
        obtain ⟨vs, h1, h2⟩ := ho i hi
        obtain ⟨b, off, spot⟩ := ad
        have h0 := h2 0 hsz
        have hv : 0 < vs.length := by rw [E.len h1]; exact hsz
        rw [List.getElem?_eq_getElem hv] at h0
        have hspot : spot = none := by
          obtain ⟨vs', h1', h2'⟩ := ho 0 (by omega)
          have h0' := h2' 0 hsz
          rw [List.getElem?_eq_getElem (by rw [E.len h1']; exact hsz)] at h0'
          have := World.cell?_spot h0'
          simpa [Addr.add] using this
        subst hspot
        have hadd : ∀ i, (⟨b, off, none⟩ : Addr).add i = ⟨b, off + i, none⟩ := by intro i; unfold Addr.add; split <;> simp_all
        have hadd2 : ∀ i j, ((⟨b, off, none⟩ : Addr).add i).add j = ⟨b, off + i + j, none⟩ := by intro i j; rw [hadd]; unfold Addr.add; split <;> simp_all
        have hlt := World.block_lt_of_cell? W _ h0
        rw [hadd2] at hlt
        exact ⟨b, off, vs, rfl, hlt, h1, fun j hj => by rw [← hadd2]; exact h2 j hj⟩
      refine ⟨os, some ad, cap, by rw [hcs, hol], fun b o e1 hne => ?_, ⟨by omega, hm, (fun e => by cases e), fun i hi => ?_⟩, by rw [hol]; exact hzl⟩
      · obtain ⟨b', off', _, e2, hb', _⟩ := key 0 (by have := List.length_pos_iff.2 hne; omega)
        rw [e2] at e1
        cases e1
        exact hb'
      · obtain ⟨b, off, vs, e2, hb, h1, h2⟩ := key i (by omega)
        exact ⟨b, off, vs, by rw [e2], hb, h1, h2⟩⟩
/-- Fields, one behind the other. -/
def OpensF {α : Type} (E : El α) (fs : List Field) (off : Nat) : Prop :=
  ∀ (H : Type) (enc : TypeId × Value → H) (W : World) (held : Bool) (n : Nat) (cs : List Value), (∀ f ∈ fs, ∃ y, DataW.trod enc Try.prog W 0 (fun _ => true) held n f.type ((cs.drop f.offset).take (Try.prog.cellsOf f.type)) = some y ∧ ∀ k ∈ y.1.weights Try.prog f.type, k ≤ reachBytes) →
    ∃ x : α, E.rep (fun k => k < W.heap.size) W ((cs.drop off).take E.sz) x
theorem OpensF.last {α : Type} {E : El α} {f : Field} {off : Nat} (h : Opens E f.type) (ho : f.offset = off) : OpensF E [f] off := by
  intro H enc W held n cs hy
  obtain ⟨y, hy, hz⟩ := hy f (by simp)
  rw [h.1, ho] at hy
  exact h.2 H enc W held n _ y hy hz
theorem OpensF.more {α β : Type} {E : El α} {F : El β} {f : Field} {fs : List Field} {off : Nat} (h : Opens E f.type) (ho : f.offset = off) (hs : OpensF F fs (off + E.sz)) : OpensF (E.cat F) (f :: fs) off := by
  intro H enc W held n cs hy
  obtain ⟨y, hy0, hz0⟩ := hy f (by simp)
  rw [h.1, ho] at hy0
  obtain ⟨x, hx⟩ := h.2 H enc W held n _ y hy0 hz0
  obtain ⟨z, hz⟩ := hs H enc W held n cs (fun g hg => hy g (by simp [hg]))
  refine ⟨(x, z), (cs.drop off).take E.sz, (cs.drop (off + E.sz)).take F.sz, ?_, hx, hz⟩
  show (cs.drop off).take (E.sz + F.sz) = _
  rw [List.take_add, List.drop_drop]
theorem Opens.struct {α : Type} {E : El α} {t : TypeId} {fs : Array Field} (ht : Try.prog.underlying t = some (.struct fs)) (hc : Try.prog.cellsOf t = E.sz) (h : OpensF E fs.toList 0) : Opens E t :=
  ⟨hc, fun H enc W held fuel cs x hf hz => by
    obtain ⟨xs, n, _, hx, hl, hlen, hff⟩ := DataW.trod_struct ht hf
    subst hx
    obtain ⟨y, hy⟩ := h H enc W held n cs (fun f hf' => by
      obtain ⟨i, hi, e⟩ := List.getElem_of_mem hf'
      have := hff i f (by rw [← e]; simp)
      have hix : i < xs.length := by simpa [hlen] using hi
      rw [this]
      refine ⟨xs[i]'hix, by rw [List.getElem?_eq_getElem], fun k hk => hz k ?_⟩
      simp only [DataW.weights, ht]
      refine DataW.weights_mem_each (j := i) (t := f.type) (d := (xs[i]'hix).1) ?_ ?_ k hk
      · rw [List.getElem?_map, List.getElem?_eq_getElem hi, e]
        rfl
      · rw [List.getElem?_map, List.getElem?_eq_getElem hix]
        rfl)
    rw [List.drop_zero, List.take_of_length_le (by rw [hl, hc]; exact Nat.le_refl _)] at hy
    exact ⟨y, hy⟩⟩
set_option maxRecDepth 100000 in
/-- A struct by value. -/
theorem Opens.agg {α : Type} {E : El α} {t : TypeId} (h : Opens E t) {fs : Array Field} (ht : Try.prog.underlying t = some (.struct fs)) {H : Type} {enc : TypeId × Value → H} {W : World} {held : Bool} {r : Reach} {b0 : Nat} {v : Value} {d : DataW H} {p : List MemPlace}
    (hv : Value.okWide Try.prog W r b0 t v) (hd : DataW.Trod enc Try.prog W 0 (fun _ => true) held t v d p) (hz : ∀ n ∈ d.weights Try.prog t, n ≤ reachBytes) : ∃ (cs : Array Value) (y : α), v = .agg cs ∧ E.rep (fun k => k < W.heap.size) W cs.toList y := by
  obtain ⟨cs, rfl, hsz⟩ := okWide_struct ht hv
  obtain ⟨fuel, hf⟩ := hd
  obtain ⟨y, hy⟩ := h.2 H enc W held fuel _ _ hf hz
  exact ⟨cs, y, rfl, by simpa [Value.cells] using hy⟩
set_option maxRecDepth 100000 in
/-- Anything of one cell. -/
theorem Opens.cell {α : Type} {E : El α} {t : TypeId} (h : Opens E t) {H : Type} {enc : TypeId × Value → H} {W : World} {held : Bool} {v : Value} {d : DataW H} {p : List MemPlace}
    (hd : DataW.Trod enc Try.prog W 0 (fun _ => true) held t v d p) (hz : ∀ n ∈ d.weights Try.prog t, n ≤ reachBytes) (hone : v.cells = #[v]) : ∃ y : α, E.rep (fun k => k < W.heap.size) W [v] y := by
  obtain ⟨fuel, hf⟩ := hd
  obtain ⟨y, hy⟩ := h.2 H enc W held fuel _ _ hf hz
  exact ⟨y, by simpa [hone] using hy⟩

end Go.Proofs.Ytadgifeakfcljaa

namespace Go.Proofs.Ytadgifeakfcljaa
open Go.RowKit Go.Maps
set_option linter.unusedSimpArgs false
set_option linter.unusedVariables false

/-- A row of ints of the call's own. -/
def Gi (base : Nat) (w : World) (v : Value) (l : List Int) : Prop := Gw El.int 3 base (fun _ => False) w v l
theorem Gi.nil (base : Nat) (w : World) : Gi base w (.slice none 0 0) [] := Gw.nil _ _ _ _ _
theorem Gi.lo {base : Nat} {w : World} {v : Value} {l : List Int} (h : Gi base w v l) {g : Nat} (hg : v.ownBlock = some g) : base ≤ g ∧ g < w.heap.size := Gw.lo h hg
theorem Gr.ri {S : Nat → Prop} {w : World} {a : Option Addr} {cap : Nat} {l : List Int} (h : Gr El.int S w a cap l) : Ri w a cap l := by
  have hz : ∀ i, i < l.length → I64 (l.getD i 0) := fun i hi => by
    obtain ⟨b, off, vs, e, hb, hr, hc⟩ := h.2.2.2 i hi
    exact hr.2
  refine ⟨fun z hz1 => ?_, h.1, h.2.1, ?_⟩
  · obtain ⟨i, hi, e⟩ := List.getElem_of_mem hz1
    have := hz i hi
    rw [List.getD_eq_getElem?_getD, List.getElem?_eq_getElem hi, Option.getD_some, e] at this
    exact this
  · by_cases h0 : l = []
    · exact .inl h0
    · obtain ⟨b, off, e, hb⟩ := h.blk h0
      refine .inr ⟨b, off, e, hb, fun i hi => ?_⟩
      obtain ⟨b', off', vs, e', hb', hr, hc⟩ := h.2.2.2 i hi
      rw [e] at e'
      cases e'
      have := hc 0 Nat.one_pos
      rw [hr.1, show i * El.int.sz = i from Nat.mul_one i] at this
      exact this
theorem Gi.slice {base : Nat} {w : World} {v : Value} {l : List Int} (h : Gi base w v l) : ∃ a cap, v = .slice a l.length cap ∧ Ri w a cap l ∧ ∀ b o, a = some ⟨b, o, none⟩ → base ≤ b ∧ b < w.heap.size := by
  obtain ⟨a, cap, e, hg, hb⟩ := Gw.slice h
  exact ⟨a, cap, e, hg.ri, hb⟩
theorem Gi.stay {base : Nat} {w w' : World} {v : Value} {l : List Int} (h : Gi base w v l) (hs : w.heap.size ≤ w'.heap.size) (ho : ∀ k, v.ownBlock = some k → w'.heap[k]? = w.heap[k]?) : Gi base w' v l :=
  Gw.stay h hs (fun k hk => hk.elim) ho
theorem Gi.below {base : Nat} {w w' : World} {v : Value} {l : List Int} (h : Gi base w v l) (hb : Below w.heap.size w w') : Gi base w' v l := Gw.below h hb
theorem Gi.grown {base : Nat} {w w' : World} {v : Value} {l : List Int} {r : Option Nat} (h : Gi base w v l) (hg : w.grownBy w' r) (hr : ∀ k, v.ownBlock = some k → r ≠ some k) : Gi base w' v l :=
  h.stay hg.size (fun k hk => hg.block k (h.lo hk).2 (fun e => hr k hk e.symm))
/-- Such a row, and a block of another type. -/
theorem Gi.ne {base : Nat} {w : World} {v : Value} {l : List Int} {t : TypeId} {g : Nat} {cs : List Value} (h : Gi base w v l) (hb : Bk t w g cs) (ht : t ≠ 3) : v.ownBlock ≠ some g := by
  intro e
  obtain ⟨cur, k⟩ := Gw.ty h e
  rw [hb] at k
  simp at k
  exact ht k.2
theorem Gi.set {base : Nat} {w : World} {v : Value} {l : List Int} {t : TypeId} {g : Nat} {cs : List Value} (h : Gi base w v l) (hb : Bk t w g cs) (ht : t ≠ 3) (j : Nat) (z : Value) : Gi base (w.setCell ⟨g, j, none⟩ z) v l :=
  h.stay (by simp [World.setCell]) (fun k hk => Below.heap_setCell _ _ _ _ (fun e => h.ne hb ht (by rw [hk, e])))
/-- 'append(v, z)': z is laid in a block of its own first. -/
theorem wpList_append_gi {w : World} {ops : Array Oper} {rest : List Oper} {o : Oper} {a : Act} {Q : Exit → Act → World → Prop}
    (hgd : o.guard = none) (s x : Operand) (ho : o.op = .call { callee := .builtin .append, args := #[s, x], argTypes := #[22, 22] })
    (base : Nat) (v : Value) (l : List Int) (hs : a.eval s = v) (hown : Gi base w v l) (g : Nat) (z : Int) (hx : a.eval x = .slice (some ⟨g, 0, none⟩) 1 1)
    (hg : g < w.heap.size) (c0 : w.cell? ⟨g, 0, none⟩ = some (.int .i64 z)) (hz : I64 z) (hlen : l.length + 1 ≤ 1000000) (hbase : base ≤ w.heap.size)
    (h : ∀ v' w', Gi base w' v' (l ++ [z]) → w.grownBy w' v.ownBlock → (v'.ownBlock = v.ownBlock ∨ v'.ownBlock = some w.heap.size) → wpList Try.prog ops Q rest (a.put o.dst v') w') : wpList Try.prog ops Q (o :: rest) a w := by
  refine wpList_append_el 22 3 Try.underlying22 infoA_i64 rfl Nat.one_pos (by decide) hgd s x ho base (fun _ => False) v l hs hown (some ⟨g, 0, none⟩) 1 1 [z] rfl hx ?_ hlen hbase (fun v' w' k1 k2 k3 => h v' w' k1 k2 k3)
  refine Gr.one (vs := [.int .i64 z]) ⟨rfl, hz⟩ hg (fun j hj => ?_)
  obtain rfl : j = 0 := by simp [El.int, El.num] at hj; exact hj
  exact c0

end Go.Proofs.Ytadgifeakfcljaa
