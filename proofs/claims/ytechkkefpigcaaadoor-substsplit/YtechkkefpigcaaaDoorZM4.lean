/-
  Regions that draw their order, step by step: the kit's own laws with the operation taken out of a written list. Nothing here is a walk.
  classes.Put: the walk.
  What is met, place by place (plain mathematics; the like of LawYMet's MetL, for later layers).
  Lookups that put glyphs: formed; done at a place; done in a line (plain mathematics).
-/
import Derived.Test.YtechkkefpigcaaaDoorChecked
import Derived.Deep.RegionHeld3
import Derived.WalkKit
import Derived.Test.YtechkkefpigcaaaDoorZM3
import Derived.Test.YtechkkefpigcaaaDoorZM1
namespace Go.Proofs.YtechkkefpigcaaaDoor
open Go.RowKit

/-- The operation at a place of a list. -/
def nth : List Oper → Nat → Option Oper
  | [], _ => none
  | o :: _, 0 => some o
  | _ :: l, n + 1 => nth l n
theorem nth_eq : ∀ (l : List Oper) (i : Nat), nth l i = l.toArray[i]? := by
  intro l
  induction l with
  | nil => intro i; simp [nth]
  | cons o l ih =>
    intro i
    cases i with
    | zero => simp [nth]
    | succ i => simp [nth, ih i]

theorem hTake {P : Program} {md : Region.Mode} {l : List Oper} {Q : Exit → Act → World → Prop} {S : World → Prop} {i : Nat} {o : Oper} {v : Value} {fuel : Nat} {listed : Array Bool} {a : Act} {w : World} (hi : nth l i = some o)
    (hs : Region.noSelect l.toArray = true) (hf : Region.free md l.toArray listed i = true) (hr : (Region.ready md l.toArray listed).contains i = true)
    (hQ : ∀ c a w, Q (.panic c) (a.put o.dst v) w → Q (.panic c) a w) (hy : YieldsIf P l.toArray S o v a) (hS : S w)
    (h : wpAnyH P md l.toArray Q S fuel (listed.setIfInBounds i true) (a.put o.dst v) w) : wpAnyH P md l.toArray Q S (fuel + 1) listed a w :=
  wpAnyH_take ((nth_eq l i).symm.trans hi) hs hf hr hQ hy hS h

theorem hCall {P : Program} {md : Region.Mode} {l : List Oper} {Q : Exit → Act → World → Prop} {S : World → Prop} {i : Nat} {o : Oper} {fuel : Nat} {listed : Array Bool} {a : Act} {w : World} (hi : nth l i = some o)
    (hr : Region.ready md l.toArray listed = [i]) (hw : Region.wanted o (yielded l.toArray a.tmps) = true)
    (h : ∀ K : Act → World → Prop, Shut (∀ a w, S w → (S w → wpAnyH P md l.toArray Q S fuel (listed.setIfInBounds i true) a w) → K a w) → Oper.wp P o a w K Q) :
    wpAnyH P md l.toArray Q S (fuel + 1) listed a w :=
  wpAnyH_ready hr (by simp) (AllReadyH.cons ((nth_eq l i).symm.trans hi) (fun K hK => by rw [if_pos hw]; exact h K hK) AllReadyH.nil)

theorem hCons {P : Program} {md : Region.Mode} {l : List Oper} {Q : Exit → Act → World → Prop} {S : World → Prop} {i : Nat} {o : Oper} {fuel : Nat} {listed : Array Bool} {a : Act} {w : World} {rs : List Nat} (hi : nth l i = some o)
    (hw : Region.wanted o (yielded l.toArray a.tmps) = true)
    (h : ∀ K : Act → World → Prop, Shut (∀ a w, S w → (S w → wpAnyH P md l.toArray Q S fuel (listed.setIfInBounds i true) a w) → K a w) → Oper.wp P o a w K Q)
    (hs : AllReadyH P md l.toArray Q S fuel listed a w rs) : AllReadyH P md l.toArray Q S fuel listed a w (i :: rs) :=
  AllReadyH.cons ((nth_eq l i).symm.trans hi) (fun K hK => by rw [if_pos hw]; exact h K hK) hs

/-- An operation that is carried out and only reads. -/
theorem hT {P : Program} {md : Region.Mode} {l : List Oper} {Q : Exit → Act → World → Prop} {S : World → Prop} (i : Nat) {o : Oper} {v : Value} {fuel : Nat} {listed : Array Bool} {a a2 : Act} {w : World} (hS : S w)
    (h : wpAnyH P md l.toArray Q S fuel (listed.setIfInBounds i true) a2 w)
    (hi : nth l i = some o := by rfl) (hs : Region.noSelect l.toArray = true := by kernel_rfl) (hf : Region.free md l.toArray listed i = true := by kernel_rfl) (hr : (Region.ready md l.toArray listed).contains i = true := by kernel_rfl)
    (hQ : ∀ c a w, Q (.panic c) (a.put o.dst v) w → Q (.panic c) a w := by exact fun _ _ _ h => h) (hw : Region.wanted o (yielded l.toArray a.tmps) = true := by rfl)
    (hy : ∀ w9, S w9 → (execOp a.eval o).run P w9 = .ok (.value v) w9 := by intro w9 hSw; (try dsimp only at hSw); go_simp; try with_reducible rfl)
    (ha : a.put o.dst v = a2 := by (try simp only [Act.put, List.setIfInBounds_toArray, List.set_cons_zero, List.set_cons_succ]); try rfl) : wpAnyH P md l.toArray Q S (fuel + 1) listed a w := by
  subst ha
  exact wpAnyH_take ((nth_eq l i).symm.trans hi) hs hf hr hQ (Or.inl ⟨hw, hy⟩) hS h

/-- An operation that is not wanted. -/
theorem hN {P : Program} {md : Region.Mode} {l : List Oper} {Q : Exit → Act → World → Prop} {S : World → Prop} (i : Nat) {o : Oper} {fuel : Nat} {listed : Array Bool} {a a2 : Act} {w : World} (hS : S w)
    (h : wpAnyH P md l.toArray Q S fuel (listed.setIfInBounds i true) a2 w)
    (hi : nth l i = some o := by rfl) (hs : Region.noSelect l.toArray = true := by kernel_rfl) (hf : Region.free md l.toArray listed i = true := by kernel_rfl) (hr : (Region.ready md l.toArray listed).contains i = true := by kernel_rfl)
    (hQ : ∀ c a w, Q (.panic c) (a.put o.dst undef) w → Q (.panic c) a w := by exact fun _ _ _ h => h) (hw : Region.wanted o (yielded l.toArray a.tmps) = false := by rfl)
    (ha : a.put o.dst undef = a2 := by (try simp only [Act.put, List.setIfInBounds_toArray, List.set_cons_zero, List.set_cons_succ]); try rfl) : wpAnyH P md l.toArray Q S (fuel + 1) listed a w := by
  subst ha
  exact wpAnyH_take ((nth_eq l i).symm.trans hi) hs hf hr hQ (Or.inr ⟨hw, rfl⟩) hS h

end Go.Proofs.YtechkkefpigcaaaDoor

namespace Go.Proofs.YtechkkefpigcaaaDoor
open Go.RowKit Go.Maps
set_option linter.unusedSimpArgs false
set_option linter.unusedVariables false

theorem row3_gr {w : World} {g : Nat} {x y z : List Int} {ax ay az : Option Addr} {cx cy cz : Nat} (hg : g < w.heap.size)
    (c0 : w.cell? ⟨g, 0, none⟩ = some (.slice ax x.length cx)) (c1 : w.cell? ⟨g, 1, none⟩ = some (.slice ay y.length cy)) (c2 : w.cell? ⟨g, 2, none⟩ = some (.slice az z.length cz))
    (hx : Gr El.int (fun _ => True) w ax cx x) (hy : Gr El.int (fun _ => True) w ay cy y) (hz : Gr El.int (fun _ => True) w az cz z) (l1 : x.length ≤ 1000) (l2 : y.length ≤ 1000) (l3 : z.length ≤ 1000) :
    Gr El.int.row (fun _ => True) w (some ⟨g, 0, none⟩) 3 [x, y, z] := by
  refine ⟨Nat.le_refl _, by unfold maxLen; omega, (fun e => by cases e), fun i hi => ?_⟩
  have hi3 : i = 0 ∨ i = 1 ∨ i = 2 := by simp at hi; omega
  rcases hi3 with rfl | rfl | rfl
  · exact ⟨g, 0, [.slice ax x.length cx], rfl, hg, ⟨ax, cx, rfl, fun _ _ _ _ => trivial, hx, by show x.length ≤ _; omega⟩, fun j hj => by
      obtain rfl : j = 0 := by simp [El.row] at hj; exact hj
      exact c0⟩
  · exact ⟨g, 0, [.slice ay y.length cy], rfl, hg, ⟨ay, cy, rfl, fun _ _ _ _ => trivial, hy, by show y.length ≤ _; omega⟩, fun j hj => by
      obtain rfl : j = 0 := by simp [El.row] at hj; exact hj
      exact c1⟩
  · exact ⟨g, 0, [.slice az z.length cz], rfl, hg, ⟨az, cz, rfl, fun _ _ _ _ => trivial, hz, by show z.length ≤ _; omega⟩, fun j hj => by
      obtain rfl : j = 0 := by simp [El.row] at hj; exact hj
      exact c2⟩

theorem Gi.base {b b2 : Nat} {w : World} {v : Value} {l : List Int} (h : Gi b w v l) (hb : b2 ≤ b) : Gi b2 w v l := by
  obtain ⟨vss, h1, h2, h3⟩ := h
  exact ⟨vss, h1, ownsRow_monoB h2 hb, h3⟩

set_option maxHeartbeats 4000000 in
set_option maxRecDepth 100000 in
theorem cput_any (S S2 : Nat → Prop) (a : Option Addr) (ca : Nat) (L : List Int) (f t : Int) (b : Option Addr) (cb : Nat) (o : List Int) (w : World)
    (hL : Gr El.int S w a ca L) (ho : Gr El.int S2 w b cb o) (hf : I64 f) (ht : I64 t) (hl1 : L.length ≤ 1000) (hl2 : o.length ≤ 1000) :
    Calls Tryd.prog 34 #[.slice a L.length ca, .int .i64 f, .int .i64 t, .slice b o.length cb] w fun e w' => PutA L f t o w.heap.size w' e ∧ Below w.heap.size w w' := by
  have kl := hL.lenB
  obtain ⟨f1, f2⟩ := hf
  obtain ⟨t1, t2⟩ := ht
  by_cases hgood : 0 ≤ f ∧ f ≤ t ∧ t ≤ (L.length : Int)
  · obtain ⟨g1, g2, g3⟩ := hgood
    obtain ⟨p, rfl⟩ : ∃ p : Nat, f = (p : Int) := ⟨f.toNat, by omega⟩
    obtain ⟨q, rfl⟩ : ∃ q : Nat, t = (q : Int) := ⟨t.toNat, by omega⟩
    have hpq : p ≤ q := by omega
    have hqL : q ≤ L.length := by omega
    have hcap := hL.1
    have hpc : p ≤ ca := by omega
    have hqc : q ≤ ca := by omega
    have HF : Hid (puL L (p : Int) (q : Int) o = [L.take p, o, L.drop q].flatten) := by show _ = _; rw [puL_yes hpq hqL]; simp
    have d1 : decide ((p : Int) < 0) = false := decide_eq_false (by omega)
    have d2 : decide ((q : Int) < (p : Int)) = false := decide_eq_false (by omega)
    have d2n : decide (q < p) = false := decide_eq_false (by omega)
    have d3 : decide ((L.length : Int) < (q : Int)) = false := decide_eq_false (by omega)
    have d3n : decide (L.length < q) = false := decide_eq_false (by omega)
    have HT : Hid (∀ U, Below w.heap.size w U → Gr El.int (fun _ => True) U a ca (L.take p)) := fun U hU => ((hL.below hU).take p).anyI
    have HQ : Hid (∀ U, Below w.heap.size w U → Gr El.int (fun _ => True) U (if ca = q then a else a.map (fun x => x.add q)) (ca - q) (L.drop q)) := fun U hU => ((hL.below hU).cutI q hqL).anyI
    have HO : Hid (∀ U, Below w.heap.size w U → Gr El.int (fun _ => True) U b cb o) := fun U hU => (ho.below hU).anyI
    have HLP : Hid ((L.take p).length = p) := by show _ = _; rw [List.length_take]; omega
    have HLD : Hid ((L.drop q).length = L.length - q) := by show _ = _; rw [List.length_drop]
    have hlp1 : (L.take p).length ≤ 1000 := by rw [List.length_take]; omega
    have hlq1 : (L.drop q).length ≤ 1000 := by rw [List.length_drop]; omega
    obtain ⟨P, hP⟩ : ∃ P, L.take p = P := ⟨_, rfl⟩
    obtain ⟨D, hD⟩ : ∃ D, L.drop q = D := ⟨_, rfl⟩
    rw [hP] at HT HF HLP hlp1
    rw [hD] at HQ HF HLD hlq1
    clear hL ho hP hD
    by_cases hc : ca = q
    · subst hc
      rw [if_pos rfl, Nat.sub_self] at HQ
      have hq0 : L.length - ca = 0 := by omega
      rw [hq0] at HLD
      go_enter Tryd.func34, Tryd.ntmps34
      go_wp2_with fail
      refine wp_region_held_drew (S := fun _ => True) (by kernel_rfl) trivial (fun hHeld => ?_)
      have hdr : Below w.heap.size w w.drew := (Below.refl _ _).drew
      generalize w.drew = Z at hdr hHeld ⊢
      refine hT 0 hHeld ?_
      refine hT 1 hHeld ?_
      refine hT 2 hHeld ?_
      refine hT 3 hHeld ?_
      refine hT 4 hHeld ?_
      refine hT 5 hHeld ?_
      refine hT 6 hHeld ?_
      refine hCall (i := 7) rfl (by kernel_rfl) (by rfl) (fun K hK => ?_)
      go_simp
      obtain ⟨W, hW, X3, hbW⟩ : ∃ W, W = Z.alloc (.cells #[.slice a p ca, .slice b o.length cb, .slice a 0 0] 23) ∧ Bk 23 W Z.heap.size [.slice a p ca, .slice b o.length cb, .slice a 0 0] ∧ Below Z.heap.size Z W := ⟨_, rfl, Bk.new _ _ _, bl1 _⟩
      rw [← hW]
      have hBW := hdr.trans (hbW.mono hdr.size)
      obtain ⟨q0, q1, q2, -⟩ := X3.three
      have hG3 : Gr El.int.row (fun _ => True) W (some ⟨Z.heap.size, 0, none⟩) 3 [P, o, D] := row3_gr X3.lt (by rw [HLP.out]; exact q0) q1 (by rw [HLD.out]; exact q2) (HT.out W hBW) (HO.out W hBW) (HQ.out W hBW) hlp1 hl2 hlq1
      have hcc : Calls Tryd.prog 44 #[.slice (some ⟨Z.heap.size, 0, none⟩) 3 3] W fun e w' => RowI (puL L (p : Int) (ca : Int) o) W.heap.size w' e ∧ Below W.heap.size W w' := by
        rw [HF.out]
        exact cconcatI_any (fun _ => True) (some ⟨Z.heap.size, 0, none⟩) 3 [P, o, D] W hG3 (by simp; omega)
      clear hW hG3 X3 hbW hdr q0 q1 q2
      refine hK.out _ _ trivial (fun hHeld => ?_)
      clear hK K
      try simp only [Act.put, List.setIfInBounds_toArray, List.set_cons_zero, List.set_cons_succ]
      refine hCall (i := 8) rfl (by kernel_rfl) (by rfl) (fun K hK => ?_)
      go_simp
      refine hcc.mono ?_
      rintro e u ⟨⟨v, rfl, hv⟩, hbu⟩
      have hBu := hBW.trans (hbu.mono hBW.size)
      have HV : Hid (PutA L (p : Int) (ca : Int) o w.heap.size u (.returned v)) := ⟨v, rfl, hv.base hBW.size⟩
      clear hv hbu hcc hBW
      go_wp2_with fail
      refine hK.out _ _ trivial (fun hHeld => ?_)
      clear hK K
      try simp only [Act.put, List.setIfInBounds_toArray, List.set_cons_zero, List.set_cons_succ]
      refine hT 9 hHeld ?_
      refine wpAnyH_done (by kernel_rfl) ?_ _
      go_wp2
      go_ret
      exact ⟨HV.out, hBu⟩
    · rw [if_neg hc] at HQ
      go_enter Tryd.func34, Tryd.ntmps34
      go_wp2_with fail
      refine wp_region_held_drew (S := fun _ => True) (by kernel_rfl) trivial (fun hHeld => ?_)
      have hdr : Below w.heap.size w w.drew := (Below.refl _ _).drew
      generalize w.drew = Z at hdr hHeld ⊢
      refine hT 0 hHeld ?_
      refine hT 1 hHeld ?_
      refine hT 2 hHeld ?_
      refine hT 3 hHeld ?_
      refine hT 4 hHeld ?_
      refine hT 5 hHeld ?_
      refine hT 6 hHeld ?_
      refine hCall (i := 7) rfl (by kernel_rfl) (by rfl) (fun K hK => ?_)
      go_simp
      obtain ⟨W, hW, X3, hbW⟩ : ∃ W, W = Z.alloc (.cells #[.slice a p ca, .slice b o.length cb, .slice (Option.map (fun x => x.add q) a) (L.length - q) (ca - q)] 23) ∧ Bk 23 W Z.heap.size [.slice a p ca, .slice b o.length cb, .slice (Option.map (fun x => x.add q) a) (L.length - q) (ca - q)] ∧ Below Z.heap.size Z W := ⟨_, rfl, Bk.new _ _ _, bl1 _⟩
      rw [← hW]
      have hBW := hdr.trans (hbW.mono hdr.size)
      obtain ⟨q0, q1, q2, -⟩ := X3.three
      have hG3 : Gr El.int.row (fun _ => True) W (some ⟨Z.heap.size, 0, none⟩) 3 [P, o, D] := row3_gr X3.lt (by rw [HLP.out]; exact q0) q1 (by rw [HLD.out]; exact q2) (HT.out W hBW) (HO.out W hBW) (HQ.out W hBW) hlp1 hl2 hlq1
      have hcc : Calls Tryd.prog 44 #[.slice (some ⟨Z.heap.size, 0, none⟩) 3 3] W fun e w' => RowI (puL L (p : Int) (q : Int) o) W.heap.size w' e ∧ Below W.heap.size W w' := by
        rw [HF.out]
        exact cconcatI_any (fun _ => True) (some ⟨Z.heap.size, 0, none⟩) 3 [P, o, D] W hG3 (by simp; omega)
      clear hW hG3 X3 hbW hdr q0 q1 q2
      refine hK.out _ _ trivial (fun hHeld => ?_)
      clear hK K
      try simp only [Act.put, List.setIfInBounds_toArray, List.set_cons_zero, List.set_cons_succ]
      refine hCall (i := 8) rfl (by kernel_rfl) (by rfl) (fun K hK => ?_)
      go_simp
      refine hcc.mono ?_
      rintro e u ⟨⟨v, rfl, hv⟩, hbu⟩
      have hBu := hBW.trans (hbu.mono hBW.size)
      have HV : Hid (PutA L (p : Int) (q : Int) o w.heap.size u (.returned v)) := ⟨v, rfl, hv.base hBW.size⟩
      clear hv hbu hcc hBW
      go_wp2_with fail
      refine hK.out _ _ trivial (fun hHeld => ?_)
      clear hK K
      try simp only [Act.put, List.setIfInBounds_toArray, List.set_cons_zero, List.set_cons_succ]
      refine hT 9 hHeld ?_
      refine wpAnyH_done (by kernel_rfl) ?_ _
      go_wp2
      go_ret
      exact ⟨HV.out, hBu⟩
  · have HF : Hid (puL L f t o = L) := puL_no hgood
    have hcl := fun U (hU : Below w.heap.size w U) => ccloneI_any S a ca L U (hL.below hU) hl1
    have HV : Hid (∀ e U, RowI L w.heap.size U e → PutA L f t o w.heap.size U e) := fun e U h => ⟨by rw [HF.out]; exact h.out⟩
    by_cases b1 : f < 0
    · have d1 : decide (f < 0) = true := decide_eq_true b1
      clear hgood hL ho b1
      go_enter Tryd.func34, Tryd.ntmps34
      go_wp2_with fail
      refine (hcl _ (Below.refl _ _)).mono ?_
      rintro e u ⟨⟨v, rfl, hv⟩, hbu⟩
      clear hcl
      go_wp2
      go_ret
      exact ⟨HV.out _ _ ⟨v, rfl, hv⟩, hbu⟩
    have d1 : decide (f < 0) = false := decide_eq_false b1
    by_cases b2 : t < f
    · have d2 : decide (t < f) = true := decide_eq_true b2
      clear hgood hL ho b1 b2
      go_enter Tryd.func34, Tryd.ntmps34
      go_wp2_with fail
      refine (hcl _ (Below.refl _ _)).mono ?_
      rintro e u ⟨⟨v, rfl, hv⟩, hbu⟩
      clear hcl
      go_wp2
      go_ret
      exact ⟨HV.out _ _ ⟨v, rfl, hv⟩, hbu⟩
    have d2 : decide (t < f) = false := decide_eq_false b2
    have d3 : decide ((L.length : Int) < t) = true := decide_eq_true (by omega)
    clear hgood hL ho b1 b2
    go_enter Tryd.func34, Tryd.ntmps34
    go_wp2_with fail
    refine (hcl _ (Below.refl _ _)).mono ?_
    rintro e u ⟨⟨v, rfl, hv⟩, hbu⟩
    clear hcl
    go_wp2
    go_ret
    exact ⟨HV.out _ _ ⟨v, rfl, hv⟩, hbu⟩

end Go.Proofs.YtechkkefpigcaaaDoor

namespace Go.Proofs.YtechkkefpigcaaaDoor
set_option linter.unusedSimpArgs false
set_option linter.unusedVariables false

structure MeR (ms : List Bool) (L : List Int) (sk : Bool) (i : Int) (A l : List Int) : Prop where
  len : l.length = A.length
  pos : 0 < l.length
  fst : l.getD 0 0 = i
  pl : plB L i = true
  ok : ∀ k, k < l.length → ∃ m : Nat, l.getD k 0 = (m : Int) ∧ m < L.length ∧ L.getD m 0 = A.getD k 0 ∧ ∀ j, j + 1 = k → l.getD j 0 < (m : Int)
theorem me_r {ms : List Bool} {L : List Int} {sk : Bool} {i : Int} {A l : List Int} (h : meQ ms L sk i A = some l) : MeR ms L sk i A l := by
  cases A with
  | nil => cases h
  | cons g t =>
    by_cases hc : plB L i = true ∧ L.getD i.toNat 0 = g
    · rw [meQ, if_pos hc] at h
      cases hr : meF ms L sk i t with
      | none => rw [hr] at h; cases h
      | some r =>
        rw [hr] at h
        have hl : i :: r = l := by injection h
        subst hl
        have hM := meF_met t i r hc.1 hr
        have hp := plB_iff.1 hc.1
        refine ⟨by rw [List.length_cons, List.length_cons, hM.len], Nat.succ_pos _, rfl, hc.1, fun k hk => ?_⟩
        cases k with
        | zero => exact ⟨i.toNat, by show i = _; omega, by omega, hc.2, fun j hj => by omega⟩
        | succ k =>
          have hk' : k < r.length := by simpa using hk
          obtain ⟨o1, o2, o3, o4⟩ := hM.ok k hk'
          have e1 : (i :: r).getD (k + 1) 0 = r.getD k 0 := rfl
          have e2 : (i :: r).getD k 0 = if k = 0 then i else r.getD (k - 1) 0 := by
            cases k with
            | zero => rfl
            | succ k => rfl
          refine ⟨(r.getD k 0).toNat, by rw [e1]; omega, by omega, o2, fun j hj => ?_⟩
          obtain rfl : j = k := by omega
          rw [e2]
          omega
    · rw [meQ, if_neg hc] at h
      cases h
/-- The places rise by at least one each. -/
theorem MeR.gap {ms : List Bool} {L : List Int} {sk : Bool} {i : Int} {A l : List Int} (h : MeR ms L sk i A l) {j : Nat} : ∀ d, j + d < l.length → l.getD j 0 + (d : Int) ≤ l.getD (j + d) 0 := by
  intro d
  induction d with
  | zero => intro _; simp
  | succ d ih =>
    intro hd
    have h1 := ih (by omega)
    obtain ⟨m, e, _, _, h2⟩ := h.ok (j + d + 1) (by omega)
    have h3 := h2 (j + d) rfl
    rw [show j + (d + 1) = j + d + 1 by omega, e]
    omega
theorem MeR.lo {ms : List Bool} {L : List Int} {sk : Bool} {i : Int} {A l : List Int} (h : MeR ms L sk i A l) {k : Nat} (hk : k < l.length) : i + (k : Int) ≤ l.getD k 0 := by
  have := h.gap (j := 0) k (by omega)
  rw [h.fst, Nat.zero_add] at this
  exact this
theorem MeR.hi {ms : List Bool} {L : List Int} {sk : Bool} {i : Int} {A l : List Int} (h : MeR ms L sk i A l) {k : Nat} (hk : k < l.length) : l.getD k 0 + (l.length : Int) ≤ (L.length : Int) + (k : Int) := by
  have h1 := h.gap (j := k) (l.length - 1 - k) (by omega)
  obtain ⟨m, e, hm, _⟩ := h.ok (k + (l.length - 1 - k)) (by omega)
  rw [e] at h1
  omega

end Go.Proofs.YtechkkefpigcaaaDoor

namespace Go.Proofs.YtechkkefpigcaaaDoor
set_option linter.unusedSimpArgs false
set_option linter.unusedVariables false

/-- A rule. -/
structure Ru where
  inn : List Int
  out : List Int
  ap : Int
  lk : Int
  x : Int × Int
  y : Int × Int
  w : Int × Int
def Ru.none : Ru := ⟨[], [], 0, 0, (0, 0), (0, 0), (0, 0)⟩
/-- A lookup. -/
structure Lk where
  kd : Int
  sk : Bool
  rs : List Ru
def Lk.none : Lk := ⟨0, false, []⟩
/-- A lookup that puts glyphs. -/
def puB (k : Int) : Bool := decide (1 ≤ k) && decide (k ≤ 4)
theorem puB_iff {k : Int} : puB k = true ↔ k = 1 ∨ k = 2 ∨ k = 3 ∨ k = 4 := by unfold puB; rw [Bool.and_eq_true, decide_eq_true_iff, decide_eq_true_iff]; omega
/-- Glyphs, from a to b of them. -/
def gyB (g z : Int) : Bool := decide (0 ≤ z) && decide (z < g)
theorem gyB_iff {g z : Int} : gyB g z = true ↔ 0 ≤ z ∧ z < g := by unfold gyB; rw [Bool.and_eq_true, decide_eq_true_iff, decide_eq_true_iff]
def alB (l : List Int) (g : Int) (a b : Nat) : Bool := l.all (gyB g) && (decide (a ≤ l.length) && decide (l.length ≤ b))
theorem alB_iff {l : List Int} {g : Int} {a b : Nat} : alB l g a b = true ↔ (∀ z ∈ l, 0 ≤ z ∧ z < g) ∧ a ≤ l.length ∧ l.length ≤ b := by
  unfold alB
  rw [Bool.and_eq_true, Bool.and_eq_true, decide_eq_true_iff, decide_eq_true_iff, List.all_eq_true]
  constructor
  · rintro ⟨h1, h2⟩
    exact ⟨fun z hz => gyB_iff.1 (h1 z hz), h2⟩
  · rintro ⟨h1, h2⟩
    exact ⟨fun z hz => gyB_iff.2 (h1 z hz), h2⟩
/-- The slots are zero. -/
def zsB (r : Ru) : Bool := decide (r.x = (0, 0)) && (decide (r.y = (0, 0)) && decide (r.w = (0, 0)))
/-- What a context's rule has besides. -/
def cxB (l : List Lk) (r : Ru) : Bool := decide (r.out.length = 0) && (decide (0 ≤ r.ap) && (decide (r.ap < (r.inn.length : Int)) && (decide (0 ≤ r.lk) && (decide (r.lk < (l.length : Int)) && puB (l.getD r.lk.toNat Lk.none).kd))))
/-- A rule is formed. -/
def ruB (l : List Lk) (kd : Int) (r : Ru) (g : Int) : Bool :=
  zsB r && (if kd = 4 then alB r.inn g 1 8 && cxB l r
    else (decide (r.ap = 0) && decide (r.lk = 0)) && (if kd = 1 then alB r.inn g 1 1 && alB r.out g 1 1 else if kd = 2 then alB r.inn g 1 1 && alB r.out g 0 8 else alB r.inn g 2 8 && alB r.out g 1 1))
/-- A lookup is formed. -/
def loB (l : List Lk) (g : Int) (x : Lk) : Bool := !puB x.kd || (decide (x.rs.length ≤ 40) && x.rs.all (fun r => ruB l x.kd r g))
def foU (l : List Lk) (g : Int) : Bool := decide (l.length ≤ 10) && l.all (loB l g)
theorem foU_iff {l : List Lk} {g : Int} : foU l g = true ↔ l.length ≤ 10 ∧ ∀ k, k < l.length → loB l g (l.getD k Lk.none) = true := by
  unfold foU
  rw [Bool.and_eq_true, decide_eq_true_iff, List.all_eq_true]
  constructor
  · rintro ⟨h1, h2⟩
    exact ⟨h1, fun k hk => h2 _ (by rw [List.getD_eq_getElem?_getD, List.getElem?_eq_getElem hk]; exact List.getElem_mem hk)⟩
  · rintro ⟨h1, h2⟩
    refine ⟨h1, fun x hx => ?_⟩
    obtain ⟨k, hk, e⟩ := List.getElem_of_mem hx
    have := h2 k hk
    rw [List.getD_eq_getElem?_getD, List.getElem?_eq_getElem hk, Option.getD_some, e] at this
    exact this
theorem foU_long {l : List Lk} {g : Int} (h : 10 < l.length) : foU l g = false := by
  unfold foU
  rw [decide_eq_false (by omega)]
  rfl
theorem foU_bad {l : List Lk} {g : Int} {k : Nat} (hk : k < l.length) (h : loB l g (l.getD k Lk.none) = false) : foU l g = false := by
  cases hf : foU l g with
  | false => rfl
  | true => rw [(foU_iff.1 hf).2 k hk] at h; cases h
theorem loB_iff {l : List Lk} {g : Int} {x : Lk} (h : puB x.kd = true) : loB l g x = true ↔ x.rs.length ≤ 40 ∧ ∀ k, k < x.rs.length → ruB l x.kd (x.rs.getD k Ru.none) g = true := by
  unfold loB
  rw [h]
  simp only [Bool.not_true, Bool.false_or]
  rw [Bool.and_eq_true, decide_eq_true_iff, List.all_eq_true]
  constructor
  · rintro ⟨h1, h2⟩
    exact ⟨h1, fun k hk => h2 _ (by rw [List.getD_eq_getElem?_getD, List.getElem?_eq_getElem hk]; exact List.getElem_mem hk)⟩
  · rintro ⟨h1, h2⟩
    refine ⟨h1, fun x hx => ?_⟩
    obtain ⟨k, hk, e⟩ := List.getElem_of_mem hx
    have := h2 k hk
    rw [List.getD_eq_getElem?_getD, List.getElem?_eq_getElem hk, Option.getD_some, e] at this
    exact this
theorem loB_other {l : List Lk} {g : Int} {x : Lk} (h : puB x.kd = false) : loB l g x = true := by unfold loB; rw [h]; rfl
theorem loB_long {l : List Lk} {g : Int} {x : Lk} (h : puB x.kd = true) (hl : 40 < x.rs.length) : loB l g x = false := by
  cases hf : loB l g x with
  | false => rfl
  | true => have := ((loB_iff h).1 hf).1; omega
theorem loB_bad {l : List Lk} {g : Int} {x : Lk} {k : Nat} (h : puB x.kd = true) (hk : k < x.rs.length) (hr : ruB l x.kd (x.rs.getD k Ru.none) g = false) : loB l g x = false := by
  cases hf : loB l g x with
  | false => rfl
  | true => rw [((loB_iff h).1 hf).2 k hk] at hr; cases hr
/-- What a formed rule is. -/
structure RuF (l : List Lk) (kd : Int) (r : Ru) (g : Int) : Prop where
  inn : ∀ z ∈ r.inn, 0 ≤ z ∧ z < g
  il : 1 ≤ r.inn.length ∧ r.inn.length ≤ 8
  out : ∀ z ∈ r.out, 0 ≤ z ∧ z < g
  ol : r.out.length ≤ 8
  one : kd = 1 → r.inn.length = 1 ∧ r.out.length = 1
  two : kd = 2 → r.inn.length = 1
  lig : kd = 3 → 2 ≤ r.inn.length ∧ r.out.length = 1
  cx : kd = 4 → r.out.length = 0 ∧ 0 ≤ r.ap ∧ r.ap < (r.inn.length : Int) ∧ 0 ≤ r.lk ∧ r.lk < (l.length : Int) ∧ puB (l.getD r.lk.toNat Lk.none).kd = true
theorem ru_f {l : List Lk} {kd : Int} {r : Ru} {g : Int} (hk : puB kd = true) (h : ruB l kd r g = true) : RuF l kd r g := by
  unfold ruB at h
  rw [Bool.and_eq_true] at h
  obtain ⟨_, h⟩ := h
  have hk4 := puB_iff.1 hk
  by_cases h4 : kd = 4
  · rw [if_pos h4, Bool.and_eq_true] at h
    obtain ⟨h1, h2⟩ := h
    obtain ⟨a1, a2, a3⟩ := alB_iff.1 h1
    unfold cxB at h2
    simp only [Bool.and_eq_true, decide_eq_true_iff] at h2
    obtain ⟨b1, b2, b3, b4, b5, b6⟩ := h2
    have ho : r.out = [] := List.length_eq_zero_iff.1 b1
    exact ⟨a1, ⟨a2, a3⟩, (fun z hz => by rw [ho] at hz; cases hz), by omega, fun e => by omega, fun e => by omega, fun e => by omega, fun _ => ⟨b1, b2, b3, b4, b5, b6⟩⟩
  · rw [if_neg h4, Bool.and_eq_true] at h
    obtain ⟨_, h⟩ := h
    by_cases h1 : kd = 1
    · rw [if_pos h1, Bool.and_eq_true] at h
      obtain ⟨a1, a2, a3⟩ := alB_iff.1 h.1
      obtain ⟨b1, b2, b3⟩ := alB_iff.1 h.2
      exact ⟨a1, ⟨a2, by omega⟩, b1, by omega, fun _ => ⟨by omega, by omega⟩, fun e => by omega, fun e => by omega, fun e => absurd e h4⟩
    · rw [if_neg h1] at h
      by_cases h2 : kd = 2
      · rw [if_pos h2, Bool.and_eq_true] at h
        obtain ⟨a1, a2, a3⟩ := alB_iff.1 h.1
        obtain ⟨b1, b2, b3⟩ := alB_iff.1 h.2
        exact ⟨a1, ⟨a2, by omega⟩, b1, b3, fun e => absurd e h1, fun _ => by omega, fun e => by omega, fun e => absurd e h4⟩
      · rw [if_neg h2, Bool.and_eq_true] at h
        obtain ⟨a1, a2, a3⟩ := alB_iff.1 h.1
        obtain ⟨b1, b2, b3⟩ := alB_iff.1 h.2
        exact ⟨a1, ⟨by omega, a3⟩, b1, by omega, fun e => absurd e h1, fun e => absurd e h2, fun _ => ⟨a2, by omega⟩, fun e => absurd e h4⟩

theorem ru_mem {l : List Lk} {g : Int} (hf : foU l g = true) {k : Nat} (hk : k < l.length) (hp : puB (l.getD k Lk.none).kd = true) {r : Ru} (hr : r ∈ (l.getD k Lk.none).rs) : RuF l (l.getD k Lk.none).kd r g := by
  have h := (foU_iff.1 hf).2 k hk
  unfold loB at h
  rw [hp] at h
  simp only [Bool.not_true, Bool.false_or] at h
  rw [Bool.and_eq_true, List.all_eq_true] at h
  exact ru_f hp (h.2 r hr)

/-- The others of a ligature are taken away, the last one first. -/
def taF (L : List Int) : List Int → List Int
  | [] => L
  | z :: t => puL (taF L t) z (z + 1) []
/-- A rule that is met. -/
def apF (f : Int → Int → List Int) (kd : Int) (L : List Int) (i : Int) (r : Ru) (m : List Int) : List Int × Int :=
  if kd = 4 then (f r.lk (m.getD r.ap.toNat 0), max (m.getD (m.length - 1) 0 + 1 + ((f r.lk (m.getD r.ap.toNat 0)).length : Int) - (L.length : Int)) i)
  else if kd = 3 then (puL (taF L m.tail) i (i + 1) r.out, i + 1)
  else (puL L i (i + 1) r.out, i + (r.out.length : Int))
/-- By the first rule that is met. -/
def rsF (f : Int → Int → List Int) (kd : Int) (sk : Bool) (ms : List Bool) (L : List Int) (i : Int) : List Ru → Option (List Int × Int)
  | [] => Option.none
  | r :: t => match meQ ms L sk i r.inn with
    | Option.none => rsF f kd sk ms L i t
    | some m => some (apF f kd L i r m)
/-- A lookup done at a place; n: how many may still be under way within it. -/
def duF (l : List Lk) (ms : List Bool) : Nat → Nat → List Int → Int → Option (List Int × Int)
  | 0, k, L, i => if (l.getD k Lk.none).sk && mkB ms (L.getD i.toNat 0) then Option.none else rsF (fun _ _ => L) (l.getD k Lk.none).kd (l.getD k Lk.none).sk ms L i (l.getD k Lk.none).rs
  | n + 1, k, L, i => if (l.getD k Lk.none).sk && mkB ms (L.getD i.toNat 0) then Option.none
    else rsF (fun q z => ((duF l ms n q.toNat L z).map Prod.fst).getD L) (l.getD k Lk.none).kd (l.getD k Lk.none).sk ms L i (l.getD k Lk.none).rs
/-- What comes of it: the line, where to go on, whether it was done. -/
def duL (l : List Lk) (ms : List Bool) (n k : Nat) (L : List Int) (i : Int) : List Int := ((duF l ms n k L i).map Prod.fst).getD L
def duO (l : List Lk) (ms : List Bool) (n k : Nat) (L : List Int) (i : Int) : Int := ((duF l ms n k L i).map Prod.snd).getD i
def duB (l : List Lk) (ms : List Bool) (n k : Nat) (L : List Int) (i : Int) : Bool := (duF l ms n k L i).isSome
/-- What a context does within. -/
def inF (l : List Lk) (ms : List Bool) (n : Nat) (L : List Int) (q z : Int) : List Int := match n with
  | 0 => L
  | n + 1 => duL l ms n q.toNat L z
theorem duF_eq (l : List Lk) (ms : List Bool) (n k : Nat) (L : List Int) (i : Int) : duF l ms n k L i = if (l.getD k Lk.none).sk && mkB ms (L.getD i.toNat 0) then Option.none else rsF (inF l ms n L) (l.getD k Lk.none).kd (l.getD k Lk.none).sk ms L i (l.getD k Lk.none).rs := by
  cases n with
  | zero => rfl
  | succ n => rfl
theorem rsF_skip {f : Int → Int → List Int} {kd : Int} {sk : Bool} {ms : List Bool} {L : List Int} {i : Int} {rs : List Ru} {k : Nat} (hk : k < rs.length) (h : meQ ms L sk i (rs.getD k Ru.none).inn = Option.none) : rsF f kd sk ms L i (rs.drop k) = rsF f kd sk ms L i (rs.drop (k + 1)) := by
  rw [List.drop_eq_getElem_cons hk, rsF]
  rw [List.getD_eq_getElem?_getD, List.getElem?_eq_getElem hk, Option.getD_some] at h
  rw [h]
theorem rsF_met {f : Int → Int → List Int} {kd : Int} {sk : Bool} {ms : List Bool} {L : List Int} {i : Int} {rs : List Ru} {k : Nat} (hk : k < rs.length) {m : List Int} (h : meQ ms L sk i (rs.getD k Ru.none).inn = some m) : rsF f kd sk ms L i (rs.drop k) = some (apF f kd L i (rs.getD k Ru.none) m) := by
  rw [List.drop_eq_getElem_cons hk, rsF]
  rw [List.getD_eq_getElem?_getD, List.getElem?_eq_getElem hk, Option.getD_some] at h ⊢
  rw [h]
theorem rsF_end {f : Int → Int → List Int} {kd : Int} {sk : Bool} {ms : List Bool} {L : List Int} {i : Int} {rs : List Ru} : rsF f kd sk ms L i (rs.drop rs.length) = Option.none := by rw [List.drop_length]; rfl
/-- Whatever comes out of a list of rules was met by one of them. -/
theorem rsF_of {f : Int → Int → List Int} {kd : Int} {sk : Bool} {ms : List Bool} {L : List Int} {i : Int} : ∀ {rs : List Ru} {p : List Int × Int}, rsF f kd sk ms L i rs = some p → ∃ r ∈ rs, ∃ m, meQ ms L sk i r.inn = some m ∧ p = apF f kd L i r m := by
  intro rs
  induction rs with
  | nil => intro p h; cases h
  | cons r t ih =>
    intro p h
    rw [rsF] at h
    cases hm : meQ ms L sk i r.inn with
    | none =>
      rw [hm] at h
      obtain ⟨r', h1, h2⟩ := ih h
      exact ⟨r', List.mem_cons_of_mem _ h1, h2⟩
    | some m =>
      rw [hm] at h
      injection h with h
      exact ⟨r, List.mem_cons_self .., m, hm, h.symm⟩

end Go.Proofs.YtechkkefpigcaaaDoor
