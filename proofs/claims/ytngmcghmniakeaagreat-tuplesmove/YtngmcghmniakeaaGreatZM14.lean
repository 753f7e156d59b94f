/-
  Tuples: which are formed, and the exact numbers at coordinates (plain mathematics).
  How tents, tuples and shapes lie in a world.
  infer.fields, infer.nearest: the walks.
  infer.inferred: the walk.
-/
import Derived.Test.YtngmcghmniakeaaGreatZM13
import Derived.Test.YtngmcghmniakeaaGreatZM7
import Derived.Test.YtngmcghmniakeaaGreatZM6
import Derived.Test.YtngmcghmniakeaaGreatZM8
import Derived.Test.YtngmcghmniakeaaGreatZM10
import Derived.Deep.CutRange
set_option maxHeartbeats 2000000
set_option maxRecDepth 100000
set_option linter.unusedSimpArgs false
set_option linter.unusedVariables false
namespace Go.Proofs.YtngmcghmniakeaaGreat
structure Tu where
 rg : List Te
 al : Bool
 pts : List Int
 dx : List Int
 dy : List Int
def Tu.none : Tu := ⟨[], false, [], [], []⟩
def nmB (t : Tu) (n : Nat) : Bool := if t.al then decide (t.pts.length = 0 ∧ t.dx.length = n ∧ t.dy.length = n) else (decide (0 < t.pts.length) && (risB t.pts n && decide (t.dx.length = t.pts.length ∧ t.dy.length = t.pts.length)))
def tuB (t : Tu) (n : Nat) (ax : Int) : Bool := rgB t.rg ax && (nmB t n && (t.dx.all fdB && t.dy.all fdB))
def foT (o : Ol) (l : List Tu) (ax : Int) : Bool := foB o && (decide (0 ≤ ax ∧ ax ≤ 4) && (decide (l.length ≤ 40) && l.all (fun t => tuB t (cntO o) ax)))
def nmd (t : Tu) : List Int := if t.al then allI t.dx.length else t.pts
theorem tuB_iff {t : Tu} {n : Nat} {ax : Int} : tuB t n ax = true ↔ rgB t.rg ax = true ∧ nmB t n = true ∧ t.dx.all fdB = true ∧ t.dy.all fdB = true := by
 unfold tuB
 simp only [Bool.and_eq_true]
theorem foT_iff {o : Ol} {l : List Tu} {ax : Int} : foT o l ax = true ↔ foB o = true ∧ (0 ≤ ax ∧ ax ≤ 4) ∧ l.length ≤ 40 ∧ ∀ k, k < l.length → tuB (l.getD k Tu.none) (cntO o) ax = true := by
 unfold foT
 simp only [Bool.and_eq_true, decide_eq_true_iff, List.all_eq_true]
 constructor
 · rintro ⟨h1, h2, h3, h4⟩
   exact ⟨h1, h2, h3, fun k hk => h4 _ (by rw [List.getD_eq_getElem?_getD, List.getElem?_eq_getElem hk]; exact List.getElem_mem hk)⟩
 · rintro ⟨h1, h2, h3, h4⟩
   refine ⟨h1, h2, h3, fun t ht => ?_⟩
   obtain ⟨k, hk, e⟩ := List.getElem_of_mem ht
   have := h4 k hk
   rw [List.getD_eq_getElem?_getD, List.getElem?_eq_getElem hk, Option.getD_some, e] at this
   exact this
theorem foT_no {o : Ol} {l : List Tu} {ax : Int} (h : ¬ (foB o = true ∧ (0 ≤ ax ∧ ax ≤ 4) ∧ l.length ≤ 40 ∧ ∀ k, k < l.length → tuB (l.getD k Tu.none) (cntO o) ax = true)) : foT o l ax = false := by
 cases hf : foT o l ax with
 | false => rfl
 | true => exact absurd (foT_iff.1 hf) h
theorem nmB_all {t : Tu} {n : Nat} (ha : t.al = true) : nmB t n = true ↔ t.pts = [] ∧ t.dx.length = n ∧ t.dy.length = n := by
 unfold nmB
 rw [if_pos ha, decide_eq_true_iff, List.length_eq_zero_iff]
theorem nmB_some {t : Tu} {n : Nat} (ha : t.al = false) : nmB t n = true ↔ 0 < t.pts.length ∧ risB t.pts n = true ∧ t.dx.length = t.pts.length ∧ t.dy.length = t.pts.length := by
 unfold nmB
 rw [if_neg (by rw [ha]; decide)]
 simp only [Bool.and_eq_true, decide_eq_true_iff]
theorem nmd_len {t : Tu} {n : Nat} (h : nmB t n = true) : t.dx.length = (nmd t).length ∧ t.dy.length = (nmd t).length := by
 cases ha : t.al with
 | true =>
  obtain ⟨_, h2, h3⟩ := (nmB_all ha).1 h
  unfold nmd
  rw [if_pos ha, allI_len]
  exact ⟨rfl, by omega⟩
 | false =>
  obtain ⟨_, _, h2, h3⟩ := (nmB_some ha).1 h
  unfold nmd
  rw [if_neg (by rw [ha]; decide)]
  exact ⟨h2, h3⟩
theorem nmd_ris {t : Tu} {n : Nat} (h : nmB t n = true) : risB (nmd t) n = true := by
 cases ha : t.al with
 | true =>
  obtain ⟨_, h2, h3⟩ := (nmB_all ha).1 h
  unfold nmd
  rw [if_pos ha, h2]
  exact allI_ris n
 | false =>
  obtain ⟨_, h1, _, _⟩ := (nmB_some ha).1 h
  unfold nmd
  rw [if_neg (by rw [ha]; decide)]
  exact h1
theorem tu_fits {o : Ol} {t : Tu} {ax : Int} (hf : foB o = true) (h : tuB t (cntO o) ax = true) : spB o (nmd t) t.dx t.dy = true := by
 obtain ⟨h1, h2, h3, h4⟩ := tuB_iff.1 h
 unfold spB
 rw [hf, nmd_ris h2, decide_eq_true (nmd_len h2).1, decide_eq_true (nmd_len h2).2, h3, h4]
 rfl
theorem rise_le {pts : List Int} {n : Nat} (h : risB pts n = true) : pts.length ≤ n := by
 have hk : ∀ k, k < pts.length → (k : Int) ≤ pts.getD k 0 := by
  intro k
  induction k with
  | zero => intro hk; exact (risP_nonneg 0 (fun j hj => risB_iff.1 h j (by omega))).1
  | succ k ih =>
   intro hk
   have h1 := ih (by omega)
   have h2 := risB_iff.1 h (k + 1) hk
   unfold risP lastI at h2
   rw [if_neg (by omega), Nat.add_sub_cancel] at h2
   omega
 by_cases h0 : pts.length = 0
 · omega
 · have h1 := hk (pts.length - 1) (by omega)
   have h2 := (risB_iff.1 h (pts.length - 1) (by omega)).2
   omega
theorem cnt_le {o : Ol} (h : foB o = true) : cntO o ≤ 86 := by
 have hf := foB_iff.1 h
 have h1 := hf.2.2.1
 have h2 := hf.2.2.2.2.1
 unfold cntO
 omega
theorem conQ_len {f : Pn → Int} {cs : List (List Pn)} {lay : List Int} {tch : List Bool} (hl : lay.length = cs.flatten.length) (ht : tch.length = cs.flatten.length) (h80 : cs.flatten.length ≤ 80) (hf : ∀ p ∈ cs.flatten, -32768 ≤ f p ∧ f p ≤ 32767) (hd : ∀ z ∈ lay, -32768 ≤ z ∧ z ≤ 32767) : ∀ k, k ≤ cs.length → (conQ f cs lay tch k).length = ofC cs k := by
 intro k
 induction k with
 | zero => intro _; simp [conQ, ofC]
 | succ k ih =>
  intro hk
  have hs := ofC_succ (cs := cs) (k := k) (by omega)
  have hle := ofC_le cs (k + 1)
  rw [conQ_succ, List.length_append, ih (by omega), hs]
  congr 1
  obtain ⟨c, hc⟩ : ∃ c, cs.getD k [] = c := ⟨_, rfl⟩
  have hcm : ∀ p ∈ c, p ∈ cs.flatten := fun p hp => by
   have h9 := flat_cut cs k (by omega)
   rw [hc] at h9; rw [← h9] at hp
   exact List.mem_of_mem_drop (List.mem_of_mem_take hp)
  rw [hc] at hs ⊢
  have e1 : ((lay.drop (ofC cs k)).take c.length).length = c.length := by rw [List.length_take, List.length_drop]; omega
  have e2 : ((tch.drop (ofC cs k)).take c.length).length = c.length := by rw [List.length_take, List.length_drop]; omega
  have hF : fitB (c.map f) ((tch.drop (ofC cs k)).take c.length) ((lay.drop (ofC cs k)).take c.length) = true := fitB_iff.2 ⟨⟨by rw [e2, List.length_map], by rw [e1, List.length_map], by rw [List.length_map]; omega⟩, fun z hz => by
   obtain ⟨p, hp, rfl⟩ := List.mem_map.1 hz
   exact hf p (hcm p hp), fun z hz => hd z (List.mem_of_mem_drop (List.mem_of_mem_take hz))⟩
  unfold segF
  rw [hc, fillQ_len hF, List.length_map]
theorem spQ_len {f : Pn → Int} {o : Ol} {pts told : List Int} (hfo : FoP o) (hf : ∀ p ∈ o.cs.flatten, -32768 ≤ f p ∧ f p ≤ 32767) (hd : ∀ z ∈ told, -32768 ≤ z ∧ z ≤ 32767) : (spQ f o pts told).length = cntO o := by
 by_cases hp : 0 < o.ps.length
 · rw [spQ_parts hp, List.length_map, layI_len]
 · have hc : cntO o = o.cs.flatten.length := by unfold cntO; omega
   rw [spQ_cons hp, conQ_len (by rw [layI_len, hc]) (by rw [tchI_len, hc]) hfo.2.2.2.2.1 hf (layI_fd hd _) _ (Nat.le_refl _), ofC_all, hc]
def baQ (f : Pn → Int) (g : Pa → Int) (o : Ol) : List Int := o.cs.flatten.map f ++ o.ps.map g
theorem baQ_len (f : Pn → Int) (g : Pa → Int) (o : Ol) : (baQ f g o).length = cntO o := by unfold baQ cntO; rw [List.length_append, List.length_map, List.length_map]; omega
def tqC (f : Pn → Int) (tl : Tu → List Int) (o : Ol) (cs : List Int) (i : Nat) (t : Tu) : Rat := (spQ f o (nmd t) (tl t)).getD i 0 * alQ t.rg cs
def exN (f : Pn → Int) (g : Pa → Int) (tl : Tu → List Int) (o : Ol) (l : List Tu) (cs : List Int) (i : Nat) : Rat := (((baQ f g o).getD i 0 : Int) : Rat) + suQ (l.map (tqC f tl o cs i))
def exL (f : Pn → Int) (g : Pa → Int) (tl : Tu → List Int) (o : Ol) (l : List Tu) (cs : List Int) : List Rat := (List.range (cntO o)).map (exN f g tl o l cs)
theorem exL_len (f : Pn → Int) (g : Pa → Int) (tl : Tu → List Int) (o : Ol) (l : List Tu) (cs : List Int) : (exL f g tl o l cs).length = cntO o := by unfold exL; rw [List.length_map, List.length_range]
theorem exL_get {f : Pn → Int} {g : Pa → Int} {tl : Tu → List Int} {o : Ol} {l : List Tu} {cs : List Int} {i : Nat} (hi : i < cntO o) : (exL f g tl o l cs).getD i 0 = exN f g tl o l cs i := by unfold exL; simp [List.getD, hi]
theorem exN_nil (f : Pn → Int) (g : Pa → Int) (tl : Tu → List Int) (o : Ol) (cs : List Int) (i : Nat) : exN f g tl o [] cs i = (((baQ f g o).getD i 0 : Int) : Rat) := by
 unfold exN
 rw [List.map_nil, suQ, Rat.add_zero]
theorem exN_snoc (f : Pn → Int) (g : Pa → Int) (tl : Tu → List Int) (o : Ol) (l : List Tu) (t : Tu) (cs : List Int) (i : Nat) : exN f g tl o (l ++ [t]) cs i = exN f g tl o l cs i + (spQ f o (nmd t) (tl t)).getD i 0 * alQ t.rg cs := by
 unfold exN
 rw [List.map_append, List.map_cons, List.map_nil, suQ_append, suQ_one, Rat.add_assoc]
 rfl
def trm (ds : List Rat) (p : Rat) (j : Nat) : List Rat := if ds.getD j 0 = 0 then [] else [ds.getD j 0 * p]
def adK (T : List (List Rat)) (ds : List Rat) (p : Rat) : Nat → List (List Rat)
 | 0 => T
 | j + 1 => (adK T ds p j).set j ((adK T ds p j).getD j [] ++ trm ds p j)
theorem adK_len (T : List (List Rat)) (ds : List Rat) (p : Rat) (j : Nat) : (adK T ds p j).length = T.length := by
 induction j with
 | zero => rfl
 | succ j ih => rw [adK, List.length_set, ih]
theorem adK_get (T : List (List Rat)) (ds : List Rat) (p : Rat) (j i : Nat) (hi : i < T.length) : (adK T ds p j).getD i [] = if i < j then T.getD i [] ++ trm ds p i else T.getD i [] := by
 induction j with
 | zero => rw [if_neg (by omega)]; rfl
 | succ j ih =>
  rw [adK]
  by_cases e : i = j
  · subst e
    rw [if_pos (by omega)]
    have h1 : ((adK T ds p i).set i ((adK T ds p i).getD i [] ++ trm ds p i)).getD i [] = (adK T ds p i).getD i [] ++ trm ds p i := by simp [List.getD, adK_len, hi]
    rw [h1, ih, if_neg (by omega)]
  · have h1 : ((adK T ds p j).set j ((adK T ds p j).getD j [] ++ trm ds p j)).getD i [] = (adK T ds p j).getD i [] := by simp [List.getD, List.getElem?_set_ne (fun x => e x.symm)]
    rw [h1, ih]
    by_cases h : i < j
    · rw [if_pos h, if_pos (by omega)]
    · rw [if_neg h, if_neg (by omega)]
theorem trm_sum (ds : List Rat) (p : Rat) (j : Nat) : suQ (trm ds p j) = ds.getD j 0 * p := by
 unfold trm
 by_cases h : ds.getD j 0 = 0
 · rw [if_pos h, h, suQ, Rat.zero_mul]
 · rw [if_neg h, suQ_one]
theorem trm_len (ds : List Rat) (p : Rat) (j : Nat) : (trm ds p j).length ≤ 1 := by unfold trm; split <;> simp
def TmI (f : Pn → Int) (g : Pa → Int) (tl : Tu → List Int) (o : Ol) (l : List Tu) (cs : List Int) (k : Nat) (T : List (List Rat)) : Prop :=
 T.length = cntO o ∧ ∀ i, i < cntO o → 1 ≤ (T.getD i []).length ∧ (T.getD i []).length ≤ k + 1 ∧ suQ (T.getD i []) = exN f g tl o (l.take k) cs i
theorem TmI.start (f : Pn → Int) (g : Pa → Int) (tl : Tu → List Int) (o : Ol) (l : List Tu) (cs : List Int) : TmI f g tl o l cs 0 ((baQ f g o).map (fun z : Int => [(z : Rat)])) := by
 refine ⟨by rw [List.length_map, baQ_len], fun i hi => ?_⟩
 have hi' : i < (baQ f g o).length := by rw [baQ_len]; exact hi
 have e : ((baQ f g o).map (fun z : Int => [(z : Rat)])).getD i [] = [(((baQ f g o).getD i 0 : Int) : Rat)] := by simp [List.getD, hi']
 rw [e, List.take_zero, exN_nil, suQ_one]
 exact ⟨by simp, by simp, rfl⟩
theorem TmI.skip {f : Pn → Int} {g : Pa → Int} {tl : Tu → List Int} {o : Ol} {l : List Tu} {cs : List Int} {k : Nat} {T : List (List Rat)} (h : TmI f g tl o l cs k T) (hk : k < l.length) (h0 : alQ (l.getD k Tu.none).rg cs = 0) : TmI f g tl o l cs (k + 1) T := by
 refine ⟨h.1, fun i hi => ?_⟩
 obtain ⟨h1, h2, h3⟩ := h.2 i hi
 refine ⟨h1, by omega, ?_⟩
 rw [take_snoc (d := Tu.none) hk, exN_snoc, h0, Rat.mul_zero, Rat.add_zero]
 exact h3
theorem TmI.step {f : Pn → Int} {g : Pa → Int} {tl : Tu → List Int} {o : Ol} {l : List Tu} {cs : List Int} {k : Nat} {T : List (List Rat)} (h : TmI f g tl o l cs k T) (hk : k < l.length) (hl : (spQ f o (nmd (l.getD k Tu.none)) (tl (l.getD k Tu.none))).length = cntO o) : TmI f g tl o l cs (k + 1) (adK T (spQ f o (nmd (l.getD k Tu.none)) (tl (l.getD k Tu.none))) (alQ (l.getD k Tu.none).rg cs) (spQ f o (nmd (l.getD k Tu.none)) (tl (l.getD k Tu.none))).length) := by
 refine ⟨by rw [adK_len]; exact h.1, fun i hi => ?_⟩
 obtain ⟨h1, h2, h3⟩ := h.2 i hi
 rw [adK_get _ _ _ _ _ (by rw [h.1]; exact hi), if_pos (by rw [hl]; exact hi), List.length_append, suQ_append, trm_sum, h3, take_snoc (d := Tu.none) hk, exN_snoc]
 have := trm_len (spQ f o (nmd (l.getD k Tu.none)) (tl (l.getD k Tu.none))) (alQ (l.getD k Tu.none).rg cs) i
 exact ⟨by omega, by omega, rfl⟩
theorem TmI.end {f : Pn → Int} {g : Pa → Int} {tl : Tu → List Int} {o : Ol} {l : List Tu} {cs : List Int} {T : List (List Rat)} (h : TmI f g tl o l cs l.length T) : T.map suQ = exL f g tl o l cs := by
 refine List.ext_getElem (by rw [List.length_map, exL_len, h.1]) (fun i h1 h2 => ?_)
 have hi : i < cntO o := by rw [exL_len] at h2; exact h2
 have h3 := (h.2 i hi).2.2
 rw [List.take_length] at h3
 have e1 : (T.map suQ)[i] = suQ (T.getD i []) := by rw [List.getElem_map]; simp [List.getD, show i < T.length by rw [h.1]; exact hi]
 have e2 := exL_get (f := f) (g := g) (tl := tl) (l := l) (cs := cs) hi
 rw [List.getD_eq_getElem?_getD, List.getElem?_eq_getElem h2, Option.getD_some] at e2
 rw [e1, h3, e2]
def rnB (qs : List Rat) : Bool := qs.all (fun q => decide (fldE (q + 1 / 2).floor = 0))
def rnN (q : Rat) : Int := fldN (q + 1 / 2).floor
def rnL (qs : List Rat) : List Int := if rnB qs = true then qs.map rnN else []
def rnE (qs : List Rat) : Int := if rnB qs = true then 0 else 4
theorem fldE_two (z : Int) : fldE z = 0 ∨ fldE z = 4 := by unfold fldE; split <;> simp
theorem rnB_no {qs : List Rat} {k : Nat} (hk : k < qs.length) (h : fldE (qs.getD k 0 + 1 / 2).floor ≠ 0) : rnB qs = false := by
 unfold rnB
 refine List.all_eq_false.2 ⟨qs.getD k 0, by rw [List.getD_eq_getElem?_getD, List.getElem?_eq_getElem hk]; exact List.getElem_mem hk, by rw [decide_eq_true_iff]; exact h⟩
theorem rnB_yes {qs : List Rat} (h : ∀ k, k < qs.length → fldE (qs.getD k 0 + 1 / 2).floor = 0) : rnB qs = true := by
 unfold rnB
 refine List.all_eq_true.2 (fun q hq => ?_)
 obtain ⟨k, hk, e⟩ := List.getElem_of_mem hq
 have := h k hk
 rw [List.getD_eq_getElem?_getD, List.getElem?_eq_getElem hk, Option.getD_some, e] at this
 rw [decide_eq_true_iff]
 exact this
theorem rnN_i64 (q : Rat) : -32768 ≤ rnN q ∧ rnN q ≤ 32767 := by unfold rnN fldN; split <;> omega
def reP (cs : List (List Pn)) (nx ny : List Int) (i j : Nat) : Pn := ⟨nx.getD (ofC cs i + j) 0, ny.getD (ofC cs i + j) 0, ((cs.getD i []).getD j Pn.none).on⟩
def reC (cs : List (List Pn)) (nx ny : List Int) (i : Nat) : List Pn := (List.range (cs.getD i []).length).map (reP cs nx ny i)
def reA (n : Nat) (ps : List Pa) (nx ny : List Int) (j : Nat) : Pa := ⟨(ps.getD j Pa.none).g, nx.getD (n + j) 0, ny.getD (n + j) 0⟩
def reO (o : Ol) (nx ny : List Int) : Ol := ⟨(List.range o.cs.length).map (reC o.cs nx ny), (List.range o.ps.length).map (reA o.cs.flatten.length o.ps nx ny)⟩
def atOk (o : Ol) (l : List Tu) (cs : List Int) : Bool := foT o l (cs.length : Int) && (rnB (exL Pn.x Pa.dx Tu.dx o l cs) && rnB (exL Pn.y Pa.dy Tu.dy o l cs))
def atO (o : Ol) (l : List Tu) (cs : List Int) : Ol := if atOk o l cs = true then reO o ((exL Pn.x Pa.dx Tu.dx o l cs).map rnN) ((exL Pn.y Pa.dy Tu.dy o l cs).map rnN) else Ol.none
def atE (o : Ol) (l : List Tu) (cs : List Int) : Int := if foT o l (cs.length : Int) = true then (if atOk o l cs = true then 0 else 4) else 1
open Go.RowKit Go.Maps
def TeE : El Te := (El.int.cat (El.int.cat El.int)).via (fun t => (t.st, t.pk, t.en)) Te.none
def teV (t : Te) : List Value := [.int .i64 t.st, .int .i64 t.pk, .int .i64 t.en]
theorem TeE_rep {S : Nat → Prop} {w : World} {vs : List Value} {p : Te} : TeE.rep S w vs p ↔ vs = teV p ∧ Tw p := by
 constructor
 · rintro ⟨us, ts, rfl, ⟨rfl, h1⟩, us2, ts2, rfl, ⟨rfl, h2⟩, ⟨rfl, h3⟩⟩
   exact ⟨rfl, h1, h2, h3⟩
 · rintro ⟨rfl, h1, h2, h3⟩
   exact ⟨[_], _, rfl, ⟨rfl, h1⟩, [_], [_], rfl, ⟨rfl, h2⟩, ⟨rfl, h3⟩⟩
theorem Gr.tz {S : Nat → Prop} {w : World} {a : Option Addr} {cap : Nat} {l : List Te} (h : Gr TeE S w a cap l) : Tz w a cap l := by
 refine ⟨h.1, h.2.1, fun t ht => ?_, h.2.2.1, fun i hi => ?_⟩
 · obtain ⟨i, hi, e⟩ := List.getElem_of_mem ht
   obtain ⟨b, off, vs, e1, hb, hr, hc⟩ := h.2.2.2 i hi
   have h2 := (TeE_rep.1 hr).2
   rw [List.getD_eq_getElem?_getD, List.getElem?_eq_getElem hi, Option.getD_some, e] at h2
   exact h2
 · obtain ⟨b, off, vs, e1, hb, hr, hc⟩ := h.2.2.2 i hi
   obtain ⟨rfl, h2⟩ := TeE_rep.1 hr
   exact ⟨b, off, e1, hb, hc 0 (by decide), hc 1 (by decide), hc 2 (by decide)⟩
def TuE : El Tu := (TeE.row.cat (El.bool.cat (El.int.row.cat (El.int.row.cat El.int.row)))).via (fun t => (t.rg, t.al, t.pts, t.dx, t.dy)) Tu.none
def TuC (S : Nat → Prop) (w : World) (ra : Option Addr) (rc : Nat) (pa : Option Addr) (pc : Nat) (xa : Option Addr) (xc : Nat) (ya : Option Addr) (yc : Nat) (t : Tu) : Prop :=
 TeE.row.rep S w [.slice ra t.rg.length rc] t.rg ∧ El.int.row.rep S w [.slice pa t.pts.length pc] t.pts ∧ El.int.row.rep S w [.slice xa t.dx.length xc] t.dx ∧ El.int.row.rep S w [.slice ya t.dy.length yc] t.dy
theorem TuE_rep {S : Nat → Prop} {w : World} {vs : List Value} {t : Tu} : TuE.rep S w vs t ↔ ∃ ra rc pa pc xa xc ya yc, vs = [.slice ra t.rg.length rc, .bool t.al, .slice pa t.pts.length pc, .slice xa t.dx.length xc, .slice ya t.dy.length yc] ∧ TuC S w ra rc pa pc xa xc ya yc t := by
 constructor
 · rintro ⟨us, ts, rfl, h1, us2, ts2, rfl, h2, us3, ts3, rfl, h3, us4, ts4, rfl, h4, h5⟩
   have h2 : us2 = [.bool t.al] := h2
   subst h2
   have r1 := h1
   obtain ⟨ra, rc, e1, _⟩ := h1
   have r3 := h3
   obtain ⟨pa, pc, e3, _⟩ := h3
   have r4 := h4
   obtain ⟨xa, xc, e4, _⟩ := h4
   have r5 := h5
   obtain ⟨ya, yc, e5, _⟩ := h5; subst e1 e3 e4 e5
   exact ⟨ra, rc, pa, pc, xa, xc, ya, yc, rfl, r1, r3, r4, r5⟩
 · rintro ⟨ra, rc, pa, pc, xa, xc, ya, yc, rfl, h1, h2, h3, h4⟩
   exact ⟨_, _, rfl, h1, [.bool t.al], _, rfl, rfl, _, _, rfl, h2, _, _, rfl, h3, h4⟩
theorem row_rep {α : Type} {E : El α} {S : Nat → Prop} {w : World} {a : Option Addr} {c : Nat} {l : List α} (h : E.row.rep S w [.slice a l.length c] l) : Gr E S w a c l ∧ l.length ≤ 140737488351232 := by
 obtain ⟨a', c', e, _, h1, h2⟩ := h; injection e with e; injection e with e1 e2 e3; subst e1 e3
 exact ⟨h1, h2⟩
theorem TuC.tz {S : Nat → Prop} {w : World} {ra : Option Addr} {rc : Nat} {pa : Option Addr} {pc : Nat} {xa : Option Addr} {xc : Nat} {ya : Option Addr} {yc : Nat} {t : Tu} (h : TuC S w ra rc pa pc xa xc ya yc t) : Tz w ra rc t.rg := (row_rep h.1).1.tz
theorem TuC.pts {S : Nat → Prop} {w : World} {ra : Option Addr} {rc : Nat} {pa : Option Addr} {pc : Nat} {xa : Option Addr} {xc : Nat} {ya : Option Addr} {yc : Nat} {t : Tu} (h : TuC S w ra rc pa pc xa xc ya yc t) : Ri w pa pc t.pts := (row_rep h.2.1).1.ri
theorem TuC.dx {S : Nat → Prop} {w : World} {ra : Option Addr} {rc : Nat} {pa : Option Addr} {pc : Nat} {xa : Option Addr} {xc : Nat} {ya : Option Addr} {yc : Nat} {t : Tu} (h : TuC S w ra rc pa pc xa xc ya yc t) : Ri w xa xc t.dx := (row_rep h.2.2.1).1.ri
theorem TuC.dy {S : Nat → Prop} {w : World} {ra : Option Addr} {rc : Nat} {pa : Option Addr} {pc : Nat} {xa : Option Addr} {xc : Nat} {ya : Option Addr} {yc : Nat} {t : Tu} (h : TuC S w ra rc pa pc xa xc ya yc t) : Ri w ya yc t.dy := (row_rep h.2.2.2).1.ri
theorem TuC.below {S : Nat → Prop} {w w' : World} {ra : Option Addr} {rc : Nat} {pa : Option Addr} {pc : Nat} {xa : Option Addr} {xc : Nat} {ya : Option Addr} {yc : Nat} {t : Tu} (h : TuC S w ra rc pa pc xa xc ya yc t) (hb : Below w.heap.size w w') : TuC S w' ra rc pa pc xa xc ya yc t :=
 ⟨TeE.row.stay h.1 hb.size (fun k hk hl => ⟨hk, hb.block k hl⟩), El.int.row.stay h.2.1 hb.size (fun k hk hl => ⟨hk, hb.block k hl⟩), El.int.row.stay h.2.2.1 hb.size (fun k hk hl => ⟨hk, hb.block k hl⟩), El.int.row.stay h.2.2.2 hb.size (fun k hk hl => ⟨hk, hb.block k hl⟩)⟩
theorem TuC.len {S : Nat → Prop} {w : World} {ra : Option Addr} {rc : Nat} {pa : Option Addr} {pc : Nat} {xa : Option Addr} {xc : Nat} {ya : Option Addr} {yc : Nat} {t : Tu} (h : TuC S w ra rc pa pc xa xc ya yc t) : t.rg.length ≤ 140737488351232 ∧ t.pts.length ≤ 140737488351232 ∧ t.dx.length ≤ 140737488351232 ∧ t.dy.length ≤ 140737488351232 := ⟨(row_rep h.1).2, (row_rep h.2.1).2, (row_rep h.2.2.1).2, (row_rep h.2.2.2).2⟩
theorem Gr.tu {S : Nat → Prop} {w wr : World} {a : Option Addr} {cap : Nat} {l : List Tu} (h : Gr TuE S w a cap l) (hb : Below w.heap.size w wr) (k : Nat) (hk : k < l.length) :
    ∃ b off ra rc pa pc xa xc ya yc, a = some ⟨b, off, none⟩ ∧ b < w.heap.size ∧ TuC S wr ra rc pa pc xa xc ya yc (l.getD k Tu.none) ∧
     wr.cell? ⟨b, off + k * 5, none⟩ = some (.slice ra (l.getD k Tu.none).rg.length rc) ∧ wr.cell? ⟨b, off + k * 5 + 1, none⟩ = some (.bool (l.getD k Tu.none).al) ∧ wr.cell? ⟨b, off + k * 5 + 2, none⟩ = some (.slice pa (l.getD k Tu.none).pts.length pc) ∧ wr.cell? ⟨b, off + k * 5 + 3, none⟩ = some (.slice xa (l.getD k Tu.none).dx.length xc) ∧ wr.cell? ⟨b, off + k * 5 + 4, none⟩ = some (.slice ya (l.getD k Tu.none).dy.length yc) := by
 obtain ⟨b, off, vs, e, h1, hr, hc⟩ := h.at hb k hk
 obtain ⟨ra, rc, pa, pc, xa, xc, ya, yc, rfl, ht⟩ := TuE_rep.1 hr
 exact ⟨b, off, ra, rc, pa, pc, xa, xc, ya, yc, e, h1, ht, hc 0 (by decide), hc 1 (by decide), hc 2 (by decide), hc 3 (by decide), hc 4 (by decide)⟩
theorem Bk.five {t : TypeId} {w : World} {g : Nat} {x y z u v : Value} (h : Bk t w g [x, y, z, u, v]) : w.cell? ⟨g, 0, none⟩ = some x ∧ w.cell? ⟨g, 1, none⟩ = some y ∧ w.cell? ⟨g, 2, none⟩ = some z ∧ w.cell? ⟨g, 3, none⟩ = some u ∧ w.cell? ⟨g, 4, none⟩ = some v ∧ w.frozen? ⟨g, 0, none⟩ = false ∧ w.frozen? ⟨g, 1, none⟩ = false ∧ w.frozen? ⟨g, 2, none⟩ = false ∧ w.frozen? ⟨g, 3, none⟩ = false ∧ w.frozen? ⟨g, 4, none⟩ = false :=
 ⟨h.cell 0 (by simp), h.cell 1 (by simp), h.cell 2 (by simp), h.cell 3 (by simp), h.cell 4 (by simp), h.fz 0, h.fz 1, h.fz 2, h.fz 3, h.fz 4⟩
theorem ifields_any (a : Option Addr) (cap : Nat) (r : List Int) (w : World) (h : Ri w a cap r) :
    Calls Tryz.prog 71 #[.slice a r.length cap] w fun e w' => e = .returned (.bool (r.all fdB)) ∧ w = w' := by
 have k2 := h.lenB
 have HH : Hid (Ri w a cap r) := h
 clear h
 go_enter Tryz.func71, Tryz.ntmps71
 go_wp2
 go_loopw [7] (fun i wr => ∃ k : Nat, k ≤ r.length ∧ i = .int .i64 k ∧ (∀ j, j < k → fdB (r.getD j 0) = true) ∧ w = wr) (fun i _ => r.length - (intOf i).toNat)
 case atStart => exact ⟨0, Nat.zero_le _, rfl, (fun j hj => by omega), rfl⟩
 case round =>
  obtain ⟨k, hk, rfl, hok, rfl⟩ := hrel
  have HOK : Hid (∀ j, j < k → fdB (r.getD j 0) = true) := hok
  clear hok
  by_cases hkn : k < r.length
  · obtain ⟨b, off, ea, hb, d0⟩ := HH.out.at (Below.refl _ _) k hkn
    subst ea
    obtain ⟨z, hzz⟩ : ∃ z, r.getD k 0 = z := ⟨_, rfl⟩
    have HZ : Hid (r.getD k 0 = z) := hzz
    rw [hzz] at d0
    have i1 : (0 : Int) ≤ (k : Int) := by omega
    have i2 : (k : Int) < (r.length : Int) := by omega
    have hw1 := wrap64_16 z
    have hw2 := wrap16_fd' z
    clear hzz
    cases hf : fdB z with
    | false =>
     have HF : Hid (r.all fdB = false) := all_no' hkn (by rw [HZ.out]; exact hf)
     rw [hf] at hw2; clear hf HZ HOK; go_wp2
     go_ret
     exact ⟨rt_bool HF.out.symm, rfl⟩
    | true =>
     have HOK2 : Hid (∀ j, j < k + 1 → fdB (r.getD j 0) = true) := upto_succ HOK.out (by rw [HZ.out]; exact hf)
     rw [hf] at hw2; clear hf HZ HOK; go_wp2
     go_roundw
     case rel => exact ⟨k + 1, by omega, by go_num, HOK2.out, trivial⟩
     case measure => simp [intOf]; omega
  · obtain rfl : k = r.length := by omega
    have HF : Hid (r.all fdB = true) := all_yes' HOK.out
    have g1 : ¬ (r.length : Int) < (r.length : Int) := by omega
    clear HOK; go_wp2
    go_ret
    exact ⟨rt_bool HF.out.symm, rfl⟩
def Rl (w : World) (a : Option Addr) (cap : Nat) (ts : List Bool) : Prop := Gr El.bool (fun _ => False) w a cap ts
theorem Rl.of {S : Nat → Prop} {w : World} {a : Option Addr} {cap : Nat} {ts : List Bool} (h : Gr El.bool S w a cap ts) : Rl w a cap ts := ⟨h.1, h.2.1, h.2.2.1, h.2.2.2⟩
theorem Rl.lenB {w : World} {a : Option Addr} {cap : Nat} {ts : List Bool} (h : Rl w a cap ts) : ts.length ≤ 9223372036854775807 := Gr.lenB h
theorem Rl.below {w w' : World} {a : Option Addr} {cap : Nat} {ts : List Bool} (h : Rl w a cap ts) (hb : Below w.heap.size w w') : Rl w' a cap ts := Gr.below h hb
theorem Rl.at {w wr : World} {a : Option Addr} {cap : Nat} {ts : List Bool} (h : Rl w a cap ts) (hb : Below w.heap.size w wr) (k : Nat) (hk : k < ts.length) : ∃ b off, a = some ⟨b, off, none⟩ ∧ b < w.heap.size ∧ wr.cell? ⟨b, off + k, none⟩ = some (.bool (ts.getD k false)) := by
 obtain ⟨b, off, vs, e, hb1, hr, hc⟩ := Gr.at h hb k hk
 have := hc 0 Nat.one_pos
 rw [show vs = [.bool (ts.getD k false)] from hr, show k * El.bool.sz = k from Nat.mul_one k] at this
 exact ⟨b, off, e, hb1, this⟩
theorem rem_nat (x n : Nat) : Int.tmod (x : Int) (n : Int) = ((x % n : Nat) : Int) := by
 rw [Int.tmod_eq_emod_of_nonneg (by omega)]; rfl
theorem nearW_any (f r : Nat → Nat) (s i : Nat) (a : Option Addr) (cap : Nat) (ts : List Bool) (w : World) (h : Rl w a cap ts) (hi : i < ts.length) (hl : ts.length ≤ 1000000) (hs : s ≤ 1000000)
    (f0 : (i + s) % ts.length = f 0) (f1 : ∀ k, k + 1 < ts.length → (f k + s) % ts.length = f (k + 1)) (f2 : ∀ k, k < ts.length → f k < ts.length) (f3 : ∀ k, k < ts.length - 1 → f k ≠ i) (f4 : f (ts.length - 1) = i) (f5 : ∀ k, k < ts.length → r (f k) = k) :
    Calls Tryz.prog 192 #[.slice a ts.length cap, .int .i64 (i : Int), .int .i64 (s : Int)] w fun e w' => e = .returned (.tuple #[.int .i64 (((nbT ts f (ts.length - 1)).getD 0 : Nat) : Int), .bool (nbT ts f (ts.length - 1)).isSome]) ∧ w = w' := by
 have HF0 : Hid ((i + s) % ts.length = f 0) := f0
 have HF1 : Hid (∀ k, k + 1 < ts.length → (f k + s) % ts.length = f (k + 1)) := f1
 have HF2 : Hid (∀ k, k < ts.length → f k < ts.length) := f2
 have HF3 : Hid (∀ k, k < ts.length - 1 → f k ≠ i) := f3
 have HF4 : Hid (f (ts.length - 1) = i) := f4
 have HF5 : Hid (∀ k, k < ts.length → r (f k) = k) := f5
 have HH : Hid (Rl w a cap ts) := h
 obtain ⟨n, hn⟩ : ∃ n, ts.length = n := ⟨_, rfl⟩
 have HN : Hid (ts.length = n) := hn
 rw [hn] at hi hl f0 ⊢
 have q0 := rem_nat (i + s) n
 rw [f0] at q0
 have hf0 : f 0 < n := by have := f2 0 (by omega); omega
 have hadd : ((i + s : Nat) : Int) = (i : Int) + (s : Int) := by omega
 rw [hadd] at q0
 have g0 : ¬ ((n : Int) = 0) := by omega
 clear hn h f0 f1 f2 f3 f4 hadd
 go_enter Tryz.func192, Tryz.ntmps192
 go_wp2
 go_loopw [9] (fun v wr => ∃ k : Nat, k < n ∧ v = .int .i64 ((f k : Nat) : Int) ∧ (∀ j, j < k → ts.getD (f j) false = false) ∧ w = wr) (fun v _ => n - r (intOf v).toNat)
 case atStart => exact ⟨0, by omega, rfl, (fun j hj => by omega), rfl⟩
 case round =>
  obtain ⟨k, hk, rfl, hok, rfl⟩ := hrel
  have HOK : Hid (∀ j, j < k → ts.getD (f j) false = false) := hok
  have hfk : f k < n := by have := HF2.out k (by rw [HN.out]; exact hk); rw [HN.out] at this; exact this
  clear hok q0 hf0
  by_cases hkn : k < n - 1
  · have hne : f k ≠ i := HF3.out k (by rw [HN.out]; exact hkn)
    obtain ⟨b, off, ea, hb, d0⟩ := HH.out.at (Below.refl _ _) (f k) (by rw [HN.out]; exact hfk)
    subst ea
    obtain ⟨z, hzz⟩ : ∃ z, ts.getD (f k) false = z := ⟨_, rfl⟩
    rw [hzz] at d0
    have hnx := HF1.out k (by rw [HN.out]; omega)
    have hf1 : f (k + 1) < n := by have := HF2.out (k + 1) (by rw [HN.out]; omega); rw [HN.out] at this; exact this
    have hr0 : r (f k) = k := HF5.out k (by rw [HN.out]; omega)
    have hr1 : r (f (k + 1)) = k + 1 := HF5.out (k + 1) (by rw [HN.out]; omega)
    have HR : Hid (r (f k) = k ∧ r (f (k + 1)) = k + 1) := ⟨hr0, hr1⟩
    rw [HN.out] at hnx
    have q1 := rem_nat (f k + s) n
    rw [hnx] at q1
    have hadd : ((f k + s : Nat) : Int) = ((f k : Nat) : Int) + (s : Int) := by omega
    rw [hadd] at q1
    have HFK : Hid (k + 1 < n) := by show _ < _; omega
    cases z with
    | true =>
     have HRES : Hid (nbT ts f (n - 1) = some (f k)) := nbT_some hkn HOK.out hzz
     clear HOK hzz hnx hr0 hr1 HR hadd
     generalize f k = x at *
     have g1 : ¬ ((x : Int) = (i : Int)) := by omega
     have i1 : (0 : Int) ≤ (x : Int) := by omega
     have i2 : (x : Int) < (n : Int) := by omega
     go_wp2
     go_ret2
     exact ⟨by rw [HRES.out]; rfl, rfl⟩
    | false =>
     have HOK2 : Hid (∀ j, j < k + 1 → ts.getD (f j) false = false) := upto_succ HOK.out hzz
     clear HOK hzz hnx hr0 hr1 hadd
     obtain ⟨x, hx⟩ : ∃ x, f k = x := ⟨_, rfl⟩
     obtain ⟨y, hy⟩ : ∃ y, f (k + 1) = y := ⟨_, rfl⟩
     have HX : Hid (f k = x) := hx
     have HY : Hid (f (k + 1) = y) := hy
     rw [hx] at hfk hne d0 q1 ⊢; rw [hy] at hf1 q1; clear hx hy
     have g1 : ¬ ((x : Int) = (i : Int)) := by omega
     have i1 : (0 : Int) ≤ (x : Int) := by omega
     have i2 : (x : Int) < (n : Int) := by omega
     go_wp2
     go_roundw
     case rel => exact ⟨k + 1, HFK.out, by rw [HY.out], HOK2.out, trivial⟩
     case measure =>
      have h1 := HR.out.1
      have h2 := HR.out.2
      have h3 := HFK.out
      rw [HX.out] at h1; rw [HY.out] at h2
      simp [intOf]
      omega
  · obtain rfl : k = n - 1 := by omega
    have HRES : Hid (nbT ts f (n - 1) = none) := nbT_none HOK.out
    have hfe : f (n - 1) = i := by have := HF4.out; rw [HN.out] at this; exact this
    rw [hfe]
    have g1 : ((i : Int) = (i : Int)) := rfl
    clear HOK hfe; go_wp2
    go_ret2
    exact ⟨by rw [HRES.out]; rfl, rfl⟩
theorem nearA_any (i : Nat) (a : Option Addr) (cap : Nat) (ts : List Bool) (w : World) (h : Rl w a cap ts) (hi : i < ts.length) (hl : ts.length ≤ 1000000) :
    Calls Tryz.prog 192 #[.slice a ts.length cap, .int .i64 (i : Int), .int .i64 ((ts.length - 1 : Nat) : Int)] w fun e w' => e = .returned (.tuple #[.int .i64 (((nbA ts i).getD 0 : Nat) : Int), .bool (nbA ts i).isSome]) ∧ w = w' :=
 nearW_any (wyA ts.length i) (fun v => if v < i then i - 1 - v else i + ts.length - 1 - v) (ts.length - 1) i a cap ts w h hi hl (by omega) (wyA_zero hi) (fun k hk => wyA_succ hi hk) (fun k hk => wyA_lt hi hk) (fun k hk => wyA_ne hi hk) (wyA_end hi) (fun k hk => by unfold wyA; split <;> split <;> omega)
theorem nearB_any (i : Nat) (a : Option Addr) (cap : Nat) (ts : List Bool) (w : World) (h : Rl w a cap ts) (hi : i < ts.length) (hl : ts.length ≤ 1000000) :
    Calls Tryz.prog 192 #[.slice a ts.length cap, .int .i64 (i : Int), .int .i64 1] w fun e w' => e = .returned (.tuple #[.int .i64 (((nbB ts i).getD 0 : Nat) : Int), .bool (nbB ts i).isSome]) ∧ w = w' :=
 nearW_any (wyB ts.length i) (fun v => if i < v then v - 1 - i else v + ts.length - 1 - i) 1 i a cap ts w h hi hl (by omega) (wyB_zero hi) (fun k hk => wyB_succ hi hk) (fun k hk => wyB_lt hi hk) (fun k hk => wyB_ne hi hk) (wyB_end hi) (fun k hk => by unfold wyB; split <;> split <;> omega)
theorem inferred_any (a x b y c : Int) (w : World) (ha : -32768 ≤ a ∧ a ≤ 32767) (hx : -32768 ≤ x ∧ x ≤ 32767) (hb : -32768 ≤ b ∧ b ≤ 32767) (hy : -32768 ≤ y ∧ y ≤ 32767) (hc : -32768 ≤ c ∧ c ≤ 32767) :
    Calls Tryz.prog 193 #[.agg #[.int .i64 a, .int .i64 x], .agg #[.int .i64 b, .int .i64 y], .int .i64 c] w fun e w' => ∃ v', e = .returned v' ∧ Fr w' v' 7 (infQ a x b y c) ∧ Below w.heap.size w w' := by
 obtain ⟨W, hW, X1, X2, B3, hbW⟩ : ∃ W, W = (((w.alloc (.cells #[.int .i64 a, .int .i64 x] 224)).alloc (.cells #[.int .i64 b, .int .i64 y] 224)).alloc (.cells #[.bool false, .slice none 0 0, .slice none 0 0] 69)) ∧ Bk 224 W w.heap.size [.int .i64 a, .int .i64 x] ∧ Bk 224 W (w.heap.size + 1) [.int .i64 b, .int .i64 y] ∧ Box 69 W (w.heap.size + 1 + 1) (.bool false) (.slice none 0 0) (.slice none 0 0) ∧ Below w.heap.size w W :=
  ⟨_, rfl, ((Bk.new _ _ [.int .i64 a, .int .i64 x]).below (al1 _)).below (al1 _), (Bk.new1 _ _ _ [.int .i64 b, .int .i64 y]).below (al1 _), Box.new2 _ _ _ _ _ _ _, al3 _ _ _⟩
 obtain ⟨V, hV, V1, V2, V3, hbV⟩ : ∃ V, V = (((w.alloc (.cells #[.int .i64 b, .int .i64 y] 224)).alloc (.cells #[.int .i64 a, .int .i64 x] 224)).alloc (.cells #[.bool false, .slice none 0 0, .slice none 0 0] 69)) ∧ Bk 224 V w.heap.size [.int .i64 b, .int .i64 y] ∧ Bk 224 V (w.heap.size + 1) [.int .i64 a, .int .i64 x] ∧ Box 69 V (w.heap.size + 1 + 1) (.bool false) (.slice none 0 0) (.slice none 0 0) ∧ Below w.heap.size w V :=
  ⟨_, rfl, ((Bk.new _ _ [.int .i64 b, .int .i64 y]).below (al1 _)).below (al1 _), (Bk.new1 _ _ _ [.int .i64 a, .int .i64 x]).below (al1 _), Box.new2 _ _ _ _ _ _ _, al3 _ _ _⟩
 obtain ⟨p0, p1, z0, z1⟩ := X1.two; obtain ⟨p2, p3, z2, z3⟩ := X2.two
 rcases Int.lt_trichotomy a b with hab | hab | hab
 · by_cases h1 : c ≤ a
   · have HE : Hid (infQ a x b y c = (x : Rat)) := by
       show _ = _
       unfold infQ segQ
       rw [if_neg (by omega), if_pos hab, if_pos h1]
     have g0 : decide (a = b) = false := decide_eq_false (by omega)
     have g0b : (a == b) = false := beq_false_of_ne (by omega)
     have g1 : decide (a > b) = false := decide_eq_false (by omega)
     have g1b : ¬ b < a := by omega
     go_enter Tryz.func193, Tryz.ntmps193
     go_upto_region 1 with fail
     rw [← hW]; clear hV
     try clear hW
     go_wp2_with fail
     refine (whole_any x _ (by omega) (by omega)).mono ?_
     rintro e u1 ⟨v1, rfl, hF1, hb1⟩; replace B3 := B3.below hb1
     replace hbW : Below w.heap.size w u1 := hbW.trans (hb1.mono hbW.size)
     clear hb1
     have hs := B3.lt
     obtain ⟨q1, q2, q3, q4, q5, q6⟩ := B3.cells
     replace hF1 := (hF1.eq (r := infQ a x b y c) (by rw [HE.out])).le (show 2 ≤ 7 by decide)
     obtain ⟨n', xs', ys', ⟨e1, f1, e2, f2, rfl, hx', hy'⟩, hF⟩ := hF1; go_wp2
     refine ret3 (v := .agg #[.bool n', .slice e1 xs'.length f1, .slice e2 ys'.length f2]) B3 rfl (fun U hU => by obtain ⟨r1, r2, r3, _⟩ := hU.cells; simp [results, Tryz.results193, go_sem, r1, r2, r3]) (fun U hU hK => ⟨_, rfl, ⟨_, _, _, ⟨_, _, _, _, rfl, hK _ _ _ hx', hK _ _ _ hy'⟩, hF⟩, hU _ _ hbW (by omega)⟩)
   · by_cases h2 : b ≤ c
     · have HE : Hid (infQ a x b y c = (y : Rat)) := by
         show _ = _
         unfold infQ segQ
         rw [if_neg (by omega), if_pos hab, if_neg h1, if_pos h2]
       have g0 : decide (a = b) = false := decide_eq_false (by omega)
       have g0b : (a == b) = false := beq_false_of_ne (by omega)
       have g1 : decide (a > b) = false := decide_eq_false (by omega)
       have g1b : ¬ b < a := by omega
       have g2 : ¬ c ≤ a := h1
       go_enter Tryz.func193, Tryz.ntmps193
       go_upto_region 1 with fail
       rw [← hW]; clear hV
       try clear hW
       go_wp2_with fail
       refine (whole_any y _ (by omega) (by omega)).mono ?_
       rintro e u1 ⟨v1, rfl, hF1, hb1⟩; replace B3 := B3.below hb1
       replace hbW : Below w.heap.size w u1 := hbW.trans (hb1.mono hbW.size)
       clear hb1
       have hs := B3.lt
       obtain ⟨q1, q2, q3, q4, q5, q6⟩ := B3.cells
       replace hF1 := (hF1.eq (r := infQ a x b y c) (by rw [HE.out])).le (show 2 ≤ 7 by decide)
       obtain ⟨n', xs', ys', ⟨e1, f1, e2, f2, rfl, hx', hy'⟩, hF⟩ := hF1; go_wp2
       refine ret3 (v := .agg #[.bool n', .slice e1 xs'.length f1, .slice e2 ys'.length f2]) B3 rfl (fun U hU => by obtain ⟨r1, r2, r3, _⟩ := hU.cells; simp [results, Tryz.results193, go_sem, r1, r2, r3]) (fun U hU hK => ⟨_, rfl, ⟨_, _, _, ⟨_, _, _, _, rfl, hK _ _ _ hx', hK _ _ _ hy'⟩, hF⟩, hU _ _ hbW (by omega)⟩)
     · have HE : Hid (infQ a x b y c = btw x y (c - a) (b - a)) := by
         show _ = _
         unfold infQ segQ
         rw [if_neg (by omega), if_pos hab, if_neg h1, if_neg h2]
       have g0 : decide (a = b) = false := decide_eq_false (by omega)
       have g0b : (a == b) = false := beq_false_of_ne (by omega)
       have g1 : decide (a > b) = false := decide_eq_false (by omega)
       have g1b : ¬ b < a := by omega
       have g2 : ¬ c ≤ a := h1
       have g3 : ¬ c ≥ b := by omega
       go_enter Tryz.func193, Tryz.ntmps193
       go_upto_region 1 with fail
       rw [← hW]; clear hV
       try clear hW
       go_wp2_with fail
       refine (between_any x y (c - a) (b - a) _ (by omega) (by omega) (by omega) (by omega)).mono ?_
       rintro e u1 ⟨v1, rfl, hF1, hb1⟩; replace B3 := B3.below hb1
       replace hbW : Below w.heap.size w u1 := hbW.trans (hb1.mono hbW.size)
       clear hb1
       have hs := B3.lt
       obtain ⟨q1, q2, q3, q4, q5, q6⟩ := B3.cells
       replace hF1 := (hF1.eq (r := infQ a x b y c) (by rw [HE.out])).le (show 7 ≤ 7 by decide)
       obtain ⟨n', xs', ys', ⟨e1, f1, e2, f2, rfl, hx', hy'⟩, hF⟩ := hF1; go_wp2
       refine ret3 (v := .agg #[.bool n', .slice e1 xs'.length f1, .slice e2 ys'.length f2]) B3 rfl (fun U hU => by obtain ⟨r1, r2, r3, _⟩ := hU.cells; simp [results, Tryz.results193, go_sem, r1, r2, r3]) (fun U hU hK => ⟨_, rfl, ⟨_, _, _, ⟨_, _, _, _, rfl, hK _ _ _ hx', hK _ _ _ hy'⟩, hF⟩, hU _ _ hbW (by omega)⟩)
 · by_cases hxy : x = y
   · by_cases h1 : c ≤ a
     · have HE : Hid (infQ a x b y c = (x : Rat)) := by
         show _ = _
         unfold infQ
         rw [if_pos hab, if_pos hxy]
       have g0 : (a == b) = true := by rw [hab]; exact beq_self_eq_true b
       have g1b : ¬ b < a := by omega
       have gx : (x != y) = false := by rw [hxy]; simp
       clear hab hxy
       go_enter Tryz.func193, Tryz.ntmps193
       go_upto_region 1 with fail
       rw [← hW]; clear hV
       try clear hW
       go_wp2_with fail
       refine (whole_any x _ (by omega) (by omega)).mono ?_
       rintro e u1 ⟨v1, rfl, hF1, hb1⟩; replace B3 := B3.below hb1
       replace hbW : Below w.heap.size w u1 := hbW.trans (hb1.mono hbW.size)
       clear hb1
       have hs := B3.lt
       obtain ⟨q1, q2, q3, q4, q5, q6⟩ := B3.cells
       replace hF1 := (hF1.eq (r := infQ a x b y c) (by rw [HE.out])).le (show 2 ≤ 7 by decide)
       obtain ⟨n', xs', ys', ⟨e1, f1, e2, f2, rfl, hx', hy'⟩, hF⟩ := hF1; go_wp2
       refine ret3 (v := .agg #[.bool n', .slice e1 xs'.length f1, .slice e2 ys'.length f2]) B3 rfl (fun U hU => by obtain ⟨r1, r2, r3, _⟩ := hU.cells; simp [results, Tryz.results193, go_sem, r1, r2, r3]) (fun U hU hK => ⟨_, rfl, ⟨_, _, _, ⟨_, _, _, _, rfl, hK _ _ _ hx', hK _ _ _ hy'⟩, hF⟩, hU _ _ hbW (by omega)⟩)
     · have HE : Hid (infQ a x b y c = (y : Rat)) := by
         show _ = _
         unfold infQ
         rw [if_pos hab, if_pos hxy, hxy]
       have g0 : (a == b) = true := by rw [hab]; exact beq_self_eq_true b
       have g1b : ¬ b < a := by omega
       have gx : (x != y) = false := by rw [hxy]; simp
       have g2 : ¬ c ≤ a := h1
       have g3 : c ≥ b := by omega
       clear hab hxy
       go_enter Tryz.func193, Tryz.ntmps193
       go_upto_region 1 with fail
       rw [← hW]; clear hV
       try clear hW
       go_wp2_with fail
       refine (whole_any y _ (by omega) (by omega)).mono ?_
       rintro e u1 ⟨v1, rfl, hF1, hb1⟩; replace B3 := B3.below hb1
       replace hbW : Below w.heap.size w u1 := hbW.trans (hb1.mono hbW.size)
       clear hb1
       have hs := B3.lt
       obtain ⟨q1, q2, q3, q4, q5, q6⟩ := B3.cells
       replace hF1 := (hF1.eq (r := infQ a x b y c) (by rw [HE.out])).le (show 2 ≤ 7 by decide)
       obtain ⟨n', xs', ys', ⟨e1, f1, e2, f2, rfl, hx', hy'⟩, hF⟩ := hF1; go_wp2
       refine ret3 (v := .agg #[.bool n', .slice e1 xs'.length f1, .slice e2 ys'.length f2]) B3 rfl (fun U hU => by obtain ⟨r1, r2, r3, _⟩ := hU.cells; simp [results, Tryz.results193, go_sem, r1, r2, r3]) (fun U hU hK => ⟨_, rfl, ⟨_, _, _, ⟨_, _, _, _, rfl, hK _ _ _ hx', hK _ _ _ hy'⟩, hF⟩, hU _ _ hbW (by omega)⟩)
   · have HE : Hid (infQ a x b y c = 0) := by
       show _ = _
       unfold infQ
       rw [if_pos hab, if_neg hxy]
     have g0 : (a == b) = true := by rw [hab]; exact beq_self_eq_true b
     have g1b : ¬ b < a := by omega
     have gx : (x != y) = true := by simp [hxy]
     clear hab
     go_enter Tryz.func193, Tryz.ntmps193
     go_upto_region 1 with fail
     rw [← hW]; clear hV
     try clear hW
     go_wp2_with fail
     refine (whole_any 0 _ (by omega) (by omega)).mono ?_
     rintro e u1 ⟨v1, rfl, hF1, hb1⟩; replace B3 := B3.below hb1
     replace hbW : Below w.heap.size w u1 := hbW.trans (hb1.mono hbW.size)
     clear hb1
     have hs := B3.lt
     obtain ⟨q1, q2, q3, q4, q5, q6⟩ := B3.cells
     replace hF1 := (hF1.eq (r := infQ a x b y c) (by rw [HE.out]; rfl)).le (show 2 ≤ 7 by decide)
     obtain ⟨n', xs', ys', ⟨e1, f1, e2, f2, rfl, hx', hy'⟩, hF⟩ := hF1; go_wp2
     refine ret3 (v := .agg #[.bool n', .slice e1 xs'.length f1, .slice e2 ys'.length f2]) B3 rfl (fun U hU => by obtain ⟨r1, r2, r3, _⟩ := hU.cells; simp [results, Tryz.results193, go_sem, r1, r2, r3]) (fun U hU hK => ⟨_, rfl, ⟨_, _, _, ⟨_, _, _, _, rfl, hK _ _ _ hx', hK _ _ _ hy'⟩, hF⟩, hU _ _ hbW (by omega)⟩)
 · by_cases h1 : c ≤ b
   · have HE : Hid (infQ a x b y c = (y : Rat)) := by
       show _ = _
       unfold infQ segQ
       rw [if_neg (by omega), if_neg (by omega), if_pos h1]
     have g0 : (a == b) = false := beq_false_of_ne (by omega)
     have g1 : b < a := hab
     go_enter Tryz.func193, Tryz.ntmps193
     clear hW X1 X2 B3 hbW p0 p1 p2 p3 z0 z1 z2 z3
     go_upto_region 5 with fail
     rw [← hV]; clear hV; obtain ⟨p0, p1, _⟩ := V1.two; obtain ⟨p2, p3, _⟩ := V2.two
     have B3 := V3
     have hbW := hbV
     try clear hW
     go_wp2_with fail
     refine (whole_any y _ (by omega) (by omega)).mono ?_
     rintro e u1 ⟨v1, rfl, hF1, hb1⟩; replace B3 := B3.below hb1
     replace hbW : Below w.heap.size w u1 := hbW.trans (hb1.mono hbW.size)
     clear hb1
     have hs := B3.lt
     obtain ⟨q1, q2, q3, q4, q5, q6⟩ := B3.cells
     replace hF1 := (hF1.eq (r := infQ a x b y c) (by rw [HE.out])).le (show 2 ≤ 7 by decide)
     obtain ⟨n', xs', ys', ⟨e1, f1, e2, f2, rfl, hx', hy'⟩, hF⟩ := hF1; go_wp2
     refine ret3 (v := .agg #[.bool n', .slice e1 xs'.length f1, .slice e2 ys'.length f2]) B3 rfl (fun U hU => by obtain ⟨r1, r2, r3, _⟩ := hU.cells; simp [results, Tryz.results193, go_sem, r1, r2, r3]) (fun U hU hK => ⟨_, rfl, ⟨_, _, _, ⟨_, _, _, _, rfl, hK _ _ _ hx', hK _ _ _ hy'⟩, hF⟩, hU _ _ hbW (by omega)⟩)
   · by_cases h2 : a ≤ c
     · have HE : Hid (infQ a x b y c = (x : Rat)) := by
         show _ = _
         unfold infQ segQ
         rw [if_neg (by omega), if_neg (by omega), if_neg h1, if_pos h2]
       have g0 : (a == b) = false := beq_false_of_ne (by omega)
       have g1 : b < a := hab
       have g2 : ¬ c ≤ b := h1
       go_enter Tryz.func193, Tryz.ntmps193
       clear hW X1 X2 B3 hbW p0 p1 p2 p3 z0 z1 z2 z3
       go_upto_region 5 with fail
       rw [← hV]; clear hV; obtain ⟨p0, p1, _⟩ := V1.two; obtain ⟨p2, p3, _⟩ := V2.two
       have B3 := V3
       have hbW := hbV
       try clear hW
       go_wp2_with fail
       refine (whole_any x _ (by omega) (by omega)).mono ?_
       rintro e u1 ⟨v1, rfl, hF1, hb1⟩; replace B3 := B3.below hb1
       replace hbW : Below w.heap.size w u1 := hbW.trans (hb1.mono hbW.size)
       clear hb1
       have hs := B3.lt
       obtain ⟨q1, q2, q3, q4, q5, q6⟩ := B3.cells
       replace hF1 := (hF1.eq (r := infQ a x b y c) (by rw [HE.out])).le (show 2 ≤ 7 by decide)
       obtain ⟨n', xs', ys', ⟨e1, f1, e2, f2, rfl, hx', hy'⟩, hF⟩ := hF1; go_wp2
       refine ret3 (v := .agg #[.bool n', .slice e1 xs'.length f1, .slice e2 ys'.length f2]) B3 rfl (fun U hU => by obtain ⟨r1, r2, r3, _⟩ := hU.cells; simp [results, Tryz.results193, go_sem, r1, r2, r3]) (fun U hU hK => ⟨_, rfl, ⟨_, _, _, ⟨_, _, _, _, rfl, hK _ _ _ hx', hK _ _ _ hy'⟩, hF⟩, hU _ _ hbW (by omega)⟩)
     · have HE : Hid (infQ a x b y c = btw y x (c - b) (a - b)) := by
         show _ = _
         unfold infQ segQ
         rw [if_neg (by omega), if_neg (by omega), if_neg h1, if_neg h2]
       have g0 : (a == b) = false := beq_false_of_ne (by omega)
       have g1 : b < a := hab
       have g2 : ¬ c ≤ b := h1
       have g3 : ¬ c ≥ a := by omega
       go_enter Tryz.func193, Tryz.ntmps193
       clear hW X1 X2 B3 hbW p0 p1 p2 p3 z0 z1 z2 z3
       go_upto_region 5 with fail
       rw [← hV]; clear hV; obtain ⟨p0, p1, _⟩ := V1.two; obtain ⟨p2, p3, _⟩ := V2.two
       have B3 := V3
       have hbW := hbV
       try clear hW
       go_wp2_with fail
       refine (between_any y x (c - b) (a - b) _ (by omega) (by omega) (by omega) (by omega)).mono ?_
       rintro e u1 ⟨v1, rfl, hF1, hb1⟩; replace B3 := B3.below hb1
       replace hbW : Below w.heap.size w u1 := hbW.trans (hb1.mono hbW.size)
       clear hb1
       have hs := B3.lt
       obtain ⟨q1, q2, q3, q4, q5, q6⟩ := B3.cells
       replace hF1 := (hF1.eq (r := infQ a x b y c) (by rw [HE.out])).le (show 7 ≤ 7 by decide)
       obtain ⟨n', xs', ys', ⟨e1, f1, e2, f2, rfl, hx', hy'⟩, hF⟩ := hF1; go_wp2
       refine ret3 (v := .agg #[.bool n', .slice e1 xs'.length f1, .slice e2 ys'.length f2]) B3 rfl (fun U hU => by obtain ⟨r1, r2, r3, _⟩ := hU.cells; simp [results, Tryz.results193, go_sem, r1, r2, r3]) (fun U hU hK => ⟨_, rfl, ⟨_, _, _, ⟨_, _, _, _, rfl, hK _ _ _ hx', hK _ _ _ hy'⟩, hF⟩, hU _ _ hbW (by omega)⟩)
end Go.Proofs.YtngmcghmniakeaaGreat
