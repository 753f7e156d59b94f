/-
  Point numbers and changes, number by number (plain mathematics).
  Tuples: their bytes; what is written is read (plain mathematics).
  One cell of a block. Nothing here is a walk.
  foundryref11.points, changes, wide, sort: the walks.
  foundrylaw04.awake; OctetsReads: the walks.
-/
import Derived.Test.YtngmcghmniakeaaGreatZB32
import Derived.Test.YtngmcghmniakeaaGreatZB20
import Derived.Test.YtngmcghmniakeaaGreatZB1
import Derived.Test.YtngmcghmniakeaaGreatZB9
import Derived.Test.YtngmcghmniakeaaGreatZB10
import Derived.Deep.CutRange
import Derived.Test.YtngmcghmniakeaaGreatZB16
namespace Go.Proofs.YtngmcghmniakeaaGreat
set_option linter.unusedSimpArgs false
set_option linter.unusedVariables false

/-- Point numbers, by their places. -/
theorem ptF_iff : ∀ (l : List Int) (a : Int), ptF a l = true ↔ ∀ i, i < l.length → (if i = 0 then a else l.getD (i - 1) 0) < l.getD i 0 ∧ l.getD i 0 ≤ 65535 := by
  intro l
  induction l with
  | nil => intro a; exact ⟨fun _ i hi => by simp at hi, fun _ => rfl⟩
  | cons x t ih =>
    intro a
    rw [ptF, Bool.and_eq_true, decide_eq_true_iff, ih]
    constructor
    · rintro ⟨h1, h2⟩ i hi
      cases i with
      | zero => simpa using h1
      | succ i =>
        have := h2 i (by simpa using hi)
        cases i with
        | zero => simpa using this
        | succ i => simpa using this
    · intro h
      refine ⟨by simpa using h 0 (by simp), fun i hi => ?_⟩
      have := h (i + 1) (by simpa using hi)
      cases i with
      | zero => simpa using this
      | succ i => simpa using this
theorem ptB_yes {l : List Int} (h : ∀ i, i < l.length → 0 ≤ l.getD i 0 ∧ l.getD i 0 ≤ 65535 ∧ (0 < i → l.getD (i - 1) 0 < l.getD i 0)) : ptB l = decide (l.length ≤ 2000) := by
  unfold ptB
  rw [(ptF_iff l (-1)).2 (fun i hi => by
    obtain ⟨h1, h2, h3⟩ := h i hi
    split
    · omega
    · exact ⟨h3 (by omega), h2⟩), Bool.true_and]
theorem ptB_at {l : List Int} (h : ptB l = true) {i : Nat} (hi : i < l.length) : 0 ≤ l.getD i 0 ∧ l.getD i 0 ≤ 65535 ∧ (0 < i → l.getD (i - 1) 0 < l.getD i 0) := by
  unfold ptB at h
  rw [Bool.and_eq_true] at h
  have key := (ptF_iff l (-1)).1 h.1
  have hge : ∀ j, j < l.length → 0 ≤ l.getD j 0 := by
    intro j
    induction j with
    | zero => intro hj; have := key 0 hj; rw [if_pos rfl] at this; omega
    | succ j ih => intro hj; have := key (j + 1) hj; have h2 := ih (by omega); rw [if_neg (by omega)] at this; simp only [Nat.add_sub_cancel] at this; omega
  have := key i hi
  refine ⟨hge i hi, this.2, fun h0 => ?_⟩
  rw [if_neg (by omega)] at this
  exact this.1
theorem chB_no {l : List Int} {i : Nat} (hi : i < l.length) (h : l.getD i 0 < -32768 ∨ 32767 < l.getD i 0) : chB l = false := by
  rw [Bool.eq_false_iff]
  intro e
  have := (chB_iff.1 e).1 (l.getD i 0) (by rw [List.getD_eq_getElem?_getD, List.getElem?_eq_getElem hi]; exact List.getElem_mem hi)
  unfold DC at this
  omega
theorem chB_yes {l : List Int} (h : ∀ i, i < l.length → -32768 ≤ l.getD i 0 ∧ l.getD i 0 ≤ 32767) : chB l = decide (l.length ≤ 2000) := by
  unfold chB
  have : l.all (fun z => decide (-32768 ≤ z ∧ z ≤ 32767)) = true := by
    rw [List.all_eq_true]
    intro z hz
    obtain ⟨i, hi, e⟩ := List.getElem_of_mem hz
    have := h i hi
    rw [List.getD_eq_getElem?_getD, List.getElem?_eq_getElem hi] at this
    rw [← e]
    exact decide_eq_true this
  rw [this, Bool.true_and]
/-- The steps, one by one. -/
def stpK (l : List Int) (k : Nat) : List Int := (List.range k).map (fun i => if i = 0 then l.getD 0 0 else l.getD i 0 - l.getD (i - 1) 0)
theorem stpK_len (l : List Int) (k : Nat) : (stpK l k).length = k := by simp [stpK]
theorem stpK_succ (l : List Int) (k : Nat) : stpK l (k + 1) = stpK l k ++ [if k = 0 then l.getD 0 0 else l.getD k 0 - l.getD (k - 1) 0] := by simp [stpK, List.range_succ]
theorem stps_get : ∀ (l : List Int) (a : Int) (i : Nat), i < l.length → (stps a l).getD i 0 = if i = 0 then l.getD 0 0 - a else l.getD i 0 - l.getD (i - 1) 0 := by
  intro l
  induction l with
  | nil => intro a i hi; simp at hi
  | cons x t ih =>
    intro a i hi
    cases i with
    | zero => rfl
    | succ i =>
      rw [stps, List.getD_cons_succ, ih x i (by simpa using hi)]
      cases i with
      | zero => simp
      | succ i => simp
theorem stpK_eq (l : List Int) : stpK l l.length = stps 0 l := by
  apply List.ext_getElem
  · rw [stpK_len, stps_len]
  · intro i h1 h2
    rw [stps_len] at h2
    have h := stps_get l 0 i h2
    rw [List.getD_eq_getElem?_getD, List.getElem?_eq_getElem (by rw [stps_len]; exact h2)] at h
    simp only [Option.getD_some] at h
    rw [h]
    simp only [stpK, List.getElem_map, List.getElem_range]
    split <;> simp

end Go.Proofs.YtngmcghmniakeaaGreat

namespace Go.Proofs.YtngmcghmniakeaaGreat
set_option linter.unusedSimpArgs false
set_option linter.unusedVariables false

/-- The bytes of a tuple, and of tuples. -/
def tuE (t : Tu) : List Nat := tesE t.rg ++ (ppB t.pts ++ (pcB t.dx ++ pcB t.dy))
def tusE : List Tu → List Nat
  | [] => []
  | t :: l => tuE t ++ tusE l
theorem tusE_append (l m : List Tu) : tusE (l ++ m) = tusE l ++ tusE m := by
  induction l with
  | nil => rfl
  | cons t l ih => rw [List.cons_append, tusE, tusE, ih, List.append_assoc]
theorem tusE_one (t : Tu) : tusE [t] = tuE t := by rw [tusE, tusE, List.append_nil]
def tuBt (l : List Tu) : List Nat := be2 ((l.length : Nat) : Int) ++ tusE l
def wrTE (o : Ol) (l : List Tu) (ax : Int) : Int := if foT o l ax then 0 else 1
def wrTB (o : Ol) (l : List Tu) (ax : Int) : List Nat := if foT o l ax then tuBt l else []
/-- What a formed tuple's lists are to be packed. -/
theorem ris_ptB {pts : List Int} {n : Nat} (h : risB pts n = true) (hn : n ≤ 2000) : ptB pts = true := by
  have hl := rise_le h
  rw [ptB_yes (fun i hi => ?_), decide_eq_true_iff]
  · omega
  · have h1 := risP_nonneg i (fun j hj => risB_iff.1 h j (by omega))
    refine ⟨h1.1, by omega, fun h0 => ?_⟩
    have h2 := risB_iff.1 h i hi
    unfold risP lastI at h2
    rw [if_neg (by omega)] at h2
    exact h2.1
theorem tu_pts {t : Tu} {n : Nat} {ax : Int} (h : tuB t n ax = true) (hn : n ≤ 2000) : ptB t.pts = true ∧ t.pts.length ≤ n ∧ t.al = decide (t.pts.length = 0) := by
  obtain ⟨_, h2, _⟩ := tuB_iff.1 h
  cases ha : t.al with
  | true =>
    obtain ⟨k1, _⟩ := (nmB_all ha).1 h2
    rw [k1]
    exact ⟨rfl, Nat.zero_le _, rfl⟩
  | false =>
    obtain ⟨k0, k1, _⟩ := (nmB_some ha).1 h2
    exact ⟨ris_ptB k1 hn, rise_le k1, (decide_eq_false (by omega)).symm⟩
theorem fd_chB {l : List Int} (h : l.all fdB = true) (hl : l.length ≤ 2000) : chB l = true := chB_iff.2 ⟨fun z hz => fdB_iff.1 (List.all_eq_true.1 h z hz), hl⟩
def cnN (cnt : Nat) (ps : List Int) : Nat := if ps.length = 0 then cnt else ps.length
theorem tu_chs {t : Tu} {n : Nat} {ax : Int} (h : tuB t n ax = true) (hn : n ≤ 2000) : chB t.dx = true ∧ chB t.dy = true ∧ t.dx.length = cnN n t.pts ∧ t.dy.length = cnN n t.pts ∧ t.dx.length ≤ n ∧ t.dy.length ≤ n := by
  obtain ⟨_, h2, h3, h4⟩ := tuB_iff.1 h
  have hc : t.dx.length = cnN n t.pts ∧ t.dy.length = cnN n t.pts ∧ cnN n t.pts ≤ n := by
    cases ha : t.al with
    | true =>
      obtain ⟨k1, k2, k3⟩ := (nmB_all ha).1 h2
      unfold cnN
      rw [k1]
      exact ⟨by rw [k2]; rfl, by rw [k3]; rfl, Nat.le_refl _⟩
    | false =>
      obtain ⟨k0, k1, k2, k3⟩ := (nmB_some ha).1 h2
      have := rise_le k1
      unfold cnN
      rw [if_neg (by omega)]
      exact ⟨k2, k3, this⟩
  obtain ⟨c1, c2, c3⟩ := hc
  exact ⟨fd_chB h3 (by omega), fd_chB h4 (by omega), c1, c2, by omega, by omega⟩
theorem pp_short' {l : List Int} (h : ptB l = true) : (ppB l).length ≤ 3 * l.length + 2 := by
  obtain ⟨h1, h2⟩ := ptB_steps h
  have := pk_short fitP (m := 3) (fun x _ => by show szP (kdP x) + 1 ≤ 3; unfold szP; split <;> omega) _ (stps 0 l) rfl h1
  have h3 : (cnE l.length).length ≤ 2 := by unfold cnE; split <;> simp
  rw [stps_len] at this
  rw [ppB, if_pos h, List.length_append]
  omega
theorem rg_len {l : List Te} {ax : Int} (h : rgB l ax = true) : (l.length : Int) = ax ∧ l.all tfB = true := by
  unfold rgB at h
  rw [Bool.and_eq_true, decide_eq_true_iff] at h
  exact ⟨h.2, h.1⟩
theorem tuE_le {t : Tu} {n : Nat} {ax : Int} (h : tuB t n ax = true) (hn : n ≤ 86) (hax : ax ≤ 4) : (tuE t).length ≤ 800 := by
  obtain ⟨p1, p2, _⟩ := tu_pts h (by omega)
  obtain ⟨c1, c2, _, _, c3, c4⟩ := tu_chs h (by omega)
  have h1 := (rg_len (tuB_iff.1 h).1).1
  have h2 := pp_short' p1
  have h3 := pc_short c1
  have h4 := pc_short c2
  unfold tuE
  rw [List.length_append, List.length_append, List.length_append, tesE_len]
  omega
theorem tusE_le {o : Ol} {ax : Int} (ho : foB o = true) (hax : ax ≤ 4) : ∀ {l : List Tu}, (∀ t ∈ l, tuB t (cntO o) ax = true) → (tusE l).length ≤ 800 * l.length := by
  intro l
  induction l with
  | nil => intro _; exact Nat.zero_le _
  | cons t l ih =>
    intro h
    have h1 := ih (fun x hx => h x (by simp [hx]))
    have h2 := tuE_le (h t (by simp)) (cnt_le ho) hax
    rw [tusE, List.length_append, List.length_cons]
    omega
theorem tuBt_le {o : Ol} {l : List Tu} {ax : Int} (h : foT o l ax = true) : (tuBt l).length ≤ 33000 := by
  obtain ⟨h1, h2, h3, h4⟩ := foT_iff.1 h
  have := tusE_le h1 h2.2 (l := l) (fun t ht => by
    obtain ⟨k, hk, e⟩ := List.getElem_of_mem ht
    have := h4 k hk
    rw [List.getD_eq_getElem?_getD, List.getElem?_eq_getElem hk, Option.getD_some, e] at this
    exact this)
  unfold tuBt
  rw [List.length_append]
  have : (be2 ((l.length : Nat) : Int)).length = 2 := rfl
  omega
/-- What is read: a tuple from a place on. -/
def rdTu (b : List Nat) (ax cnt p : Nat) : Option (Tu × Nat) :=
  if p + 6 * ax ≤ b.length then
    (rpO (b.drop (p + 6 * ax))).bind fun r =>
      (rcO (b.drop (p + 6 * ax + r.2)) (cnN cnt r.1 : Int)).bind fun x =>
        (rcO (b.drop (p + 6 * ax + r.2 + x.2)) (cnN cnt r.1 : Int)).bind fun y =>
          some (⟨tesAt b p ax, decide (r.1.length = 0), r.1, x.1, y.1⟩, p + 6 * ax + r.2 + x.2 + y.2)
  else none
def rdK (b : List Nat) (ax cnt : Nat) : Nat → Option (List Tu × Nat)
  | 0 => some ([], 2)
  | k + 1 => (rdK b ax cnt k).bind fun r => (rdTu b ax cnt r.2).bind fun t => some (r.1 ++ [t.1], t.2)
theorem rdK_none {b : List Nat} {ax cnt k : Nat} (h : rdK b ax cnt k = none) : ∀ m, k ≤ m → rdK b ax cnt m = none := by
  intro m
  induction m with
  | zero => intro hm; rw [show k = 0 by omega] at h; exact h
  | succ m ih =>
    intro hm
    by_cases e : k = m + 1
    · rw [← e]; exact h
    · rw [rdK, ih (by omega)]; rfl
theorem rdK_len {b : List Nat} {ax cnt : Nat} : ∀ {k : Nat} {l : List Tu} {p : Nat}, rdK b ax cnt k = some (l, p) → l.length = k := by
  intro k
  induction k with
  | zero => intro l p h; rw [rdK] at h; injection h with h; injection h with h1 h2; rw [← h1]; rfl
  | succ k ih =>
    intro l p h
    rw [rdK] at h
    cases hr : rdK b ax cnt k with
    | none => rw [hr] at h; cases h
    | some r =>
      rw [hr] at h
      cases ht : rdTu b ax cnt r.2 with
      | none => rw [Option.bind_some, ht] at h; cases h
      | some t =>
        rw [Option.bind_some, ht, Option.bind_some] at h
        injection h with h
        injection h with h1 h2
        rw [← h1, List.length_append, ih (l := r.1) (p := r.2) (by rw [hr])]
        rfl
theorem rdTu_back {b A Z : List Nat} {p cnt : Nat} {t : Tu} {ax : Int} (hb : b = A ++ (tuE t ++ Z)) (hp : A.length = p) (h : tuB t cnt ax = true) (hn : cnt ≤ 2000) : rdTu b ax.toNat cnt p = some (t, p + (tuE t).length) := by
  obtain ⟨p1, p2, p3⟩ := tu_pts h hn
  obtain ⟨c1, c2, c3, c4, _⟩ := tu_chs h hn
  obtain ⟨g1, g2⟩ := rg_len (tuB_iff.1 h).1
  have hax : ax.toNat = t.rg.length := by omega
  have e0 : b = A ++ (tesE t.rg ++ (ppB t.pts ++ (pcB t.dx ++ (pcB t.dy ++ Z)))) := by rw [hb, tuE]; simp only [List.append_assoc]
  have d1 : b.drop (p + 6 * t.rg.length) = ppB t.pts ++ (pcB t.dx ++ (pcB t.dy ++ Z)) := by
    rw [e0, ← List.append_assoc, List.drop_left' (by rw [List.length_append, tesE_len, hp])]
  have d2 : b.drop (p + 6 * t.rg.length + (ppB t.pts).length) = pcB t.dx ++ (pcB t.dy ++ Z) := by
    rw [← List.drop_drop, d1, List.drop_left]
  have d3 : b.drop (p + 6 * t.rg.length + (ppB t.pts).length + (pcB t.dx).length) = pcB t.dy ++ Z := by
    rw [← List.drop_drop, d2, List.drop_left]
  have hT : tesAt b p t.rg.length = t.rg := tesAt_mid e0 hp g2
  have hle : p + 6 * t.rg.length ≤ b.length := by
    rw [e0, List.length_append, List.length_append, tesE_len, hp]
    omega
  unfold rdTu
  rw [hax, if_pos hle, d1, rp_back p1]
  simp only [Option.bind_some]
  rw [d2, ← c3, rc_back c1]
  simp only [Option.bind_some]
  rw [d3, c3, ← c4, rc_back c2]
  simp only [Option.bind_some]
  rw [hT, ← p3]
  congr 2
  unfold tuE
  rw [List.length_append, List.length_append, List.length_append, tesE_len]
  omega
theorem rdK_back {o : Ol} {l : List Tu} {ax : Int} (h : foT o l ax = true) : ∀ k, k ≤ l.length → rdK (tuBt l) ax.toNat (cntO o) k = some (l.take k, 2 + (tusE (l.take k)).length) := by
  obtain ⟨h1, h2, h3, h4⟩ := foT_iff.1 h
  have hcn := cnt_le h1
  intro k
  induction k with
  | zero => intro _; rfl
  | succ k ih =>
    intro hk
    rw [rdK, ih (by omega)]
    simp only [Option.bind_some]
    have hgk : l.getD k Tu.none = l[k] := by simp [List.getD, show k < l.length by omega]
    have hb : tuBt l = (be2 ((l.length : Nat) : Int) ++ tusE (l.take k)) ++ (tuE (l.getD k Tu.none) ++ tusE (l.drop (k + 1))) := by
      have es : l = l.take k ++ l[k] :: l.drop (k + 1) := by simp
      unfold tuBt
      rw [List.append_assoc]
      congr 1
      rw [hgk]
      conv => lhs; rw [es, tusE_append, tusE]
    rw [rdTu_back hb (by rw [List.length_append]; rfl) (h4 k (by omega)) (by omega)]
    simp only [Option.bind_some]
    rw [take_snoc (d := Tu.none) (by omega), tusE_append, tusE_one, List.length_append, Nat.add_assoc]
def rdTOk (b : List Nat) (o : Ol) (ax : Int) : Bool := foT o [] ax && (decide (nmV b 0 2 ≤ 40) && (match rdK b ax.toNat (cntO o) (nmV b 0 2) with | some r => foT o r.1 ax && decide (tuBt r.1 = b) | none => false))
def rdTL (b : List Nat) (o : Ol) (ax : Int) : List Tu := if rdTOk b o ax = true then (match rdK b ax.toNat (cntO o) (nmV b 0 2) with | some r => r.1 | none => []) else []
def rdTE (b : List Nat) (o : Ol) (ax : Int) : Int := if rdTOk b o ax = true then 0 else 2
theorem rdT_no {b : List Nat} {o : Ol} {ax : Int} (h : rdTOk b o ax = false) : rdTL b o ax = [] ∧ rdTE b o ax = 2 := by
  unfold rdTL rdTE
  rw [h]
  exact ⟨rfl, rfl⟩
theorem rdT_bad1 {b : List Nat} {o : Ol} {ax : Int} (h : foT o [] ax = false) : rdTOk b o ax = false := by unfold rdTOk; rw [h]; rfl
theorem rdT_bad2 {b : List Nat} {o : Ol} {ax : Int} (h : ¬ nmV b 0 2 ≤ 40) : rdTOk b o ax = false := by unfold rdTOk; rw [decide_eq_false h]; simp
theorem rdT_bad3 {b : List Nat} {o : Ol} {ax : Int} {k : Nat} (h : rdK b ax.toNat (cntO o) k = none) (hk : k ≤ nmV b 0 2) : rdTOk b o ax = false := by unfold rdTOk; rw [rdK_none h _ hk]; simp
theorem rdT_bad4 {b : List Nat} {o : Ol} {ax : Int} {l : List Tu} {p : Nat} (h : rdK b ax.toNat (cntO o) (nmV b 0 2) = some (l, p)) (hn : foT o l ax = false ∨ tuBt l ≠ b) : rdTOk b o ax = false := by
  unfold rdTOk
  rw [h]
  rcases hn with hn | hn
  · simp [hn]
  · simp [decide_eq_false hn]
theorem foT_nil {o : Ol} {l : List Tu} {ax : Int} (h : foT o l ax = true) : foT o [] ax = true := by
  obtain ⟨h1, h2, h3, h4⟩ := foT_iff.1 h
  exact foT_iff.2 ⟨h1, h2, by simp, fun k hk => by simp at hk⟩
theorem rdT_good {b : List Nat} {o : Ol} {ax : Int} {l : List Tu} {p : Nat} (h : rdK b ax.toNat (cntO o) (nmV b 0 2) = some (l, p)) (hf : foT o l ax = true) (hb : tuBt l = b) : rdTL b o ax = l ∧ rdTE b o ax = 0 := by
  have hl := rdK_len h
  have h3 := (foT_iff.1 hf).2.2.1
  have hk : rdTOk b o ax = true := by
    unfold rdTOk
    rw [foT_nil hf, decide_eq_true (by omega), h]
    simp [hf, hb]
  unfold rdTL rdTE
  rw [if_pos hk, if_pos hk, h]
  exact ⟨rfl, rfl⟩
theorem nmV_tus {l : List Tu} (h : l.length ≤ 40) : nmV (tuBt l) 0 2 = l.length := by
  have := nmV_at (b := tuBt l) (A := []) (X := be2 ((l.length : Nat) : Int)) (Z := tusE l) (q := 0) (n := 2) rfl rfl rfl
  rw [show ((0 : Nat) : Int) = 0 from rfl] at this
  rw [this]
  have := V8_be2i (z := ((l.length : Nat) : Int)) (by omega) (by omega)
  omega
/-- What is written is read. -/
theorem rdT_back {o : Ol} {l : List Tu} {ax : Int} (h : foT o l ax = true) : rdTL (tuBt l) o ax = l ∧ rdTE (tuBt l) o ax = 0 := by
  have h3 := (foT_iff.1 h).2.2.1
  have hk := rdK_back h l.length (Nat.le_refl _)
  rw [List.take_length] at hk
  exact rdT_good (by rw [nmV_tus h3]; exact hk) h rfl
/-- What is read is written. -/
theorem rdT_of {b : List Nat} {o : Ol} {ax : Int} (h : rdTOk b o ax = true) : foT o (rdTL b o ax) ax = true ∧ tuBt (rdTL b o ax) = b := by
  unfold rdTL
  rw [if_pos h]
  unfold rdTOk at h
  rw [Bool.and_eq_true, Bool.and_eq_true] at h
  cases hr : rdK b ax.toNat (cntO o) (nmV b 0 2) with
  | none => rw [hr] at h; cases h.2.2
  | some r =>
    rw [hr] at h
    have h5 := h.2.2
    simp only [Bool.and_eq_true, decide_eq_true_iff] at h5
    exact h5
end Go.Proofs.YtngmcghmniakeaaGreat

namespace Go.Proofs.YtngmcghmniakeaaGreat
open Go.RowKit
set_option linter.unusedVariables false

/-- One cell of a block. -/
def Cl (w : World) (g o : Nat) (v : Value) : Prop := g < w.heap.size ∧ w.cell? ⟨g, o, none⟩ = some v
theorem Cl.below {w w' : World} {g o : Nat} {v : Value} (h : Cl w g o v) (hb : Below w.heap.size w w') : Cl w' g o v := ⟨Nat.lt_of_lt_of_le h.1 hb.size, (hb.cell (p := ⟨g, o, none⟩) h.1).trans h.2⟩

end Go.Proofs.YtngmcghmniakeaaGreat

namespace Go.Proofs.YtngmcghmniakeaaGreat
open Go.RowKit Go.Maps
set_option linter.unusedSimpArgs false
set_option linter.unusedVariables false
end Go.Proofs.YtngmcghmniakeaaGreat

namespace Go.Proofs.YtngmcghmniakeaaGreat
open Go.RowKit Go.Maps
set_option linter.unusedSimpArgs false
set_option linter.unusedVariables false
end Go.Proofs.YtngmcghmniakeaaGreat
