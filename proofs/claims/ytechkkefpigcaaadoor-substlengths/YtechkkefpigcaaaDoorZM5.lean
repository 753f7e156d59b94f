/-
  Lookups that put glyphs: how long a line comes to be, and where it goes on (plain mathematics).
  What subst.join puts together (plain mathematics); slices.Backward where the body writes a box of its own.
  subst.join: the walk (a range over what slices.Backward gives; the body writes the box).
-/
import Derived.Test.YtechkkefpigcaaaDoorZM4
import Derived.Test.YtechkkefpigcaaaDoorZM3
import Derived.Test.YtechkkefpigcaaaDoorZM1
import Derived.Deep.CutBlock
import Derived.Deep.CutRange
namespace Go.Proofs.YtechkkefpigcaaaDoor
set_option linter.unusedSimpArgs false
set_option linter.unusedVariables false

theorem puL_one {L : List Int} {z : Int} (h0 : 0 ≤ z) (h1 : z < (L.length : Int)) (o : List Int) : puL L z (z + 1) o = L.take z.toNat ++ o ++ L.drop (z.toNat + 1) := by
  obtain ⟨n, rfl⟩ : ∃ n : Nat, z = (n : Int) := ⟨z.toNat, by omega⟩
  have := puL_yes (L := L) (f := n) (t := n + 1) (o := o) (by omega) (by omega)
  rw [Int.toNat_natCast, ← this]
  rfl
theorem puL_len {L : List Int} {z : Int} (h0 : 0 ≤ z) (h1 : z < (L.length : Int)) (o : List Int) : (puL L z (z + 1) o).length + 1 = L.length + o.length := by
  rw [puL_one h0 h1]
  simp
  omega
theorem taF_drop {L m : List Int} {j : Nat} (hj : j < m.length) : taF L (m.drop j) = puL (taF L (m.drop (j + 1))) (m.getD j 0) (m.getD j 0 + 1) [] := by
  rw [List.drop_eq_getElem_cons hj, taF, List.getD_eq_getElem?_getD, List.getElem?_eq_getElem hj, Option.getD_some]
theorem taF_end (L m : List Int) : taF L (m.drop m.length) = L := by rw [List.drop_length]; rfl
theorem taF_len {ms : List Bool} {L : List Int} {sk : Bool} {i : Int} {A m : List Int} (h : MeR ms L sk i A m) : ∀ d, d ≤ m.length → (taF L (m.drop (m.length - d))).length + d = L.length := by
  intro d
  induction d with
  | zero => intro _; rw [Nat.sub_zero, taF_end]; rfl
  | succ d ih =>
    intro hd
    have h1 := ih (by omega)
    have hj : m.length - (d + 1) < m.length := by omega
    obtain ⟨p, e, hp, _⟩ := h.ok _ hj
    have hh := h.hi hj
    rw [taF_drop hj, show m.length - (d + 1) + 1 = m.length - d by omega]
    have := puL_len (L := taF L (m.drop (m.length - d))) (z := m.getD (m.length - (d + 1)) 0) (by omega) (by omega) []
    simp only [List.length_nil] at this
    omega
theorem taF_tail {ms : List Bool} {L : List Int} {sk : Bool} {i : Int} {A m : List Int} (h : MeR ms L sk i A m) : (taF L m.tail).length + m.length = L.length + 1 := by
  have := taF_len h (m.length - 1) (by omega)
  have hp := h.pos
  rw [show m.length - (m.length - 1) = 1 by omega, List.drop_one] at this
  omega
/-- What a lookup done at a place keeps. -/
structure DuF (L : List Int) (i : Int) (o : List Int) (on : Int) : Prop where
  len : o.length ≤ L.length + 7
  ge : i ≤ on
  le : on ≤ (L.length : Int) + 8
  less : (o.length : Int) - on < (L.length : Int) - i
theorem du_f {l : List Lk} {g : Int} {ms : List Bool} (hf : foU l g = true) : ∀ (n k : Nat) (L : List Int) (i : Int) (p : List Int × Int), k < l.length → puB (l.getD k Lk.none).kd = true → plB L i = true → duF l ms n k L i = some p → DuF L i p.1 p.2 := by
  intro n
  induction n with
  | zero =>
    intro k L i p hk hp hi h
    rw [duF_eq] at h
    by_cases hs : ((l.getD k Lk.none).sk && mkB ms (L.getD i.toNat 0)) = true
    · rw [if_pos hs] at h; cases h
    rw [if_neg hs] at h
    obtain ⟨r, hr, m, hm, rfl⟩ := rsF_of h
    have hM := me_r hm
    have hpi := plB_iff.1 hi
    have hrf := ru_mem hf hk hp hr
    have hlast := hM.lo (k := m.length - 1) (by have := hM.pos; omega)
    have hhi := hM.hi (k := m.length - 1) (by have := hM.pos; omega)
    have hpos := hM.pos
    unfold apF
    by_cases h4 : (l.getD k Lk.none).kd = 4
    · rw [if_pos h4]
      show DuF L i L (max (m.getD (m.length - 1) 0 + 1 + (L.length : Int) - (L.length : Int)) i)
      refine ⟨by omega, by omega, by omega, ?_⟩
      omega
    · rw [if_neg h4]
      by_cases h3 : (l.getD k Lk.none).kd = 3
      · rw [if_pos h3]
        have ht := taF_tail hM
        obtain ⟨c1, c2⟩ := hrf.lig h3
        have hml : m.length = r.inn.length := hM.len
        have hlo0 := hM.hi (k := 0) hpos
        rw [hM.fst] at hlo0
        have hl := puL_len (L := taF L m.tail) (z := i) hpi.1 (by omega) r.out
        refine ⟨by show (puL (taF L m.tail) i (i + 1) r.out).length ≤ _; omega, by show i ≤ i + 1; omega, by show i + 1 ≤ _; omega, ?_⟩
        show ((puL (taF L m.tail) i (i + 1) r.out).length : Int) - (i + 1) < _
        omega
      · rw [if_neg h3]
        have hl := puL_len hpi.1 hpi.2 r.out
        have hol := hrf.ol
        refine ⟨by show (puL L i (i + 1) r.out).length ≤ _; omega, by show i ≤ i + (r.out.length : Int); omega, by show i + (r.out.length : Int) ≤ _; omega, ?_⟩
        show ((puL L i (i + 1) r.out).length : Int) - (i + (r.out.length : Int)) < _
        omega
  | succ n ih =>
    intro k L i p hk hp hi h
    rw [duF_eq] at h
    by_cases hs : ((l.getD k Lk.none).sk && mkB ms (L.getD i.toNat 0)) = true
    · rw [if_pos hs] at h; cases h
    rw [if_neg hs] at h
    obtain ⟨r, hr, m, hm, rfl⟩ := rsF_of h
    have hM := me_r hm
    have hpi := plB_iff.1 hi
    have hrf := ru_mem hf hk hp hr
    have hlast := hM.lo (k := m.length - 1) (by have := hM.pos; omega)
    have hhi := hM.hi (k := m.length - 1) (by have := hM.pos; omega)
    have hpos := hM.pos
    unfold apF
    by_cases h4 : (l.getD k Lk.none).kd = 4
    · rw [if_pos h4]
      obtain ⟨c1, c2, c3, c4, c5, c6⟩ := hrf.cx h4
      have hml : m.length = r.inn.length := hM.len
      have ho : (inF l ms (n + 1) L r.lk (m.getD r.ap.toNat 0)).length ≤ L.length + 7 := by
        show (duL l ms n r.lk.toNat L (m.getD r.ap.toNat 0)).length ≤ _
        unfold duL
        cases hd : duF l ms n r.lk.toNat L (m.getD r.ap.toNat 0) with
        | none => show L.length ≤ _; omega
        | some p =>
          obtain ⟨q, e, hq, _⟩ := hM.ok r.ap.toNat (by omega)
          exact (ih r.lk.toNat L _ p (by omega) c6 (plB_iff.2 ⟨by omega, by omega⟩) hd).len
      generalize inF l ms (n + 1) L r.lk (m.getD r.ap.toNat 0) = o at ho
      refine ⟨ho, ?_, ?_, ?_⟩
      · show i ≤ max (m.getD (m.length - 1) 0 + 1 + (o.length : Int) - (L.length : Int)) i
        omega
      · show max (m.getD (m.length - 1) 0 + 1 + (o.length : Int) - (L.length : Int)) i ≤ _
        omega
      · show (o.length : Int) - max (m.getD (m.length - 1) 0 + 1 + (o.length : Int) - (L.length : Int)) i < _
        omega
    · rw [if_neg h4]
      by_cases h3 : (l.getD k Lk.none).kd = 3
      · rw [if_pos h3]
        have ht := taF_tail hM
        obtain ⟨c1, c2⟩ := hrf.lig h3
        have hml : m.length = r.inn.length := hM.len
        have hlo0 := hM.hi (k := 0) hpos
        rw [hM.fst] at hlo0
        have hl := puL_len (L := taF L m.tail) (z := i) hpi.1 (by omega) r.out
        refine ⟨by show (puL (taF L m.tail) i (i + 1) r.out).length ≤ _; omega, by show i ≤ i + 1; omega, by show i + 1 ≤ _; omega, ?_⟩
        show ((puL (taF L m.tail) i (i + 1) r.out).length : Int) - (i + 1) < _
        omega
      · rw [if_neg h3]
        have hl := puL_len hpi.1 hpi.2 r.out
        have hol := hrf.ol
        refine ⟨by show (puL L i (i + 1) r.out).length ≤ _; omega, by show i ≤ i + (r.out.length : Int); omega, by show i + (r.out.length : Int) ≤ _; omega, ?_⟩
        show ((puL L i (i + 1) r.out).length : Int) - (i + (r.out.length : Int)) < _
        omega
/-- A Single keeps the length, a Ligature makes none longer. -/
theorem du_single {l : List Lk} {g : Int} {ms : List Bool} (hf : foU l g = true) {n k : Nat} {L : List Int} {i : Int} {p : List Int × Int} (hk : k < l.length) (h1 : (l.getD k Lk.none).kd = 1) (hi : plB L i = true) (h : duF l ms n k L i = some p) : p.1.length = L.length ∧ p.2 = i + 1 := by
  have hp : puB (l.getD k Lk.none).kd = true := puB_iff.2 (.inl h1)
  rw [duF_eq] at h
  by_cases hs : ((l.getD k Lk.none).sk && mkB ms (L.getD i.toNat 0)) = true
  · rw [if_pos hs] at h; cases h
  rw [if_neg hs] at h
  obtain ⟨r, hr, m, hm, rfl⟩ := rsF_of h
  have hpi := plB_iff.1 hi
  have hrf := ru_mem hf hk hp hr
  obtain ⟨c1, c2⟩ := hrf.one h1
  unfold apF
  rw [if_neg (by omega), if_neg (by omega)]
  have hl := puL_len hpi.1 hpi.2 r.out
  exact ⟨by show (puL L i (i + 1) r.out).length = _; omega, by show i + (r.out.length : Int) = _; omega⟩
theorem du_lig {l : List Lk} {g : Int} {ms : List Bool} (hf : foU l g = true) {n k : Nat} {L : List Int} {i : Int} {p : List Int × Int} (hk : k < l.length) (h1 : (l.getD k Lk.none).kd = 3) (hi : plB L i = true) (h : duF l ms n k L i = some p) : p.1.length ≤ L.length := by
  have hp : puB (l.getD k Lk.none).kd = true := puB_iff.2 (.inr (.inr (.inl h1)))
  rw [duF_eq] at h
  by_cases hs : ((l.getD k Lk.none).sk && mkB ms (L.getD i.toNat 0)) = true
  · rw [if_pos hs] at h; cases h
  rw [if_neg hs] at h
  obtain ⟨r, hr, m, hm, rfl⟩ := rsF_of h
  have hM := me_r hm
  have hpi := plB_iff.1 hi
  have hrf := ru_mem hf hk hp hr
  obtain ⟨c1, c2⟩ := hrf.lig h1
  have ht := taF_tail hM
  have hml : m.length = r.inn.length := hM.len
  have hlo0 := hM.hi (k := 0) hM.pos
  rw [hM.fst] at hlo0
  unfold apF
  rw [if_neg (by omega), if_pos h1]
  have hl := puL_len (L := taF L m.tail) (z := i) hpi.1 (by omega) r.out
  show (puL (taF L m.tail) i (i + 1) r.out).length ≤ _
  omega

/-- A lookup done in a line, from a place on: none if it comes to be too long; n: rounds. -/
def liF (l : List Lk) (ms : List Bool) (k : Nat) : Nat → List Int → Int → Option (List Int)
  | 0, L, _ => some L
  | n + 1, L, i => if i < (L.length : Int) then
      (if 100 < (duL l ms 7 k L i).length then none
       else liF l ms k n (duL l ms 7 k L i) (if duB l ms 7 k L i = false ∨ (duO l ms 7 k L i = i ∧ L.length ≤ (duL l ms 7 k L i).length) then i + 1 else duO l ms 7 k L i))
    else some L
/-- Where it goes on. -/
def goO (l : List Lk) (ms : List Bool) (k : Nat) (L : List Int) (i : Int) : Int := if duB l ms 7 k L i = false ∨ (duO l ms 7 k L i = i ∧ L.length ≤ (duL l ms 7 k L i).length) then i + 1 else duO l ms 7 k L i
theorem go_less {l : List Lk} {g : Int} {ms : List Bool} (hf : foU l g = true) {k : Nat} {L : List Int} {i : Int} (hk : k < l.length) (hp : puB (l.getD k Lk.none).kd = true) (h0 : 0 ≤ i) (hi : i < (L.length : Int)) :
    i ≤ goO l ms k L i ∧ goO l ms k L i ≤ (L.length : Int) + 8 ∧ ((duL l ms 7 k L i).length : Int) - goO l ms k L i < (L.length : Int) - i ∧ (duL l ms 7 k L i).length ≤ L.length + 7 := by
  unfold goO duB duL duO
  cases hd : duF l ms 7 k L i with
  | none =>
    rw [if_pos (.inl rfl)]
    refine ⟨by omega, by omega, ?_, ?_⟩
    · show (L.length : Int) - (i + 1) < _; omega
    · show L.length ≤ _; omega
  | some p =>
    have h := du_f hf 7 k L i p hk hp (plB_iff.2 ⟨h0, hi⟩) hd
    obtain ⟨h1, h2, h3, h4⟩ := h
    by_cases hc : p.2 = i ∧ L.length ≤ p.1.length
    · obtain ⟨e, hc⟩ := hc
      rw [e] at h4
      omega
    · rw [if_neg (fun h => by
        rcases h with h | h
        · cases h
        · exact hc h)]
      exact ⟨h2, h3, h4, h1⟩
/-- How many rounds are enough does not matter. -/
theorem liF_more {l : List Lk} {g : Int} {ms : List Bool} (hf : foU l g = true) {k : Nat} (hk : k < l.length) (hp : puB (l.getD k Lk.none).kd = true) : ∀ (n m : Nat) (L : List Int) (i : Int), 0 ≤ i → (L.length : Int) - i ≤ (n : Int) → n ≤ m → liF l ms k m L i = liF l ms k n L i := by
  intro n
  induction n with
  | zero =>
    intro m L i h0 h1 _
    cases m with
    | zero => rfl
    | succ m => rw [liF, liF, if_neg (by omega)]
  | succ n ih =>
    intro m L i h0 h1 h2
    obtain ⟨m, rfl⟩ : ∃ m', m = m' + 1 := ⟨m - 1, by omega⟩
    rw [liF, liF]
    by_cases hi : i < (L.length : Int)
    · rw [if_pos hi, if_pos hi]
      by_cases hl : 100 < (duL l ms 7 k L i).length
      · rw [if_pos hl, if_pos hl]
      · rw [if_neg hl, if_neg hl]
        obtain ⟨g1, g2, g3, g4⟩ := go_less (ms := ms) hf hk hp h0 hi
        exact ih m _ _ (by show 0 ≤ goO l ms k L i; omega) (by show _ - goO l ms k L i ≤ _; omega) (by omega)
    · rw [if_neg hi, if_neg hi]
/-- A line behind a lookup: as far as the loop has come. -/
def liQ (l : List Lk) (ms : List Bool) (k : Nat) (L : List Int) (i : Int) : Option (List Int) := liF l ms k (L.length - i.toNat) L i
theorem liQ_end {l : List Lk} {ms : List Bool} {k : Nat} {L : List Int} {i : Int} (h0 : 0 ≤ i) (h : ¬ i < (L.length : Int)) : liQ l ms k L i = some L := by
  unfold liQ
  rw [show L.length - i.toNat = 0 by omega, liF]
theorem liQ_long {l : List Lk} {ms : List Bool} {k : Nat} {L : List Int} {i : Int} (h0 : 0 ≤ i) (h : i < (L.length : Int)) (hl : 100 < (duL l ms 7 k L i).length) : liQ l ms k L i = none := by
  unfold liQ
  obtain ⟨n, hn⟩ : ∃ n, L.length - i.toNat = n + 1 := ⟨L.length - i.toNat - 1, by omega⟩
  rw [hn, liF, if_pos h, if_pos hl]
theorem liQ_on {l : List Lk} {g : Int} {ms : List Bool} (hf : foU l g = true) {k : Nat} (hk : k < l.length) (hp : puB (l.getD k Lk.none).kd = true) {L : List Int} {i : Int} (h0 : 0 ≤ i) (h : i < (L.length : Int)) (hl : ¬ 100 < (duL l ms 7 k L i).length) : liQ l ms k L i = liQ l ms k (duL l ms 7 k L i) (goO l ms k L i) := by
  unfold liQ
  obtain ⟨n, hn⟩ : ∃ n, L.length - i.toNat = n + 1 := ⟨L.length - i.toNat - 1, by omega⟩
  obtain ⟨g1, g2, g3, g4⟩ := go_less (ms := ms) hf hk hp h0 h
  rw [hn, liF, if_pos h, if_neg hl]
  show liF l ms k n (duL l ms 7 k L i) (goO l ms k L i) = _
  exact liF_more hf hk hp _ n _ (goO l ms k L i) (by omega) (by omega) (by omega)
/-- Line's answer. -/
def liE (l : List Lk) (ms : List Bool) (k : Int) (L : List Int) : Int :=
  if foU l 65536 then (if 100 < L.length then 3 else if 0 ≤ k ∧ k < (l.length : Int) then (if puB (l.getD k.toNat Lk.none).kd then (if (liQ l ms k.toNat L 0).isSome then 0 else 3) else 0) else 5) else 1
def liL (l : List Lk) (ms : List Bool) (k : Int) (L : List Int) : List Int :=
  if foU l 65536 then (if 100 < L.length then [] else if 0 ≤ k ∧ k < (l.length : Int) then (if puB (l.getD k.toNat Lk.none).kd then (liQ l ms k.toNat L 0).getD [] else L) else []) else []

end Go.Proofs.YtechkkefpigcaaaDoor

namespace Go.Proofs.YtechkkefpigcaaaDoor
open Go.RowKit Go.Maps Go.Shelf
set_option linter.unusedSimpArgs false
set_option linter.unusedVariables false
attribute [local go_sem] Oper.semAt_some

theorem puL_le {L : List Int} {f t : Int} : (puL L f t []).length ≤ L.length := by
  unfold puL
  split
  · simp only [List.length_append, List.length_take, List.length_drop, List.length_nil]; omega
  · exact Nat.le_refl _
/-- Places taken out one after the other. -/
def foP (L : List Int) (zs : List Int) : List Int := zs.foldl (fun X z => puL X z (z + 1) []) L
theorem foP_app (L zs : List Int) (z : Int) : foP L (zs ++ [z]) = puL (foP L zs) z (z + 1) [] := by unfold foP; rw [List.foldl_append]; rfl
theorem foP_le : ∀ (zs : List Int) (L : List Int), (foP L zs).length ≤ L.length := by
  intro zs
  induction zs with
  | nil => intro L; exact Nat.le_refl _
  | cons z t ih => intro L; exact Nat.le_trans (ih (puL L z (z + 1) [])) puL_le
theorem foP_taF : ∀ (m L : List Int), foP L m.reverse = taF L m := by
  intro m L
  induction m with
  | nil => rfl
  | cons z t ih => rw [List.reverse_cons, foP_app, ih]; rfl
theorem foP_i64 : ∀ (zs : List Int) (L : List Int), (∀ z ∈ L, I64 z) → ∀ z ∈ foP L zs, I64 z := by
  intro zs
  induction zs with
  | nil => intro L h; exact h
  | cons z t ih =>
    intro L h
    refine ih (puL L z (z + 1) []) (fun x hx => ?_)
    unfold puL at hx
    split at hx
    · simp only [List.append_nil, List.mem_append] at hx
      rcases hx with hx | hx
      · exact h x (List.mem_of_mem_take hx)
      · exact h x (List.mem_of_mem_drop hx)
    · exact h x hx
/-- The first one turned, ahead or behind. -/
theorem puL_set {L : List Int} {z : Int} {i : Nat} (g : Int) (hz : (i : Int) < z) : puL (L.set i g) z (z + 1) [] = (puL L z (z + 1) []).set i g := by
  obtain ⟨n, rfl⟩ : ∃ n : Nat, z = (n : Int) := ⟨z.toNat, by omega⟩
  by_cases h : n + 1 ≤ L.length
  · have e1 : puL (L.set i g) (n : Int) ((n : Int) + 1) [] = (L.set i g).take n ++ [] ++ (L.set i g).drop (n + 1) := puL_yes (f := n) (t := n + 1) (by omega) (by rw [List.length_set]; omega)
    have e2 : puL L (n : Int) ((n : Int) + 1) [] = L.take n ++ [] ++ L.drop (n + 1) := puL_yes (f := n) (t := n + 1) (by omega) (by omega)
    rw [e1, e2, List.append_nil, List.append_nil, List.take_set, List.drop_set_of_lt (by omega), List.set_append_left _ _ (by rw [List.length_take]; omega)]
  · rw [puL_no (L := L.set i g) (by rw [List.length_set]; omega), puL_no (L := L) (by omega)]
theorem taF_set {L : List Int} {i : Nat} (g : Int) : ∀ (t : List Int), (∀ z ∈ t, (i : Int) < z) → taF (L.set i g) t = (taF L t).set i g := by
  intro t
  induction t with
  | nil => intro _; rfl
  | cons z t ih =>
    intro h
    show puL (taF (L.set i g) t) z (z + 1) [] = _
    rw [ih (fun y hy => h y (List.mem_cons_of_mem _ hy)), puL_set g (h z (List.mem_cons_self ..))]
    rfl
theorem puL_same {L : List Int} {i : Nat} (g : Int) (hi : i < L.length) : puL L (i : Int) ((i : Int) + 1) [g] = L.set i g := by
  have e : puL L (i : Int) ((i : Int) + 1) [g] = L.take i ++ [g] ++ L.drop (i + 1) := puL_yes (f := i) (t := i + 1) (by omega) (by omega)
  rw [e, List.set_eq_take_append_cons_drop, if_pos hi]
  simp
/-- All of it. -/
theorem join_is {ms : List Bool} {L : List Int} {sk : Bool} {i : Nat} {A m : List Int} (h : MeR ms L sk (i : Int) A m) (g : Int) : foP (L.set i g) m.tail.reverse = puL (taF L m.tail) (i : Int) ((i : Int) + 1) [g] := by
  have hpos := h.pos
  have hlt : ∀ z ∈ m.tail, (i : Int) < z := fun z hz => by
    obtain ⟨j, hj, e⟩ := List.getElem_of_mem hz
    have hj2 : j + 1 < m.length := by rw [List.length_tail] at hj; omega
    have h1 := h.lo hj2
    have e2 : m.getD (j + 1) 0 = z := by
      rw [List.getD_eq_getElem?_getD, List.getElem?_eq_getElem hj2, Option.getD_some, ← e, List.getElem_tail]
    omega
  rw [foP_taF, taF_set g _ hlt, puL_same]
  have h1 := taF_tail h
  have h2 := h.hi hpos
  rw [h.fst] at h2
  omega
theorem dnL_rev {f : Nat → Int} {m : List Int} (hf : ∀ j, j < m.length → f j = m.getD j 0) {ys : List (Ix19 m.length)} (h : vals19 ys = dnL m.length m.length) : ys.map (fun x => f x.1) = m.reverse := by
  have e1 : ys.map (fun x => f x.1) = (vals19 ys).map f := by simp [vals19]
  rw [e1, h]
  apply List.ext_getElem
  · simp [dnL]
  · intro k h1 h2
    have hk : k < m.length := by simpa [dnL] using h1
    simp only [List.getElem_map, dnL, List.getElem_range, List.getElem_reverse]
    rw [hf _ (by omega), List.getD_eq_getElem?_getD, List.getElem?_eq_getElem (by omega), Option.getD_some]
/-- A row of the call's own, told either way. -/
theorem Gi.io {base : Nat} {w : World} {v : Value} {l : List Int} (h : Gi base w v l) : Io base w v l := by
  obtain ⟨a0, c0, e0, hri, -⟩ := h.slice
  obtain ⟨vss, hl, h3, h4⟩ := h
  refine ⟨hri.1, ?_⟩
  have hfl : vss.flatten = l.map (Value.int .i64) := by
    have hh : ∀ (vss : List (List Value)) (l : List Int), l.length = vss.length → (∀ i, i < l.length → vss.getD i [] = [.int .i64 (l.getD i 0)]) → vss.flatten = l.map (Value.int .i64) := by
      intro vss
      induction vss with
      | nil =>
        intro l hl _
        have : l = [] := List.length_eq_zero_iff.1 hl
        rw [this]; rfl
      | cons vs t ih =>
        intro l hl hv
        cases l with
        | nil => cases hl
        | cons z l =>
          have h0 : vs = [.int .i64 z] := hv 0 (by simp)
          rw [List.flatten_cons, h0, ih l (by simpa using hl) (fun i hi => hv (i + 1) (by simpa using hi))]
          rfl
    exact hh vss l (by omega) (fun i hi => (El.int_rep.1 (h4 i hi)).1)
  rw [← hfl]
  exact h3
theorem Io.grL {base : Nat} {S : Nat → Prop} {w : World} {v : Value} {zs : List Int} (h : Io base w v zs) : ∃ a c, v = .slice a zs.length c ∧ Gr El.int S w a c zs := by
  obtain ⟨h1, h3⟩ := h
  rcases h3.2 with ⟨rfl, h0⟩ | ⟨g, cap, cur, rfl, hb, hg, hc1, hc2, hc3, ht⟩
  · have : zs = [] := List.length_eq_zero_iff.1 h0
    subst this
    exact ⟨none, 0, rfl, Gr.nil _ _ _ _ _ (Nat.zero_le _) (fun _ => rfl)⟩
  · refine ⟨_, cap, rfl, hc1, hc2, (fun e => by cases e), fun i hi => ⟨g, 0, [.int .i64 (zs.getD i 0)], rfl, (Array.getElem?_eq_some_iff.1 hg).1, ⟨rfl, ?_⟩, fun j hj => ?_⟩⟩
    · exact h1 _ (by rw [List.getD_eq_getElem?_getD, List.getElem?_eq_getElem hi]; exact List.getElem_mem hi)
    · obtain rfl : j = 0 := by simp [El.int, El.num] at hj; exact hj
      have := h3.cells (g := g) rfl i (.int .i64 (zs.getD i 0)) (by simp [List.getD, hi])
      have hadd : (⟨g, 0, none⟩ : Addr).add i = ⟨g, 0 + i, none⟩ := by unfold Addr.add; split <;> simp_all
      rw [hadd] at this
      show w.cell? ⟨g, 0 + i * 1 + 0, none⟩ = _
      rw [Nat.mul_one, Nat.add_zero]
      exact this

set_option maxRecDepth 100000 in
set_option maxHeartbeats 2000000 in
set_option maxRecDepth 100000 in
theorem back2_in (G : Nat → Prop) (F : Fence) (n : Nat) (hf : F.fn 48) (hro : F.round = none) (hn : 1 ≤ n) (l Bs b off len cap : Nat) (f : Nat → Int) (hreach : len ≤ 9223372036854775807) (hb : G b) (hBn : G Bs) (J Jx : List (Ix19 len) → World → Prop)
    (hY : ∀ (pre : List (Ix19 len)) (x : Ix19 len) W, J pre W → pre.length < len → YieldAt F (n - 1) Tryd.prog l #[.int .i64 (x.1 : Int), .int .i64 (f x.1)] W fun e W' =>
      (e = .returned (.bool true) ∧ J (pre ++ [x]) W' ∧ Keep G W W') ∨ (e = .returned (.bool false) ∧ Jx (pre ++ [x]) W'))
    (W : World) (hBs : W.cell? ⟨Bs, 0, none⟩ = some (.slice (some ⟨b, off, none⟩) len cap)) (hc : ∀ j, j < len → W.cell? ⟨b, off + j, none⟩ = some (.int .i64 (f j))) (h0 : J [] W) :
    CallsIn F n Tryd.prog 48 #[.func (.yield l) #[] #[], .pointer (some ⟨Bs, 0, none⟩)] W fun e W' => (∃ v, e = .returned v) ∧
      ((∃ ys : List (Ix19 len), vals19 ys = dnL len len ∧ J ys W') ∨ (∃ pre : List (Ix19 len), (∃ k, k ≤ len ∧ vals19 pre = dnL len k) ∧ Jx pre W')) := by
  refine callsIn_of_wp Tryd.func48 rfl hf ?_ hro
  simp only [Tryd.ntmps48, List.size_toArray, List.length_cons, List.length_nil, Nat.reduceAdd, Nat.reduceSub, Array.replicate_succ, Array.replicate_zero, List.push_toArray, List.append_toArray, List.nil_append, List.cons_append]
  gi_wp2
  gi_loopw [3] (fun i wr => ∃ (r : Nat) (z : Int) (pre : List (Ix19 len)), r ≤ len ∧ Hid (z = (len : Int) - 1 - (r : Int)) ∧ i = .int .i64 z ∧ Hid (vals19 pre = dnL len r) ∧ J pre wr ∧ Keep G W wr)
    (fun i _ => (intOf i + 1).toNat)
  case atStart => exact ⟨0, (len : Int) - 1, [], Nat.zero_le _, (by show _ = _; omega), rfl, rfl, h0, Keep.refl _ _⟩
  case round =>
    obtain ⟨r, z, pre, hr, HZ, rfl, HP, hJs, hnx⟩ := hrel
    have cB := (hnx.cell (p := ⟨Bs, 0, none⟩) hBn).trans hBs
    by_cases hlt : r < len
    · obtain ⟨j, hj⟩ : ∃ j : Nat, len - 1 - r = j := ⟨_, rfl⟩
      obtain rfl : z = (j : Int) := by have := HZ.out; omega
      have hjl : j < len := by omega
      have c0 := (hnx.cell (p := ⟨b, off + j, none⟩) hb).trans (hc j hjl)
      have HPL : Hid (pre.length < len) := by
        have h1 : (vals19 pre).length = r := by rw [HP.out, dnL_len]
        show _ < _
        rw [← h1] at hlt
        simpa [vals19] using hlt
      have HP2 : Hid (vals19 (pre ++ [⟨j, hjl⟩]) = dnL len (r + 1)) := by show _ = _; rw [vals19_app, HP.out, dnL_succ, hj]
      have HZ2 : Hid ((j : Int) - 1 = (len : Int) - 1 - ((r + 1 : Nat) : Int)) := by show _ = _; have := HZ.out; omega
      have i1 : (0 : Int) ≤ (j : Int) := by omega
      have i2 : (j : Int) < (len : Int) := by omega
      have hYY := hY pre ⟨j, hjl⟩ wr hJs HPL.out
      dsimp only at hYY
      obtain ⟨fn, tmps, assign, body, hy, hR⟩ := hYY
      clear hj HZ HP HPL hY
      gi_wp2
      refine hR.mono ?_
      rintro e W3 (⟨rfl, hJ3, hk3⟩ | ⟨rfl, hJx3⟩)
      · gi_wp2
        go_roundw
        case rel => exact ⟨r + 1, _, _, by omega, HZ2, rfl, HP2, hJ3, hnx.trans hk3⟩
        case measure => simp [intOf]
      · gi_wp2
        refine bodyPost_ret (results_none rfl _ _ _) rfl ?_
        exact ⟨⟨_, rfl⟩, .inr ⟨_, ⟨r + 1, by omega, HP2.out⟩, hJx3⟩⟩
    · obtain rfl : r = len := by omega
      obtain rfl : z = -1 := by have := HZ.out; omega
      clear HZ hY
      gi_wp2
      go_end0
      exact ⟨⟨_, rfl⟩, .inl ⟨_, HP.out, hJs⟩⟩
theorem back2_stops (G : Nat → Prop) (F : Fence) (n : Nat) (hf : F.fn 48) (hro : F.round = none) (hn : 1 ≤ n) (Bs b off len cap : Nat) (f : Nat → Int) (hreach : len ≤ 9223372036854775807) (w : World) (hBs : Bs < w.heap.size) (hb : b < w.heap.size) (hGs : G Bs) (hGb : G b)
    (hc : w.cell? ⟨Bs, 0, none⟩ = some (.slice (some ⟨b, off, none⟩) len cap)) (hI : ∀ j, j < len → w.cell? ⟨b, off + j, none⟩ = some (.int .i64 (f j))) :
    SeqStopsK F n Tryd.prog 48 #[.pointer (some ⟨Bs, 0, none⟩)] (fun x : Ix19 len => #[Value.int .i64 (x.1 : Int), Value.int .i64 (f x.1)]) (Keep G) (fun ys => vals19 ys = dnL len len)
      (fun pre => ∃ k, k ≤ len ∧ vals19 pre = dnL len k) len w := fun l J Jx W hW _ _ hY h0 =>
  back2_in G F n hf hro hn l Bs b off len cap f hreach hGb hGs J Jx hY W ((hW.cell (p := ⟨Bs, 0, none⟩) hBs).trans hc) (fun j hj => (hW.cell (p := ⟨b, off + j, none⟩) hb).trans (hI j hj)) h0

end Go.Proofs.YtechkkefpigcaaaDoor

namespace Go.Proofs.YtechkkefpigcaaaDoor
open Go.RowKit Go.Maps Go.Shelf
set_option linter.unusedSimpArgs false
set_option linter.unusedVariables false
attribute [local go_sem] Oper.semAt_some

/-- What is handed back is read as a line. -/
structure LnA (o : List Int) (w' : World) (e : Ending) : Prop where
  out : ∃ a c, e = .returned (.slice a o.length c) ∧ Gr El.int (fun _ => True) w' a c o

/-- A statement that ends well whatever is asked of a panic. -/
theorem wp_calm {P : Program} {c : Code} {K : Act → World → Prop} {Q : Exit → Act → World → Prop} {a : Act} {w : World} (h : c.wp P (Exit.then K (fun _ _ _ => False)) a w) : c.wp P (Exit.then K Q) a w :=
  Code.wp_mono (fun e a w he => by cases e <;> first | exact he | exact he.elim) h

set_option maxRecDepth 100000 in
set_option maxHeartbeats 4000000 in
set_option maxRecDepth 100000 in
theorem join_any (S : Nat → Prop) (a : Option Addr) (ca : Nat) (L : List Int) (b : Option Addr) (cb : Nat) (m : List Int) (ms : List Bool) (sk : Bool) (i : Int) (A : List Int) (g : Int) (w : World)
    (hL : Gr El.int S w a ca L) (hm : Ri w b cb m) (hM : MeR ms L sk i A m) (h2 : 2 ≤ m.length) (hg : I64 g) (hl : L.length ≤ 1000) :
    Calls Tryd.prog 32 #[.slice a L.length ca, .slice b m.length cb, .int .i64 g] w fun e w' => LnA (puL (taF L m.tail) i (i + 1) [g]) w' e ∧ Below w.heap.size w w' := by
  have kl := hL.lenB
  have km := hm.lenB
  have hpi := plB_iff.1 hM.pl
  obtain ⟨n, rfl⟩ : ∃ n : Nat, i = (n : Int) := ⟨i.toNat, by omega⟩
  have hn : n < L.length := by omega
  have HJ : Hid (foP (L.set n g) m.tail.reverse = puL (taF L m.tail) (n : Int) ((n : Int) + 1) [g]) := join_is hM g
  obtain ⟨R, hR⟩ : ∃ R, puL (taF L m.tail) (n : Int) ((n : Int) + 1) [g] = R := ⟨_, rfl⟩
  rw [hR] at HJ ⊢
  have HMB : Hid (∀ j, j < m.length → 0 ≤ m.getD j 0 ∧ m.getD j 0 < (L.length : Int)) := fun j hj => by
    obtain ⟨q, e, hq, _⟩ := hM.ok j hj
    exact ⟨by omega, by omega⟩
  obtain ⟨b0, off, rfl, hb0, c0⟩ := hm.at (Below.refl _ _) 0 (by omega)
  rw [hM.fst, Nat.add_zero] at c0
  obtain ⟨f, hf⟩ : ∃ f : Nat → Int, ∀ j, f j = m.getD (j + 1) 0 := ⟨_, fun _ => rfl⟩
  have hcap := hm.2.1
  have hcap2 := hm.2.2.1
  unfold maxLen at hcap2
  have hc1 : ¬ cb = 1 := by omega
  have HLF : Hid (∀ W, Below w.heap.size w W → ∀ j, j < m.length - 1 → W.cell? ⟨b0, off + 1 + j, none⟩ = some (.int .i64 (f j))) := fun W hW j hj => by
    obtain ⟨b1, o1, e1, _, c1⟩ := hm.at hW (j + 1) (by omega)
    cases e1
    rw [hf, Nat.add_assoc, Nat.add_comm 1 j]
    exact c1
  have HFI : Hid (∀ j, j < m.length - 1 → 0 ≤ f j ∧ f j < 1000) := fun j hj => by
    have := HMB.out (j + 1) (by omega)
    rw [hf]
    omega
  have HTL : Hid (∀ ys : List (Ix19 (m.length - 1)), vals19 ys = dnL (m.length - 1) (m.length - 1) → ys.map (fun x => f x.1) = m.tail.reverse) := by
    rw [← List.length_tail]
    exact fun ys h => dnL_rev (fun j hj => by rw [hf, List.getD_eq_getElem?_getD, List.getD_eq_getElem?_getD, List.getElem?_tail]) h
  have HLZ : Hid (∀ z ∈ L.set n g, I64 z) := fun z hz => by
    rcases List.mem_or_eq_of_mem_set hz with h | h
    · exact hL.ri.1 z h
    · rw [h]; exact hg
  have hcl := ccloneI_any S a ca L w hL hl
  have hpc : ∀ W, Below w.heap.size w W → W.cell? ⟨b0, off, none⟩ = some (.int .i64 (n : Int)) := fun W hW => (hW.cell (p := ⟨b0, off, none⟩) hb0).trans c0
  have HPC : Hid (∀ W, Below w.heap.size w W → W.cell? ⟨b0, off, none⟩ = some (.int .i64 (n : Int))) := hpc
  have hm1 : (1 : Int) ≤ (m.length : Int) := by omega
  have hm0 : 0 < m.length := by omega
  have i1 : (0 : Int) ≤ (n : Int) := by omega
  have i2 : (n : Int) < (L.length : Int) := by omega
  clear hR hM hm hL hf HMB hpi c0 hpc
  refine (callsIn_wide (n := 6)).1 ?_
  refine callsIn_of_wp_marks Tryd.func32 rfl trivial ?_ rfl
  simp only [Tryd.ntmps32, List.size_toArray, List.length_cons, List.length_nil, Nat.reduceAdd, Nat.reduceSub, Array.replicate_succ, Array.replicate_zero, List.push_toArray, List.append_toArray, List.nil_append, List.cons_append]
  refine wpIn_wide.2 ?_
  go_wp2_with fail
  refine hcl.mono ?_
  rintro e u ⟨⟨v, rfl, hv⟩, hbu⟩
  obtain ⟨gb, cap, rfl, hgb, hglt, hgc, hgl, hgf, hgs⟩ := Io.own hv.io (by intro e; rw [e] at hn; simp at hn)
  clear hgl hgf hgs
  have hio := hv.io
  obtain ⟨U, hU, XB, hbU⟩ : ∃ U, U = u.alloc (.cells #[.slice (some ⟨gb, 0, none⟩) L.length cap] 23) ∧ Boxed U u.heap.size 23 (.slice (some ⟨gb, 0, none⟩) L.length cap) ∧ Below u.heap.size u U := ⟨_, rfl, Boxed.new _ _ _, bl1 _⟩
  have hwU := hbu.trans (hbU.mono hbu.size)
  go_upto_region 2 with fail
  rw [← hU]
  clear hU hcl
  refine wp_calm ?_
  refine wp_region_held_drew (S := fun u' => u'.cell? ⟨u.heap.size, 0, none⟩ = some (.slice (some ⟨gb, 0, none⟩) L.length cap) ∧ u'.cell? ⟨b0, off, none⟩ = some (.int .i64 (n : Int))) (by kernel_rfl) ⟨XB.cell, HPC.out U hwU⟩ (fun hHeld => ?_)
  have hdr : Below U.heap.size U U.drew := (Below.refl _ _).drew
  generalize U.drew = Z at hdr hHeld ⊢
  have hwZ := hwU.trans (hdr.mono hwU.size)
  have XZ : Boxed Z u.heap.size 23 (.slice (some ⟨gb, 0, none⟩) L.length cap) := boxed_below XB hdr
  have hioZ := (hio.below hbU).below hdr
  obtain ⟨gb', cap', e', hgb', hglt', hgc', hgl', hgf', hgs'⟩ := Io.own hioZ (by intro e; rw [e] at hn; simp at hn)
  cases e'
  have HSTO : Hid (Io w.heap.size (Z.setCell ⟨gb, n, none⟩ (.int .i64 g)) (.slice (some ⟨gb, 0, none⟩) L.length cap) (L.set n g) ∧ Boxed (Z.setCell ⟨gb, n, none⟩ (.int .i64 g)) u.heap.size 23 (.slice (some ⟨gb, 0, none⟩) L.length cap) ∧ Below w.heap.size w (Z.setCell ⟨gb, n, none⟩ (.int .i64 g))) :=
    ⟨hgs' n g hn hg, (Below.heap_setCell _ _ _ _ (fun e => by have e1 : u.heap.size = gb := e; omega)).trans XZ, hwZ.setCell (p := ⟨gb, n, none⟩) hgb _⟩
  have HPZ : Hid ((Z.setCell ⟨gb, n, none⟩ (.int .i64 g)).cell? ⟨b0, off, none⟩ = some (.int .i64 (n : Int))) := HPC.out _ HSTO.out.2.2
  have cg := hgl' n hn
  have fg := hgf' n
  clear hgl' hgf' hgs' hgb' hgc' hioZ
  refine hT 0 hHeld ?_
  refine hT 1 hHeld ?_
  refine hT 2 hHeld ?_
  refine hT 3 hHeld ?_
  refine hT 4 hHeld ?_
  refine hT 5 hHeld ?_
  refine hCall (i := 6) rfl (by kernel_rfl) (by rfl) (fun K hK => ?_)
  go_simp
  refine hK.out _ _ ⟨HSTO.out.2.1.cell, HPZ.out⟩ (fun hHeld => ?_)
  clear hK K
  refine wpAnyH_done (by kernel_rfl) ?_ _
  go_wp2
  obtain ⟨V, hV⟩ : ∃ V, V = Z.setCell ⟨gb, n, none⟩ (.int .i64 g) := ⟨_, rfl⟩
  have hszV : V.heap.size = Z.heap.size := by rw [hV]; simp [World.setCell]
  rw [← hV] at HSTO ⊢
  obtain ⟨S1, S2, S3⟩ := HSTO.out
  have hsu : u.heap.size < Z.heap.size := by have := S2.lt; omega
  have hwu : w.heap.size ≤ u.heap.size := hbu.size
  clear hV hHeld HPZ cg fg HSTO XZ hdr hwU hwZ XB hbU hio hv hglt'
  obtain ⟨W0, hW0⟩ : ∃ W0, W0 = V.alloc (.cells #[.slice (some ⟨b0, off + 1, none⟩) (m.length - 1) (cb - 1)] 23) := ⟨_, rfl⟩
  have bN : Boxed W0 Z.heap.size 23 (.slice (some ⟨b0, off + 1, none⟩) (m.length - 1) (cb - 1)) := by rw [hW0, ← hszV]; exact Boxed.new V _ _
  have bX : Boxed W0 u.heap.size 23 (.slice (some ⟨gb, 0, none⟩) L.length cap) := by rw [hW0]; exact S2.alloc _
  have hb1 : Below V.heap.size V W0 := by rw [hW0]; exact bl1 _
  have hB0 : Below w.heap.size w W0 := S3.trans (hb1.mono S3.size)
  have hI0 : Io w.heap.size W0 (.slice (some ⟨gb, 0, none⟩) L.length cap) (L.set n g) := S1.below hb1
  have hs0 : W0.heap.size = Z.heap.size + 1 := by rw [hW0, World.size_alloc, hszV]
  rw [← hW0]
  clear hW0 S1 S2 S3 hb1 hszV
  have hks : ∀ k : Nat, (k = Z.heap.size ∨ k = b0) → k < W0.heap.size := fun k hk => by rcases hk with rfl | rfl <;> omega
  refine (wpIn_wide (n := 6)).1 ?_
  refine wpIn_rangeFunc_ownG (F := Fence.wide) rfl (by omega) (gf := 48) (lb := #[.pointer (some ⟨Z.heap.size, 0, none⟩)]) rfl trivial (enters_of Tryd.func48 (by kernel_rfl) rfl)
    (back2_stops (fun k => k = Z.heap.size ∨ k = b0) Fence.wide _ trivial rfl (by omega) Z.heap.size b0 (off + 1) (m.length - 1) (cb - 1) f (by omega) W0 (by omega) (by omega) (.inl rfl) (.inr rfl) bN.cell (HLF.out _ hB0)) (fun h k => h.trans k)
    (fun W l o o' hl h _ _ => ⟨rfl, rfl, rfl, by simp, fun k hk => World.putObj_heap_other (fun e => by have := hks k hk; omega)⟩) (Below.refl _ _) (fun _ => rfl)
    (fun pre W => ((∃ v, Boxed W u.heap.size 23 v ∧ W.ownsRow w.heap.size 3 1 v (foP (L.set n g) (pre.map (fun x => f x.1))).length ((foP (L.set n g) (pre.map (fun x => f x.1))).map (Value.int .i64)) ∧ True) ∧ Z.heap.size + 1 ≤ W.heap.size) ∧ Below w.heap.size w W)
    (fun c pre W => False)
    (OwnFrom.and (OwnFrom.and (Own.from (holdsRow_own _ _ _ _ _ _ _ _) _) (fun s A B row hs hg hr => Nat.le_trans hs hg.size)) (ownFrom_below (Nat.le_refl _) (by omega)))
    (fun c => fun _ _ _ _ h _ _ => h)
    ⟨⟨⟨_, bX, hI0.2, trivial⟩, by omega⟩, hB0⟩
    (fun x => { tmps := #[.slice a L.length ca, .slice (some ⟨b0, off, none⟩) m.length cb, .int .i64 g, undef, undef, undef, .slice none 0 0, .pointer (some ⟨u.heap.size, 0, none⟩), undef, .int .i64 (f x.1), .slice a L.length ca, .slice (some ⟨gb, 0, none⟩) L.length cap, .slice (some ⟨gb, 0, none⟩) L.length cap, .slice (some ⟨b0, off, none⟩) m.length cb, .pointer (some ⟨b0, off, none⟩), .int .i64 (n : Int), .int .i64 g, .pointer (some ⟨gb, n, none⟩), .slice (some ⟨b0, off, none⟩) m.length cb, .slice (some ⟨b0, off + 1, none⟩) (m.length - 1) (cb - 1), .func (.func 48) #[] #[.pointer (some ⟨Z.heap.size, 0, none⟩)], .int .i64 (x.1 : Int), .int .i64 (f x.1), undef, undef, undef, undef, undef, undef], defers := [] }) ?assign ?body ?done ?stop
  case assign =>
    intro l x W K hK
    gi_wp2
    exact hK
  case stop =>
    rintro D c pre W hD hp hf
    exact hf.elim
  case body =>
    rintro l pre x W ⟨⟨⟨v, bx, own, -⟩, hsz⟩, hB⟩ _
    have HX : Hid (x.1 < m.length - 1) := x.2
    obtain ⟨p1, p2⟩ := HFI.out x.1 x.2
    obtain ⟨z, hz⟩ : ∃ z, f x.1 = z := ⟨_, rfl⟩
    obtain ⟨X, hX⟩ : ∃ X, foP (L.set n g) (pre.map (fun x => f x.1)) = X := ⟨_, rfl⟩
    have HXL : Hid (X.length ≤ 1000) := by show _ ≤ _; rw [← hX]; have := foP_le (pre.map (fun x => f x.1)) (L.set n g); rw [List.length_set] at this; omega
    have HX2 : Hid (foP (L.set n g) ((pre ++ [x]).map (fun x => f x.1)) = puL X z (z + 1) []) := by show _ = _; rw [List.map_append, List.map_cons, List.map_nil, foP_app, hX, hz]
    have hXi : ∀ z ∈ X, I64 z := by rw [← hX]; exact foP_i64 _ _ HLZ.out
    rw [hz] at p1 p2 ⊢
    rw [hX] at own
    have hio : Io w.heap.size W v X := ⟨hXi, own⟩
    obtain ⟨xa, xc, rfl, hgr⟩ := hio.grL (S := fun _ => True)
    have hput : Calls Tryd.prog 34 #[.slice xa X.length xc, .int .i64 z, .int .i64 (z + 1), .slice none 0 0] W fun e w' => PutA X z (z + 1) [] W.heap.size w' e ∧ Below W.heap.size W w' :=
      cput_any (fun _ => True) (fun _ => True) xa xc X z (z + 1) none 0 [] W hgr (Gr.nil _ _ _ _ _ (Nat.zero_le _) (fun _ => rfl)) ⟨by omega, by omega⟩ ⟨by omega, by omega⟩ HXL.out (by simp)
    have cR := bx.cell
    have HBX : Hid (Boxed W u.heap.size 23 (.slice xa X.length xc)) := bx
    clear hz hX hXi own hio hgr bx
    gi_wp2_with (refine ⟨trivial, ?_⟩; gi_at_call 34; refine (CallsIn.inRound l (callsIn_wide.2 hput)).mono ?_)
    rintro e u2 ⟨⟨v2, rfl, hv2⟩, hbu2⟩
    obtain ⟨x2a, x2c, rfl, -⟩ := hv2.io.grL (S := fun _ => True)
    have bx2 := boxed_below HBX.out hbu2
    have cR2 := bx2.cell
    have cF2 := bx2.frozen
    have hB2 := hB.trans (hbu2.mono hB.size)
    have HKE : Hid (KeepsOthers W u2) := keeps_below hbu2
    have hne : ¬ (u.heap.size = Z.heap.size ∨ u.heap.size = b0) := by omega
    have HKB : Hid (Keep (fun k => k = Z.heap.size ∨ k = b0) W u2) := Keep.of_below hbu2 (fun k hk => by have := hks k hk; omega)
    have HV2 : Hid (Io w.heap.size (u2.setCell ⟨u.heap.size, 0, none⟩ (.slice x2a (puL X z (z + 1) []).length x2c)) (.slice x2a (puL X z (z + 1) []).length x2c) (puL X z (z + 1) [])) := ((hv2.base (b2 := w.heap.size) hB.size).set (t := 23) (cs := [_]) bx2 (by decide) 0 _).io
    have HBX2 : Hid (Boxed u2 u.heap.size 23 (.slice xa X.length xc)) := bx2
    have hsz2 : Z.heap.size + 1 ≤ u2.heap.size := Nat.le_trans hsz hbu2.size
    obtain ⟨Y, hY⟩ : ∃ Y, puL X z (z + 1) [] = Y := ⟨_, rfl⟩
    rw [hY] at HV2 HX2 ⊢
    clear hput hbu2 hv2 bx2 cR hY hB hsz HBX
    gi_wp2
    refine ⟨(HKE.out.trans (KeepsOthers.setCell _ _ _)).from _, HKB.out.setCell (p := ⟨u.heap.size, 0, none⟩) hne _, ⟨⟨⟨_, HBX2.out.set _, ?_, trivial⟩, by simp [World.setCell]; exact hsz2⟩, hB2.setCell (p := ⟨u.heap.size, 0, none⟩) hwu _⟩⟩
    rw [HX2.out]
    exact HV2.out.2
  case done =>
    rintro D ys W hD hys ⟨⟨⟨v, bx, own, -⟩, hsz⟩, hB⟩ hK
    have HF : Hid (foP (L.set n g) (ys.map (fun x => f x.1)) = R) := by show _ = _; rw [HTL.out ys hys, HJ.out]
    rw [HF.out] at own
    have HRI : Hid (∀ z ∈ R, I64 z) := by rw [← HF.out]; exact foP_i64 _ _ HLZ.out
    have hio : Io w.heap.size W v R := ⟨HRI.out, own⟩
    have HIO : Hid (Io w.heap.size W v R) := hio
    obtain ⟨xa, xc, rfl, hgr⟩ := hio.grL (S := fun _ => True)
    have cR := bx.cell
    clear own hys hio hgr
    go_wp2
    refine ⟨by simp, .inl ⟨_, _, rfl, run_takeDeferred hK, ?_⟩⟩
    have hgrow := grownBy_putObj' W D (.deferred none)
    have hW2 : Io w.heap.size (W.putObj D (.deferred none)) (.slice xa R.length xc) R := by
      refine ⟨HRI.out, HIO.out.2.kept hgrow ?_⟩
      rcases HIO.out.2.2 with ⟨e, _⟩ | ⟨g2, cap2, cur, e, _, hg2, _⟩
      · exact .inl (by rw [e]; rfl)
      · refine .inr (fun e2 => ?_)
        rw [e] at e2
        have e3 : g2 = D := by simpa [Value.ownBlock] using e2
        rw [e3, hK] at hg2
        cases hg2
    obtain ⟨ya, yc, e2, hgr⟩ := hW2.grL (S := fun _ => True)
    refine ⟨.slice xa R.length xc, ?_, ⟨ya, yc, by rw [e2], hgr⟩, hB.trans (belowK_b (w := w) (Nat.le_refl _) W D _ _ (by omega) hK rfl rfl)⟩
    simp [results, Tryd.f32, go_sem]

end Go.Proofs.YtechkkefpigcaaaDoor
