/-
  Stores: their bytes; what is written is read (plain mathematics).
  Packed lists: what is packed is read (plain mathematics).
  Packed lists: changes and point numbers, their bytes, what bytes are read as; there and back, cut, short (plain mathematics).
-/
import Derived.Test.YtngmcghmniakeaaGreatZB10
import Derived.Test.YtngmcghmniakeaaGreatZB17
namespace Go.Proofs.YtngmcghmniakeaaGreat
set_option linter.unusedSimpArgs false
set_option linter.unusedVariables false

/-- The bytes of tents, of regions, of rows, of a store. -/
def teE (t : Te) : List Nat := be2 t.st ++ (be2 t.pk ++ be2 t.en)
def tesE : List Te → List Nat
  | [] => []
  | t :: l => teE t ++ tesE l
theorem tesE_append (l m : List Te) : tesE (l ++ m) = tesE l ++ tesE m := by
  induction l with
  | nil => rfl
  | cons t l ih => rw [List.cons_append, tesE, tesE, ih, List.append_assoc]
theorem teE_len (t : Te) : (teE t).length = 6 := rfl
theorem tesE_len (l : List Te) : (tesE l).length = 6 * l.length := by
  induction l with
  | nil => rfl
  | cons t l ih => rw [tesE, List.length_append, ih, teE_len, List.length_cons]; omega
/-- What is read: tents, regions, rows from a place on. -/
def teAt (b : List Nat) (p : Nat) : Te := ⟨sx16 (nmV b (p : Int) 2), sx16 (nmV b ((p + 2 : Nat) : Int) 2), sx16 (nmV b ((p + 4 : Nat) : Int) 2)⟩
def tesAt (b : List Nat) (p n : Nat) : List Te := (List.range n).map (fun i => teAt b (p + 6 * i))
theorem tesAt_len (b : List Nat) (p n : Nat) : (tesAt b p n).length = n := by simp [tesAt]
theorem tesAt_succ (b : List Nat) (p n : Nat) : tesAt b p (n + 1) = tesAt b p n ++ [teAt b (p + 6 * n)] := by simp [tesAt, List.range_succ]
/-- Tents, regions, rows within bytes are read as they were. -/
theorem teAt_mid {b A Z : List Nat} {p : Nat} {t : Te} (hb : b = A ++ (teE t ++ Z)) (hp : A.length = p) (h : tfB t = true) : teAt b p = t := by
  have hf := tfB_iff.1 h
  unfold TfT at hf
  have b1 : b = A ++ (be2 t.st ++ (be2 t.pk ++ (be2 t.en ++ Z))) := by rw [hb, teE]; simp only [List.append_assoc]
  have b2 : b = (A ++ be2 t.st) ++ (be2 t.pk ++ (be2 t.en ++ Z)) := by rw [b1]; simp only [List.append_assoc]
  have b3 : b = (A ++ be2 t.st ++ be2 t.pk) ++ (be2 t.en ++ Z) := by rw [b1]; simp only [List.append_assoc]
  have v1 := nmV_at (q := p) (n := 2) b1 hp rfl
  have v2 := nmV_at (q := p + 2) (n := 2) b2 (by rw [List.length_append, be2L, hp]) rfl
  have v3 := nmV_at (q := p + 4) (n := 2) b3 (by rw [List.length_append, List.length_append, be2L, be2L, hp]) rfl
  obtain ⟨st, pk, en⟩ := t
  dsimp only at *
  rw [teAt, v1, v2, v3, sx_be2 (by omega) (by omega), sx_be2 (by omega) (by omega), sx_be2 (by omega) (by omega)]
theorem tesAt_mid {b : List Nat} : ∀ {l : List Te} {A Z : List Nat} {p : Nat}, b = A ++ (tesE l ++ Z) → A.length = p → l.all tfB = true → tesAt b p l.length = l := by
  intro l A Z p hb hp hl
  apply List.ext_getElem
  · simp [tesAt]
  · intro i h1 h2
    simp only [tesAt, List.getElem_map, List.getElem_range]
    have es : l = l.take i ++ l[i] :: l.drop (i + 1) := by simp
    have hi : (l.take i).length = i := by simp; omega
    refine teAt_mid (A := A ++ tesE (l.take i)) (Z := tesE (l.drop (i + 1)) ++ Z) ?_ (by rw [List.length_append, tesE_len, hi, hp]) (List.all_eq_true.1 hl _ (List.getElem_mem h2))
    have e2 : tesE l = tesE (l.take i) ++ (teE l[i] ++ tesE (l.drop (i + 1))) := by
      conv => lhs; rw [es, tesE_append, tesE]
    rw [hb, e2]
    simp only [List.append_assoc]
end Go.Proofs.YtngmcghmniakeaaGreat

namespace Go.Proofs.YtngmcghmniakeaaGreat
set_option linter.unusedSimpArgs false
set_option linter.unusedVariables false

/-- A way of packing and a way of reading that fit, for numbers that are such. -/
structure Fit (P : Pk) (R : Rp) (D : Int → Prop) : Prop where
  hM : 0 < P.M
  eM : R.M = P.M
  top : ∀ x, D x → P.M * P.c x + P.M ≤ R.top ∧ P.M * P.c x + P.M ≤ 256
  sz : ∀ x, D x → (P.en (P.c x) x).length = R.sz (P.c x)
  vl : ∀ b A Z x, D x → b = A ++ (P.en (P.c x) x ++ Z) → R.vl b (P.c x) A.length = x
  by' : ∀ x, D x → Byt (P.en (P.c x) x)

theorem split_at {l : List Int} (i : Nat) (h : i < l.length) : l = l.take i ++ l[i] :: l.drop (i + 1) := by
  rw [← List.drop_eq_getElem_cons h, List.take_append_drop]
theorem body_len {P : Pk} {R : Rp} {D : Int → Prop} (hf : Fit P R D) {kd : Nat} : ∀ {m : List Int}, (∀ x ∈ m, D x ∧ P.c x = kd) → (m.flatMap (P.en kd)).length = m.length * R.sz kd := by
  intro m
  induction m with
  | nil => intro _; simp
  | cons x t ih =>
    intro h
    obtain ⟨h1, h2⟩ := h x (by simp)
    have := hf.sz x h1
    rw [h2] at this
    rw [List.flatMap_cons, List.length_append, this, ih (fun y hy => h y (by simp [hy])), List.length_cons, Nat.add_mul]
    omega
theorem run_kinds {P : Pk} {l : List Int} : ∀ x ∈ l.take (rn P.c P.M l), P.c x = P.c (l.getD 0 0) := by
  intro x hx
  obtain ⟨i, hi, e⟩ := List.getElem_of_mem hx
  have h1 : i < rn P.c P.M l := by rw [List.length_take] at hi; omega
  have h2 := rn_same h1
  rw [← e]
  rw [List.length_take] at hi
  have h3 : l.getD i 0 = (l.take (rn P.c P.M l))[i] := by simp [List.getD, show i < l.length by omega]
  rw [← h3]
  exact h2
theorem head_parts {M c k : Nat} (h1 : 1 ≤ k) (h2 : k ≤ M) : (M * c + k - 1) % M = k - 1 ∧ (M * c + k - 1) / M = c := by
  have e : M * c + k - 1 = (k - 1) + M * c := by omega
  rw [e, Nat.add_mul_mod_self_left, Nat.mod_eq_of_lt (by omega), Nat.add_mul_div_left _ _ (by omega), Nat.div_eq_of_lt (by omega)]
  exact ⟨rfl, by omega⟩
/-- What is packed is read as it was, whatever stands behind, and takes just its bytes. -/
theorem rd_pk {P : Pk} {R : Rp} {D : Int → Prop} (hf : Fit P R D) : ∀ (n : Nat) (l : List Int) (A Z : List Nat) (f : Nat), l.length = n → (∀ x ∈ l, D x) → l.length ≤ f → rdF R (A ++ (pk P l ++ Z)) f A.length l.length = some (l, A.length + (pk P l).length) := by
  intro n
  induction n using Nat.strongRecOn with
  | ind n ih =>
    intro l A Z f hn hD hfu
    by_cases hl : l = []
    · subst hl; rw [List.length_nil, rdF_zero]; rfl
    have hpos : 0 < l.length := List.length_pos_iff.2 hl
    have h1 := rn_pos (c := P.c) hf.hM hl
    obtain ⟨h2, h3⟩ := rn_le (c := P.c) (M := P.M) l
    have hx0 : l.getD 0 0 ∈ l := by
      rw [List.getD_eq_getElem?_getD, List.getElem?_eq_getElem hpos]
      exact List.getElem_mem hpos
    have hkinds := run_kinds (P := P) (l := l)
    have hpk := pk_cons P hf.hM hl
    obtain ⟨t1, t2⟩ := hf.top _ (hD _ hx0)
    obtain ⟨k, hk⟩ : ∃ k, rn P.c P.M l = k := ⟨_, rfl⟩
    obtain ⟨c0, hc0⟩ : ∃ c, P.c (l.getD 0 0) = c := ⟨_, rfl⟩
    rw [hk] at h1 h2 h3 hkinds hpk
    rw [hc0] at hkinds hpk t1 t2
    obtain ⟨q1, q2⟩ := head_parts (c := c0) h1 h3
    have hbl := body_len hf (m := l.take k) (fun x hx => ⟨hD x (List.mem_of_mem_take hx), hkinds x hx⟩)
    have hlt : (l.take k).length = k := by rw [List.length_take]; omega
    rw [hlt] at hbl
    obtain ⟨h, hh⟩ : ∃ h, P.M * c0 + k - 1 = h := ⟨_, rfl⟩
    rw [hh] at hpk q1 q2
    obtain ⟨body, hbody⟩ : ∃ b, (l.take k).flatMap (P.en c0) = b := ⟨_, rfl⟩
    obtain ⟨rest, hrest⟩ : ∃ b, pk P (l.drop k) = b := ⟨_, rfl⟩
    rw [hbody, hrest] at hpk
    rw [hbody] at hbl
    obtain ⟨b, hb⟩ : ∃ b, A ++ (pk P l ++ Z) = b := ⟨_, rfl⟩
    have hb1 : b = A ++ ([h] ++ (body ++ rest ++ Z)) := by rw [← hb, hpk]; simp only [List.append_assoc]
    have hv : nmV b (A.length : Int) 1 = h := by
      have := nmV_at (q := A.length) (n := 1) hb1 rfl rfl
      rw [this]
      simp [V8]
    have hlen : b.length = A.length + 1 + body.length + rest.length + Z.length := by rw [hb1]; simp only [List.length_append, List.length_singleton]; omega
    obtain ⟨m, hm⟩ : ∃ m, l.length = m + 1 := ⟨l.length - 1, by omega⟩
    obtain ⟨f, rfl⟩ : ∃ g, f = g + 1 := ⟨f - 1, by omega⟩
    have hd : hdB R b A.length (m + 1) = true := by
      rw [hdB, hv, hf.eM, q1, q2, show k - 1 + 1 = k by omega, ← hbl]
      exact decide_eq_true ⟨by omega, by omega, by omega, by omega⟩
    have hdl : (l.drop k).length = m + 1 - k := by rw [List.length_drop]; omega
    have hrec := ih (l.drop k).length (by omega) (l.drop k) (A ++ ([h] ++ body)) Z f rfl (fun x hx => hD x (List.mem_of_mem_drop hx)) (by omega)
    rw [hrest, hdl] at hrec
    have hb2 : A ++ ([h] ++ body) ++ (rest ++ Z) = b := by rw [hb1]; simp
    have hal : (A ++ ([h] ++ body)).length = A.length + 1 + k * R.sz c0 := by simp only [List.length_append, List.length_singleton]; omega
    rw [hb2, hal] at hrec
    have hrun : runV R b c0 (A.length + 1) k = l.take k := by
      apply List.ext_getElem
      · rw [runV_len, hlt]
      · intro i hi1 hi2
        rw [hlt] at hi2
        simp only [runV, List.getElem_map, List.getElem_range]
        have es : l.take k = (l.take k).take i ++ (l.take k)[i] :: (l.take k).drop (i + 1) := split_at _ _
        have hmem : (l.take k)[i] ∈ l.take k := List.getElem_mem _
        have hxi := hkinds _ hmem
        have hti : ((l.take k).take i).length = i := by rw [List.length_take, hlt]; omega
        have hbi := body_len hf (m := (l.take k).take i) (fun x hx => ⟨hD x (List.mem_of_mem_take (List.mem_of_mem_take hx)), hkinds x (List.mem_of_mem_take hx)⟩)
        rw [hti] at hbi
        have eb : body = ((l.take k).take i).flatMap (P.en c0) ++ (P.en c0 (l.take k)[i] ++ ((l.take k).drop (i + 1)).flatMap (P.en c0)) := by
          rw [← hbody]
          conv => lhs; rw [es]
          rw [List.flatMap_append, List.flatMap_cons]
        have hv' := hf.vl b (A ++ ([h] ++ ((l.take k).take i).flatMap (P.en c0))) (((l.take k).drop (i + 1)).flatMap (P.en c0) ++ rest ++ Z) (l.take k)[i] (hD _ (List.mem_of_mem_take hmem)) (by rw [hxi, hb1, eb]; simp only [List.append_assoc])
        rw [hxi] at hv'
        have e9 : (A ++ ([h] ++ ((l.take k).take i).flatMap (P.en c0))).length = A.length + 1 + i * R.sz c0 := by simp only [List.length_append, List.length_singleton]; omega
        rw [e9] at hv'
        exact hv'
    have hfin : (pk P l).length = 1 + body.length + rest.length := by rw [hpk]; simp only [List.length_append, List.length_singleton]; omega
    rw [hb, hm, rdF, if_pos hd, hv, hf.eM, q1, q2, show k - 1 + 1 = k by omega, hrec]
    dsimp only
    rw [hrun, List.take_append_drop, hfin, hbl]
    congr 2
    omega
theorem pk_read {P : Pk} {R : Rp} {D : Int → Prop} (hf : Fit P R D) {l : List Int} (hD : ∀ x ∈ l, D x) (A Z : List Nat) {f : Nat} (hfu : l.length ≤ f) : rdF R (A ++ (pk P l ++ Z)) f A.length l.length = some (l, A.length + (pk P l).length) := rd_pk hf _ l A Z f rfl hD hfu
/-- How many bytes: at most so many for each number, where a run's head and its numbers take no more. -/
theorem pk_short {P : Pk} {R : Rp} {D : Int → Prop} (hf : Fit P R D) {m : Nat} (hm : ∀ x, D x → R.sz (P.c x) + 1 ≤ m) : ∀ (n : Nat) (l : List Int), l.length = n → (∀ x ∈ l, D x) → (pk P l).length ≤ m * l.length := by
  intro n
  induction n using Nat.strongRecOn with
  | ind n ih =>
    intro l hn hD
    by_cases hl : l = []
    · subst hl; exact Nat.zero_le _
    have hpos : 0 < l.length := List.length_pos_iff.2 hl
    have h1 := rn_pos (c := P.c) hf.hM hl
    obtain ⟨h2, h3⟩ := rn_le (c := P.c) (M := P.M) l
    have hx0 : l.getD 0 0 ∈ l := by
      rw [List.getD_eq_getElem?_getD, List.getElem?_eq_getElem hpos]
      exact List.getElem_mem hpos
    have hrec := ih (l.drop (rn P.c P.M l)).length (by rw [List.length_drop]; omega) _ rfl (fun x hx => hD x (List.mem_of_mem_drop hx))
    have hbl := body_len hf (m := l.take (rn P.c P.M l)) (fun x hx => ⟨hD x (List.mem_of_mem_take hx), run_kinds x hx⟩)
    have hs := hm _ (hD _ hx0)
    have hlt : (l.take (rn P.c P.M l)).length = rn P.c P.M l := by rw [List.length_take]; omega
    rw [hlt] at hbl
    rw [List.length_drop] at hrec
    rw [pk_cons P hf.hM hl]
    simp only [List.length_append, List.length_singleton]
    rw [hbl]
    generalize rn P.c P.M l = k at *
    have e : l.length = k + (l.length - k) := by omega
    rw [e, Nat.mul_add]
    have h5 : 1 + k * R.sz (P.c (l.getD 0 0)) ≤ m * k := by
      have : k * (R.sz (P.c (l.getD 0 0)) + 1) ≤ k * m := Nat.mul_le_mul_left k hs
      rw [Nat.mul_add, Nat.mul_one, Nat.mul_comm k m] at this
      omega
    omega

end Go.Proofs.YtngmcghmniakeaaGreat

namespace Go.Proofs.YtngmcghmniakeaaGreat
set_option linter.unusedSimpArgs false
set_option linter.unusedVariables false

theorem V8_be1 {z : Int} (h1 : 0 ≤ z) (h2 : z ≤ 255) : ((V8 (be1 z) : Nat) : Int) = z := by
  simp only [be1, V8, List.foldl_cons, List.foldl_nil]
  omega
theorem V8_be2i {z : Int} (h1 : 0 ≤ z) (h2 : z ≤ 65535) : ((V8 (be2 z) : Nat) : Int) = z := by
  simp only [be2, V8, List.foldl_cons, List.foldl_nil]
  omega
/-- A byte with its sign. -/
def sx8 (v : Nat) : Int := if 128 ≤ v then (v : Int) - 256 else v
theorem sx_be1 {z : Int} (h1 : -128 ≤ z) (h2 : z ≤ 127) : sx8 (V8 (be1 z)) = z := by
  simp only [be1, V8, List.foldl_cons, List.foldl_nil]
  unfold sx8
  split <;> omega

/-- Changes. -/
def kdC (n : Int) : Nat := if n = 0 then 2 else if n < -128 ∨ 127 < n then 1 else 0
def enC (kd : Nat) (n : Int) : List Nat := if kd = 0 then be1 n else if kd = 1 then be2 n else []
def PC : Pk := ⟨kdC, 64, enC⟩
def szC (kd : Nat) : Nat := if kd = 0 then 1 else if kd = 1 then 2 else 0
def vlC (b : List Nat) (kd p : Nat) : Int := if kd = 0 then sx8 (nmV b (p : Int) 1) else if kd = 1 then sx16 (nmV b (p : Int) 2) else 0
def RC : Rp := ⟨64, 192, szC, vlC⟩
def DC (x : Int) : Prop := -32768 ≤ x ∧ x ≤ 32767
theorem kdC_cases (x : Int) : (x = 0 ∧ kdC x = 2) ∨ (x ≠ 0 ∧ (x < -128 ∨ 127 < x) ∧ kdC x = 1) ∨ (x ≠ 0 ∧ (-128 ≤ x ∧ x ≤ 127) ∧ kdC x = 0) := by
  unfold kdC
  by_cases h0 : x = 0
  · exact .inl ⟨h0, if_pos h0⟩
  · by_cases h1 : x < -128 ∨ 127 < x
    · exact .inr (.inl ⟨h0, h1, by rw [if_neg h0, if_pos h1]⟩)
    · exact .inr (.inr ⟨h0, by omega, by rw [if_neg h0, if_neg h1]⟩)
theorem fitC : Fit PC RC DC where
  hM := by decide
  eM := rfl
  top := fun x _ => by
    have : kdC x ≤ 2 := by rcases kdC_cases x with h | h | h <;> omega
    show 64 * kdC x + 64 ≤ 192 ∧ 64 * kdC x + 64 ≤ 256
    omega
  sz := fun x _ => by
    show (enC (kdC x) x).length = szC (kdC x)
    rcases kdC_cases x with h | h | h
    · rw [h.2]; rfl
    · rw [h.2.2]; rfl
    · rw [h.2.2]; rfl
  vl := fun b A Z x hx hb => by
    change b = A ++ (enC (kdC x) x ++ Z) at hb
    show vlC b (kdC x) A.length = x
    rcases kdC_cases x with h | h | h
    · rw [h.2, h.1]; rfl
    · rw [h.2.2] at hb ⊢
      have := nmV_at (q := A.length) (n := 2) (X := be2 x) hb rfl rfl
      show sx16 (nmV b (A.length : Int) 2) = x
      rw [this]
      exact sx_be2 hx.1 hx.2
    · rw [h.2.2] at hb ⊢
      have := nmV_at (q := A.length) (n := 1) (X := be1 x) hb rfl rfl
      show sx8 (nmV b (A.length : Int) 1) = x
      rw [this]
      exact sx_be1 h.2.1.1 h.2.1.2
  by' := fun x _ => by
    show Byt (enC (kdC x) x)
    rcases kdC_cases x with h | h | h
    · rw [h.2]; exact Byt.nil
    · rw [h.2.2]; exact byt_be2 _
    · rw [h.2.2]; exact byt_be1 _
/-- Whether numbers are changes; how they are packed. -/
def chB (l : List Int) : Bool := l.all (fun z => decide (-32768 ≤ z ∧ z ≤ 32767)) && decide (l.length ≤ 2000)
theorem chB_iff {l : List Int} : chB l = true ↔ (∀ z ∈ l, DC z) ∧ l.length ≤ 2000 := by
  unfold chB DC
  simp only [Bool.and_eq_true, List.all_eq_true, decide_eq_true_iff]
def pcB (l : List Int) : List Nat := if chB l then pk PC l else []
def pcE (l : List Int) : Int := if chB l then 0 else 1
/-- What bytes are read as: so many changes. -/
def rcO (b : List Nat) (n : Int) : Option (List Int × Nat) := if 0 ≤ n ∧ n ≤ 2000 then rdF RC b n.toNat 0 n.toNat else none
def rcL (b : List Nat) (n : Int) : List Int := match rcO b n with | some p => p.1 | none => []
def rcN (b : List Nat) (n : Int) : Int := match rcO b n with | some p => (p.2 : Int) | none => 0
def rcE (b : List Nat) (n : Int) : Int := match rcO b n with | some _ => 0 | none => if 0 ≤ n ∧ n ≤ 2000 then 2 else 4
theorem rc_back {l : List Int} (h : chB l = true) (Z : List Nat) : rcO (pcB l ++ Z) (l.length : Int) = some (l, (pcB l).length) := by
  obtain ⟨h1, h2⟩ := chB_iff.1 h
  rw [rcO, if_pos (by omega), Int.toNat_natCast, pcB, if_pos h]
  have := pk_read fitC h1 [] Z (f := l.length) (Nat.le_refl _)
  simpa using this
theorem pc_short {l : List Int} (h : chB l = true) : (pcB l).length ≤ 3 * l.length := by
  rw [pcB, if_pos h]
  exact pk_short fitC (m := 3) (fun x _ => by show szC (kdC x) + 1 ≤ 3; unfold szC; split <;> (try split) <;> omega) _ l rfl (chB_iff.1 h).1
/-- Point numbers: their steps. -/
def kdP (n : Int) : Nat := if 255 < n then 1 else 0
def enP (kd : Nat) (n : Int) : List Nat := if kd = 0 then be1 n else be2 n
def PP : Pk := ⟨kdP, 128, enP⟩
def szP (kd : Nat) : Nat := if kd = 0 then 1 else 2
def vlP (b : List Nat) (kd p : Nat) : Int := if kd = 0 then ((nmV b (p : Int) 1 : Nat) : Int) else ((nmV b (p : Int) 2 : Nat) : Int)
def RPt : Rp := ⟨128, 256, szP, vlP⟩
def DP (x : Int) : Prop := 0 ≤ x ∧ x ≤ 65535
theorem kdP_cases (x : Int) : (255 < x ∧ kdP x = 1) ∨ (x ≤ 255 ∧ kdP x = 0) := by
  unfold kdP
  by_cases h : 255 < x
  · exact .inl ⟨h, if_pos h⟩
  · exact .inr ⟨by omega, if_neg h⟩
theorem fitP : Fit PP RPt DP where
  hM := by decide
  eM := rfl
  top := fun x _ => by
    have : kdP x ≤ 1 := by rcases kdP_cases x with h | h <;> omega
    show 128 * kdP x + 128 ≤ 256 ∧ 128 * kdP x + 128 ≤ 256
    omega
  sz := fun x _ => by
    show (enP (kdP x) x).length = szP (kdP x)
    rcases kdP_cases x with h | h <;> rw [h.2] <;> rfl
  vl := fun b A Z x hx hb => by
    change b = A ++ (enP (kdP x) x ++ Z) at hb
    show vlP b (kdP x) A.length = x
    rcases kdP_cases x with h | h
    · rw [h.2] at hb ⊢
      have := nmV_at (q := A.length) (n := 2) (X := be2 x) hb rfl rfl
      show ((nmV b (A.length : Int) 2 : Nat) : Int) = x
      rw [this]
      exact V8_be2i hx.1 hx.2
    · rw [h.2] at hb ⊢
      have := nmV_at (q := A.length) (n := 1) (X := be1 x) hb rfl rfl
      show ((nmV b (A.length : Int) 1 : Nat) : Int) = x
      rw [this]
      exact V8_be1 hx.1 h.1
  by' := fun x _ => by
    show Byt (enP (kdP x) x)
    rcases kdP_cases x with h | h <;> rw [h.2]
    · exact byt_be2 _
    · exact byt_be1 _
/-- Steps, and sums. -/
def stps (a : Int) : List Int → List Int
  | [] => []
  | x :: t => (x - a) :: stps x t
def sums (a : Int) : List Int → List Int
  | [] => []
  | d :: t => (a + d) :: sums (a + d) t
theorem stps_len (a : Int) (l : List Int) : (stps a l).length = l.length := by
  induction l generalizing a with
  | nil => rfl
  | cons x t ih => rw [stps, List.length_cons, ih, List.length_cons]
theorem sums_len (a : Int) (l : List Int) : (sums a l).length = l.length := by
  induction l generalizing a with
  | nil => rfl
  | cons x t ih => rw [sums, List.length_cons, ih, List.length_cons]
theorem sums_stps (a : Int) (l : List Int) : sums a (stps a l) = l := by
  induction l generalizing a with
  | nil => rfl
  | cons x t ih => rw [stps, sums, show a + (x - a) = x by omega, ih]
def lastS (a : Int) : List Int → Int
  | [] => a
  | d :: t => lastS (a + d) t
theorem sums_append (a : Int) (d e : List Int) : sums a (d ++ e) = sums a d ++ sums (lastS a d) e := by
  induction d generalizing a with
  | nil => rfl
  | cons x t ih => rw [List.cons_append, sums, sums, ih, List.cons_append]; rfl
theorem lastS_append (a : Int) (d e : List Int) : lastS a (d ++ e) = lastS (lastS a d) e := by
  induction d generalizing a with
  | nil => rfl
  | cons x t ih => rw [List.cons_append, lastS, lastS, ih]
/-- Whether numbers are point numbers: above one that is ahead. -/
def ptF (a : Int) : List Int → Bool
  | [] => true
  | x :: t => decide (a < x ∧ x ≤ 65535) && ptF x t
def ptB (l : List Int) : Bool := ptF (-1) l && decide (l.length ≤ 2000)
theorem ptF_steps : ∀ (l : List Int) (a : Int), -1 ≤ a → ptF a l = true → ∀ z ∈ stps (max a 0) l, DP z := by
  intro l
  induction l with
  | nil => intro a _ _ z hz; cases hz
  | cons x t ih =>
    intro a ha h z hz
    rw [ptF, Bool.and_eq_true, decide_eq_true_iff] at h
    rw [stps] at hz
    rcases List.mem_cons.1 hz with hz | hz
    · rw [hz]
      unfold DP
      omega
    · have := ih x (by omega) h.2 z
      rw [show max x 0 = x by omega] at this
      exact this hz
theorem ptB_steps {l : List Int} (h : ptB l = true) : (∀ z ∈ stps 0 l, DP z) ∧ l.length ≤ 2000 := by
  unfold ptB at h
  rw [Bool.and_eq_true, decide_eq_true_iff] at h
  have := ptF_steps l (-1) (by omega) h.1
  rw [show max (-1 : Int) 0 = 0 by omega] at this
  exact ⟨this, h.2⟩
/-- How many there are. -/
def cnE (n : Nat) : List Nat := if n < 128 then [n] else [128 + n / 256, n % 256]
def ppB (l : List Int) : List Nat := if ptB l then cnE l.length ++ pk PP (stps 0 l) else []
def ppE (l : List Int) : Int := if ptB l then 0 else 1
/-- What bytes say: how many, where the runs begin, whether that is there. -/
def ptN (b : List Nat) : Nat := if 128 ≤ nmV b 0 1 then (nmV b 0 1 - 128) * 256 + nmV b 1 1 else nmV b 0 1
def ptA (b : List Nat) : Nat := if 128 ≤ nmV b 0 1 then 2 else 1
def ptO (b : List Nat) : Bool := decide (ptA b ≤ b.length)
def rpO (b : List Nat) : Option (List Int × Nat) := if ptO b then (match rdF RPt b (ptN b) (ptA b) (ptN b) with | some p => if ptB (sums 0 p.1) then some (sums 0 p.1, p.2) else none | none => none) else none
def rpL (b : List Nat) : List Int := match rpO b with | some p => p.1 | none => []
def rpN (b : List Nat) : Int := match rpO b with | some p => (p.2 : Int) | none => 0
def rpE (b : List Nat) : Int := match rpO b with | some _ => 0 | none => 2
theorem cnE_read {n : Nat} (hn : n ≤ 2000) (Z : List Nat) : ptN (cnE n ++ Z) = n ∧ ptA (cnE n ++ Z) = (cnE n).length ∧ ptO (cnE n ++ Z) = true := by
  unfold ptN ptA ptO ptA cnE
  by_cases h : n < 128
  · rw [if_pos h]
    have v := nmV_at (b := [n] ++ Z) (A := []) (X := [n]) (Z := Z) (q := 0) (n := 1) rfl rfl rfl
    have v' : nmV ([n] ++ Z) 0 1 = n := by
      have e : V8 [n] = n := by simp [V8]
      exact v.trans e
    rw [v', if_neg (by omega), if_neg (by omega)]
    refine ⟨rfl, rfl, decide_eq_true (by simp)⟩
  · rw [if_neg h]
    have v := nmV_at (b := [128 + n / 256, n % 256] ++ Z) (A := []) (X := [128 + n / 256]) (Z := [n % 256] ++ Z) (q := 0) (n := 1) rfl rfl rfl
    have w := nmV_at (b := [128 + n / 256, n % 256] ++ Z) (A := [128 + n / 256]) (X := [n % 256]) (Z := Z) (q := 1) (n := 1) rfl rfl rfl
    have v' : nmV ([128 + n / 256, n % 256] ++ Z) 0 1 = 128 + n / 256 := by
      have e : V8 [128 + n / 256] = 128 + n / 256 := by simp [V8]
      exact v.trans e
    have w' : nmV ([128 + n / 256, n % 256] ++ Z) 1 1 = n % 256 := by
      have e : V8 [n % 256] = n % 256 := by simp [V8]
      exact w.trans e
    rw [v', w', if_pos (by omega), if_pos (by omega)]
    refine ⟨by omega, rfl, decide_eq_true (by simp)⟩
theorem rp_back {l : List Int} (h : ptB l = true) (Z : List Nat) : rpO (ppB l ++ Z) = some (l, (ppB l).length) := by
  obtain ⟨h1, h2⟩ := ptB_steps h
  have hr := pk_read fitP h1 (cnE l.length) Z (f := l.length) (by rw [stps_len]; exact Nat.le_refl _)
  rw [stps_len] at hr
  rw [ppB, if_pos h, List.append_assoc, rpO]
  obtain ⟨c1, c2, c3⟩ := cnE_read h2 (pk PP (stps 0 l) ++ Z)
  rw [c1, c2, c3, if_pos rfl, hr]
  dsimp only
  rw [sums_stps, if_pos h, List.length_append]
end Go.Proofs.YtngmcghmniakeaaGreat
