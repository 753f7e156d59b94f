/-
  Files of tables: what the laws ask of them (plain mathematics).
-/
import Derived.Test.YtijehnfadpoapaaSR6
namespace Go.Proofs.Ytijehnfadpoapaa
set_option linter.unusedSimpArgs false
set_option linter.unusedVariables false

/-- A short list has a short file. -/
theorem few_mem {l : List Tb} (h : fewT l = true) : ∀ t ∈ l, t.bs.length ≤ 20000 := by
  have h1 : ttot l ≤ 20000 := by simp [fewT] at h; exact h.1
  clear h
  intro t ht
  induction l with
  | nil => cases ht
  | cons s l ih =>
    have e : ttot (s :: l) = tz1 s + ttot l := rfl
    unfold tz1 at e
    rcases List.mem_cons.1 ht with rfl | ht
    · omega
    · exact ih (by omega) ht
theorem bods_few {l : List Tb} (h : ∀ t ∈ l, t.bs.length ≤ 20000) : (bods l).length + 16 * l.length ≤ ttot l := by
  induction l with
  | nil => simp [bods, ttot]
  | cons t l ih =>
    have h1 := h t (by simp)
    have h2 := ih (fun s hs => h s (by simp [hs]))
    have h3 := padN4_lt t.bs.length
    rw [bods, List.length_append, fil_len, List.length_cons, ttot, tz1]
    omega
theorem ttot_perm {l m : List Tb} (h : l.Perm m) : ttot l = ttot m := by
  induction h with
  | nil => rfl
  | cons x _ ih => rw [ttot, ttot, ih]
  | swap x y l => simp only [ttot]; omega
  | trans _ _ ih1 ih2 => rw [ih1, ih2]
theorem few_file {l : List Tb} (h : fewT l = true) (hf : Frm l) : (fileS l).length ≤ 20012 := by
  have h1 : ttot l ≤ 20000 := by simp [fewT] at h; exact h.1
  have h2 := few_mem h
  have hs := hf.srt
  rw [fileS, fileR_len (fun t ht => hs.tag ht)]
  have h3 := bods_few (l := srt l) (fun t ht => h2 t ((srt_perm l).subset ht))
  rw [ttot_perm (srt_perm l)] at h3
  omega

theorem be4_inj {x y : Nat} (hx : x < 4294967296) (hy : y < 4294967296) (h : be4 (x : Int) = be4 (y : Int)) : x = y := by
  have := V8_be4 hx
  rw [h, V8_be4 hy] at this
  exact this.symm
/-- Equal directories tell equal lengths and equal sums. -/
theorem dirs_inj : ∀ (l m : List Tb) (a : Nat), l.length = m.length → (∀ t ∈ l, (sb t.tx).length = 4 ∧ t.bs.length < 4294967296) → (∀ t ∈ m, (sb t.tx).length = 4 ∧ t.bs.length < 4294967296) → dirs l a = dirs m a →
    ∀ i, (l.getD i Tb.none).bs.length = (m.getD i Tb.none).bs.length ∧ sm (l.getD i Tb.none).bs = sm (m.getD i Tb.none).bs := by
  intro l
  induction l with
  | nil =>
    intro m a hl _ _ _ i
    have : m = [] := List.length_eq_zero_iff.1 hl.symm
    subst this
    exact ⟨rfl, rfl⟩
  | cons t l ih =>
    intro m a hl h1 h2 he i
    cases m with
    | nil => simp at hl
    | cons u m =>
      rw [dirs, dirs] at he
      have ht := h1 t (by simp)
      have hu := h2 u (by simp)
      obtain ⟨e1, e2⟩ := List.append_inj he (by rw [dirE_len ht.1, dirE_len hu.1])
      rw [dirE, dirE] at e1
      obtain ⟨_, e3⟩ := List.append_inj e1 (by rw [ht.1, hu.1])
      obtain ⟨e4, e5⟩ := List.append_inj e3 rfl
      obtain ⟨_, e6⟩ := List.append_inj e5 rfl
      have hsm := be4_inj (sm_lt _) (sm_lt _) e4
      have hln := be4_inj ht.2 hu.2 e6
      cases i with
      | zero => exact ⟨hln, hsm⟩
      | succ i =>
        have hfl : (fil t.bs).length = (fil u.bs).length := by rw [fil_len, fil_len, hln]
        rw [hfl] at e2
        have := ih m _ (by simpa using hl) (fun s hs => h1 s (by simp [hs])) (fun s hs => h2 s (by simp [hs])) e2 i
        simpa using this

/-- One byte behind the directory turned: no file. -/
theorem turned_no {l : List Tb} (hf : Frm l) (hb : ∀ t ∈ l, Byt t.bs) (hl : (fileS l).length ≤ 1048576) {k z : Nat} (hk1 : 12 + 16 * l.length ≤ k) (hk2 : k < (fileS l).length) (hz : z < 256) (hne : z ≠ (fileS l).getD k 0) : ¬ Fil ((fileS l).set k z) := by
  intro hF
  have hs := hf.srt
  have hsl := srt_len l
  have hR := hF.ris (by simp; omega)
  obtain ⟨hFm, hFe⟩ := hF
  have hmr : srt (dirB ((fileS l).set k z)) = dirB ((fileS l).set k z) := srt_of_ris hR
  rw [fileS, hmr] at hFe
  have hcnt : cntB ((fileS l).set k z) = cntB (fileS l) := by
    have e1 : inB ((fileS l).set k z).length 4 ((2 : Nat) : Int) = inB (fileS l).length 4 ((2 : Nat) : Int) := by simp
    have e2 : (((fileS l).set k z).drop 4).take 2 = ((fileS l).drop 4).take 2 := by
      apply List.ext_getElem
      · simp
      · intro i h1 h2
        simp at h1
        simp only [List.getElem_take, List.getElem_drop]
        rw [List.getElem_set_ne (by omega)]
    unfold cntB nmV
    rw [e1]
    have e3 : (4 : Int).toNat = 4 := rfl
    rw [e3, e2]
  have hml : (dirB ((fileS l).set k z)).length = l.length := by
    have h1 : (dirB ((fileS l).set k z)).length = cntB ((fileS l).set k z) := by simp [dirB]
    have h2 : cntB (fileS l) = (srt l).length := cnt_file (l := srt l) (by have := hf.2.1; omega)
    rw [h1, hcnt, h2, hsl]
  generalize dirB ((fileS l).set k z) = m at *
  have hs4 : ∀ t ∈ srt l, (sb t.tx).length = 4 := fun t ht => hs.tag ht
  have hm4 : ∀ t ∈ m, (sb t.tx).length = 4 := fun t ht => hFm.tag ht
  have hfe : fileS l = hdr l.length ++ (dirs (srt l) (12 + 16 * l.length) ++ bods (srt l)) := by rw [fileS, fileR, hsl]
  have hd1 : (dirs (srt l) (12 + 16 * l.length)).length = 16 * l.length := by rw [dirs_len _ hs4, hsl]
  have hd2 : (dirs m (12 + 16 * l.length)).length = 16 * l.length := by rw [dirs_len _ hm4, hml]
  rw [hfe] at hk2 hne
  rw [fileR, hml, hfe, List.set_append_right _ _ (by rw [hdr_len]; omega), hdr_len, List.set_append_right _ _ (by rw [hd1]; omega), hd1] at hFe
  have e1 := (List.append_inj hFe rfl).2
  obtain ⟨e2, e3⟩ := List.append_inj e1 (by rw [hd1, hd2])
  have hd := dirs_inj (srt l) m _ (by rw [hsl, hml]) (fun t ht => ⟨hs4 t ht, by have := (hs.2.2.1 t ht).2; omega⟩) (fun t ht => ⟨hm4 t ht, by have := (hFm.2.2.1 t ht).2; omega⟩) e2.symm
  have hj : k - 12 - 16 * l.length < (bods (srt l)).length := by
    rw [List.length_append, List.length_append, hdr_len, hd1] at hk2
    omega
  refine bods_turned (srt l) m (k - 12 - 16 * l.length) z (by rw [hsl, hml]) (fun i => (hd i).1) (fun i => (hd i).2) (fun t ht => hb t ((srt_perm l).subset ht)) hz hj ?_ e3
  intro e
  apply hne
  rw [e]
  have h12 := hdr_len l.length
  simp only [List.getD_eq_getElem?_getD]
  rw [List.getElem?_append_right (by omega), List.getElem?_append_right (by omega), h12, hd1]

/-- A byte that is turned is another byte. -/
theorem xor_turn {x y : Nat} (hx : x < 256) (hy : y < 256) (hy0 : y ≠ 0) : x ^^^ y < 256 ∧ x ^^^ y ≠ x := by
  refine ⟨Nat.xor_lt_two_pow (n := 8) hx hy, fun e => hy0 ?_⟩
  have h1 : x ^^^ (x ^^^ y) = x ^^^ x := by rw [e]
  rw [← Nat.xor_assoc, Nat.xor_self, Nat.zero_xor] at h1
  exact h1

theorem unp_ok {b : List Nat} (h : Fil b) (hl : b.length ≤ 1048576) : unpE b = 0 ∧ unpL b = dirB b := by
  have h1 := filB_iff.2 h
  simp [unpE, unpL, h1, show ¬ 1048576 < b.length by omega]
theorem unp_bad {b : List Nat} (h : ¬ Fil b) (hl : b.length ≤ 1048576) : unpE b = 2 ∧ unpL b = [] := by
  have h1 : filB b = false := by
    rw [Bool.eq_false_iff]
    exact fun e => h (filB_iff.1 e)
  simp [unpE, unpL, h1, show ¬ 1048576 < b.length by omega]
theorem mod_no {b : List Nat} (h : b.length % 4 ≠ 0) : ¬ Fil b := fun hF => h hF.mod

end Go.Proofs.Ytijehnfadpoapaa
