/-
  Files of tables: what is read of a file (plain mathematics).
-/
import Derived.Test.YtijehnfadpoapaaSP1
namespace Go.Proofs.Ytijehnfadpoapaa
set_option linter.unusedSimpArgs false
set_option linter.unusedVariables false

/-- What lies behind a head. -/
theorem part_at {b A X Z : List Nat} {q n : Nat} (hb : b = A ++ (X ++ Z)) (hq : A.length = q) (hn : X.length = n) : (b.drop q).take n = X := by
  subst hb
  subst hq
  subst hn
  rw [List.drop_left, List.take_left]
theorem inB_at {b A X Z : List Nat} {q n : Nat} (hb : b = A ++ (X ++ Z)) (hq : A.length = q) (hn : X.length = n) : inB b.length (q : Int) (n : Int) = true := by
  have : b.length = q + n + Z.length := by rw [hb]; simp [hq, hn]; omega
  simp [inB]
  omega
theorem nmV_at {b A X Z : List Nat} {q n : Nat} (hb : b = A ++ (X ++ Z)) (hq : A.length = q) (hn : X.length = n) : nmV b (q : Int) n = V8 X := by
  rw [nmV, inB_at hb hq hn, if_pos rfl, Int.toNat_natCast, part_at hb hq hn]
theorem cutV_at {b A X Z : List Nat} {q n : Nat} (hb : b = A ++ (X ++ Z)) (hq : A.length = q) (hn : X.length = n) : cutV b (q : Int) (n : Int) = X := by
  rw [cutV_yes (inB_at hb hq hn), Int.toNat_natCast, Int.toNat_natCast, part_at hb hq hn]
theorem V8_be4 {n : Nat} (h : n < 4294967296) : V8 (be4 (n : Int)) = n := by
  simp only [be4, V8, List.foldl_cons, List.foldl_nil]
  omega
theorem V8_be2 {n : Nat} (h : n < 65536) : V8 (be2 (n : Int)) = n := by
  simp only [be2, V8, List.foldl_cons, List.foldl_nil]
  omega

/-- The tables that a directory tells, n of them. -/
def tabAt (b : List Nat) (i : Nat) : Tb := ⟨tgV b ((12 + 16 * i : Nat) : Int), cutV b ((nmV b ((20 + 16 * i : Nat) : Int) 4 : Nat) : Int) ((nmV b ((24 + 16 * i : Nat) : Int) 4 : Nat) : Int)⟩
def cntB (b : List Nat) : Nat := min (nmV b 4 2) 33
def dirB (b : List Nat) : List Tb := (List.range (cntB b)).map (tabAt b)

/-- A file's parts around one table. -/
theorem file_split (l1 : List Tb) (t : Tb) (l2 : List Tb) (h : ∀ s ∈ l1 ++ t :: l2, (sb s.tx).length = 4) :
    ∃ D E : List Nat, fileR (l1 ++ t :: l2) = hdr (l1 ++ t :: l2).length ++ (D ++ (dirE t (12 + 16 * (l1 ++ t :: l2).length + (bods l1).length) ++ (E ++ (bods l1 ++ (fil t.bs ++ bods l2))))) ∧ D.length = 16 * l1.length ∧ E.length = 16 * l2.length := by
  refine ⟨dirs l1 (12 + 16 * (l1 ++ t :: l2).length), dirs l2 (12 + 16 * (l1 ++ t :: l2).length + (bods l1).length + (fil t.bs).length), ?_, dirs_len _ (fun s hs => h s (by simp [hs])), dirs_len _ (fun s hs => h s (by simp [hs]))⟩
  rw [fileR, dirs_append, bods_append, dirs, bods]
  simp only [List.append_assoc]

theorem tab_file (l1 : List Tb) (t : Tb) (l2 : List Tb) (h : ∀ s ∈ l1 ++ t :: l2, gd (sb s.tx) = true) (hl : (fileR (l1 ++ t :: l2)).length < 4294967296) :
    tabAt (fileR (l1 ++ t :: l2)) l1.length = t := by
  have h4 : ∀ s ∈ l1 ++ t :: l2, (sb s.tx).length = 4 := fun s hs => gd_len (h s hs)
  obtain ⟨D, E, hf, hD, hE⟩ := file_split l1 t l2 h4
  have hlen := fileR_len h4
  have hbl : (bods (l1 ++ t :: l2)).length = (bods l1).length + (t.bs.length + padN t.bs.length 4 + (bods l2).length) := by rw [bods_append, bods]; simp only [List.length_append, fil_len]
  rw [hbl] at hlen
  generalize fileR (l1 ++ t :: l2) = b at *
  have hn : (l1 ++ t :: l2).length = l1.length + 1 + l2.length := by simp; omega
  generalize (l1 ++ t :: l2).length = n at *
  have htag : gd (sb t.tx) = true := h t (by simp)
  have ht4 := gd_len htag
  have hat : 12 + 16 * n + (bods l1).length < 4294967296 := by omega
  have hsz : t.bs.length < 4294967296 := by omega
  -- the tag
  have e0 : cutV b ((12 + 16 * l1.length : Nat) : Int) ((4 : Nat) : Int) = sb t.tx := cutV_at (A := hdr n ++ D) (X := sb t.tx) (Z := be4 (sm t.bs : Nat) ++ (be4 ((12 + 16 * n + (bods l1).length : Nat) : Int) ++ be4 (t.bs.length : Nat)) ++ (E ++ (bods l1 ++ (fil t.bs ++ bods l2)))) (by rw [hf, dirE]; simp only [List.append_assoc]) (by simp [hdr_len, hD]) ht4
  have i0 : inB b.length ((12 + 16 * l1.length : Nat) : Int) ((4 : Nat) : Int) = true := inB_at (A := hdr n ++ D) (X := sb t.tx) (Z := be4 (sm t.bs : Nat) ++ (be4 ((12 + 16 * n + (bods l1).length : Nat) : Int) ++ be4 (t.bs.length : Nat)) ++ (E ++ (bods l1 ++ (fil t.bs ++ bods l2)))) (by rw [hf, dirE]; simp only [List.append_assoc]) (by simp [hdr_len, hD]) ht4
  have g0 : tgB b ((12 + 16 * l1.length : Nat) : Int) = true := by
    rw [tgB]
    have e0' : cutV b ((12 + 16 * l1.length : Nat) : Int) 4 = sb t.tx := e0
    have i0' : inB b.length ((12 + 16 * l1.length : Nat) : Int) 4 = true := i0
    rw [e0', i0', htag]
    rfl
  have v0 : tgV b ((12 + 16 * l1.length : Nat) : Int) = t.tx := by
    rw [tgV, g0, if_pos rfl]
    have e0' : cutV b ((12 + 16 * l1.length : Nat) : Int) 4 = sb t.tx := e0
    rw [e0', str8_sb]
  -- where, and how many
  have e1 : nmV b ((20 + 16 * l1.length : Nat) : Int) 4 = 12 + 16 * n + (bods l1).length := by
    rw [nmV_at (b := b) (q := 20 + 16 * l1.length) (n := 4) (A := hdr n ++ D ++ sb t.tx ++ be4 (sm t.bs : Nat)) (X := be4 ((12 + 16 * n + (bods l1).length : Nat) : Int)) (Z := be4 (t.bs.length : Nat) ++ (E ++ (bods l1 ++ (fil t.bs ++ bods l2)))) (by rw [hf, dirE]; simp only [List.append_assoc]) (by simp [hdr_len, hD, ht4, be4]; omega) rfl]
    exact V8_be4 hat
  have e2 : nmV b ((24 + 16 * l1.length : Nat) : Int) 4 = t.bs.length := by
    rw [nmV_at (b := b) (q := 24 + 16 * l1.length) (n := 4) (A := hdr n ++ D ++ sb t.tx ++ be4 (sm t.bs : Nat) ++ be4 ((12 + 16 * n + (bods l1).length : Nat) : Int)) (X := be4 (t.bs.length : Nat)) (Z := E ++ (bods l1 ++ (fil t.bs ++ bods l2))) (by rw [hf, dirE]; simp only [List.append_assoc]) (by simp [hdr_len, hD, ht4, be4]; omega) rfl]
    exact V8_be4 hsz
  have e3 : cutV b ((12 + 16 * n + (bods l1).length : Nat) : Int) ((t.bs.length : Nat) : Int) = t.bs :=
    cutV_at (A := hdr n ++ D ++ dirE t (12 + 16 * n + (bods l1).length) ++ E ++ bods l1) (X := t.bs) (Z := List.replicate (padN t.bs.length 4) 0 ++ bods l2) (by rw [hf]; simp only [fil, List.append_assoc]) (by simp [hdr_len, hD, hE, dirE_len ht4]; omega) rfl
  rw [tabAt, v0, e1, e2, e3]

theorem cnt_file {l : List Tb} (h : l.length ≤ 32) : cntB (fileR l) = l.length := by
  have e : nmV (fileR l) ((4 : Nat) : Int) 2 = l.length := by
    rw [nmV_at (b := fileR l) (q := 4) (n := 2) (A := be4 65536) (X := be2 l.length) (Z := (be2 ((16 * pw l.length : Nat) : Int) ++ (be2 ((lg l.length : Nat) : Int) ++ be2 ((16 * l.length - 16 * pw l.length : Nat) : Int))) ++ (dirs l (12 + 16 * l.length) ++ bods l)) (by rw [fileR, hdr]; simp only [List.append_assoc]) rfl rfl]
    exact V8_be2 (by omega)
  have e' : nmV (fileR l) 4 2 = l.length := e
  rw [cntB, e']
  omega
/-- What is read of a file is what it was made of. -/
theorem dir_file {l : List Tb} (h : Frm l) (hl : (fileR l).length < 4294967296) : dirB (fileR l) = l := by
  rw [dirB, cnt_file h.2.1]
  apply List.ext_getElem
  · simp
  · intro i h1 h2
    simp only [List.getElem_map, List.getElem_range]
    have e : l = l.take i ++ l[i] :: l.drop (i + 1) := by simp
    have hi : (l.take i).length = i := by simp; omega
    have := tab_file (l.take i) l[i] (l.drop (i + 1)) (by rw [← e]; exact fun s hs => (h.2.2.1 s hs).1) (by rw [← e]; exact hl)
    rw [hi, ← e] at this
    exact this

/-- Bytes are the file of the tables that their directory tells. -/
def Fil (b : List Nat) : Prop := Frm (dirB b) ∧ fileS (dirB b) = b
/-- What is packed is read as it was, rising. -/
theorem fil_of {l : List Tb} (h : Frm l) (hl : (fileS l).length < 4294967296) : dirB (fileS l) = srt l ∧ Fil (fileS l) := by
  have hs := h.srt
  have e := dir_file hs hl
  refine ⟨e, ?_⟩
  show Frm (dirB (fileS l)) ∧ fileS (dirB (fileS l)) = fileS l
  have e' : dirB (fileS l) = srt l := e
  rw [e']
  refine ⟨hs, ?_⟩
  rw [fileS, fileS, srt_of_ris (srt_ris h.2.2.2)]
theorem Fil.ris {b : List Nat} (h : Fil b) (hl : b.length < 4294967296) : Ris (dirB b) := by
  have e := (fil_of h.1 (by rw [h.2]; exact hl)).1
  rw [h.2] at e
  rw [e]
  exact srt_ris h.1.2.2.2
theorem Fil.mod {b : List Nat} (h : Fil b) : b.length % 4 = 0 := by
  rw [← h.2, fileS]
  exact fileR_mod (fun t ht => h.1.srt.tag ht)

/-- Two files with one directory, but for one byte behind it: there are none. -/
theorem bods_turned : ∀ (l m : List Tb) (j z : Nat), l.length = m.length → (∀ i, (l.getD i Tb.none).bs.length = (m.getD i Tb.none).bs.length) → (∀ i, sm (l.getD i Tb.none).bs = sm (m.getD i Tb.none).bs) →
    (∀ t ∈ l, Byt t.bs) → z < 256 → j < (bods l).length → z ≠ (bods l).getD j 0 → bods m = (bods l).set j z → False := by
  intro l
  induction l with
  | nil => intro m j z _ _ _ _ _ hj; simp [bods] at hj
  | cons t l ih =>
    intro m j z hlen hb hs hbyt hz hj hne he
    cases m with
    | nil => simp at hlen
    | cons u m =>
      have hb0 : t.bs.length = u.bs.length := hb 0
      have hs0 : sm t.bs = sm u.bs := hs 0
      have hbl : ∀ i, (l.getD i Tb.none).bs.length = (m.getD i Tb.none).bs.length := fun i => by have := hb (i + 1); simpa using this
      have hsl : ∀ i, sm (l.getD i Tb.none).bs = sm (m.getD i Tb.none).bs := fun i => by have := hs (i + 1); simpa using this
      have hfl : (fil t.bs).length = (fil u.bs).length := by rw [fil_len, fil_len, hb0]
      rw [bods, bods] at he
      rw [bods] at hj hne
      by_cases hjt : j < (fil t.bs).length
      · rw [List.set_append_left _ _ hjt] at he
        have e1 := (List.append_inj he (by simp [hfl])).1
        have h1 := sum4_set ((fil t.bs).length / 4) (fil t.bs) j z (len4 (fil_mod _)) (byt_fil (hbyt t (by simp))) hz hjt (by
          intro e
          apply hne
          rw [e]
          simp [List.getD, List.getElem?_append_left hjt])
        rw [← e1] at h1
        exact h1 hs0.symm
      · have hjt : (fil t.bs).length ≤ j := by omega
        rw [List.set_append_right _ _ hjt] at he
        have e1 := (List.append_inj he hfl.symm).2
        refine ih m (j - (fil t.bs).length) z (by simpa using hlen) hbl hsl (fun s hs => hbyt s (by simp [hs])) hz (by rw [List.length_append] at hj; omega) ?_ e1
        intro e
        apply hne
        rw [e]
        simp [List.getD, List.getElem?_append_right hjt]

end Go.Proofs.Ytijehnfadpoapaa
