/-
  Files of tables: what is read of a file (plain mathematics).
  Axes: what is written is read, what is read was written (plain mathematics).
  foundrylaw04.awake; OctetsReads: the walks.
  octets.Page: Later: the walk.
  Regions that draw their order, step by step: the kit's own laws with the operation taken out of a written list. Nothing here is a walk.
-/
import Derived.Test.YtanppgmhlcifiaaGreatDoorZ3
import Derived.WalkSpells
import Derived.Test.YtanppgmhlcifiaaGreatDoorChecked
import Derived.Deep.RegionHeld3
import Derived.WalkKit
namespace Go.Proofs.YtanppgmhlcifiaaGreatDoor
set_option linter.unusedSimpArgs false
set_option linter.unusedVariables false

/-- What lies behind a head. -/
theorem part_at {b A X Z : List Nat} {q n : Nat} (hb : b = A ++ (X ++ Z)) (hq : A.length = q) (hn : X.length = n) : (b.drop q).take n = X := by
  subst hb
  subst hq
  subst hn
  rw [List.drop_left, List.take_left]
theorem inB_at {b A X Z : List Nat} {q n : Nat} (hb : b = A ++ (X ++ Z)) (hq : A.length = q) (hn : X.length = n) : inB b.length (q : Int) (n : Int) = true := by
  have : b.length = q + n + Z.length := by rw [hb]; simp [hq, hn]; omega
  simp [inB]
  omega
theorem nmV_at {b A X Z : List Nat} {q n : Nat} (hb : b = A ++ (X ++ Z)) (hq : A.length = q) (hn : X.length = n) : nmV b (q : Int) n = V8 X := by
  rw [nmV, inB_at hb hq hn, if_pos rfl, Int.toNat_natCast, part_at hb hq hn]
theorem cutV_at {b A X Z : List Nat} {q n : Nat} (hb : b = A ++ (X ++ Z)) (hq : A.length = q) (hn : X.length = n) : cutV b (q : Int) (n : Int) = X := by
  rw [cutV_yes (inB_at hb hq hn), Int.toNat_natCast, Int.toNat_natCast, part_at hb hq hn]
theorem V8_be4 {n : Nat} (h : n < 4294967296) : V8 (be4 (n : Int)) = n := by
  simp only [be4, V8, List.foldl_cons, List.foldl_nil]
  omega
theorem V8_be2 {n : Nat} (h : n < 65536) : V8 (be2 (n : Int)) = n := by
  simp only [be2, V8, List.foldl_cons, List.foldl_nil]
  omega

/-- The tables that a directory tells, n of them. -/
def tabAt (b : List Nat) (i : Nat) : Tb := ⟨tgV b ((12 + 16 * i : Nat) : Int), cutV b ((nmV b ((20 + 16 * i : Nat) : Int) 4 : Nat) : Int) ((nmV b ((24 + 16 * i : Nat) : Int) 4 : Nat) : Int)⟩
def cntB (b : List Nat) : Nat := min (nmV b 4 2) 33
def dirB (b : List Nat) : List Tb := (List.range (cntB b)).map (tabAt b)

/-- A file's parts around one table. -/
theorem file_split (l1 : List Tb) (t : Tb) (l2 : List Tb) (h : ∀ s ∈ l1 ++ t :: l2, (sb s.tx).length = 4) :
    ∃ D E : List Nat, fileR (l1 ++ t :: l2) = hdr (l1 ++ t :: l2).length ++ (D ++ (dirE t (12 + 16 * (l1 ++ t :: l2).length + (bods l1).length) ++ (E ++ (bods l1 ++ (fil t.bs ++ bods l2))))) ∧ D.length = 16 * l1.length ∧ E.length = 16 * l2.length := by
  refine ⟨dirs l1 (12 + 16 * (l1 ++ t :: l2).length), dirs l2 (12 + 16 * (l1 ++ t :: l2).length + (bods l1).length + (fil t.bs).length), ?_, dirs_len _ (fun s hs => h s (by simp [hs])), dirs_len _ (fun s hs => h s (by simp [hs]))⟩
  rw [fileR, dirs_append, bods_append, dirs, bods]
  simp only [List.append_assoc]

theorem tab_file (l1 : List Tb) (t : Tb) (l2 : List Tb) (h : ∀ s ∈ l1 ++ t :: l2, gd (sb s.tx) = true) (hl : (fileR (l1 ++ t :: l2)).length < 4294967296) :
    tabAt (fileR (l1 ++ t :: l2)) l1.length = t := by
  have h4 : ∀ s ∈ l1 ++ t :: l2, (sb s.tx).length = 4 := fun s hs => gd_len (h s hs)
  obtain ⟨D, E, hf, hD, hE⟩ := file_split l1 t l2 h4
  have hlen := fileR_len h4
  have hbl : (bods (l1 ++ t :: l2)).length = (bods l1).length + (t.bs.length + padN t.bs.length 4 + (bods l2).length) := by rw [bods_append, bods]; simp only [List.length_append, fil_len]
  rw [hbl] at hlen
  generalize fileR (l1 ++ t :: l2) = b at *
  have hn : (l1 ++ t :: l2).length = l1.length + 1 + l2.length := by simp; omega
  generalize (l1 ++ t :: l2).length = n at *
  have htag : gd (sb t.tx) = true := h t (by simp)
  have ht4 := gd_len htag
  have hat : 12 + 16 * n + (bods l1).length < 4294967296 := by omega
  have hsz : t.bs.length < 4294967296 := by omega
  -- the tag
  have e0 : cutV b ((12 + 16 * l1.length : Nat) : Int) ((4 : Nat) : Int) = sb t.tx := cutV_at (A := hdr n ++ D) (X := sb t.tx) (Z := be4 (sm t.bs : Nat) ++ (be4 ((12 + 16 * n + (bods l1).length : Nat) : Int) ++ be4 (t.bs.length : Nat)) ++ (E ++ (bods l1 ++ (fil t.bs ++ bods l2)))) (by rw [hf, dirE]; simp only [List.append_assoc]) (by simp [hdr_len, hD]) ht4
  have i0 : inB b.length ((12 + 16 * l1.length : Nat) : Int) ((4 : Nat) : Int) = true := inB_at (A := hdr n ++ D) (X := sb t.tx) (Z := be4 (sm t.bs : Nat) ++ (be4 ((12 + 16 * n + (bods l1).length : Nat) : Int) ++ be4 (t.bs.length : Nat)) ++ (E ++ (bods l1 ++ (fil t.bs ++ bods l2)))) (by rw [hf, dirE]; simp only [List.append_assoc]) (by simp [hdr_len, hD]) ht4
  have g0 : tgB b ((12 + 16 * l1.length : Nat) : Int) = true := by
    rw [tgB]
    have e0' : cutV b ((12 + 16 * l1.length : Nat) : Int) 4 = sb t.tx := e0
    have i0' : inB b.length ((12 + 16 * l1.length : Nat) : Int) 4 = true := i0
    rw [e0', i0', htag]
    rfl
  have v0 : tgV b ((12 + 16 * l1.length : Nat) : Int) = t.tx := by
    rw [tgV, g0, if_pos rfl]
    have e0' : cutV b ((12 + 16 * l1.length : Nat) : Int) 4 = sb t.tx := e0
    rw [e0', str8_sb]
  -- where, and how many
  have e1 : nmV b ((20 + 16 * l1.length : Nat) : Int) 4 = 12 + 16 * n + (bods l1).length := by
    rw [nmV_at (b := b) (q := 20 + 16 * l1.length) (n := 4) (A := hdr n ++ D ++ sb t.tx ++ be4 (sm t.bs : Nat)) (X := be4 ((12 + 16 * n + (bods l1).length : Nat) : Int)) (Z := be4 (t.bs.length : Nat) ++ (E ++ (bods l1 ++ (fil t.bs ++ bods l2)))) (by rw [hf, dirE]; simp only [List.append_assoc]) (by simp [hdr_len, hD, ht4, be4]; omega) rfl]
    exact V8_be4 hat
  have e2 : nmV b ((24 + 16 * l1.length : Nat) : Int) 4 = t.bs.length := by
    rw [nmV_at (b := b) (q := 24 + 16 * l1.length) (n := 4) (A := hdr n ++ D ++ sb t.tx ++ be4 (sm t.bs : Nat) ++ be4 ((12 + 16 * n + (bods l1).length : Nat) : Int)) (X := be4 (t.bs.length : Nat)) (Z := E ++ (bods l1 ++ (fil t.bs ++ bods l2))) (by rw [hf, dirE]; simp only [List.append_assoc]) (by simp [hdr_len, hD, ht4, be4]; omega) rfl]
    exact V8_be4 hsz
  have e3 : cutV b ((12 + 16 * n + (bods l1).length : Nat) : Int) ((t.bs.length : Nat) : Int) = t.bs :=
    cutV_at (A := hdr n ++ D ++ dirE t (12 + 16 * n + (bods l1).length) ++ E ++ bods l1) (X := t.bs) (Z := List.replicate (padN t.bs.length 4) 0 ++ bods l2) (by rw [hf]; simp only [fil, List.append_assoc]) (by simp [hdr_len, hD, hE, dirE_len ht4]; omega) rfl
  rw [tabAt, v0, e1, e2, e3]

theorem cnt_file {l : List Tb} (h : l.length ≤ 32) : cntB (fileR l) = l.length := by
  have e : nmV (fileR l) ((4 : Nat) : Int) 2 = l.length := by
    rw [nmV_at (b := fileR l) (q := 4) (n := 2) (A := be4 65536) (X := be2 l.length) (Z := (be2 ((16 * pw l.length : Nat) : Int) ++ (be2 ((lg l.length : Nat) : Int) ++ be2 ((16 * l.length - 16 * pw l.length : Nat) : Int))) ++ (dirs l (12 + 16 * l.length) ++ bods l)) (by rw [fileR, hdr]; simp only [List.append_assoc]) rfl rfl]
    exact V8_be2 (by omega)
  have e' : nmV (fileR l) 4 2 = l.length := e
  rw [cntB, e']
  omega
/-- What is read of a file is what it was made of. -/
theorem dir_file {l : List Tb} (h : Frm l) (hl : (fileR l).length < 4294967296) : dirB (fileR l) = l := by
  rw [dirB, cnt_file h.2.1]
  apply List.ext_getElem
  · simp
  · intro i h1 h2
    simp only [List.getElem_map, List.getElem_range]
    have e : l = l.take i ++ l[i] :: l.drop (i + 1) := by simp
    have hi : (l.take i).length = i := by simp; omega
    have := tab_file (l.take i) l[i] (l.drop (i + 1)) (by rw [← e]; exact fun s hs => (h.2.2.1 s hs).1) (by rw [← e]; exact hl)
    rw [hi, ← e] at this
    exact this

/-- Bytes are the file of the tables that their directory tells. -/
def Fil (b : List Nat) : Prop := Frm (dirB b) ∧ fileS (dirB b) = b
/-- What is packed is read as it was, rising. -/
theorem fil_of {l : List Tb} (h : Frm l) (hl : (fileS l).length < 4294967296) : dirB (fileS l) = srt l ∧ Fil (fileS l) := by
  have hs := h.srt
  have e := dir_file hs hl
  refine ⟨e, ?_⟩
  show Frm (dirB (fileS l)) ∧ fileS (dirB (fileS l)) = fileS l
  have e' : dirB (fileS l) = srt l := e
  rw [e']
  refine ⟨hs, ?_⟩
  rw [fileS, fileS, srt_of_ris (srt_ris h.2.2.2)]
theorem Fil.ris {b : List Nat} (h : Fil b) (hl : b.length < 4294967296) : Ris (dirB b) := by
  have e := (fil_of h.1 (by rw [h.2]; exact hl)).1
  rw [h.2] at e
  rw [e]
  exact srt_ris h.1.2.2.2
theorem Fil.mod {b : List Nat} (h : Fil b) : b.length % 4 = 0 := by
  rw [← h.2, fileS]
  exact fileR_mod (fun t ht => h.1.srt.tag ht)

/-- Two files with one directory, but for one byte behind it: there are none. -/
theorem bods_turned : ∀ (l m : List Tb) (j z : Nat), l.length = m.length → (∀ i, (l.getD i Tb.none).bs.length = (m.getD i Tb.none).bs.length) → (∀ i, sm (l.getD i Tb.none).bs = sm (m.getD i Tb.none).bs) →
    (∀ t ∈ l, Byt t.bs) → z < 256 → j < (bods l).length → z ≠ (bods l).getD j 0 → bods m = (bods l).set j z → False := by
  intro l
  induction l with
  | nil => intro m j z _ _ _ _ _ hj; simp [bods] at hj
  | cons t l ih =>
    intro m j z hlen hb hs hbyt hz hj hne he
    cases m with
    | nil => simp at hlen
    | cons u m =>
      have hb0 : t.bs.length = u.bs.length := hb 0
      have hs0 : sm t.bs = sm u.bs := hs 0
      have hbl : ∀ i, (l.getD i Tb.none).bs.length = (m.getD i Tb.none).bs.length := fun i => by have := hb (i + 1); simpa using this
      have hsl : ∀ i, sm (l.getD i Tb.none).bs = sm (m.getD i Tb.none).bs := fun i => by have := hs (i + 1); simpa using this
      have hfl : (fil t.bs).length = (fil u.bs).length := by rw [fil_len, fil_len, hb0]
      rw [bods, bods] at he
      rw [bods] at hj hne
      by_cases hjt : j < (fil t.bs).length
      · rw [List.set_append_left _ _ hjt] at he
        have e1 := (List.append_inj he (by simp [hfl])).1
        have h1 := sum4_set ((fil t.bs).length / 4) (fil t.bs) j z (len4 (fil_mod _)) (byt_fil (hbyt t (by simp))) hz hjt (by
          intro e
          apply hne
          rw [e]
          simp [List.getD, List.getElem?_append_left hjt])
        rw [← e1] at h1
        exact h1 hs0.symm
      · have hjt : (fil t.bs).length ≤ j := by omega
        rw [List.set_append_right _ _ hjt] at he
        have e1 := (List.append_inj he hfl.symm).2
        refine ih m (j - (fil t.bs).length) z (by simpa using hlen) hbl hsl (fun s hs => hbyt s (by simp [hs])) hz (by rw [List.length_append] at hj; omega) ?_ e1
        intro e
        apply hne
        rw [e]
        simp [List.getD, List.getElem?_append_right hjt]

end Go.Proofs.YtanppgmhlcifiaaGreatDoor

namespace Go.Proofs.YtanppgmhlcifiaaGreatDoor
set_option linter.unusedSimpArgs false
set_option linter.unusedVariables false

theorem sx_be4 {z : Int} (h1 : -2147483648 ≤ z) (h2 : z ≤ 2147483647) : sx32 (V8 (be4 z)) = z := by
  simp only [be4, V8, List.foldl_cons, List.foldl_nil]
  unfold sx32
  split <;> omega
theorem be_sx4 {xs : List Nat} (h : Byt xs) (hl : xs.length = 4) : be4 (sx32 (V8 xs)) = xs := by
  match xs, hl with
  | [a, b, c, d], _ =>
    have ha := h a (by simp)
    have hb := h b (by simp)
    have hc := h c (by simp)
    have hd := h d (by simp)
    have e : V8 [a, b, c, d] = 16777216 * a + (65536 * b + (256 * c + d)) := by simp only [V8, List.foldl_cons, List.foldl_nil]; omega
    have hz : ∃ k : Int, sx32 (V8 [a, b, c, d]) = ((16777216 * a + (65536 * b + (256 * c + d)) : Nat) : Int) + 4294967296 * k := by
      rw [e, sx32]
      split
      · exact ⟨-1, by omega⟩
      · exact ⟨0, by omega⟩
    obtain ⟨k, hk⟩ := hz
    rw [hk]
    simp only [be4, List.cons.injEq, and_true]
    refine ⟨by omega, by omega, by omega, by omega⟩

theorem axB_split (l1 : List Ax) (t : Ax) (l2 : List Ax) : axB (l1 ++ t :: l2) = (be2 ((l1 ++ t :: l2).length : Nat) ++ axs l1) ++ (axE t ++ axs l2) := by
  rw [axB, axs_append, axs]
  simp only [List.append_assoc]
theorem axAt_axB (l1 : List Ax) (t : Ax) (l2 : List Ax) (h : ∀ s ∈ l1 ++ t :: l2, onA s = true) : axAt (axB (l1 ++ t :: l2)) l1.length = t := by
  obtain ⟨hg, h1, h2, h3, h4⟩ := onA_iff.1 (h t (by simp))
  have ht4 := gdA_len hg
  have hA : (be2 ((l1 ++ t :: l2).length : Nat) ++ axs l1).length = 2 + 16 * l1.length := by
    rw [List.length_append, axs_len (fun s hs => gdA_len (onA_iff.1 (h s (by simp [hs]))).1)]
    rfl
  have hs := axB_split l1 t l2
  generalize be2 ((l1 ++ t :: l2).length : Nat) ++ axs l1 = A at *
  generalize axB (l1 ++ t :: l2) = b at *
  rw [axE] at hs
  have e0 : cutV b ((2 + 16 * l1.length : Nat) : Int) ((4 : Nat) : Int) = sb t.tx := cutV_at (A := A) (X := sb t.tx) (Z := be4 t.lo ++ (be4 t.us ++ be4 t.hi) ++ axs l2) (by rw [hs]; simp only [List.append_assoc]) hA ht4
  have i0 : inB b.length ((2 + 16 * l1.length : Nat) : Int) ((4 : Nat) : Int) = true := inB_at (A := A) (X := sb t.tx) (Z := be4 t.lo ++ (be4 t.us ++ be4 t.hi) ++ axs l2) (by rw [hs]; simp only [List.append_assoc]) hA ht4
  have e0' : cutV b ((2 + 16 * l1.length : Nat) : Int) 4 = sb t.tx := e0
  have i0' : inB b.length ((2 + 16 * l1.length : Nat) : Int) 4 = true := i0
  have g0 : tgB b ((2 + 16 * l1.length : Nat) : Int) = true := by rw [tgB, e0', i0', hg]; rfl
  have v0 : tgV b ((2 + 16 * l1.length : Nat) : Int) = t.tx := by rw [tgV, g0, if_pos rfl, e0', str8_sb]
  have v1 : nmV b ((6 + 16 * l1.length : Nat) : Int) 4 = V8 (be4 t.lo) := nmV_at (A := A ++ sb t.tx) (X := be4 t.lo) (Z := be4 t.us ++ be4 t.hi ++ axs l2) (by rw [hs]; simp only [List.append_assoc]) (by simp [hA, ht4]; omega) rfl
  have v2 : nmV b ((10 + 16 * l1.length : Nat) : Int) 4 = V8 (be4 t.us) := nmV_at (A := A ++ sb t.tx ++ be4 t.lo) (X := be4 t.us) (Z := be4 t.hi ++ axs l2) (by rw [hs]; simp only [List.append_assoc]) (by simp [hA, ht4, be4]; omega) rfl
  have v3 : nmV b ((14 + 16 * l1.length : Nat) : Int) 4 = V8 (be4 t.hi) := nmV_at (A := A ++ sb t.tx ++ be4 t.lo ++ be4 t.us) (X := be4 t.hi) (Z := axs l2) (by rw [hs]; simp only [List.append_assoc]) (by simp [hA, ht4, be4]; omega) rfl
  rw [axAt, v0, v1, v2, v3, sx_be4 (by omega) (by omega), sx_be4 (by omega) (by omega), sx_be4 (by omega) (by omega)]
theorem cnt_axB {l : List Ax} (h : l.length ≤ 4) : nmV (axB l) 0 2 = l.length ∧ inB (axB l).length 0 2 = true := by
  have e : nmV (axB l) ((0 : Nat) : Int) 2 = V8 (be2 (l.length : Nat)) := nmV_at (A := []) (X := be2 (l.length : Nat)) (Z := axs l) (by rw [axB]; rfl) rfl rfl
  have i : inB (axB l).length ((0 : Nat) : Int) ((2 : Nat) : Int) = true := inB_at (A := []) (X := be2 (l.length : Nat)) (Z := axs l) (by rw [axB]; rfl) rfl rfl
  exact ⟨by rw [show (0 : Int) = ((0 : Nat) : Int) from rfl, e, V8_be2 (by omega)], i⟩
/-- What is written is read as it was. -/
theorem read_axB {l : List Ax} (h : FrA l) : rdB (axB l) = true ∧ rdL (axB l) = l := by
  obtain ⟨e1, e2⟩ := cnt_axB h.1
  have e3 : axR (axB l) = l := by
    rw [axR, e1]
    apply List.ext_getElem
    · simp
    · intro i h1 h2
      simp only [List.getElem_map, List.getElem_range]
      have es : l = l.take i ++ l[i] :: l.drop (i + 1) := by simp
      have hi : (l.take i).length = i := by simp; omega
      have := axAt_axB (l.take i) l[i] (l.drop (i + 1)) (by rw [← es]; exact h.2.1)
      rw [hi, ← es] at this
      exact this
  have e4 : rdB (axB l) = true := by
    rw [rdB, okR, e1, e2, e3, frA_iff.2 h, axB_len (fun t ht => h.tag ht)]
    simp [h.1]
  exact ⟨e4, by rw [rdL, e4, if_pos rfl, e3]⟩

theorem axE_axAt {b : List Nat} {i : Nat} (hb : Byt b) (hi : 18 + 16 * i ≤ b.length) (hg : gd (sb (axAt b i).tx) = true) : axE (axAt b i) = (b.drop (2 + 16 * i)).take 16 := by
  have i0 : inB b.length ((2 + 16 * i : Nat) : Int) 4 = true := by simp [inB]; omega
  have c0 : cutV b ((2 + 16 * i : Nat) : Int) 4 = (b.drop (2 + 16 * i)).take 4 := by rw [cutV_yes i0]; rfl
  have ht : tgB b ((2 + 16 * i : Nat) : Int) = true := by
    cases e : tgB b ((2 + 16 * i : Nat) : Int) with
    | true => rfl
    | false =>
      have : (axAt b i).tx = ⟨#[]⟩ := by show tgV b _ = _; rw [tgV, e]; rfl
      rw [this] at hg
      cases hg
  have v0 : sb (axAt b i).tx = (b.drop (2 + 16 * i)).take 4 := by
    show sb (tgV b _) = _
    rw [tgV, ht, if_pos rfl, c0, sb_str8 ((hb.drop _).take _)]
  have vk : ∀ q : Nat, q + 4 ≤ b.length → be4 (sx32 (nmV b (q : Int) 4)) = (b.drop q).take 4 := by
    intro q hq
    have hin : inB b.length (q : Int) ((4 : Nat) : Int) = true := by simp [inB]; omega
    rw [nmV, if_pos hin, Int.toNat_natCast, be_sx4 ((hb.drop _).take _) (by simp; omega)]
  rw [axE, v0]
  show _ ++ (be4 (sx32 (nmV b ((6 + 16 * i : Nat) : Int) 4)) ++ (be4 (sx32 (nmV b ((10 + 16 * i : Nat) : Int) 4)) ++ be4 (sx32 (nmV b ((14 + 16 * i : Nat) : Int) 4)))) = _
  rw [vk _ (by omega), vk _ (by omega), vk _ (by omega)]
  have e1 : b.drop (6 + 16 * i) = (b.drop (2 + 16 * i)).drop 4 := by rw [List.drop_drop]; congr 1; omega
  have e2 : b.drop (10 + 16 * i) = (b.drop (2 + 16 * i)).drop 8 := by rw [List.drop_drop]; congr 1; omega
  have e3 : b.drop (14 + 16 * i) = (b.drop (2 + 16 * i)).drop 12 := by rw [List.drop_drop]; congr 1; omega
  rw [e1, e2, e3]
  generalize b.drop (2 + 16 * i) = c
  rw [show (16 : Nat) = 4 + (4 + (4 + 4)) from rfl, List.take_add, List.take_add, List.take_add, List.drop_drop, List.drop_drop]
theorem axs_read {b : List Nat} (hb : Byt b) : ∀ n, 2 + 16 * n ≤ b.length → (∀ i, i < n → gd (sb (axAt b i).tx) = true) → axs ((List.range n).map (axAt b)) = (b.drop 2).take (16 * n) := by
  intro n
  induction n with
  | zero => intro _ _; rfl
  | succ n ih =>
    intro hl hg
    rw [List.range_succ, List.map_append, axs_append, ih (by omega) (fun i hi => hg i (by omega))]
    have e : axs [axAt b n] = (b.drop (2 + 16 * n)).take 16 := by rw [axs, axs, List.append_nil, axE_axAt hb (by omega) (hg n (by omega))]
    rw [show [n].map (axAt b) = [axAt b n] from rfl, e, show 16 * (n + 1) = 16 * n + 16 by omega, List.take_add, List.drop_drop]
/-- What is read is written to its very bytes. -/
theorem axB_read {b : List Nat} (hb : Byt b) (h : rdB b = true) : axB (axR b) = b ∧ FrA (axR b) := by
  rw [rdB, okR, Bool.and_eq_true, Bool.and_eq_true, Bool.and_eq_true, decide_eq_true_iff, decide_eq_true_iff] at h
  obtain ⟨⟨h1, h2, h3⟩, h4⟩ := h
  have hf := frA_iff.1 h4
  refine ⟨?_, hf⟩
  have hg : ∀ i, i < nmV b 0 2 → gd (sb (axAt b i).tx) = true := by
    intro i hi
    have hm : axAt b i ∈ axR b := List.mem_map.2 ⟨i, List.mem_range.2 hi, rfl⟩
    exact (onA_iff.1 (hf.2.1 _ hm)).1
  rw [axB, axR_len, axR, axs_read hb _ (by omega) hg]
  have e2 : be2 ((nmV b 0 2 : Nat) : Int) = b.take 2 := by
    have e : nmV b 0 2 = V8 (b.take 2) := by
      have hin : inB b.length 0 ((2 : Nat) : Int) = true := h1
      rw [nmV, if_pos hin]
      rfl
    rw [e]
    have hl : (b.take 2).length = 2 := by simp; omega
    have hbt := hb.take 2
    generalize b.take 2 = c at hl hbt
    match c, hl with
    | [x, y], _ =>
      have hx := hbt x (by simp)
      have hy := hbt y (by simp)
      simp only [be2, V8, List.foldl_cons, List.foldl_nil]
      simp
      omega
  have e5 : (b.drop 2).take (16 * nmV b 0 2) = b.drop 2 := List.take_of_length_le (by rw [List.length_drop]; omega)
  rw [e2, e5, List.take_append_drop]

end Go.Proofs.YtanppgmhlcifiaaGreatDoor

namespace Go.Proofs.YtanppgmhlcifiaaGreatDoor
open Go.RowKit Go.Maps
set_option linter.unusedSimpArgs false
set_option linter.unusedVariables false

/-- A new page. -/
theorem pc_new (w : World) (G : Nat → Prop) (hG : ∀ k, G k → k < w.heap.size) : Pc (w.alloc (.cells #[.slice none 0 0, .int .i64 0, .map none, .bool false] 69)) w.heap.size G St.zero := by
  refine ⟨fun k hk => by have := hG k hk; simp; omega, fun h => by have := hG _ h; omega, Wf.zero, _, _, heap_alloc_new w _, fun h => (by cases h), fun _ => ⟨⟨World.ownsRow_nil _ _ _ _, fun g hg => (by cases hg)⟩, .inl ⟨rfl, rfl⟩⟩⟩

end Go.Proofs.YtanppgmhlcifiaaGreatDoor

namespace Go.Proofs.YtanppgmhlcifiaaGreatDoor
open Go.RowKit Go.Maps
set_option linter.unusedSimpArgs false
set_option linter.unusedVariables false

def St.later (s : St) : St := if s.no then s else { s with bs := s.bs ++ be4 0, ws := s.ws ++ [(s.bs.length : Int)] }
theorem Wf.later {s : St} (h : Wf s) : Wf s.later := by
  unfold St.later
  split
  · exact h
  · refine ⟨h.1.append (byt_be4 0), ?_, ?_, ?_⟩
    · rw [List.nodup_append]
      refine ⟨h.2.1, by simp, ?_⟩
      intro a ha b hb e
      have := h.2.2.1 a ha
      simp at hb
      omega
    · intro x hx
      simp at hx
      rcases hx with hx | hx
      · have := h.2.2.1 x hx
        simp [be4]; omega
      · simp [be4]; omega
    · have := h.2.2.2
      simp [be4]
      omega
theorem St.later_bad {s : St} (h : s.no = true) : s.later = s := by simp [St.later, h]
theorem St.later_ok {s : St} (h : s.no = false) : s.later = { s with bs := s.bs ++ be4 0, ws := s.ws ++ [(s.bs.length : Int)] } := by simp [St.later, h]

theorem wf64 {n : Int} (h : I64 n) : (Lit.int .i64 n).wf = true := WalkArith.wf_i64 h
theorem keyI : Keyed Tryz.prog 3 := int_keyed Tryz.underlying3
theorem zeroU (w : World) : (zeroValue 185).run Tryz.prog w = .ok (.agg #[]) w := by kernel_rfl

/-- A place more that waits. -/
theorem has_more {D : DataW Unit} {ws : List Int} {l : Int} (hm : IsMap D) (h : ∀ x : Int, Maps.has D (.int .i64 x) = decide (x ∈ ws)) (x : Int) :
    Maps.has (D.put (.int .i64 l) (.agg [])) (.int .i64 x) = decide (x ∈ ws ++ [l]) := by
  by_cases e : x = l
  · subst e
    rw [has_put_same hm (show WideAt.IsKeyLit (.int .i64 x) from trivial)]
    simp
  · rw [has_put_other (by intro e2; injection e2 with _ e3; exact e e3), h x]
    simp [e]
theorem size_more {D : DataW Unit} {ws : List Int} {l : Int} (hm : Tidy D) (h : ∀ x : Int, Maps.has D (.int .i64 x) = decide (x ∈ ws)) (hs : Maps.size D = ws.length) (hl : l ∉ ws) :
    Maps.size (D.put (.int .i64 l) (.agg [])) = (ws ++ [l]).length := by
  rw [size_put hm, h l, hs]
  simp [hl]

end Go.Proofs.YtanppgmhlcifiaaGreatDoor

namespace Go.Proofs.YtanppgmhlcifiaaGreatDoor
open Go.RowKit

/-- The operation at a place of a list. -/
def nth : List Oper → Nat → Option Oper
  | [], _ => none
  | o :: _, 0 => some o
  | _ :: l, n + 1 => nth l n
theorem nth_eq : ∀ (l : List Oper) (i : Nat), nth l i = l.toArray[i]? := by
  intro l
  induction l with
  | nil => intro i; simp [nth]
  | cons o l ih =>
    intro i
    cases i with
    | zero => simp [nth]
    | succ i => simp [nth, ih i]

theorem hTake {P : Program} {md : Region.Mode} {l : List Oper} {Q : Exit → Act → World → Prop} {S : World → Prop} {i : Nat} {o : Oper} {v : Value} {fuel : Nat} {listed : Array Bool} {a : Act} {w : World} (hi : nth l i = some o)
    (hs : Region.noSelect l.toArray = true) (hf : Region.free md l.toArray listed i = true) (hr : (Region.ready md l.toArray listed).contains i = true)
    (hQ : ∀ c a w, Q (.panic c) (a.put o.dst v) w → Q (.panic c) a w) (hy : YieldsIf P l.toArray S o v a) (hS : S w)
    (h : wpAnyH P md l.toArray Q S fuel (listed.setIfInBounds i true) (a.put o.dst v) w) : wpAnyH P md l.toArray Q S (fuel + 1) listed a w :=
  wpAnyH_take ((nth_eq l i).symm.trans hi) hs hf hr hQ hy hS h

theorem hCall {P : Program} {md : Region.Mode} {l : List Oper} {Q : Exit → Act → World → Prop} {S : World → Prop} {i : Nat} {o : Oper} {fuel : Nat} {listed : Array Bool} {a : Act} {w : World} (hi : nth l i = some o)
    (hr : Region.ready md l.toArray listed = [i]) (hw : Region.wanted o (yielded l.toArray a.tmps) = true)
    (h : ∀ K : Act → World → Prop, Shut (∀ a w, S w → (S w → wpAnyH P md l.toArray Q S fuel (listed.setIfInBounds i true) a w) → K a w) → Oper.wp P o a w K Q) :
    wpAnyH P md l.toArray Q S (fuel + 1) listed a w :=
  wpAnyH_ready hr (by simp) (AllReadyH.cons ((nth_eq l i).symm.trans hi) (fun K hK => by rw [if_pos hw]; exact h K hK) AllReadyH.nil)

theorem hCons {P : Program} {md : Region.Mode} {l : List Oper} {Q : Exit → Act → World → Prop} {S : World → Prop} {i : Nat} {o : Oper} {fuel : Nat} {listed : Array Bool} {a : Act} {w : World} {rs : List Nat} (hi : nth l i = some o)
    (hw : Region.wanted o (yielded l.toArray a.tmps) = true)
    (h : ∀ K : Act → World → Prop, Shut (∀ a w, S w → (S w → wpAnyH P md l.toArray Q S fuel (listed.setIfInBounds i true) a w) → K a w) → Oper.wp P o a w K Q)
    (hs : AllReadyH P md l.toArray Q S fuel listed a w rs) : AllReadyH P md l.toArray Q S fuel listed a w (i :: rs) :=
  AllReadyH.cons ((nth_eq l i).symm.trans hi) (fun K hK => by rw [if_pos hw]; exact h K hK) hs

end Go.Proofs.YtanppgmhlcifiaaGreatDoor
