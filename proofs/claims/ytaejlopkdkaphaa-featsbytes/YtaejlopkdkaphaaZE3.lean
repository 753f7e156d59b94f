/-
  octets.Page: All, Pad, Later: the walks.
  octets.Page: Pad, Later: the walks.
  Files of tables, as the document has them: filled bytes, check sums (plain mathematics).
  Files of tables, as the document has them: tables, their order, the file (plain mathematics).
  Files of tables: what is read of a file (plain mathematics).
-/
import Derived.Test.YtaejlopkdkaphaaZE2
namespace Go.Proofs.Ytaejlopkdkaphaa
open Go.RowKit Go.Maps
set_option linter.unusedSimpArgs false
set_option linter.unusedVariables false

/-- What All answers: the error, and the bytes. -/
def allE (s : St) : Int := if s.no then 4 else if s.ws = [] then 0 else 1
def allB (s : St) : List Nat := if s.no then [] else if s.ws = [] then s.bs else []

theorem Row.rb {w : World} {G : Nat → Prop} {a : Option Addr} {c : Nat} {xs : List Nat} (h : Row w G (.slice a xs.length c) xs) (hB : Byt xs) : Rb w a c xs := Rw.rd (e := 5) (base := 0) ⟨hB, h.1⟩

set_option maxHeartbeats 1000000 in
set_option maxRecDepth 100000 in
theorem all_any (B : Nat) (G : Nat → Prop) (s : St) (w : World) (h : Pc w B G s) (hl : s.bs.length ≤ 1048576) :
    Calls Try.prog 41 #[pg B] w fun e w' => ∃ a' cap', e = .returned (.tuple #[.slice a' (allB s).length cap', .int .i64 (allE s)]) ∧ Rw 5 w.heap.size w' a' cap' (allB s) ∧ Below w.heap.size w w' := by
  obtain ⟨h1, h2, h3, vb, vm, h4, h6, h5⟩ := h
  obtain ⟨c0, c1, c2, c3, f0, f1, f2, f3⟩ := h4.cells
  by_cases hno : s.no = true
  · have HE : Hid (allE s = 4) := by show allE s = 4; simp [allE, hno]
    have HB : Hid (allB s = []) := by show allB s = []; simp [allB, hno]
    rw [hno] at c3
    clear h1 h2 h3 h4 h5 h6 hno
    go_enter Try.func41, Try.ntmps41
    go_wp2
    go_ret2
    refine ⟨none, 0, rt_two (by rw [HB.out]; rfl) (by rw [HE.out]; rfl), ?_, Below.refl _ _⟩
    rw [HB.out]
    exact Rw.nil _ _
  · have hno : s.no = false := by simpa using hno
    obtain ⟨hR, hM⟩ := h5 hno
    rw [hno] at c3
    by_cases hws : s.ws = []
    · have HE : Hid (allE s = 0) := by show allE s = 0; simp [allE, hno, hws]
      have HB : Hid (allB s = s.bs) := by show allB s = s.bs; simp [allB, hno, hws]
      obtain ⟨a, c, rfl⟩ := hR.slice
      have hrb := hR.rb h3.1
      have fin : ∀ (W : World), W = w → Calls Try.prog 65 #[.slice a s.bs.length c] W fun e w' => ∃ a' cap', e = .returned (.slice a' s.bs.length cap') ∧ Rw 5 w.heap.size w' a' cap' s.bs ∧ Below w.heap.size w w' := by
        rintro W rfl
        exact clone_any a c s.bs _ hrb (by omega)
      obtain ⟨l, hll⟩ : ∃ l, s.bs.length = l := ⟨_, rfl⟩
      rw [hll] at c0 c1 hl fin
      have HL : Hid (s.bs.length = l) := hll
      clear hll
      rcases hM with ⟨rfl, _⟩ | ⟨m, D, rfl, hmG, hown, hhas, hsize⟩
      · clear h1 h2 h3 h4 h5 h6 hno hws hR hrb
        have hlen := fun (w : World) ty => Maps.len_nil (w := w) Try.underlying55 ty
        go_enter Try.func41, Try.ntmps41
        go_wp2_with fail
        refine (fin _ rfl).mono ?_
        rintro e u ⟨a', cap', rfl, hR, hb⟩
        go_wp2
        go_ret2
        refine ⟨a', cap', rt_two (by rw [HB.out, HL.out]; rfl) (by rw [HE.out]; rfl), ?_, hb⟩
        rw [HB.out]
        exact hR
      · rw [hws] at hsize
        have hs0 : Maps.size D = 0 := by simpa using hsize
        have hown' := hown
        clear h1 h2 h3 h4 h5 h6 hno hR hrb hhas hsize
        go_enter Try.func41, Try.ntmps41
        go_wp2_with (first | (at_len; refine wpList_len_own _ rfl _ 55 rfl 3 57 Try.underlying55 _ m _ D rfl hown ?_; rw [hs0]) | fail)
        refine (fin _ rfl).mono ?_
        rintro e u ⟨a', cap', rfl, hR, hb⟩
        go_wp2
        go_ret2
        refine ⟨a', cap', rt_two (by rw [HB.out, HL.out]; rfl) (by rw [HE.out]; rfl), ?_, hb⟩
        rw [HB.out]
        exact hR
    · have HE : Hid (allE s = 1) := by show allE s = 1; simp [allE, hno, hws]
      have HB : Hid (allB s = []) := by show allB s = []; simp [allB, hno, hws]
      rcases hM with ⟨rfl, h0⟩ | ⟨m, D, rfl, hmG, hown, hhas, hsize⟩
      · exact absurd h0 hws
      · obtain ⟨z, hz⟩ : ∃ z, Maps.size D = z := ⟨_, rfl⟩
        have hz1 : 0 < (z : Int) := by
          have := List.length_pos_iff.2 hws
          omega
        clear h1 h2 h3 h4 h5 h6 hno hR hhas hsize hws
        go_enter Try.func41, Try.ntmps41
        go_wp2_with (first | (at_len; refine wpList_len_own _ rfl _ 55 rfl 3 57 Try.underlying55 _ m _ D rfl hown ?_; rw [hz]) | go_in)
        go_ret2
        refine ⟨none, 0, rt_two (by rw [HB.out]; rfl) (by rw [HE.out]; rfl), ?_, Below.refl _ _⟩
        rw [HB.out]
        exact Rw.nil _ _

theorem all_nil (w : World) :
    Calls Try.prog 41 #[.pointer none] w fun e w' => e = .returned (.tuple #[.slice none 0 0, .int .i64 4]) ∧ w = w' := by
  go_enter Try.func41, Try.ntmps41
  go_wp2
  go_ret2
  exact ⟨rfl, rfl⟩

end Go.Proofs.Ytaejlopkdkaphaa

namespace Go.Proofs.Ytaejlopkdkaphaa
open Go.RowKit Go.Maps
set_option linter.unusedSimpArgs false
set_option linter.unusedVariables false

/-- How many bytes of 0 are put. -/
def padN (l n : Nat) : Nat := (n - l % n) % n
def St.pad (s : St) (n : Int) : St := if 1 ≤ n ∧ n ≤ 16 then s.app (List.replicate (padN s.bs.length n.toNat) 0) else s.fail

theorem padN_zero {l n : Nat} (hn : 0 < n) (h : l % n = 0) : padN l n = 0 := by unfold padN; rw [h]; simp
theorem padN_succ {l n : Nat} (hn : 0 < n) (h : l % n ≠ 0) : padN l n = padN (l + 1) n + 1 := by
  unfold padN
  have h1 := Nat.mod_lt l hn
  have h3 : 1 < n := by
    rcases Nat.lt_or_ge 1 n with h3 | h3
    · exact h3
    · have : n = 1 := by omega
      subst this
      exact absurd (Nat.mod_one l) h
  have e : (l + 1) % n = (l % n + 1) % n := by rw [Nat.add_mod, Nat.mod_eq_of_lt h3]
  rw [e]
  generalize l % n = r at h h1
  have e1 : (n - r) % n = n - r := Nat.mod_eq_of_lt (by omega)
  rw [e1]
  rcases Nat.lt_or_ge (r + 1) n with h2 | h2
  · have e2 : (r + 1) % n = r + 1 := Nat.mod_eq_of_lt h2
    have e3 : (n - (r + 1)) % n = n - (r + 1) := Nat.mod_eq_of_lt (by omega)
    rw [e2, e3]
    omega
  · have e2 : r + 1 = n := by omega
    rw [e2, Nat.mod_self, Nat.sub_zero, Nat.mod_self]
    omega
theorem padN_lt {l n : Nat} (hn : 0 < n) : padN l n < n := Nat.mod_lt _ hn

theorem St.app_app (s : St) (xs ys : List Nat) : (s.app xs).app ys = s.app (xs ++ ys) := by
  unfold St.app
  by_cases h : s.no = true <;> simp [h]
theorem St.app_nil (s : St) : s.app [] = s := by
  unfold St.app
  split <;> simp
theorem byt_zeros (n : Nat) : Byt (List.replicate n 0) := by intro x hx; have := List.eq_of_mem_replicate hx; omega

/-- The number in a page's second cell. -/
def hereOf (B : Nat) (w : World) : Nat := (intOf ((w.cell? ⟨B, 1, none⟩).getD undef)).toNat
theorem Pc.hereOf {w : World} {B : Nat} {G : Nat → Prop} {s : St} (h : Pc w B G s) : hereOf B w = s.bs.length := by
  obtain ⟨h1, h2, h3, vb, vm, h4, h6, h5⟩ := h
  obtain ⟨c0, c1, _⟩ := h4.cells
  simp [Proofs.Ytaejlopkdkaphaa.hereOf, c1, intOf]

end Go.Proofs.Ytaejlopkdkaphaa

namespace Go.Proofs.Ytaejlopkdkaphaa
set_option linter.unusedSimpArgs false
set_option linter.unusedVariables false

/-- Bytes filled up to a multiple of four. -/
def fil (bs : List Nat) : List Nat := bs ++ List.replicate (padN bs.length 4) 0
theorem padN4 (l : Nat) : (l + padN l 4) % 4 = 0 := by unfold padN; omega
theorem padN4_lt (l : Nat) : padN l 4 < 4 := padN_lt (by decide)
theorem fil_len (bs : List Nat) : (fil bs).length = bs.length + padN bs.length 4 := by simp [fil]
theorem fil_mod (bs : List Nat) : (fil bs).length % 4 = 0 := by rw [fil_len]; exact padN4 _
theorem byt_fil {bs : List Nat} (h : Byt bs) : Byt (fil bs) := h.append (byt_zeros _)
theorem fil_same {bs : List Nat} (h : bs.length % 4 = 0) : fil bs = bs := by
  unfold fil
  rw [padN_zero (by decide) h]
  simp
theorem fil_take (bs : List Nat) : (fil bs).take bs.length = bs := by simp [fil]

/-- The sum of all numbers of four bytes. -/
def sum4 : List Nat → Nat
  | a :: b :: c :: d :: r => V8 [a, b, c, d] + sum4 r
  | _ => 0
theorem sum4_cons (a b c d : Nat) (r : List Nat) : sum4 (a :: b :: c :: d :: r) = V8 [a, b, c, d] + sum4 r := rfl
/-- A list of a multiple of four goes by fours. -/
theorem four_ind {p : List Nat → Prop} (h0 : p []) (h4 : ∀ a b c d r, p r → p (a :: b :: c :: d :: r)) : ∀ (n : Nat) (xs : List Nat), xs.length = 4 * n → p xs := by
  intro n
  induction n with
  | zero => intro xs h; rw [List.length_eq_zero_iff.1 h]; exact h0
  | succ n ih =>
    intro xs h
    match xs, h with
    | a :: b :: c :: d :: r, h => exact h4 a b c d r (ih r (by simp at h; omega))
theorem len4 {xs : List Nat} (h : xs.length % 4 = 0) : xs.length = 4 * (xs.length / 4) := by omega
theorem sum4_append {xs : List Nat} (h : xs.length % 4 = 0) (ys : List Nat) : sum4 (xs ++ ys) = sum4 xs + sum4 ys := by
  refine four_ind (p := fun xs => sum4 (xs ++ ys) = sum4 xs + sum4 ys) (by simp [sum4]) ?_ _ xs (len4 h)
  intro a b c d r ih
  simp only [List.cons_append, sum4_cons]
  rw [ih]
  omega
/-- The check sum. -/
def sm (bs : List Nat) : Nat := sum4 (fil bs) % 4294967296
theorem sm_lt (bs : List Nat) : sm bs < 4294967296 := Nat.mod_lt _ (by decide)
theorem fil_append {xs : List Nat} (h : xs.length % 4 = 0) (ys : List Nat) : fil (xs ++ ys) = xs ++ fil ys := by
  unfold fil
  have e : padN (xs ++ ys).length 4 = padN ys.length 4 := by
    rw [List.length_append]
    unfold padN
    omega
  rw [e, List.append_assoc]
theorem sm_append {xs : List Nat} (h : xs.length % 4 = 0) (ys : List Nat) : sm (xs ++ ys) = (sm xs + sm ys) % 4294967296 := by
  unfold sm
  rw [fil_append h, sum4_append h, fil_same h]
  omega
theorem sm_zeros (bs : List Nat) : sm (bs ++ [0, 0, 0, 0]) = sm bs := by
  unfold sm
  have e : fil (bs ++ [0, 0, 0, 0]) = fil bs ++ [0, 0, 0, 0] := by
    unfold fil
    have e1 : padN (bs ++ [0, 0, 0, 0]).length 4 = padN bs.length 4 := by
      simp only [List.length_append, List.length_cons, List.length_nil]
      unfold padN
      omega
    rw [e1, List.append_assoc, List.append_assoc, show ([0, 0, 0, 0] : List Nat) = List.replicate 4 0 from rfl, List.replicate_append_replicate, List.replicate_append_replicate, Nat.add_comm]
  rw [e, sum4_append (fil_mod bs)]
  rfl

/-- One byte that is turned turns the sum. -/
theorem sum4_set : ∀ (n : Nat) (xs : List Nat) (j z : Nat), xs.length = 4 * n → Byt xs → z < 256 → j < xs.length → z ≠ xs.getD j 0 → sum4 (xs.set j z) % 4294967296 ≠ sum4 xs % 4294967296 := by
  intro n
  induction n with
  | zero => intro xs j z h _ _ hj; omega
  | succ n ih =>
    intro xs j z h hb hz hj hne
    match xs, h with
    | a :: b :: c :: d :: r, h =>
      have ha := hb a (by simp)
      have hb' := hb b (by simp)
      have hc := hb c (by simp)
      have hd := hb d (by simp)
      have hr : Byt r := fun x hx => hb x (by simp [hx])
      match j, hj, hne with
      | 0, _, hne =>
        simp at hne
        simp only [List.set_cons_zero, sum4_cons, V8, List.foldl_cons, List.foldl_nil]
        omega
      | 1, _, hne =>
        simp at hne
        simp only [List.set_cons_succ, List.set_cons_zero, sum4_cons, V8, List.foldl_cons, List.foldl_nil]
        omega
      | 2, _, hne =>
        simp at hne
        simp only [List.set_cons_succ, List.set_cons_zero, sum4_cons, V8, List.foldl_cons, List.foldl_nil]
        omega
      | 3, _, hne =>
        simp at hne
        simp only [List.set_cons_succ, List.set_cons_zero, sum4_cons, V8, List.foldl_cons, List.foldl_nil]
        omega
      | j + 4, hj, hne =>
        have := ih r j z (by simp at h; omega) hr hz (by simp at hj; omega) (by simpa [List.getD] using hne)
        simp only [List.set_cons_succ, sum4_cons]
        omega

end Go.Proofs.Ytaejlopkdkaphaa

namespace Go.Proofs.Ytaejlopkdkaphaa
set_option linter.unusedSimpArgs false
set_option linter.unusedVariables false

/-- A table: a tag and bytes. -/
structure Tb where
  tx : ByteArray
  bs : List Nat
def Tb.none : Tb := ⟨⟨#[]⟩, []⟩

/-- One tag ahead of another. -/
def tlt (a b : ByteArray) : Prop := a.toList < b.toList
theorem tlt_irrefl (a : ByteArray) : ¬ tlt a a := List.lt_irrefl _
theorem tlt_trans {a b c : ByteArray} (h : tlt a b) (h' : tlt b c) : tlt a c := List.lt_trans h h'
theorem toList_inj {a b : ByteArray} (h : a.toList = b.toList) : a = b := by
  rw [ByteArray.toList_eq, ByteArray.toList_eq] at h
  cases a; cases b
  simp only at h
  rw [Array.toList_inj.1 h]
theorem tlt_total {a b : ByteArray} (h : a ≠ b) : tlt a b ∨ tlt b a := by
  rcases List.le_total a.toList b.toList with h1 | h1
  · by_cases h2 : a.toList < b.toList
    · exact .inl h2
    · exact absurd (toList_inj (List.le_antisymm h1 (List.not_lt.1 h2))) h
  · by_cases h2 : b.toList < a.toList
    · exact .inr h2
    · exact absurd (toList_inj (List.le_antisymm (List.not_lt.1 h2) h1)) h

/-- Rising by tags. -/
def Ris (l : List Tb) : Prop := l.Pairwise (fun s t => tlt s.tx t.tx)
/-- No two tags alike. -/
def Dis (l : List Tb) : Prop := l.Pairwise (fun s t => s.tx ≠ t.tx)
theorem Ris.dis {l : List Tb} (h : Ris l) : Dis l := by
  refine List.Pairwise.imp ?_ h
  intro a b hab e
  rw [e] at hab
  exact tlt_irrefl b.tx hab
theorem Dis.perm {l m : List Tb} (h : Dis l) (hp : l.Perm m) : Dis m := by
  refine (List.Perm.pairwise_iff (R := fun s t : Tb => s.tx ≠ t.tx) ?_ hp).1 h
  intro a b hab
  exact Ne.symm hab

/-- Two rising lists of the same tables are one. -/
theorem Ris.uniq : ∀ {l m : List Tb}, Ris l → Ris m → l.Perm m → l = m := by
  intro l
  induction l with
  | nil => intro m _ _ hp; exact (List.Perm.nil_eq hp)
  | cons a l ih =>
    intro m hl hm hp
    cases m with
    | nil => exact absurd hp.length_eq (by simp)
    | cons b m =>
      have hl' := List.pairwise_cons.1 hl
      have hm' := List.pairwise_cons.1 hm
      have e : a = b := by
        have ha : a ∈ b :: m := hp.subset (by simp)
        have hb : b ∈ a :: l := hp.symm.subset (by simp)
        rcases List.mem_cons.1 ha with h1 | h1
        · exact h1
        · rcases List.mem_cons.1 hb with h2 | h2
          · exact h2.symm
          · exact absurd (tlt_trans (hl'.1 b h2) (hm'.1 a h1)) (tlt_irrefl _)
      subst e
      rw [ih hl'.2 hm'.2 (List.Perm.cons_inv hp)]

/-- Tables by their tags. -/
def ins (t : Tb) : List Tb → List Tb
  | [] => [t]
  | s :: l => if decide (t.tx.toList < s.tx.toList) = true then t :: s :: l else s :: ins t l
def srt : List Tb → List Tb
  | [] => []
  | t :: l => ins t (srt l)
theorem ins_perm (t : Tb) (l : List Tb) : (ins t l).Perm (t :: l) := by
  induction l with
  | nil => exact List.Perm.refl _
  | cons s l ih =>
    unfold ins
    split
    · exact List.Perm.refl _
    · exact (List.Perm.cons s ih).trans (List.Perm.swap t s l)
theorem srt_perm (l : List Tb) : (srt l).Perm l := by
  induction l with
  | nil => exact List.Perm.refl _
  | cons t l ih => exact (ins_perm t (srt l)).trans (List.Perm.cons t ih)
theorem ins_ris (t : Tb) (l : List Tb) (h : Ris l) (hd : ∀ s ∈ l, t.tx ≠ s.tx) : Ris (ins t l) := by
  induction l with
  | nil => exact List.pairwise_singleton _ _
  | cons s l ih =>
    have h' := List.pairwise_cons.1 h
    unfold ins
    split
    · rename_i hts
      have hts : tlt t.tx s.tx := by show t.tx.toList < s.tx.toList; exact of_decide_eq_true hts
      refine List.pairwise_cons.2 ⟨fun u hu => ?_, h⟩
      rcases List.mem_cons.1 hu with rfl | hu
      · exact hts
      · exact tlt_trans hts (h'.1 u hu)
    · rename_i hts
      have hts : ¬ tlt t.tx s.tx := fun h => hts (by have h' : t.tx.toList < s.tx.toList := h; exact decide_eq_true h')
      have hst : tlt s.tx t.tx := by
        rcases tlt_total (hd s (by simp)) with h1 | h1
        · exact absurd h1 hts
        · exact h1
      refine List.pairwise_cons.2 ⟨fun u hu => ?_, ih h'.2 (fun u hu => hd u (by simp [hu]))⟩
      rcases List.mem_cons.1 ((ins_perm t l).subset hu) with rfl | hu
      · exact hst
      · exact h'.1 u hu
theorem srt_ris {l : List Tb} (h : Dis l) : Ris (srt l) := by
  induction l with
  | nil => exact List.Pairwise.nil
  | cons t l ih =>
    have h' := List.pairwise_cons.1 h
    exact ins_ris t (srt l) (ih h'.2) (fun s hs => h'.1 s ((srt_perm l).subset hs))
theorem srt_len (l : List Tb) : (srt l).length = l.length := (srt_perm l).length_eq
theorem srt_of_ris {l : List Tb} (h : Ris l) : srt l = l := (srt_ris h.dis).uniq h (srt_perm l)
theorem srt_of_perm {l m : List Tb} (h : Dis l) (hm : Ris m) (hp : m.Perm l) : m = srt l := hm.uniq (srt_ris h) (hp.trans (srt_perm l).symm)

/-- A formed list. -/
def Frm (l : List Tb) : Prop := 1 ≤ l.length ∧ l.length ≤ 32 ∧ (∀ t ∈ l, gd (sb t.tx) = true ∧ t.bs.length ≤ 1048576) ∧ Dis l
theorem Frm.perm {l m : List Tb} (h : Frm l) (hp : l.Perm m) : Frm m := by
  obtain ⟨h1, h2, h3, h4⟩ := h
  have := hp.length_eq
  exact ⟨by omega, by omega, fun t ht => h3 t (hp.symm.subset ht), h4.perm hp⟩
theorem Frm.srt {l : List Tb} (h : Frm l) : Frm (srt l) := h.perm (srt_perm l).symm
theorem gd_len {xs : List Nat} (h : gd xs = true) : xs.length = 4 := by simp [gd] at h; exact h.1
theorem Frm.tag {l : List Tb} (h : Frm l) {t : Tb} (ht : t ∈ l) : (sb t.tx).length = 4 := gd_len (h.2.2.1 t ht).1

/-- The greatest power of two that is at most n, and its logarithm, for n from 1 to 32. -/
def pw (n : Nat) : Nat := if n < 2 then 1 else if n < 4 then 2 else if n < 8 then 4 else if n < 16 then 8 else if n < 32 then 16 else 32
def lg (n : Nat) : Nat := if n < 2 then 0 else if n < 4 then 1 else if n < 8 then 2 else if n < 16 then 3 else if n < 32 then 4 else 5
/-- The file's head. -/
def hdr (n : Nat) : List Nat := be4 65536 ++ (be2 n ++ (be2 ((16 * pw n : Nat) : Int) ++ (be2 ((lg n : Nat) : Int) ++ be2 ((16 * n - 16 * pw n : Nat) : Int))))
theorem hdr_len (n : Nat) : (hdr n).length = 12 := rfl
/-- One row of the directory. -/
def dirE (t : Tb) (at_ : Nat) : List Nat := sb t.tx ++ (be4 (sm t.bs : Nat) ++ (be4 (at_ : Nat) ++ be4 (t.bs.length : Nat)))
def dirs : List Tb → Nat → List Nat
  | [], _ => []
  | t :: l, a => dirE t a ++ dirs l (a + (fil t.bs).length)
def bods : List Tb → List Nat
  | [] => []
  | t :: l => fil t.bs ++ bods l
/-- The file of a list that rises. -/
def fileR (l : List Tb) : List Nat := hdr l.length ++ (dirs l (12 + 16 * l.length) ++ bods l)
def fileS (l : List Tb) : List Nat := fileR (srt l)
theorem dirE_len {t : Tb} (h : (sb t.tx).length = 4) (a : Nat) : (dirE t a).length = 16 := by simp [dirE, be4, h]
theorem dirs_len : ∀ {l : List Tb} (a : Nat), (∀ t ∈ l, (sb t.tx).length = 4) → (dirs l a).length = 16 * l.length := by
  intro l
  induction l with
  | nil => intro a _; rfl
  | cons t l ih =>
    intro a h
    rw [dirs, List.length_append, dirE_len (h t (by simp)), ih _ (fun s hs => h s (by simp [hs])), List.length_cons]
    omega
theorem dirs_append : ∀ (l m : List Tb) (a : Nat), dirs (l ++ m) a = dirs l a ++ dirs m (a + (bods l).length) := by
  intro l
  induction l with
  | nil => intro m a; simp [dirs, bods]
  | cons t l ih => intro m a; rw [List.cons_append, dirs, dirs, ih, bods, List.length_append, List.append_assoc, Nat.add_assoc]
theorem bods_append (l m : List Tb) : bods (l ++ m) = bods l ++ bods m := by
  induction l with
  | nil => rfl
  | cons t l ih => rw [List.cons_append, bods, bods, ih, List.append_assoc]
theorem bods_mod (l : List Tb) : (bods l).length % 4 = 0 := by
  induction l with
  | nil => rfl
  | cons t l ih => rw [bods, List.length_append]; have := fil_mod t.bs; omega
theorem fileR_len {l : List Tb} (h : ∀ t ∈ l, (sb t.tx).length = 4) : (fileR l).length = 12 + 16 * l.length + (bods l).length := by
  rw [fileR, List.length_append, List.length_append, hdr_len, dirs_len _ h]; omega
theorem fileR_mod {l : List Tb} (h : ∀ t ∈ l, (sb t.tx).length = 4) : (fileR l).length % 4 = 0 := by
  rw [fileR_len h]; have := bods_mod l; omega
theorem byt_dirE (t : Tb) (a : Nat) : Byt (dirE t a) := (byt_sb _).append ((byt_be4 _).append ((byt_be4 _).append (byt_be4 _)))
theorem byt_dirs : ∀ (l : List Tb) (a : Nat), Byt (dirs l a) := by
  intro l
  induction l with
  | nil => intro a; exact Byt.nil
  | cons t l ih => intro a; exact (byt_dirE t a).append (ih _)
theorem byt_bods : ∀ {l : List Tb}, (∀ t ∈ l, Byt t.bs) → Byt (bods l) := by
  intro l
  induction l with
  | nil => intro _; exact Byt.nil
  | cons t l ih => intro h; exact (byt_fil (h t (by simp))).append (ih (fun s hs => h s (by simp [hs])))
theorem byt_hdr (n : Nat) : Byt (hdr n) := (byt_be4 _).append ((byt_be2 _).append ((byt_be2 _).append ((byt_be2 _).append (byt_be2 _))))
theorem byt_fileR {l : List Tb} (h : ∀ t ∈ l, Byt t.bs) : Byt (fileR l) := (byt_hdr _).append ((byt_dirs _ _).append (byt_bods h))

end Go.Proofs.Ytaejlopkdkaphaa

namespace Go.Proofs.Ytaejlopkdkaphaa
set_option linter.unusedSimpArgs false
set_option linter.unusedVariables false

/-- What lies behind a head. -/
theorem part_at {b A X Z : List Nat} {q n : Nat} (hb : b = A ++ (X ++ Z)) (hq : A.length = q) (hn : X.length = n) : (b.drop q).take n = X := by
  subst hb
  subst hq
  subst hn
  rw [List.drop_left, List.take_left]
theorem inB_at {b A X Z : List Nat} {q n : Nat} (hb : b = A ++ (X ++ Z)) (hq : A.length = q) (hn : X.length = n) : inB b.length (q : Int) (n : Int) = true := by
  have : b.length = q + n + Z.length := by rw [hb]; simp [hq, hn]; omega
  simp [inB]
  omega
theorem nmV_at {b A X Z : List Nat} {q n : Nat} (hb : b = A ++ (X ++ Z)) (hq : A.length = q) (hn : X.length = n) : nmV b (q : Int) n = V8 X := by
  rw [nmV, inB_at hb hq hn, if_pos rfl, Int.toNat_natCast, part_at hb hq hn]
theorem cutV_at {b A X Z : List Nat} {q n : Nat} (hb : b = A ++ (X ++ Z)) (hq : A.length = q) (hn : X.length = n) : cutV b (q : Int) (n : Int) = X := by
  rw [cutV_yes (inB_at hb hq hn), Int.toNat_natCast, Int.toNat_natCast, part_at hb hq hn]
theorem V8_be4 {n : Nat} (h : n < 4294967296) : V8 (be4 (n : Int)) = n := by
  simp only [be4, V8, List.foldl_cons, List.foldl_nil]
  omega
theorem V8_be2 {n : Nat} (h : n < 65536) : V8 (be2 (n : Int)) = n := by
  simp only [be2, V8, List.foldl_cons, List.foldl_nil]
  omega

/-- The tables that a directory tells, n of them. -/
def tabAt (b : List Nat) (i : Nat) : Tb := ⟨tgV b ((12 + 16 * i : Nat) : Int), cutV b ((nmV b ((20 + 16 * i : Nat) : Int) 4 : Nat) : Int) ((nmV b ((24 + 16 * i : Nat) : Int) 4 : Nat) : Int)⟩
def cntB (b : List Nat) : Nat := min (nmV b 4 2) 33
def dirB (b : List Nat) : List Tb := (List.range (cntB b)).map (tabAt b)

/-- A file's parts around one table. -/
theorem file_split (l1 : List Tb) (t : Tb) (l2 : List Tb) (h : ∀ s ∈ l1 ++ t :: l2, (sb s.tx).length = 4) :
    ∃ D E : List Nat, fileR (l1 ++ t :: l2) = hdr (l1 ++ t :: l2).length ++ (D ++ (dirE t (12 + 16 * (l1 ++ t :: l2).length + (bods l1).length) ++ (E ++ (bods l1 ++ (fil t.bs ++ bods l2))))) ∧ D.length = 16 * l1.length ∧ E.length = 16 * l2.length := by
  refine ⟨dirs l1 (12 + 16 * (l1 ++ t :: l2).length), dirs l2 (12 + 16 * (l1 ++ t :: l2).length + (bods l1).length + (fil t.bs).length), ?_, dirs_len _ (fun s hs => h s (by simp [hs])), dirs_len _ (fun s hs => h s (by simp [hs]))⟩
  rw [fileR, dirs_append, bods_append, dirs, bods]
  simp only [List.append_assoc]

theorem tab_file (l1 : List Tb) (t : Tb) (l2 : List Tb) (h : ∀ s ∈ l1 ++ t :: l2, gd (sb s.tx) = true) (hl : (fileR (l1 ++ t :: l2)).length < 4294967296) :
    tabAt (fileR (l1 ++ t :: l2)) l1.length = t := by
  have h4 : ∀ s ∈ l1 ++ t :: l2, (sb s.tx).length = 4 := fun s hs => gd_len (h s hs)
  obtain ⟨D, E, hf, hD, hE⟩ := file_split l1 t l2 h4
  have hlen := fileR_len h4
  have hbl : (bods (l1 ++ t :: l2)).length = (bods l1).length + (t.bs.length + padN t.bs.length 4 + (bods l2).length) := by rw [bods_append, bods]; simp only [List.length_append, fil_len]
  rw [hbl] at hlen
  generalize fileR (l1 ++ t :: l2) = b at *
  have hn : (l1 ++ t :: l2).length = l1.length + 1 + l2.length := by simp; omega
  generalize (l1 ++ t :: l2).length = n at *
  have htag : gd (sb t.tx) = true := h t (by simp)
  have ht4 := gd_len htag
  have hat : 12 + 16 * n + (bods l1).length < 4294967296 := by omega
  have hsz : t.bs.length < 4294967296 := by omega
  -- the tag
  have e0 : cutV b ((12 + 16 * l1.length : Nat) : Int) ((4 : Nat) : Int) = sb t.tx := cutV_at (A := hdr n ++ D) (X := sb t.tx) (Z := be4 (sm t.bs : Nat) ++ (be4 ((12 + 16 * n + (bods l1).length : Nat) : Int) ++ be4 (t.bs.length : Nat)) ++ (E ++ (bods l1 ++ (fil t.bs ++ bods l2)))) (by rw [hf, dirE]; simp only [List.append_assoc]) (by simp [hdr_len, hD]) ht4
  have i0 : inB b.length ((12 + 16 * l1.length : Nat) : Int) ((4 : Nat) : Int) = true := inB_at (A := hdr n ++ D) (X := sb t.tx) (Z := be4 (sm t.bs : Nat) ++ (be4 ((12 + 16 * n + (bods l1).length : Nat) : Int) ++ be4 (t.bs.length : Nat)) ++ (E ++ (bods l1 ++ (fil t.bs ++ bods l2)))) (by rw [hf, dirE]; simp only [List.append_assoc]) (by simp [hdr_len, hD]) ht4
  have g0 : tgB b ((12 + 16 * l1.length : Nat) : Int) = true := by
    rw [tgB]
    have e0' : cutV b ((12 + 16 * l1.length : Nat) : Int) 4 = sb t.tx := e0
    have i0' : inB b.length ((12 + 16 * l1.length : Nat) : Int) 4 = true := i0
    rw [e0', i0', htag]
    rfl
  have v0 : tgV b ((12 + 16 * l1.length : Nat) : Int) = t.tx := by
    rw [tgV, g0, if_pos rfl]
    have e0' : cutV b ((12 + 16 * l1.length : Nat) : Int) 4 = sb t.tx := e0
    rw [e0', str8_sb]
  -- where, and how many
  have e1 : nmV b ((20 + 16 * l1.length : Nat) : Int) 4 = 12 + 16 * n + (bods l1).length := by
    rw [nmV_at (b := b) (q := 20 + 16 * l1.length) (n := 4) (A := hdr n ++ D ++ sb t.tx ++ be4 (sm t.bs : Nat)) (X := be4 ((12 + 16 * n + (bods l1).length : Nat) : Int)) (Z := be4 (t.bs.length : Nat) ++ (E ++ (bods l1 ++ (fil t.bs ++ bods l2)))) (by rw [hf, dirE]; simp only [List.append_assoc]) (by simp [hdr_len, hD, ht4, be4]; omega) rfl]
    exact V8_be4 hat
  have e2 : nmV b ((24 + 16 * l1.length : Nat) : Int) 4 = t.bs.length := by
    rw [nmV_at (b := b) (q := 24 + 16 * l1.length) (n := 4) (A := hdr n ++ D ++ sb t.tx ++ be4 (sm t.bs : Nat) ++ be4 ((12 + 16 * n + (bods l1).length : Nat) : Int)) (X := be4 (t.bs.length : Nat)) (Z := E ++ (bods l1 ++ (fil t.bs ++ bods l2))) (by rw [hf, dirE]; simp only [List.append_assoc]) (by simp [hdr_len, hD, ht4, be4]; omega) rfl]
    exact V8_be4 hsz
  have e3 : cutV b ((12 + 16 * n + (bods l1).length : Nat) : Int) ((t.bs.length : Nat) : Int) = t.bs :=
    cutV_at (A := hdr n ++ D ++ dirE t (12 + 16 * n + (bods l1).length) ++ E ++ bods l1) (X := t.bs) (Z := List.replicate (padN t.bs.length 4) 0 ++ bods l2) (by rw [hf]; simp only [fil, List.append_assoc]) (by simp [hdr_len, hD, hE, dirE_len ht4]; omega) rfl
  rw [tabAt, v0, e1, e2, e3]

theorem cnt_file {l : List Tb} (h : l.length ≤ 32) : cntB (fileR l) = l.length := by
  have e : nmV (fileR l) ((4 : Nat) : Int) 2 = l.length := by
    rw [nmV_at (b := fileR l) (q := 4) (n := 2) (A := be4 65536) (X := be2 l.length) (Z := (be2 ((16 * pw l.length : Nat) : Int) ++ (be2 ((lg l.length : Nat) : Int) ++ be2 ((16 * l.length - 16 * pw l.length : Nat) : Int))) ++ (dirs l (12 + 16 * l.length) ++ bods l)) (by rw [fileR, hdr]; simp only [List.append_assoc]) rfl rfl]
    exact V8_be2 (by omega)
  have e' : nmV (fileR l) 4 2 = l.length := e
  rw [cntB, e']
  omega
/-- What is read of a file is what it was made of. -/
theorem dir_file {l : List Tb} (h : Frm l) (hl : (fileR l).length < 4294967296) : dirB (fileR l) = l := by
  rw [dirB, cnt_file h.2.1]
  apply List.ext_getElem
  · simp
  · intro i h1 h2
    simp only [List.getElem_map, List.getElem_range]
    have e : l = l.take i ++ l[i] :: l.drop (i + 1) := by simp
    have hi : (l.take i).length = i := by simp; omega
    have := tab_file (l.take i) l[i] (l.drop (i + 1)) (by rw [← e]; exact fun s hs => (h.2.2.1 s hs).1) (by rw [← e]; exact hl)
    rw [hi, ← e] at this
    exact this

/-- Bytes are the file of the tables that their directory tells. -/
def Fil (b : List Nat) : Prop := Frm (dirB b) ∧ fileS (dirB b) = b
/-- What is packed is read as it was, rising. -/
theorem fil_of {l : List Tb} (h : Frm l) (hl : (fileS l).length < 4294967296) : dirB (fileS l) = srt l ∧ Fil (fileS l) := by
  have hs := h.srt
  have e := dir_file hs hl
  refine ⟨e, ?_⟩
  show Frm (dirB (fileS l)) ∧ fileS (dirB (fileS l)) = fileS l
  have e' : dirB (fileS l) = srt l := e
  rw [e']
  refine ⟨hs, ?_⟩
  rw [fileS, fileS, srt_of_ris (srt_ris h.2.2.2)]
theorem Fil.ris {b : List Nat} (h : Fil b) (hl : b.length < 4294967296) : Ris (dirB b) := by
  have e := (fil_of h.1 (by rw [h.2]; exact hl)).1
  rw [h.2] at e
  rw [e]
  exact srt_ris h.1.2.2.2
theorem Fil.mod {b : List Nat} (h : Fil b) : b.length % 4 = 0 := by
  rw [← h.2, fileS]
  exact fileR_mod (fun t ht => h.1.srt.tag ht)

/-- Two files with one directory, but for one byte behind it: there are none. -/
theorem bods_turned : ∀ (l m : List Tb) (j z : Nat), l.length = m.length → (∀ i, (l.getD i Tb.none).bs.length = (m.getD i Tb.none).bs.length) → (∀ i, sm (l.getD i Tb.none).bs = sm (m.getD i Tb.none).bs) →
    (∀ t ∈ l, Byt t.bs) → z < 256 → j < (bods l).length → z ≠ (bods l).getD j 0 → bods m = (bods l).set j z → False := by
  intro l
  induction l with
  | nil => intro m j z _ _ _ _ _ hj; simp [bods] at hj
  | cons t l ih =>
    intro m j z hlen hb hs hbyt hz hj hne he
    cases m with
    | nil => simp at hlen
    | cons u m =>
      have hb0 : t.bs.length = u.bs.length := hb 0
      have hs0 : sm t.bs = sm u.bs := hs 0
      have hbl : ∀ i, (l.getD i Tb.none).bs.length = (m.getD i Tb.none).bs.length := fun i => by have := hb (i + 1); simpa using this
      have hsl : ∀ i, sm (l.getD i Tb.none).bs = sm (m.getD i Tb.none).bs := fun i => by have := hs (i + 1); simpa using this
      have hfl : (fil t.bs).length = (fil u.bs).length := by rw [fil_len, fil_len, hb0]
      rw [bods, bods] at he
      rw [bods] at hj hne
      by_cases hjt : j < (fil t.bs).length
      · rw [List.set_append_left _ _ hjt] at he
        have e1 := (List.append_inj he (by simp [hfl])).1
        have h1 := sum4_set ((fil t.bs).length / 4) (fil t.bs) j z (len4 (fil_mod _)) (byt_fil (hbyt t (by simp))) hz hjt (by
          intro e
          apply hne
          rw [e]
          simp [List.getD, List.getElem?_append_left hjt])
        rw [← e1] at h1
        exact h1 hs0.symm
      · have hjt : (fil t.bs).length ≤ j := by omega
        rw [List.set_append_right _ _ hjt] at he
        have e1 := (List.append_inj he hfl.symm).2
        refine ih m (j - (fil t.bs).length) z (by simpa using hlen) hbl hsl (fun s hs => hbyt s (by simp [hs])) hz (by rw [List.length_append] at hj; omega) ?_ e1
        intro e
        apply hne
        rw [e]
        simp [List.getD, List.getElem?_append_right hjt]

end Go.Proofs.Ytaejlopkdkaphaa
