/-
  octets.Page: All, Pad, Later: the walks.
  octets.Page: Pad, Later: the walks.
  Axes, as the document has them: whether they are formed, where a tag stands, places clamped, their bytes (plain mathematics).
  Files of tables, as the document has them: filled bytes, check sums (plain mathematics).
  Files of tables, as the document has them: tables, their order, the file (plain mathematics).
-/
import Derived.Test.YtanppgmhlcifiaaGreatDoorZ2
namespace Go.Proofs.YtanppgmhlcifiaaGreatDoor
open Go.RowKit Go.Maps
set_option linter.unusedSimpArgs false
set_option linter.unusedVariables false

/-- What All answers: the error, and the bytes. -/
def allE (s : St) : Int := if s.no then 4 else if s.ws = [] then 0 else 1
def allB (s : St) : List Nat := if s.no then [] else if s.ws = [] then s.bs else []

theorem Row.rb {w : World} {G : Nat → Prop} {a : Option Addr} {c : Nat} {xs : List Nat} (h : Row w G (.slice a xs.length c) xs) (hB : Byt xs) : Rb w a c xs := Rw.rd (e := 5) (base := 0) ⟨hB, h.1⟩

set_option maxHeartbeats 1000000 in
set_option maxRecDepth 100000 in
theorem all_any (B : Nat) (G : Nat → Prop) (s : St) (w : World) (h : Pc w B G s) (hl : s.bs.length ≤ 1048576) :
    Calls Tryz.prog 42 #[pg B] w fun e w' => ∃ a' cap', e = .returned (.tuple #[.slice a' (allB s).length cap', .int .i64 (allE s)]) ∧ Rw 5 w.heap.size w' a' cap' (allB s) ∧ Below w.heap.size w w' := by
  obtain ⟨h1, h2, h3, vb, vm, h4, h6, h5⟩ := h
  obtain ⟨c0, c1, c2, c3, f0, f1, f2, f3⟩ := h4.cells
  by_cases hno : s.no = true
  · have HE : Hid (allE s = 4) := by show allE s = 4; simp [allE, hno]
    have HB : Hid (allB s = []) := by show allB s = []; simp [allB, hno]
    rw [hno] at c3
    clear h1 h2 h3 h4 h5 h6 hno
    go_enter Tryz.func42, Tryz.ntmps42
    go_wp2
    go_ret2
    refine ⟨none, 0, rt_two (by rw [HB.out]; rfl) (by rw [HE.out]; rfl), ?_, Below.refl _ _⟩
    rw [HB.out]
    exact Rw.nil _ _
  · have hno : s.no = false := by simpa using hno
    obtain ⟨hR, hM⟩ := h5 hno
    rw [hno] at c3
    by_cases hws : s.ws = []
    · have HE : Hid (allE s = 0) := by show allE s = 0; simp [allE, hno, hws]
      have HB : Hid (allB s = s.bs) := by show allB s = s.bs; simp [allB, hno, hws]
      obtain ⟨a, c, rfl⟩ := hR.slice
      have hrb := hR.rb h3.1
      have fin : ∀ (W : World), W = w → Calls Tryz.prog 79 #[.slice a s.bs.length c] W fun e w' => ∃ a' cap', e = .returned (.slice a' s.bs.length cap') ∧ Rw 5 w.heap.size w' a' cap' s.bs ∧ Below w.heap.size w w' := by
        rintro W rfl
        exact clone_any a c s.bs _ hrb (by omega)
      obtain ⟨l, hll⟩ : ∃ l, s.bs.length = l := ⟨_, rfl⟩
      rw [hll] at c0 c1 hl fin
      have HL : Hid (s.bs.length = l) := hll
      clear hll
      rcases hM with ⟨rfl, _⟩ | ⟨m, D, rfl, hmG, hown, hhas, hsize⟩
      · clear h1 h2 h3 h4 h5 h6 hno hws hR hrb
        have hlen := fun (w : World) ty => Maps.len_nil (w := w) Tryz.underlying67 ty
        go_enter Tryz.func42, Tryz.ntmps42
        go_wp2_with fail
        refine (fin _ rfl).mono ?_
        rintro e u ⟨a', cap', rfl, hR, hb⟩
        go_wp2
        go_ret2
        refine ⟨a', cap', rt_two (by rw [HB.out, HL.out]; rfl) (by rw [HE.out]; rfl), ?_, hb⟩
        rw [HB.out]
        exact hR
      · rw [hws] at hsize
        have hs0 : Maps.size D = 0 := by simpa using hsize
        have hown' := hown
        clear h1 h2 h3 h4 h5 h6 hno hR hrb hhas hsize
        go_enter Tryz.func42, Tryz.ntmps42
        go_wp2_with (first | (at_len; refine wpList_len_own _ rfl _ 67 rfl 3 185 Tryz.underlying67 _ m _ D rfl hown ?_; rw [hs0]) | fail)
        refine (fin _ rfl).mono ?_
        rintro e u ⟨a', cap', rfl, hR, hb⟩
        go_wp2
        go_ret2
        refine ⟨a', cap', rt_two (by rw [HB.out, HL.out]; rfl) (by rw [HE.out]; rfl), ?_, hb⟩
        rw [HB.out]
        exact hR
    · have HE : Hid (allE s = 1) := by show allE s = 1; simp [allE, hno, hws]
      have HB : Hid (allB s = []) := by show allB s = []; simp [allB, hno, hws]
      rcases hM with ⟨rfl, h0⟩ | ⟨m, D, rfl, hmG, hown, hhas, hsize⟩
      · exact absurd h0 hws
      · obtain ⟨z, hz⟩ : ∃ z, Maps.size D = z := ⟨_, rfl⟩
        have hz1 : 0 < (z : Int) := by
          have := List.length_pos_iff.2 hws
          omega
        clear h1 h2 h3 h4 h5 h6 hno hR hhas hsize hws
        go_enter Tryz.func42, Tryz.ntmps42
        go_wp2_with (first | (at_len; refine wpList_len_own _ rfl _ 67 rfl 3 185 Tryz.underlying67 _ m _ D rfl hown ?_; rw [hz]) | go_in)
        go_ret2
        refine ⟨none, 0, rt_two (by rw [HB.out]; rfl) (by rw [HE.out]; rfl), ?_, Below.refl _ _⟩
        rw [HB.out]
        exact Rw.nil _ _

theorem all_nil (w : World) :
    Calls Tryz.prog 42 #[.pointer none] w fun e w' => e = .returned (.tuple #[.slice none 0 0, .int .i64 4]) ∧ w = w' := by
  go_enter Tryz.func42, Tryz.ntmps42
  go_wp2
  go_ret2
  exact ⟨rfl, rfl⟩

end Go.Proofs.YtanppgmhlcifiaaGreatDoor

namespace Go.Proofs.YtanppgmhlcifiaaGreatDoor
open Go.RowKit Go.Maps
set_option linter.unusedSimpArgs false
set_option linter.unusedVariables false

/-- How many bytes of 0 are put. -/
def padN (l n : Nat) : Nat := (n - l % n) % n
def St.pad (s : St) (n : Int) : St := if 1 ≤ n ∧ n ≤ 16 then s.app (List.replicate (padN s.bs.length n.toNat) 0) else s.fail

theorem padN_zero {l n : Nat} (hn : 0 < n) (h : l % n = 0) : padN l n = 0 := by unfold padN; rw [h]; simp
theorem padN_succ {l n : Nat} (hn : 0 < n) (h : l % n ≠ 0) : padN l n = padN (l + 1) n + 1 := by
  unfold padN
  have h1 := Nat.mod_lt l hn
  have h3 : 1 < n := by
    rcases Nat.lt_or_ge 1 n with h3 | h3
    · exact h3
    · have : n = 1 := by omega
      subst this
      exact absurd (Nat.mod_one l) h
  have e : (l + 1) % n = (l % n + 1) % n := by rw [Nat.add_mod, Nat.mod_eq_of_lt h3]
  rw [e]
  generalize l % n = r at h h1
  have e1 : (n - r) % n = n - r := Nat.mod_eq_of_lt (by omega)
  rw [e1]
  rcases Nat.lt_or_ge (r + 1) n with h2 | h2
  · have e2 : (r + 1) % n = r + 1 := Nat.mod_eq_of_lt h2
    have e3 : (n - (r + 1)) % n = n - (r + 1) := Nat.mod_eq_of_lt (by omega)
    rw [e2, e3]
    omega
  · have e2 : r + 1 = n := by omega
    rw [e2, Nat.mod_self, Nat.sub_zero, Nat.mod_self]
    omega
theorem padN_lt {l n : Nat} (hn : 0 < n) : padN l n < n := Nat.mod_lt _ hn

theorem St.app_app (s : St) (xs ys : List Nat) : (s.app xs).app ys = s.app (xs ++ ys) := by
  unfold St.app
  by_cases h : s.no = true <;> simp [h]
theorem St.app_nil (s : St) : s.app [] = s := by
  unfold St.app
  split <;> simp
theorem byt_zeros (n : Nat) : Byt (List.replicate n 0) := by intro x hx; have := List.eq_of_mem_replicate hx; omega

/-- The number in a page's second cell. -/
def hereOf (B : Nat) (w : World) : Nat := (intOf ((w.cell? ⟨B, 1, none⟩).getD undef)).toNat
theorem Pc.hereOf {w : World} {B : Nat} {G : Nat → Prop} {s : St} (h : Pc w B G s) : hereOf B w = s.bs.length := by
  obtain ⟨h1, h2, h3, vb, vm, h4, h6, h5⟩ := h
  obtain ⟨c0, c1, _⟩ := h4.cells
  simp [Proofs.YtanppgmhlcifiaaGreatDoor.hereOf, c1, intOf]

end Go.Proofs.YtanppgmhlcifiaaGreatDoor

namespace Go.Proofs.YtanppgmhlcifiaaGreatDoor
set_option linter.unusedSimpArgs false
set_option linter.unusedVariables false

/-- An axis: its tag, its least, usual and most value. -/
structure Ax where
  tx : ByteArray
  lo : Int
  us : Int
  hi : Int
def Ax.none : Ax := ⟨⟨#[]⟩, 0, 0, 0⟩
/-- An axis that a program may hold. -/
def Axw (t : Ax) : Prop := t.tx.size ≤ maxLen ∧ I64 t.lo ∧ I64 t.us ∧ I64 t.hi

def usr (n : Int) : Bool := decide (-2147483648 ≤ n) && decide (n ≤ 2147483647)
theorem usr_iff {n : Int} : usr n = true ↔ -2147483648 ≤ n ∧ n ≤ 2147483647 := by simp [usr]
/-- An axis that is formed, alone. -/
def onA (t : Ax) : Bool := gd (sb t.tx) && (usr t.lo && (usr t.us && (usr t.hi && (decide (t.lo ≤ t.us) && decide (t.us ≤ t.hi)))))
theorem onA_iff {t : Ax} : onA t = true ↔ gd (sb t.tx) = true ∧ (-2147483648 ≤ t.lo ∧ t.lo ≤ t.us ∧ t.us ≤ t.hi ∧ t.hi ≤ 2147483647) := by
  simp only [onA, Bool.and_eq_true, usr_iff, decide_eq_true_iff]
  constructor
  · rintro ⟨h1, h2, h3, h4, h5, h6⟩
    exact ⟨h1, by omega, by omega, by omega, by omega⟩
  · rintro ⟨h1, h2, h3, h4, h5⟩
    exact ⟨h1, ⟨by omega, by omega⟩, ⟨by omega, by omega⟩, ⟨by omega, by omega⟩, by omega, by omega⟩

theorem getA_mem {l : List Ax} {k : Nat} (hk : k < l.length) : l.getD k Ax.none ∈ l := by
  rw [List.getD_eq_getElem?_getD, List.getElem?_eq_getElem hk]
  exact List.getElem_mem hk
theorem getA {l : List Ax} {k : Nat} (hk : k < l.length) : l.getD k Ax.none = l[k] := by simp [List.getD, hk]
theorem takeA_succ {l : List Ax} {k : Nat} (hk : k < l.length) : l.take (k + 1) = l.take k ++ [l.getD k Ax.none] := by rw [List.take_succ_eq_append_getElem hk, getA hk]

/-- Where a tag stands first. -/
def fiA (l : List Ax) (t : ByteArray) : Int := match l.findIdx? (fun x => decide (x.tx = t)) with
  | some i => (i : Int)
  | none => -1
theorem fiA_at {l : List Ax} {t : ByteArray} {k : Nat} (hk : k < l.length) (hno : ∀ j, j < k → (l.getD j Ax.none).tx ≠ t) (h : (l.getD k Ax.none).tx = t) : fiA l t = (k : Int) := by
  have e : l.findIdx? (fun x => decide (x.tx = t)) = some k := by
    rw [List.findIdx?_eq_some_iff_getElem]
    refine ⟨hk, by rw [getA hk] at h; simpa using h, fun j hj => ?_⟩
    have := hno j hj
    rw [getA (by omega)] at this
    simpa using this
  rw [fiA, e]
theorem fiA_no {l : List Ax} {t : ByteArray} (hno : ∀ j, j < l.length → (l.getD j Ax.none).tx ≠ t) : fiA l t = -1 := by
  have e : l.findIdx? (fun x => decide (x.tx = t)) = none := by
    rw [List.findIdx?_eq_none_iff]
    intro x hx
    obtain ⟨j, hj, e⟩ := List.getElem_of_mem hx
    have := hno j hj
    rw [getA hj, e] at this
    simpa using this
  rw [fiA, e]
/-- Of a tag that stands there the first place is at most this one; less, if an earlier one is alike. -/
theorem fiA_self {l : List Ax} {k : Nat} (hk : k < l.length) : ((∀ j, j < k → (l.getD j Ax.none).tx ≠ (l.getD k Ax.none).tx) → fiA l (l.getD k Ax.none).tx = (k : Int)) ∧ (¬ (∀ j, j < k → (l.getD j Ax.none).tx ≠ (l.getD k Ax.none).tx) → 0 ≤ fiA l (l.getD k Ax.none).tx ∧ fiA l (l.getD k Ax.none).tx < (k : Int)) := by
  refine ⟨fun h => fiA_at hk h rfl, fun h => ?_⟩
  generalize (l.getD k Ax.none).tx = t at *
  obtain ⟨i, hi, e⟩ : ∃ i, i < k ∧ (l.getD i Ax.none).tx = t := by
    apply Classical.byContradiction
    intro hc
    exact h (fun j hj e => hc ⟨j, hj, e⟩)
  -- the first such
  have : ∀ n, n ≤ k → (∃ i, i < n ∧ (l.getD i Ax.none).tx = t) → 0 ≤ fiA l t ∧ fiA l t < (n : Int) := by
    intro n
    induction n with
    | zero => rintro _ ⟨i, hi, _⟩; omega
    | succ n ih =>
      rintro hn ⟨i, hi, e⟩
      by_cases hx : ∃ i, i < n ∧ (l.getD i Ax.none).tx = t
      · have := ih (by omega) hx
        omega
      · have hin : i = n := by
          rcases Nat.lt_or_ge i n with h1 | h1
          · exact absurd ⟨i, h1, e⟩ hx
          · omega
        subst hin
        rw [fiA_at (k := i) (by omega) (fun j hj e' => hx ⟨j, hj, e'⟩) e]
        omega
  exact this k (Nat.le_refl _) ⟨i, hi, e⟩

/-- Formed axes. -/
def FrA (l : List Ax) : Prop := l.length ≤ 4 ∧ (∀ t ∈ l, onA t = true) ∧ l.Pairwise (fun s t => s.tx ≠ t.tx)
def frA (l : List Ax) : Bool := decide (l.length ≤ 4) && (l.all onA && decide (l.Pairwise (fun s t => s.tx ≠ t.tx)))
theorem frA_iff {l : List Ax} : frA l = true ↔ FrA l := by
  unfold frA FrA
  simp
theorem frA_no {l : List Ax} (h : ¬ FrA l) : frA l = false := by
  rw [Bool.eq_false_iff]
  exact fun e => h (frA_iff.1 e)
theorem FrA.iff {l : List Ax} : FrA l ↔ l.length ≤ 4 ∧ ∀ j, j < l.length → onA (l.getD j Ax.none) = true ∧ ∀ i, i < j → (l.getD i Ax.none).tx ≠ (l.getD j Ax.none).tx := by
  unfold FrA
  rw [List.pairwise_iff_getElem]
  constructor
  · rintro ⟨h1, h2, h3⟩
    refine ⟨h1, fun j hj => ⟨h2 _ (getA_mem hj), fun i hi => ?_⟩⟩
    have := h3 i j (by omega) hj hi
    rw [getA hj, getA (by omega)]
    exact this
  · rintro ⟨h1, h2⟩
    refine ⟨h1, fun t ht => ?_, fun i j hi hj hij => ?_⟩
    · obtain ⟨i, hi, e⟩ := List.getElem_of_mem ht
      have := (h2 i hi).1
      rw [getA hi, e] at this
      exact this
    · have := (h2 j hj).2 i hij
      rw [getA hj, getA hi] at this
      exact this

/-- A place, clamped. -/
def clA (l : List Ax) (ps : List Int) : List Int := (List.range l.length).map (fun i => if i < ps.length then (let a := l.getD i Ax.none; if a.hi < (if ps.getD i 0 < a.lo then a.lo else ps.getD i 0) then a.hi else (if ps.getD i 0 < a.lo then a.lo else ps.getD i 0)) else (l.getD i Ax.none).us)

/-- The axes' bytes. -/
def axE (t : Ax) : List Nat := sb t.tx ++ (be4 t.lo ++ (be4 t.us ++ be4 t.hi))
def axs : List Ax → List Nat
  | [] => []
  | t :: l => axE t ++ axs l
def axB (l : List Ax) : List Nat := be2 (l.length : Nat) ++ axs l
theorem axE_len {t : Ax} (h : (sb t.tx).length = 4) : (axE t).length = 16 := by simp [axE, be4, h]
theorem axs_append (l m : List Ax) : axs (l ++ m) = axs l ++ axs m := by
  induction l with
  | nil => rfl
  | cons t l ih => rw [List.cons_append, axs, axs, ih, List.append_assoc]
theorem axs_len : ∀ {l : List Ax}, (∀ t ∈ l, (sb t.tx).length = 4) → (axs l).length = 16 * l.length := by
  intro l
  induction l with
  | nil => intro _; rfl
  | cons t l ih =>
    intro h
    rw [axs, List.length_append, axE_len (h t (by simp)), ih (fun s hs => h s (by simp [hs])), List.length_cons]
    omega
theorem axB_len {l : List Ax} (h : ∀ t ∈ l, (sb t.tx).length = 4) : (axB l).length = 2 + 16 * l.length := by rw [axB, List.length_append, axs_len h]; rfl
theorem byt_axE (t : Ax) : Byt (axE t) := (byt_sb _).append ((byt_be4 _).append ((byt_be4 _).append (byt_be4 _)))
theorem byt_axs : ∀ l : List Ax, Byt (axs l) := by
  intro l
  induction l with
  | nil => exact Byt.nil
  | cons t l ih => exact (byt_axE t).append ih
theorem byt_axB (l : List Ax) : Byt (axB l) := (byt_be2 _).append (byt_axs l)
theorem gdA_len {xs : List Nat} (h : gd xs = true) : xs.length = 4 := by simp [gd] at h; exact h.1
theorem FrA.tag {l : List Ax} (h : FrA l) {t : Ax} (ht : t ∈ l) : (sb t.tx).length = 4 := gdA_len (onA_iff.1 (h.2.1 t ht)).1

/-- What is written. -/
def wrE (l : List Ax) : Int := if frA l then 0 else 1
def wrB (l : List Ax) : List Nat := if frA l then axB l else []
/-- What is read. -/
def axAt (b : List Nat) (i : Nat) : Ax := ⟨tgV b ((2 + 16 * i : Nat) : Int), sx32 (nmV b ((6 + 16 * i : Nat) : Int) 4), sx32 (nmV b ((10 + 16 * i : Nat) : Int) 4), sx32 (nmV b ((14 + 16 * i : Nat) : Int) 4)⟩
def axR (b : List Nat) : List Ax := (List.range (nmV b 0 2)).map (axAt b)
def okR (b : List Nat) : Bool := inB b.length 0 2 && (decide (nmV b 0 2 ≤ 4) && decide (b.length = 2 + 16 * nmV b 0 2))
def rdB (b : List Nat) : Bool := okR b && frA (axR b)
def rdE (b : List Nat) : Int := if rdB b then 0 else 2
def rdL (b : List Nat) : List Ax := if rdB b then axR b else []
theorem axR_len (b : List Nat) : (axR b).length = nmV b 0 2 := by simp [axR]

end Go.Proofs.YtanppgmhlcifiaaGreatDoor

namespace Go.Proofs.YtanppgmhlcifiaaGreatDoor
set_option linter.unusedSimpArgs false
set_option linter.unusedVariables false

/-- Bytes filled up to a multiple of four. -/
def fil (bs : List Nat) : List Nat := bs ++ List.replicate (padN bs.length 4) 0
theorem padN4 (l : Nat) : (l + padN l 4) % 4 = 0 := by unfold padN; omega
theorem padN4_lt (l : Nat) : padN l 4 < 4 := padN_lt (by decide)
theorem fil_len (bs : List Nat) : (fil bs).length = bs.length + padN bs.length 4 := by simp [fil]
theorem fil_mod (bs : List Nat) : (fil bs).length % 4 = 0 := by rw [fil_len]; exact padN4 _
theorem byt_fil {bs : List Nat} (h : Byt bs) : Byt (fil bs) := h.append (byt_zeros _)
theorem fil_same {bs : List Nat} (h : bs.length % 4 = 0) : fil bs = bs := by
  unfold fil
  rw [padN_zero (by decide) h]
  simp
theorem fil_take (bs : List Nat) : (fil bs).take bs.length = bs := by simp [fil]

/-- The sum of all numbers of four bytes. -/
def sum4 : List Nat → Nat
  | a :: b :: c :: d :: r => V8 [a, b, c, d] + sum4 r
  | _ => 0
theorem sum4_cons (a b c d : Nat) (r : List Nat) : sum4 (a :: b :: c :: d :: r) = V8 [a, b, c, d] + sum4 r := rfl
/-- A list of a multiple of four goes by fours. -/
theorem four_ind {p : List Nat → Prop} (h0 : p []) (h4 : ∀ a b c d r, p r → p (a :: b :: c :: d :: r)) : ∀ (n : Nat) (xs : List Nat), xs.length = 4 * n → p xs := by
  intro n
  induction n with
  | zero => intro xs h; rw [List.length_eq_zero_iff.1 h]; exact h0
  | succ n ih =>
    intro xs h
    match xs, h with
    | a :: b :: c :: d :: r, h => exact h4 a b c d r (ih r (by simp at h; omega))
theorem len4 {xs : List Nat} (h : xs.length % 4 = 0) : xs.length = 4 * (xs.length / 4) := by omega
theorem sum4_append {xs : List Nat} (h : xs.length % 4 = 0) (ys : List Nat) : sum4 (xs ++ ys) = sum4 xs + sum4 ys := by
  refine four_ind (p := fun xs => sum4 (xs ++ ys) = sum4 xs + sum4 ys) (by simp [sum4]) ?_ _ xs (len4 h)
  intro a b c d r ih
  simp only [List.cons_append, sum4_cons]
  rw [ih]
  omega
/-- The check sum. -/
def sm (bs : List Nat) : Nat := sum4 (fil bs) % 4294967296
theorem sm_lt (bs : List Nat) : sm bs < 4294967296 := Nat.mod_lt _ (by decide)
theorem fil_append {xs : List Nat} (h : xs.length % 4 = 0) (ys : List Nat) : fil (xs ++ ys) = xs ++ fil ys := by
  unfold fil
  have e : padN (xs ++ ys).length 4 = padN ys.length 4 := by
    rw [List.length_append]
    unfold padN
    omega
  rw [e, List.append_assoc]
theorem sm_append {xs : List Nat} (h : xs.length % 4 = 0) (ys : List Nat) : sm (xs ++ ys) = (sm xs + sm ys) % 4294967296 := by
  unfold sm
  rw [fil_append h, sum4_append h, fil_same h]
  omega
theorem sm_zeros (bs : List Nat) : sm (bs ++ [0, 0, 0, 0]) = sm bs := by
  unfold sm
  have e : fil (bs ++ [0, 0, 0, 0]) = fil bs ++ [0, 0, 0, 0] := by
    unfold fil
    have e1 : padN (bs ++ [0, 0, 0, 0]).length 4 = padN bs.length 4 := by
      simp only [List.length_append, List.length_cons, List.length_nil]
      unfold padN
      omega
    rw [e1, List.append_assoc, List.append_assoc, show ([0, 0, 0, 0] : List Nat) = List.replicate 4 0 from rfl, List.replicate_append_replicate, List.replicate_append_replicate, Nat.add_comm]
  rw [e, sum4_append (fil_mod bs)]
  rfl

/-- One byte that is turned turns the sum. -/
theorem sum4_set : ∀ (n : Nat) (xs : List Nat) (j z : Nat), xs.length = 4 * n → Byt xs → z < 256 → j < xs.length → z ≠ xs.getD j 0 → sum4 (xs.set j z) % 4294967296 ≠ sum4 xs % 4294967296 := by
  intro n
  induction n with
  | zero => intro xs j z h _ _ hj; omega
  | succ n ih =>
    intro xs j z h hb hz hj hne
    match xs, h with
    | a :: b :: c :: d :: r, h =>
      have ha := hb a (by simp)
      have hb' := hb b (by simp)
      have hc := hb c (by simp)
      have hd := hb d (by simp)
      have hr : Byt r := fun x hx => hb x (by simp [hx])
      match j, hj, hne with
      | 0, _, hne =>
        simp at hne
        simp only [List.set_cons_zero, sum4_cons, V8, List.foldl_cons, List.foldl_nil]
        omega
      | 1, _, hne =>
        simp at hne
        simp only [List.set_cons_succ, List.set_cons_zero, sum4_cons, V8, List.foldl_cons, List.foldl_nil]
        omega
      | 2, _, hne =>
        simp at hne
        simp only [List.set_cons_succ, List.set_cons_zero, sum4_cons, V8, List.foldl_cons, List.foldl_nil]
        omega
      | 3, _, hne =>
        simp at hne
        simp only [List.set_cons_succ, List.set_cons_zero, sum4_cons, V8, List.foldl_cons, List.foldl_nil]
        omega
      | j + 4, hj, hne =>
        have := ih r j z (by simp at h; omega) hr hz (by simp at hj; omega) (by simpa [List.getD] using hne)
        simp only [List.set_cons_succ, sum4_cons]
        omega

end Go.Proofs.YtanppgmhlcifiaaGreatDoor

namespace Go.Proofs.YtanppgmhlcifiaaGreatDoor
set_option linter.unusedSimpArgs false
set_option linter.unusedVariables false

/-- A table: a tag and bytes. -/
structure Tb where
  tx : ByteArray
  bs : List Nat
def Tb.none : Tb := ⟨⟨#[]⟩, []⟩

/-- One tag ahead of another. -/
def tlt (a b : ByteArray) : Prop := a.toList < b.toList
theorem tlt_irrefl (a : ByteArray) : ¬ tlt a a := List.lt_irrefl _
theorem tlt_trans {a b c : ByteArray} (h : tlt a b) (h' : tlt b c) : tlt a c := List.lt_trans h h'
theorem toList_inj {a b : ByteArray} (h : a.toList = b.toList) : a = b := by
  rw [ByteArray.toList_eq, ByteArray.toList_eq] at h
  cases a; cases b
  simp only at h
  rw [Array.toList_inj.1 h]
theorem tlt_total {a b : ByteArray} (h : a ≠ b) : tlt a b ∨ tlt b a := by
  rcases List.le_total a.toList b.toList with h1 | h1
  · by_cases h2 : a.toList < b.toList
    · exact .inl h2
    · exact absurd (toList_inj (List.le_antisymm h1 (List.not_lt.1 h2))) h
  · by_cases h2 : b.toList < a.toList
    · exact .inr h2
    · exact absurd (toList_inj (List.le_antisymm (List.not_lt.1 h2) h1)) h

/-- Rising by tags. -/
def Ris (l : List Tb) : Prop := l.Pairwise (fun s t => tlt s.tx t.tx)
/-- No two tags alike. -/
def Dis (l : List Tb) : Prop := l.Pairwise (fun s t => s.tx ≠ t.tx)
theorem Ris.dis {l : List Tb} (h : Ris l) : Dis l := by
  refine List.Pairwise.imp ?_ h
  intro a b hab e
  rw [e] at hab
  exact tlt_irrefl b.tx hab
theorem Dis.perm {l m : List Tb} (h : Dis l) (hp : l.Perm m) : Dis m := by
  refine (List.Perm.pairwise_iff (R := fun s t : Tb => s.tx ≠ t.tx) ?_ hp).1 h
  intro a b hab
  exact Ne.symm hab

/-- Two rising lists of the same tables are one. -/
theorem Ris.uniq : ∀ {l m : List Tb}, Ris l → Ris m → l.Perm m → l = m := by
  intro l
  induction l with
  | nil => intro m _ _ hp; exact (List.Perm.nil_eq hp)
  | cons a l ih =>
    intro m hl hm hp
    cases m with
    | nil => exact absurd hp.length_eq (by simp)
    | cons b m =>
      have hl' := List.pairwise_cons.1 hl
      have hm' := List.pairwise_cons.1 hm
      have e : a = b := by
        have ha : a ∈ b :: m := hp.subset (by simp)
        have hb : b ∈ a :: l := hp.symm.subset (by simp)
        rcases List.mem_cons.1 ha with h1 | h1
        · exact h1
        · rcases List.mem_cons.1 hb with h2 | h2
          · exact h2.symm
          · exact absurd (tlt_trans (hl'.1 b h2) (hm'.1 a h1)) (tlt_irrefl _)
      subst e
      rw [ih hl'.2 hm'.2 (List.Perm.cons_inv hp)]

/-- Tables by their tags. -/
def ins (t : Tb) : List Tb → List Tb
  | [] => [t]
  | s :: l => if decide (t.tx.toList < s.tx.toList) = true then t :: s :: l else s :: ins t l
def srt : List Tb → List Tb
  | [] => []
  | t :: l => ins t (srt l)
theorem ins_perm (t : Tb) (l : List Tb) : (ins t l).Perm (t :: l) := by
  induction l with
  | nil => exact List.Perm.refl _
  | cons s l ih =>
    unfold ins
    split
    · exact List.Perm.refl _
    · exact (List.Perm.cons s ih).trans (List.Perm.swap t s l)
theorem srt_perm (l : List Tb) : (srt l).Perm l := by
  induction l with
  | nil => exact List.Perm.refl _
  | cons t l ih => exact (ins_perm t (srt l)).trans (List.Perm.cons t ih)
theorem ins_ris (t : Tb) (l : List Tb) (h : Ris l) (hd : ∀ s ∈ l, t.tx ≠ s.tx) : Ris (ins t l) := by
  induction l with
  | nil => exact List.pairwise_singleton _ _
  | cons s l ih =>
    have h' := List.pairwise_cons.1 h
    unfold ins
    split
    · rename_i hts
      have hts : tlt t.tx s.tx := by show t.tx.toList < s.tx.toList; exact of_decide_eq_true hts
      refine List.pairwise_cons.2 ⟨fun u hu => ?_, h⟩
      rcases List.mem_cons.1 hu with rfl | hu
      · exact hts
      · exact tlt_trans hts (h'.1 u hu)
    · rename_i hts
      have hts : ¬ tlt t.tx s.tx := fun h => hts (by have h' : t.tx.toList < s.tx.toList := h; exact decide_eq_true h')
      have hst : tlt s.tx t.tx := by
        rcases tlt_total (hd s (by simp)) with h1 | h1
        · exact absurd h1 hts
        · exact h1
      refine List.pairwise_cons.2 ⟨fun u hu => ?_, ih h'.2 (fun u hu => hd u (by simp [hu]))⟩
      rcases List.mem_cons.1 ((ins_perm t l).subset hu) with rfl | hu
      · exact hst
      · exact h'.1 u hu
theorem srt_ris {l : List Tb} (h : Dis l) : Ris (srt l) := by
  induction l with
  | nil => exact List.Pairwise.nil
  | cons t l ih =>
    have h' := List.pairwise_cons.1 h
    exact ins_ris t (srt l) (ih h'.2) (fun s hs => h'.1 s ((srt_perm l).subset hs))
theorem srt_len (l : List Tb) : (srt l).length = l.length := (srt_perm l).length_eq
theorem srt_of_ris {l : List Tb} (h : Ris l) : srt l = l := (srt_ris h.dis).uniq h (srt_perm l)
theorem srt_of_perm {l m : List Tb} (h : Dis l) (hm : Ris m) (hp : m.Perm l) : m = srt l := hm.uniq (srt_ris h) (hp.trans (srt_perm l).symm)

/-- A formed list. -/
def Frm (l : List Tb) : Prop := 1 ≤ l.length ∧ l.length ≤ 32 ∧ (∀ t ∈ l, gd (sb t.tx) = true ∧ t.bs.length ≤ 1048576) ∧ Dis l
theorem Frm.perm {l m : List Tb} (h : Frm l) (hp : l.Perm m) : Frm m := by
  obtain ⟨h1, h2, h3, h4⟩ := h
  have := hp.length_eq
  exact ⟨by omega, by omega, fun t ht => h3 t (hp.symm.subset ht), h4.perm hp⟩
theorem Frm.srt {l : List Tb} (h : Frm l) : Frm (srt l) := h.perm (srt_perm l).symm
theorem gd_len {xs : List Nat} (h : gd xs = true) : xs.length = 4 := by simp [gd] at h; exact h.1
theorem Frm.tag {l : List Tb} (h : Frm l) {t : Tb} (ht : t ∈ l) : (sb t.tx).length = 4 := gd_len (h.2.2.1 t ht).1

/-- The greatest power of two that is at most n, and its logarithm, for n from 1 to 32. -/
def pw (n : Nat) : Nat := if n < 2 then 1 else if n < 4 then 2 else if n < 8 then 4 else if n < 16 then 8 else if n < 32 then 16 else 32
def lg (n : Nat) : Nat := if n < 2 then 0 else if n < 4 then 1 else if n < 8 then 2 else if n < 16 then 3 else if n < 32 then 4 else 5
/-- The file's head. -/
def hdr (n : Nat) : List Nat := be4 65536 ++ (be2 n ++ (be2 ((16 * pw n : Nat) : Int) ++ (be2 ((lg n : Nat) : Int) ++ be2 ((16 * n - 16 * pw n : Nat) : Int))))
theorem hdr_len (n : Nat) : (hdr n).length = 12 := rfl
/-- One row of the directory. -/
def dirE (t : Tb) (at_ : Nat) : List Nat := sb t.tx ++ (be4 (sm t.bs : Nat) ++ (be4 (at_ : Nat) ++ be4 (t.bs.length : Nat)))
def dirs : List Tb → Nat → List Nat
  | [], _ => []
  | t :: l, a => dirE t a ++ dirs l (a + (fil t.bs).length)
def bods : List Tb → List Nat
  | [] => []
  | t :: l => fil t.bs ++ bods l
/-- The file of a list that rises. -/
def fileR (l : List Tb) : List Nat := hdr l.length ++ (dirs l (12 + 16 * l.length) ++ bods l)
def fileS (l : List Tb) : List Nat := fileR (srt l)
theorem dirE_len {t : Tb} (h : (sb t.tx).length = 4) (a : Nat) : (dirE t a).length = 16 := by simp [dirE, be4, h]
theorem dirs_len : ∀ {l : List Tb} (a : Nat), (∀ t ∈ l, (sb t.tx).length = 4) → (dirs l a).length = 16 * l.length := by
  intro l
  induction l with
  | nil => intro a _; rfl
  | cons t l ih =>
    intro a h
    rw [dirs, List.length_append, dirE_len (h t (by simp)), ih _ (fun s hs => h s (by simp [hs])), List.length_cons]
    omega
theorem dirs_append : ∀ (l m : List Tb) (a : Nat), dirs (l ++ m) a = dirs l a ++ dirs m (a + (bods l).length) := by
  intro l
  induction l with
  | nil => intro m a; simp [dirs, bods]
  | cons t l ih => intro m a; rw [List.cons_append, dirs, dirs, ih, bods, List.length_append, List.append_assoc, Nat.add_assoc]
theorem bods_append (l m : List Tb) : bods (l ++ m) = bods l ++ bods m := by
  induction l with
  | nil => rfl
  | cons t l ih => rw [List.cons_append, bods, bods, ih, List.append_assoc]
theorem bods_mod (l : List Tb) : (bods l).length % 4 = 0 := by
  induction l with
  | nil => rfl
  | cons t l ih => rw [bods, List.length_append]; have := fil_mod t.bs; omega
theorem fileR_len {l : List Tb} (h : ∀ t ∈ l, (sb t.tx).length = 4) : (fileR l).length = 12 + 16 * l.length + (bods l).length := by
  rw [fileR, List.length_append, List.length_append, hdr_len, dirs_len _ h]; omega
theorem fileR_mod {l : List Tb} (h : ∀ t ∈ l, (sb t.tx).length = 4) : (fileR l).length % 4 = 0 := by
  rw [fileR_len h]; have := bods_mod l; omega
theorem byt_dirE (t : Tb) (a : Nat) : Byt (dirE t a) := (byt_sb _).append ((byt_be4 _).append ((byt_be4 _).append (byt_be4 _)))
theorem byt_dirs : ∀ (l : List Tb) (a : Nat), Byt (dirs l a) := by
  intro l
  induction l with
  | nil => intro a; exact Byt.nil
  | cons t l ih => intro a; exact (byt_dirE t a).append (ih _)
theorem byt_bods : ∀ {l : List Tb}, (∀ t ∈ l, Byt t.bs) → Byt (bods l) := by
  intro l
  induction l with
  | nil => intro _; exact Byt.nil
  | cons t l ih => intro h; exact (byt_fil (h t (by simp))).append (ih (fun s hs => h s (by simp [hs])))
theorem byt_hdr (n : Nat) : Byt (hdr n) := (byt_be4 _).append ((byt_be2 _).append ((byt_be2 _).append ((byt_be2 _).append (byt_be2 _))))
theorem byt_fileR {l : List Tb} (h : ∀ t ∈ l, Byt t.bs) : Byt (fileR l) := (byt_hdr _).append ((byt_dirs _ _).append (byt_bods h))

end Go.Proofs.YtanppgmhlcifiaaGreatDoor
