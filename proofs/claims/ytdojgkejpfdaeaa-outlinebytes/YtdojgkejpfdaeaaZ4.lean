/-
  bytes.Clone; octets.Cut, Tag: the walks.
  octets.Tag; foundryref04.Cut, Tag, Same: the walks.
  octets.Page: All, Pad, Later: the walks.
  octets.Page: Pad, Later: the walks.
  Files of tables, as the document has them: filled bytes, check sums (plain mathematics).
-/
import Derived.Test.YtdojgkejpfdaeaaZ3
import Derived.Lib.SliceRun
import Derived.BigQuiet
import Derived.Deep.QuietTactic
import Derived.WalkSmall
import Derived.Outline
import Derived.Laws.BytesArg
namespace Go.Proofs.Ytdojgkejpfdaeaa
open Go.RowKit Go.Maps
set_option linter.unusedSimpArgs false
set_option linter.unusedVariables false

theorem Rw.nil (base : Nat) (w : World) : Rw 5 base w none 0 [] := ⟨Byt.nil, World.ownsRow_nil w base _ 1⟩

set_option maxHeartbeats 400000 in
set_option maxRecDepth 100000 in
theorem clone_any (a : Option Addr) (cap : Nat) (xs : List Nat) (w : World) (h : Rb w a cap xs) (hl : xs.length ≤ 1000000000) :
    Calls Try.prog 35 #[.slice a xs.length cap] w fun e w' => ∃ a' cap', e = .returned (.slice a' xs.length cap') ∧ Rw 5 w.heap.size w' a' cap' xs ∧ Below w.heap.size w w' := by
  obtain ⟨i0, hi, hz0, hz1, hz2⟩ := info_parts info_byte
  have q22 : ∀ (w : World) (a : Option Addr) (n c n' c' : Nat), (binOp .eql 26 (.slice a n c) (.slice none n' c')).run Try.prog w = .ok (.bool a.isNone) w := fun w a n c n' c' => Lib.run_eql_slice_nil w _ _ a n c n' c' Try.underlying26
  cases a with
  | none =>
    have hc : cap = 0 := h.2.2.2.1 rfl
    have hx : xs = [] := by
      rcases h.fm with h0 | ⟨b, off, e, _⟩
      · exact h0
      · cases e
    subst hc
    subst hx
    go_enter Try.func35, Try.ntmps35
    go_wp2
    go_ret
    exact ⟨none, 0, rfl, Rw.nil _ _, Below.refl _ _⟩
  | some ad =>
    go_enter Try.func35, Try.ntmps35
    go_wp2_with (at_builtin; refine wpList_append_rb rfl _ _ 26 rfl w.heap.size 5 i0 Try.underlying26 hi hz0 hz1 hz2 _ 0 [] rfl ?_ (some ad) cap _ xs rfl rfl ?_ ?_ ?_ ?_)
    · exact World.ownsRow_made w #[] 0 (Nat.le_refl _) (Nat.zero_le _) rfl
    · exact h.below (bl1 _)
    · omega
    · simp
    · intro v' w1 hown hgrow hat
      obtain ⟨a', cap', rfl, hres⟩ := Rw.of h.lim hown
      go_wp2
      go_ret
      exact ⟨a', cap', rfl, hres, (bl1 _).grown hgrow (by simp) (fun k hk => by simp [Value.ownBlock] at hk; omega)⟩

/-- The n bytes from place p on, if they are there. -/
def cutV (xs : List Nat) (p n : Int) : List Nat := if inB xs.length p n then (xs.drop p.toNat).take n.toNat else []
theorem cutV_no {xs : List Nat} {p n : Int} (h : inB xs.length p n = false) : cutV xs p n = [] := by simp [cutV, h]
theorem cutV_yes {xs : List Nat} {p n : Int} (h : inB xs.length p n = true) : cutV xs p n = (xs.drop p.toNat).take n.toNat := by simp [cutV, h]

/-- A part of a slice. -/
theorem Rb.cut {w : World} {a : Option Addr} {cap : Nat} {xs : List Nat} (h : Rb w a cap xs) (q n : Nat) (hq : q + n ≤ xs.length) : Rb w (a.map (fun x => x.add q)) (cap - q) ((xs.drop q).take n) := by
  obtain ⟨h1, h2, h3, h5, h4⟩ := h
  refine ⟨(h1.drop q).take n, by simp; omega, by omega, (by simp; intro h; have := h5 h; omega), ?_⟩
  rcases h4 with rfl | ⟨b, off, rfl, hb1, hc⟩
  · exact .inl (by simp)
  · have hadd : (⟨b, off, none⟩ : Addr).add q = ⟨b, off + q, none⟩ := by unfold Addr.add; split <;> simp_all
    refine .inr ⟨b, off + q, by simp [hadd], hb1, fun i hi => ?_⟩
    simp at hi
    rw [Nat.add_assoc, hc (q + i) (by omega)]
    simp [List.getD, show i < n by omega]

end Go.Proofs.Ytdojgkejpfdaeaa

namespace Go.Proofs.Ytdojgkejpfdaeaa
open Go.RowKit Go.Maps
set_option linter.unusedSimpArgs false
set_option linter.unusedVariables false

set_option maxHeartbeats 800000 in
set_option maxRecDepth 100000 in
/-- Two slices that read alike are told to be the same. -/
theorem same8_any (a b : Option Addr) (ca cb : Nat) (xs : List Nat) (w : World) (ha : Rb w a ca xs) (hb : Rb w b cb xs) :
    Calls Try.prog 10 #[.slice a xs.length ca, .slice b xs.length cb] w fun e w' => e = .returned (.bool true) ∧ Below w.heap.size w w' := by
  have k1 := ha.le
  have k2 := ha.cap
  unfold maxLen at k2
  have fa := ha.fm
  have fb := hb.fm
  clear ha hb
  have hne : ((xs.length : Int) != (xs.length : Int)) = false := by simp
  go_enter Try.func10, Try.ntmps10
  go_wp2
  go_loopw [5] (fun i wr => ∃ k : Nat, k ≤ xs.length ∧ i = .int .i64 k ∧ Below w.heap.size w wr) (fun i _ => xs.length - (intOf i).toNat)
  case atStart => exact ⟨0, Nat.zero_le _, rfl, Below.refl _ _⟩
  case round =>
    obtain ⟨k, hk, rfl, hnx⟩ := hrel
    by_cases hkn : k < xs.length
    · obtain ⟨b1, o1, rfl, _, c1⟩ := fa.at hnx k hkn
      obtain ⟨b2, o2, rfl, _, c2⟩ := fb.at hnx k hkn
      obtain ⟨x, hx⟩ : ∃ x, xs.getD k 0 = x := ⟨_, rfl⟩
      rw [hx] at c1 c2
      have hxx : ((x : Int) != (x : Int)) = false := by simp
      clear hx
      have i1 : (0 : Int) ≤ (k : Int) := by omega
      have i2 : (k : Int) < (xs.length : Int) := by omega
      go_wp2_with fail
      go_quiet (fail)
      go_wp2
      go_roundw
      case rel => exact ⟨k + 1, by omega, by go_num, below_drewN hnx _⟩
      case measure => simp [intOf]; omega
    · go_wp2
      go_ret
      exact ⟨rfl, hnx⟩

/-- Bytes as a text. -/
def str8 (xs : List Nat) : ByteArray := strOfNums (xs.map (fun x : Nat => (x : Int)))
theorem size_str8 (xs : List Nat) : (str8 xs).size = xs.length := by rw [str8, strOfNums_size, List.length_map]
theorem sb_str8 {xs : List Nat} (h : Byt xs) : sb (str8 xs) = xs := by
  rw [sb, str8, strOfNums_data]
  simp only [List.map_map]
  have : ∀ x ∈ xs, (UInt8.toNat ∘ (fun n : Int => UInt8.ofNat n.toNat) ∘ fun x : Nat => (x : Int)) x = x := by
    intro x hx
    have := h x hx
    simp
    omega
  rw [List.map_congr_left this, List.map_id']
theorem str8_sb (t : ByteArray) : str8 (sb t) = t := by
  cases t with
  | mk d =>
    simp only [str8, strOfNums, sb, List.map_map]
    congr 1
    apply Array.toList_inj.1
    simp
    rw [List.map_congr_left (g := id)]
    · simp
    · intro x hx; simp

theorem Rb.str {w : World} {a : Option Addr} {cap : Nat} {xs : List Nat} (h : Rb w a cap xs) (hx : xs ≠ []) :
    (convert 26 9 (.slice a xs.length cap)).run Try.prog w = .ok (.string (str8 xs)) w := by
  rcases h.fm with h0 | ⟨b, off, rfl, hb, hc⟩
  · exact absurd h0 hx
  · exact run_convert_bytes_arg (P := Try.prog) w 26 5 Try.underlying26 Try.underlying5 b off xs.length cap (xs.map (fun x : Nat => (x : Int))) (by simp) (fun i hi => by
      rw [hc i hi]; simp [List.getD, hi]) 9 Try.underlying9

/-- The tag at place p: is it there? and its text. -/
def tgB (xs : List Nat) (p : Int) : Bool := inB xs.length p 4 && gd (cutV xs p 4)
def tgV (xs : List Nat) (p : Int) : ByteArray := if tgB xs p then str8 (cutV xs p 4) else ⟨#[]⟩

end Go.Proofs.Ytdojgkejpfdaeaa

namespace Go.Proofs.Ytdojgkejpfdaeaa
open Go.RowKit Go.Maps
set_option linter.unusedSimpArgs false
set_option linter.unusedVariables false

/-- What All answers: the error, and the bytes. -/
def allE (s : St) : Int := if s.no then 4 else if s.ws = [] then 0 else 1
def allB (s : St) : List Nat := if s.no then [] else if s.ws = [] then s.bs else []

theorem Row.rb {w : World} {G : Nat → Prop} {a : Option Addr} {c : Nat} {xs : List Nat} (h : Row w G (.slice a xs.length c) xs) (hB : Byt xs) : Rb w a c xs := Rw.rd (e := 5) (base := 0) ⟨hB, h.1⟩

set_option maxHeartbeats 1000000 in
set_option maxRecDepth 100000 in
theorem all_any (B : Nat) (G : Nat → Prop) (s : St) (w : World) (h : Pc w B G s) (hl : s.bs.length ≤ 1048576) :
    Calls Try.prog 15 #[pg B] w fun e w' => ∃ a' cap', e = .returned (.tuple #[.slice a' (allB s).length cap', .int .i64 (allE s)]) ∧ Rw 5 w.heap.size w' a' cap' (allB s) ∧ Below w.heap.size w w' := by
  obtain ⟨h1, h2, h3, vb, vm, h4, h6, h5⟩ := h
  obtain ⟨c0, c1, c2, c3, f0, f1, f2, f3⟩ := h4.cells
  by_cases hno : s.no = true
  · have HE : Hid (allE s = 4) := by show allE s = 4; simp [allE, hno]
    have HB : Hid (allB s = []) := by show allB s = []; simp [allB, hno]
    rw [hno] at c3
    clear h1 h2 h3 h4 h5 h6 hno
    go_enter Try.func15, Try.ntmps15
    go_wp2
    go_ret2
    refine ⟨none, 0, rt_two (by rw [HB.out]; rfl) (by rw [HE.out]; rfl), ?_, Below.refl _ _⟩
    rw [HB.out]
    exact Rw.nil _ _
  · have hno : s.no = false := by simpa using hno
    obtain ⟨hR, hM⟩ := h5 hno
    rw [hno] at c3
    by_cases hws : s.ws = []
    · have HE : Hid (allE s = 0) := by show allE s = 0; simp [allE, hno, hws]
      have HB : Hid (allB s = s.bs) := by show allB s = s.bs; simp [allB, hno, hws]
      obtain ⟨a, c, rfl⟩ := hR.slice
      have hrb := hR.rb h3.1
      have fin : ∀ (W : World), W = w → Calls Try.prog 35 #[.slice a s.bs.length c] W fun e w' => ∃ a' cap', e = .returned (.slice a' s.bs.length cap') ∧ Rw 5 w.heap.size w' a' cap' s.bs ∧ Below w.heap.size w w' := by
        rintro W rfl
        exact clone_any a c s.bs _ hrb (by omega)
      obtain ⟨l, hll⟩ : ∃ l, s.bs.length = l := ⟨_, rfl⟩
      rw [hll] at c0 c1 hl fin
      have HL : Hid (s.bs.length = l) := hll
      clear hll
      rcases hM with ⟨rfl, _⟩ | ⟨m, D, rfl, hmG, hown, hhas, hsize⟩
      · clear h1 h2 h3 h4 h5 h6 hno hws hR hrb
        have hlen := fun (w : World) ty => Maps.len_nil (w := w) Try.underlying41 ty
        go_enter Try.func15, Try.ntmps15
        go_wp2_with fail
        refine (fin _ rfl).mono ?_
        rintro e u ⟨a', cap', rfl, hR, hb⟩
        go_wp2
        go_ret2
        refine ⟨a', cap', rt_two (by rw [HB.out, HL.out]; rfl) (by rw [HE.out]; rfl), ?_, hb⟩
        rw [HB.out]
        exact hR
      · rw [hws] at hsize
        have hs0 : Maps.size D = 0 := by simpa using hsize
        have hown' := hown
        clear h1 h2 h3 h4 h5 h6 hno hR hrb hhas hsize
        go_enter Try.func15, Try.ntmps15
        go_wp2_with (first | (at_len; refine wpList_len_own _ rfl _ 41 rfl 3 107 Try.underlying41 _ m _ D rfl hown ?_; rw [hs0]) | fail)
        refine (fin _ rfl).mono ?_
        rintro e u ⟨a', cap', rfl, hR, hb⟩
        go_wp2
        go_ret2
        refine ⟨a', cap', rt_two (by rw [HB.out, HL.out]; rfl) (by rw [HE.out]; rfl), ?_, hb⟩
        rw [HB.out]
        exact hR
    · have HE : Hid (allE s = 1) := by show allE s = 1; simp [allE, hno, hws]
      have HB : Hid (allB s = []) := by show allB s = []; simp [allB, hno, hws]
      rcases hM with ⟨rfl, h0⟩ | ⟨m, D, rfl, hmG, hown, hhas, hsize⟩
      · exact absurd h0 hws
      · obtain ⟨z, hz⟩ : ∃ z, Maps.size D = z := ⟨_, rfl⟩
        have hz1 : 0 < (z : Int) := by
          have := List.length_pos_iff.2 hws
          omega
        clear h1 h2 h3 h4 h5 h6 hno hR hhas hsize hws
        go_enter Try.func15, Try.ntmps15
        go_wp2_with (first | (at_len; refine wpList_len_own _ rfl _ 41 rfl 3 107 Try.underlying41 _ m _ D rfl hown ?_; rw [hz]) | go_in)
        go_ret2
        refine ⟨none, 0, rt_two (by rw [HB.out]; rfl) (by rw [HE.out]; rfl), ?_, Below.refl _ _⟩
        rw [HB.out]
        exact Rw.nil _ _

theorem all_nil (w : World) :
    Calls Try.prog 15 #[.pointer none] w fun e w' => e = .returned (.tuple #[.slice none 0 0, .int .i64 4]) ∧ w = w' := by
  go_enter Try.func15, Try.ntmps15
  go_wp2
  go_ret2
  exact ⟨rfl, rfl⟩

end Go.Proofs.Ytdojgkejpfdaeaa

namespace Go.Proofs.Ytdojgkejpfdaeaa
open Go.RowKit Go.Maps
set_option linter.unusedSimpArgs false
set_option linter.unusedVariables false

/-- How many bytes of 0 are put. -/
def padN (l n : Nat) : Nat := (n - l % n) % n
def St.pad (s : St) (n : Int) : St := if 1 ≤ n ∧ n ≤ 16 then s.app (List.replicate (padN s.bs.length n.toNat) 0) else s.fail

theorem padN_zero {l n : Nat} (hn : 0 < n) (h : l % n = 0) : padN l n = 0 := by unfold padN; rw [h]; simp
theorem padN_succ {l n : Nat} (hn : 0 < n) (h : l % n ≠ 0) : padN l n = padN (l + 1) n + 1 := by
  unfold padN
  have h1 := Nat.mod_lt l hn
  have h3 : 1 < n := by
    rcases Nat.lt_or_ge 1 n with h3 | h3
    · exact h3
    · have : n = 1 := by omega
      subst this
      exact absurd (Nat.mod_one l) h
  have e : (l + 1) % n = (l % n + 1) % n := by rw [Nat.add_mod, Nat.mod_eq_of_lt h3]
  rw [e]
  generalize l % n = r at h h1
  have e1 : (n - r) % n = n - r := Nat.mod_eq_of_lt (by omega)
  rw [e1]
  rcases Nat.lt_or_ge (r + 1) n with h2 | h2
  · have e2 : (r + 1) % n = r + 1 := Nat.mod_eq_of_lt h2
    have e3 : (n - (r + 1)) % n = n - (r + 1) := Nat.mod_eq_of_lt (by omega)
    rw [e2, e3]
    omega
  · have e2 : r + 1 = n := by omega
    rw [e2, Nat.mod_self, Nat.sub_zero, Nat.mod_self]
    omega
theorem padN_lt {l n : Nat} (hn : 0 < n) : padN l n < n := Nat.mod_lt _ hn

theorem St.app_app (s : St) (xs ys : List Nat) : (s.app xs).app ys = s.app (xs ++ ys) := by
  unfold St.app
  by_cases h : s.no = true <;> simp [h]
theorem St.app_nil (s : St) : s.app [] = s := by
  unfold St.app
  split <;> simp
theorem byt_zeros (n : Nat) : Byt (List.replicate n 0) := by intro x hx; have := List.eq_of_mem_replicate hx; omega

/-- The number in a page's second cell. -/
def hereOf (B : Nat) (w : World) : Nat := (intOf ((w.cell? ⟨B, 1, none⟩).getD undef)).toNat
theorem Pc.hereOf {w : World} {B : Nat} {G : Nat → Prop} {s : St} (h : Pc w B G s) : hereOf B w = s.bs.length := by
  obtain ⟨h1, h2, h3, vb, vm, h4, h6, h5⟩ := h
  obtain ⟨c0, c1, _⟩ := h4.cells
  simp [Proofs.Ytdojgkejpfdaeaa.hereOf, c1, intOf]

end Go.Proofs.Ytdojgkejpfdaeaa

namespace Go.Proofs.Ytdojgkejpfdaeaa
set_option linter.unusedSimpArgs false
set_option linter.unusedVariables false

/-- Bytes filled up to a multiple of four. -/
def fil (bs : List Nat) : List Nat := bs ++ List.replicate (padN bs.length 4) 0
theorem padN4 (l : Nat) : (l + padN l 4) % 4 = 0 := by unfold padN; omega
theorem padN4_lt (l : Nat) : padN l 4 < 4 := padN_lt (by decide)
theorem fil_len (bs : List Nat) : (fil bs).length = bs.length + padN bs.length 4 := by simp [fil]
theorem fil_mod (bs : List Nat) : (fil bs).length % 4 = 0 := by rw [fil_len]; exact padN4 _
theorem byt_fil {bs : List Nat} (h : Byt bs) : Byt (fil bs) := h.append (byt_zeros _)
theorem fil_same {bs : List Nat} (h : bs.length % 4 = 0) : fil bs = bs := by
  unfold fil
  rw [padN_zero (by decide) h]
  simp
theorem fil_take (bs : List Nat) : (fil bs).take bs.length = bs := by simp [fil]

/-- The sum of all numbers of four bytes. -/
def sum4 : List Nat → Nat
  | a :: b :: c :: d :: r => V8 [a, b, c, d] + sum4 r
  | _ => 0
theorem sum4_cons (a b c d : Nat) (r : List Nat) : sum4 (a :: b :: c :: d :: r) = V8 [a, b, c, d] + sum4 r := rfl
/-- A list of a multiple of four goes by fours. -/
theorem four_ind {p : List Nat → Prop} (h0 : p []) (h4 : ∀ a b c d r, p r → p (a :: b :: c :: d :: r)) : ∀ (n : Nat) (xs : List Nat), xs.length = 4 * n → p xs := by
  intro n
  induction n with
  | zero => intro xs h; rw [List.length_eq_zero_iff.1 h]; exact h0
  | succ n ih =>
    intro xs h
    match xs, h with
    | a :: b :: c :: d :: r, h => exact h4 a b c d r (ih r (by simp at h; omega))
theorem len4 {xs : List Nat} (h : xs.length % 4 = 0) : xs.length = 4 * (xs.length / 4) := by omega
theorem sum4_append {xs : List Nat} (h : xs.length % 4 = 0) (ys : List Nat) : sum4 (xs ++ ys) = sum4 xs + sum4 ys := by
  refine four_ind (p := fun xs => sum4 (xs ++ ys) = sum4 xs + sum4 ys) (by simp [sum4]) ?_ _ xs (len4 h)
  intro a b c d r ih
  simp only [List.cons_append, sum4_cons]
  rw [ih]
  omega
/-- The check sum. -/
def sm (bs : List Nat) : Nat := sum4 (fil bs) % 4294967296
theorem sm_lt (bs : List Nat) : sm bs < 4294967296 := Nat.mod_lt _ (by decide)
theorem fil_append {xs : List Nat} (h : xs.length % 4 = 0) (ys : List Nat) : fil (xs ++ ys) = xs ++ fil ys := by
  unfold fil
  have e : padN (xs ++ ys).length 4 = padN ys.length 4 := by
    rw [List.length_append]
    unfold padN
    omega
  rw [e, List.append_assoc]
theorem sm_append {xs : List Nat} (h : xs.length % 4 = 0) (ys : List Nat) : sm (xs ++ ys) = (sm xs + sm ys) % 4294967296 := by
  unfold sm
  rw [fil_append h, sum4_append h, fil_same h]
  omega
theorem sm_zeros (bs : List Nat) : sm (bs ++ [0, 0, 0, 0]) = sm bs := by
  unfold sm
  have e : fil (bs ++ [0, 0, 0, 0]) = fil bs ++ [0, 0, 0, 0] := by
    unfold fil
    have e1 : padN (bs ++ [0, 0, 0, 0]).length 4 = padN bs.length 4 := by
      simp only [List.length_append, List.length_cons, List.length_nil]
      unfold padN
      omega
    rw [e1, List.append_assoc, List.append_assoc, show ([0, 0, 0, 0] : List Nat) = List.replicate 4 0 from rfl, List.replicate_append_replicate, List.replicate_append_replicate, Nat.add_comm]
  rw [e, sum4_append (fil_mod bs)]
  rfl

/-- One byte that is turned turns the sum. -/
theorem sum4_set : ∀ (n : Nat) (xs : List Nat) (j z : Nat), xs.length = 4 * n → Byt xs → z < 256 → j < xs.length → z ≠ xs.getD j 0 → sum4 (xs.set j z) % 4294967296 ≠ sum4 xs % 4294967296 := by
  intro n
  induction n with
  | zero => intro xs j z h _ _ hj; omega
  | succ n ih =>
    intro xs j z h hb hz hj hne
    match xs, h with
    | a :: b :: c :: d :: r, h =>
      have ha := hb a (by simp)
      have hb' := hb b (by simp)
      have hc := hb c (by simp)
      have hd := hb d (by simp)
      have hr : Byt r := fun x hx => hb x (by simp [hx])
      match j, hj, hne with
      | 0, _, hne =>
        simp at hne
        simp only [List.set_cons_zero, sum4_cons, V8, List.foldl_cons, List.foldl_nil]
        omega
      | 1, _, hne =>
        simp at hne
        simp only [List.set_cons_succ, List.set_cons_zero, sum4_cons, V8, List.foldl_cons, List.foldl_nil]
        omega
      | 2, _, hne =>
        simp at hne
        simp only [List.set_cons_succ, List.set_cons_zero, sum4_cons, V8, List.foldl_cons, List.foldl_nil]
        omega
      | 3, _, hne =>
        simp at hne
        simp only [List.set_cons_succ, List.set_cons_zero, sum4_cons, V8, List.foldl_cons, List.foldl_nil]
        omega
      | j + 4, hj, hne =>
        have := ih r j z (by simp at h; omega) hr hz (by simp at hj; omega) (by simpa [List.getD] using hne)
        simp only [List.set_cons_succ, sum4_cons]
        omega

end Go.Proofs.Ytdojgkejpfdaeaa
