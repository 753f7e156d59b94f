/-
  bytes.Clone; octets.Cut, Tag: the walks.
  octets.Tag; foundryref04.Cut, Tag, Same: the walks.
  octets.Page: All, Pad, Later: the walks.
  octets.Page: Pad, Later: the walks.
  Files of tables, as the document has them: filled bytes, check sums (plain mathematics).
-/
import Derived.Test.YtngmcghmniakeaaGreatZB15
import Derived.Lib.SliceRun
import Derived.BigQuiet
import Derived.Deep.QuietTactic
import Derived.WalkSmall
import Derived.Outline
import Derived.Laws.BytesArg
namespace Go.Proofs.YtngmcghmniakeaaGreat
open Go.RowKit Go.Maps
set_option linter.unusedSimpArgs false
set_option linter.unusedVariables false

theorem Rw.nil (base : Nat) (w : World) : Rw 5 base w none 0 [] := ⟨Byt.nil, World.ownsRow_nil w base _ 1⟩

set_option maxHeartbeats 400000 in
set_option maxRecDepth 100000 in
theorem clone_any (a : Option Addr) (cap : Nat) (xs : List Nat) (w : World) (h : Rb w a cap xs) (hl : xs.length ≤ 1000000000) :
    Calls Tryz.prog 96 #[.slice a xs.length cap] w fun e w' => ∃ a' cap', e = .returned (.slice a' xs.length cap') ∧ Rw 5 w.heap.size w' a' cap' xs ∧ Below w.heap.size w w' := by
  obtain ⟨i0, hi, hz0, hz1, hz2⟩ := info_parts info_byte
  have q22 : ∀ (w : World) (a : Option Addr) (n c n' c' : Nat), (binOp .eql 44 (.slice a n c) (.slice none n' c')).run Tryz.prog w = .ok (.bool a.isNone) w := fun w a n c n' c' => Lib.run_eql_slice_nil w _ _ a n c n' c' Tryz.underlying44
  cases a with
  | none =>
    have hc : cap = 0 := h.2.2.2.1 rfl
    have hx : xs = [] := by
      rcases h.fm with h0 | ⟨b, off, e, _⟩
      · exact h0
      · cases e
    subst hc
    subst hx
    go_enter Tryz.func96, Tryz.ntmps96
    go_wp2
    go_ret
    exact ⟨none, 0, rfl, Rw.nil _ _, Below.refl _ _⟩
  | some ad =>
    go_enter Tryz.func96, Tryz.ntmps96
    go_wp2_with (at_builtin; refine wpList_append_rb rfl _ _ 44 rfl w.heap.size 5 i0 Tryz.underlying44 hi hz0 hz1 hz2 _ 0 [] rfl ?_ (some ad) cap _ xs rfl rfl ?_ ?_ ?_ ?_)
    · exact World.ownsRow_made w #[] 0 (Nat.le_refl _) (Nat.zero_le _) rfl
    · exact h.below (bl1 _)
    · omega
    · simp
    · intro v' w1 hown hgrow hat
      obtain ⟨a', cap', rfl, hres⟩ := Rw.of h.lim hown
      go_wp2
      go_ret
      exact ⟨a', cap', rfl, hres, (bl1 _).grown hgrow (by simp) (fun k hk => by simp [Value.ownBlock] at hk; omega)⟩

/-- A part of a slice. -/
theorem Rb.cut {w : World} {a : Option Addr} {cap : Nat} {xs : List Nat} (h : Rb w a cap xs) (q n : Nat) (hq : q + n ≤ xs.length) : Rb w (a.map (fun x => x.add q)) (cap - q) ((xs.drop q).take n) := by
  obtain ⟨h1, h2, h3, h5, h4⟩ := h
  refine ⟨(h1.drop q).take n, by simp; omega, by omega, (by simp; intro h; have := h5 h; omega), ?_⟩
  rcases h4 with rfl | ⟨b, off, rfl, hb1, hc⟩
  · exact .inl (by simp)
  · have hadd : (⟨b, off, none⟩ : Addr).add q = ⟨b, off + q, none⟩ := by unfold Addr.add; split <;> simp_all
    refine .inr ⟨b, off + q, by simp [hadd], hb1, fun i hi => ?_⟩
    simp at hi
    rw [Nat.add_assoc, hc (q + i) (by omega)]
    simp [List.getD, show i < n by omega]

end Go.Proofs.YtngmcghmniakeaaGreat

namespace Go.Proofs.YtngmcghmniakeaaGreat
open Go.RowKit Go.Maps
set_option linter.unusedSimpArgs false
set_option linter.unusedVariables false
/-- Bytes as a text. -/
def str8 (xs : List Nat) : ByteArray := strOfNums (xs.map (fun x : Nat => (x : Int)))
theorem sb_str8 {xs : List Nat} (h : Byt xs) : sb (str8 xs) = xs := by
  rw [sb, str8, strOfNums_data]
  simp only [List.map_map]
  have : ∀ x ∈ xs, (UInt8.toNat ∘ (fun n : Int => UInt8.ofNat n.toNat) ∘ fun x : Nat => (x : Int)) x = x := by
    intro x hx
    have := h x hx
    simp
    omega
  rw [List.map_congr_left this, List.map_id']
theorem Rb.str {w : World} {a : Option Addr} {cap : Nat} {xs : List Nat} (h : Rb w a cap xs) (hx : xs ≠ []) :
    (convert 44 9 (.slice a xs.length cap)).run Tryz.prog w = .ok (.string (str8 xs)) w := by
  rcases h.fm with h0 | ⟨b, off, rfl, hb, hc⟩
  · exact absurd h0 hx
  · exact run_convert_bytes_arg (P := Tryz.prog) w 44 5 Tryz.underlying44 Tryz.underlying5 b off xs.length cap (xs.map (fun x : Nat => (x : Int))) (by simp) (fun i hi => by
      rw [hc i hi]; simp [List.getD, hi]) 9 Tryz.underlying9

end Go.Proofs.YtngmcghmniakeaaGreat

namespace Go.Proofs.YtngmcghmniakeaaGreat
open Go.RowKit Go.Maps
set_option linter.unusedSimpArgs false
set_option linter.unusedVariables false

/-- What All answers: the error, and the bytes. -/
def allE (s : St) : Int := if s.no then 4 else if s.ws = [] then 0 else 1
def allB (s : St) : List Nat := if s.no then [] else if s.ws = [] then s.bs else []

theorem Row.rb {w : World} {G : Nat → Prop} {a : Option Addr} {c : Nat} {xs : List Nat} (h : Row w G (.slice a xs.length c) xs) (hB : Byt xs) : Rb w a c xs := Rw.rd (e := 5) (base := 0) ⟨hB, h.1⟩

set_option maxHeartbeats 1000000 in
set_option maxRecDepth 100000 in
theorem all_any (B : Nat) (G : Nat → Prop) (s : St) (w : World) (h : Pc w B G s) (hl : s.bs.length ≤ 1048576) :
    Calls Tryz.prog 44 #[pg B] w fun e w' => ∃ a' cap', e = .returned (.tuple #[.slice a' (allB s).length cap', .int .i64 (allE s)]) ∧ Rw 5 w.heap.size w' a' cap' (allB s) ∧ Below w.heap.size w w' := by
  obtain ⟨h1, h2, h3, vb, vm, h4, h6, h5⟩ := h
  obtain ⟨c0, c1, c2, c3, f0, f1, f2, f3⟩ := h4.cells
  by_cases hno : s.no = true
  · have HE : Hid (allE s = 4) := by show allE s = 4; simp [allE, hno]
    have HB : Hid (allB s = []) := by show allB s = []; simp [allB, hno]
    rw [hno] at c3
    clear h1 h2 h3 h4 h5 h6 hno
    go_enter Tryz.func44, Tryz.ntmps44
    go_wp2
    go_ret2
    refine ⟨none, 0, rt_two (by rw [HB.out]; rfl) (by rw [HE.out]; rfl), ?_, Below.refl _ _⟩
    rw [HB.out]
    exact Rw.nil _ _
  · have hno : s.no = false := by simpa using hno
    obtain ⟨hR, hM⟩ := h5 hno
    rw [hno] at c3
    by_cases hws : s.ws = []
    · have HE : Hid (allE s = 0) := by show allE s = 0; simp [allE, hno, hws]
      have HB : Hid (allB s = s.bs) := by show allB s = s.bs; simp [allB, hno, hws]
      obtain ⟨a, c, rfl⟩ := hR.slice
      have hrb := hR.rb h3.1
      have fin : ∀ (W : World), W = w → Calls Tryz.prog 96 #[.slice a s.bs.length c] W fun e w' => ∃ a' cap', e = .returned (.slice a' s.bs.length cap') ∧ Rw 5 w.heap.size w' a' cap' s.bs ∧ Below w.heap.size w w' := by
        rintro W rfl
        exact clone_any a c s.bs _ hrb (by omega)
      obtain ⟨l, hll⟩ : ∃ l, s.bs.length = l := ⟨_, rfl⟩
      rw [hll] at c0 c1 hl fin
      have HL : Hid (s.bs.length = l) := hll
      clear hll
      rcases hM with ⟨rfl, _⟩ | ⟨m, D, rfl, hmG, hown, hhas, hsize⟩
      · clear h1 h2 h3 h4 h5 h6 hno hws hR hrb
        have hlen := fun (w : World) ty => Maps.len_nil (w := w) Tryz.underlying94 ty
        go_enter Tryz.func44, Tryz.ntmps44
        go_wp2_with fail
        refine (fin _ rfl).mono ?_
        rintro e u ⟨a', cap', rfl, hR, hb⟩
        go_wp2
        go_ret2
        refine ⟨a', cap', rt_two (by rw [HB.out, HL.out]; rfl) (by rw [HE.out]; rfl), ?_, hb⟩
        rw [HB.out]
        exact hR
      · rw [hws] at hsize
        have hs0 : Maps.size D = 0 := by simpa using hsize
        have hown' := hown
        clear h1 h2 h3 h4 h5 h6 hno hR hrb hhas hsize
        go_enter Tryz.func44, Tryz.ntmps44
        go_wp2_with (first | (at_len; refine wpList_len_own _ rfl _ 94 rfl 3 249 Tryz.underlying94 _ m _ D rfl hown ?_; rw [hs0]) | fail)
        refine (fin _ rfl).mono ?_
        rintro e u ⟨a', cap', rfl, hR, hb⟩
        go_wp2
        go_ret2
        refine ⟨a', cap', rt_two (by rw [HB.out, HL.out]; rfl) (by rw [HE.out]; rfl), ?_, hb⟩
        rw [HB.out]
        exact hR
    · have HE : Hid (allE s = 1) := by show allE s = 1; simp [allE, hno, hws]
      have HB : Hid (allB s = []) := by show allB s = []; simp [allB, hno, hws]
      rcases hM with ⟨rfl, h0⟩ | ⟨m, D, rfl, hmG, hown, hhas, hsize⟩
      · exact absurd h0 hws
      · obtain ⟨z, hz⟩ : ∃ z, Maps.size D = z := ⟨_, rfl⟩
        have hz1 : 0 < (z : Int) := by
          have := List.length_pos_iff.2 hws
          omega
        clear h1 h2 h3 h4 h5 h6 hno hR hhas hsize hws
        go_enter Tryz.func44, Tryz.ntmps44
        go_wp2_with (first | (at_len; refine wpList_len_own _ rfl _ 94 rfl 3 249 Tryz.underlying94 _ m _ D rfl hown ?_; rw [hz]) | go_in)
        go_ret2
        refine ⟨none, 0, rt_two (by rw [HB.out]; rfl) (by rw [HE.out]; rfl), ?_, Below.refl _ _⟩
        rw [HB.out]
        exact Rw.nil _ _

end Go.Proofs.YtngmcghmniakeaaGreat

namespace Go.Proofs.YtngmcghmniakeaaGreat
open Go.RowKit Go.Maps
set_option linter.unusedSimpArgs false
set_option linter.unusedVariables false

/-- How many bytes of 0 are put. -/
def padN (l n : Nat) : Nat := (n - l % n) % n
end Go.Proofs.YtngmcghmniakeaaGreat

namespace Go.Proofs.YtngmcghmniakeaaGreat
set_option linter.unusedSimpArgs false
set_option linter.unusedVariables false

/-- Bytes filled up to a multiple of four. -/
def fil (bs : List Nat) : List Nat := bs ++ List.replicate (padN bs.length 4) 0
/-- The sum of all numbers of four bytes. -/
def sum4 : List Nat → Nat
  | a :: b :: c :: d :: r => V8 [a, b, c, d] + sum4 r
  | _ => 0
/-- The check sum. -/
def sm (bs : List Nat) : Nat := sum4 (fil bs) % 4294967296
end Go.Proofs.YtngmcghmniakeaaGreat
