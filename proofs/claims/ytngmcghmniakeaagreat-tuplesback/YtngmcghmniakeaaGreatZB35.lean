/-
  foundryref04.Page: put, Put8, Put16, Put32, PutBytes, PutTag, Pad, All: the walks.
  Pages: what is put, in plain words; new pages.
  Rows of ints kept beside a page; what is put, in plain words.
  Rows of bytes of the call's own (Bo), and how they grow.
  foundryref11.Changes: the walk.
-/
import Derived.Test.YtngmcghmniakeaaGreatZB34
import Derived.Test.YtngmcghmniakeaaGreatZB16
import Derived.Test.YtngmcghmniakeaaGreatZB9
import Derived.Test.YtngmcghmniakeaaGreatZB33
import Derived.Deep.CutRange
import Derived.Deep.CutBlock
namespace Go.Proofs.YtngmcghmniakeaaGreat
open Go.RowKit Go.Maps
set_option linter.unusedSimpArgs false
set_option linter.unusedVariables false
end Go.Proofs.YtngmcghmniakeaaGreat

namespace Go.Proofs.YtngmcghmniakeaaGreat
open Go.RowKit Go.Maps
set_option linter.unusedSimpArgs false
set_option linter.unusedVariables false
theorem put16A {bs : List Nat} {ws : List Int} {n : Int} (h1 : -32768 ≤ n) (h2 : n ≤ 65535) : (St.mk bs ws false).put16 n = ⟨bs ++ be2 n, ws, false⟩ := by simp [St.put16, h1, h2, St.app]
theorem pc_newA (w : World) (G : Nat → Prop) (hG : ∀ k, G k → k < w.heap.size) : Pc (w.alloc (.cells #[.slice none 0 0, .int .i64 0, .map none, .bool false] 96)) w.heap.size G St.zero := by
  refine ⟨fun k hk => by have := hG k hk; simp; omega, fun h => by have := hG _ h; omega, Wf.zero, .slice none 0 0, .map none, heap_alloc_new w _, (fun h => by cases h), fun _ => ⟨⟨World.ownsRow_nil _ 0 _ 1, fun g hg => by cases hg⟩, .inl ⟨rfl, rfl⟩⟩⟩
theorem Pc.moreA {w : World} {B : Nat} {G : Nat → Prop} {s : St} (h : Pc w B G s) (o : Obj) : Pc (w.alloc o) B (fun k => G k ∨ k = w.heap.size) s := by
  refine h.guard_new (by simp) (fun k hk _ => (bl1 o).block k hk) ?_
  rintro k (hk | rfl)
  · exact ⟨by have := h.1 k hk; simp; omega, fun _ => hk⟩
  · exact ⟨by simp, fun hlt => absurd hlt (Nat.lt_irrefl _)⟩

end Go.Proofs.YtngmcghmniakeaaGreat

namespace Go.Proofs.YtngmcghmniakeaaGreat
open Go.RowKit Go.Maps
set_option linter.unusedSimpArgs false
set_option linter.unusedVariables false

theorem Ri.kept {G : Nat → Prop} {w w' : World} {a : Option Addr} {cap : Nat} {zs : List Int} (h : Ri w a cap zs) (hk : Keep G w w') (hG : ∀ b o, a = some ⟨b, o, none⟩ → G b) : Ri w' a cap zs := by
  obtain ⟨h1, h2, h3, h4⟩ := h
  refine ⟨h1, h2, h3, ?_⟩
  rcases h4 with h4 | ⟨b, off, e, h5, h6⟩
  · exact .inl h4
  · exact .inr ⟨b, off, e, Nat.lt_of_lt_of_le h5 hk.size, fun i hi => (hk.cell (p := ⟨b, off + i, none⟩) (hG b off e)).trans (h6 i hi)⟩
theorem Ri.get {w : World} {a : Option Addr} {cap : Nat} {zs : List Int} (h : Ri w a cap zs) (k : Nat) (hk : k < zs.length) :
    ∃ b off, a = some ⟨b, off, none⟩ ∧ b < w.heap.size ∧ w.cell? ⟨b, off + k, none⟩ = some (.int .i64 (zs.getD k 0)) := h.at (Below.refl _ _) k hk
theorem put8A {bs : List Nat} {ws : List Int} {n : Int} (h1 : -128 ≤ n) (h2 : n ≤ 255) : (St.mk bs ws false).put8 n = ⟨bs ++ be1 n, ws, false⟩ := by simp [St.put8, h1, h2, St.app]
theorem flat_take {f : Int → List Nat} {l : List Int} {k : Nat} {x : Int} (hk : k < l.length) (hx : l.getD k 0 = x) : (l.take (k + 1)).flatMap f = (l.take k).flatMap f ++ f x := by
  have e : l.take (k + 1) = l.take k ++ [x] := by
    rw [List.take_add_one, List.getElem?_eq_getElem hk, ← hx]
    simp [List.getD, hk]
  rw [e, List.flatMap_append]
  simp
theorem flat_len {f : Int → List Nat} (h : ∀ x, (f x).length ≤ 2) (m : List Int) : (m.flatMap f).length ≤ 2 * m.length := by
  induction m with
  | nil => simp
  | cons x t ih => have := h x; rw [List.flatMap_cons, List.length_append, List.length_cons]; omega
theorem take_len2 {f : Int → List Nat} (h : ∀ x, (f x).length ≤ 2) (l : List Int) (k : Nat) : ((l.take k).flatMap f).length ≤ 2 * l.length := by
  have := flat_len h (l.take k)
  rw [List.length_take] at this
  omega
theorem getD_mem {l : List Int} {k : Nat} (h : k < l.length) : l.getD k 0 ∈ l := by
  rw [List.getD_eq_getElem?_getD, List.getElem?_eq_getElem h]
  exact List.getElem_mem h
theorem be1_nat {m : Nat} (h : m < 256) : be1 (m : Int) = [m] := by
  unfold be1
  rw [show ((m : Int) % 256).toNat = m by omega]
/-- How long a slice is. -/
def slLen : Value → Nat
  | .slice _ n _ => n
  | _ => 0
theorem Pc.wider {w w' : World} {B : Nat} {G : Nat → Prop} {s : St} (h : Pc w B G s) (hb : Below w.heap.size w w') : Pc w' B (fun k => G k ∨ (w.heap.size ≤ k ∧ k < w'.heap.size)) s := by
  refine h.guard_new hb.size (fun k hk _ => hb.block k hk) ?_
  rintro k (hk | ⟨h1, h2⟩)
  · exact ⟨Nat.lt_of_lt_of_le (h.1 k hk) hb.size, fun _ => hk⟩
  · exact ⟨h2, fun h3 => by omega⟩
theorem all_B (ys : List Nat) : allB ⟨ys, [], false⟩ = ys := rfl
theorem all_E (ys : List Nat) : allE ⟨ys, [], false⟩ = 0 := rfl

end Go.Proofs.YtngmcghmniakeaaGreat

namespace Go.Proofs.YtngmcghmniakeaaGreat
open Go.RowKit Go.Maps
set_option linter.unusedSimpArgs false
set_option linter.unusedVariables false
def Bo (base : Nat) (w : World) (v : Value) (ys : List Nat) : Prop := Byt ys ∧ w.ownsRow base 5 1 v ys.length (ys.map Y)
theorem Bo.nil (base : Nat) (w : World) : Bo base w (.slice none 0 0) [] := ⟨Byt.nil, World.ownsRow_nil w base _ 1⟩
theorem Bo.slice {base : Nat} {w : World} {v : Value} {ys : List Nat} (h : Bo base w v ys) : ∃ a cap, v = .slice a ys.length cap ∧ Rb w a cap ys := by
  have h3 := h.2
  rcases h3.2 with ⟨e, h0⟩ | ⟨g, cap, cur, e, hb, hg, hc1, hc2, hc3, ht⟩
  · have : ys = [] := List.length_eq_zero_iff.1 h0
    subst this
    exact ⟨none, 0, e, Rb.nil _ _ _ (Nat.zero_le _) (fun _ => rfl)⟩
  · subst e
    exact ⟨_, _, rfl, Rw.rd (e := 5) (base := base) ⟨h.1, h3⟩⟩
theorem Bo.below {base : Nat} {w w' : World} {v : Value} {ys : List Nat} (h : Bo base w v ys) (hb : Below w.heap.size w w') : Bo base w' v ys := by
  obtain ⟨h1, h3⟩ := h
  refine ⟨h1, h3.1, ?_⟩
  rcases h3.2 with h0 | ⟨g, cap', cur, k1, k2, k3, k4⟩
  · exact .inl h0
  · exact .inr ⟨g, cap', cur, k1, k2, (hb.block g (Array.getElem?_eq_some_iff.1 k3).1).trans k3, k4⟩
theorem Bo.lo {base : Nat} {w : World} {v : Value} {ys : List Nat} (h : Bo base w v ys) {g : Nat} (hg : v.ownBlock = some g) : base ≤ g ∧ g < w.heap.size := World.ownsRow.lt h.2 g hg
end Go.Proofs.YtngmcghmniakeaaGreat

namespace Go.Proofs.YtngmcghmniakeaaGreat
open Go.RowKit Go.Maps
set_option linter.unusedSimpArgs false
set_option linter.unusedVariables false

theorem getD_drop (l : List Int) (i j : Nat) : (l.drop i).getD j 0 = l.getD (i + j) 0 := by simp [List.getD]
/-- What is packed so far, a run on. -/
theorem pk_step {P : Pk} (hM : 0 < P.M) {l : List Int} {i e c0 h : Nat} {ys tot : List Nat} (hi : i < l.length) (hr : rn P.c P.M (l.drop i) = e - i) (hie : i < e) (hc : P.c (l.getD i 0) = c0) (hh : h = P.M * c0 + (e - i) - 1) (ht : ys ++ pk P (l.drop i) = tot) :
    ys ++ [h] ++ ((l.drop i).take (e - i)).flatMap (P.en c0) ++ pk P (l.drop e) = tot := by
  have hne : l.drop i ≠ [] := by intro e; have := congrArg List.length e; rw [List.length_drop] at this; simp at this; omega
  rw [← ht, pk_cons P hM hne, hr, getD_drop, Nat.add_zero, hc, ← hh, List.drop_drop, show i + (e - i) = e by omega]
  simp only [List.append_assoc]
theorem tmod_nn {z m : Int} (h : 0 ≤ z) : z.tmod m = z % m := Int.tmod_eq_emod_of_nonneg h
end Go.Proofs.YtngmcghmniakeaaGreat
