/-
  What a law is told of a slice of bytes, or of int32, that came in.
  What a law is told of an axis, of a list of axes, of a list of ints that came in.
  foundrylaw01.awake, few: the walks.
  What a law is told of a slice of limbs that came in.
  foundryref06: Write: the walk.
-/
import Derived.Test.YtanppgmhlcifiaaGreatDoorZ1
import Derived.ProofKit
import Derived.Test.YtanppgmhlcifiaaGreatDoorZ5
import Derived.Test.YtanppgmhlcifiaaGreatDoorZ24
import Derived.Deep.Slices
import Derived.Lib.SmallJoins
import Derived.ChangeSame
import Derived.Test.YtanppgmhlcifiaaGreatDoorZ7
import Derived.Test.YtanppgmhlcifiaaGreatDoorZ18
namespace Go.Proofs.YtanppgmhlcifiaaGreatDoor
open Go.RowKit
set_option linter.unusedSimpArgs false
set_option linter.unusedVariables false

/-- A slice of integers that came in: it is nil; or it leads to a row of 'cap' cells, the numbers 'zs' (the first 'len' are its elements), each fitting its kind. -/
def IsRowK (k : IntKind) (w : World) (a : Option Addr) (len cap : Nat) (zs : List Int) : Prop :=
  (a = none ∧ len = 0 ∧ cap = 0 ∧ zs = []) ∨
  ∃ x, a = some x ∧ len ≤ cap ∧ cap ≤ maxLen ∧ zs.length = cap ∧ (∀ i, i < zs.length → w.cell? (x.add i) = some (.int k (zs.getD i 0))) ∧ ∀ n ∈ zs, (Lit.int k n).wf = true

theorem wfo_u8_bounds {n : Int} (h : (Lit.int .u8 n).wf = true) : 0 ≤ n ∧ n < 256 := by
  simp [Lit.wf, IntKind.min, IntKind.max, IntKind.bits, IntKind.signed] at h
  omega
theorem wfo_i32_bounds {n : Int} (h : (Lit.int .i32 n).wf = true) : -2147483648 ≤ n ∧ n ≤ 2147483647 := by
  simp [Lit.wf, IntKind.min, IntKind.max, IntKind.bits, IntKind.signed] at h
  omega
theorem wfo_i64_bounds {n : Int} (h : (Lit.int .i64 n).wf = true) : -9223372036854775808 ≤ n ∧ n ≤ 9223372036854775807 := by
  simp [Lit.wf, IntKind.min, IntKind.max, IntKind.bits, IntKind.signed] at h
  omega

theorem IsRowK.cells {k : IntKind} {w : World} {a : Option Addr} {len cap : Nat} {zs : List Int} (h : IsRowK k w a len cap zs) :
    ∃ ys : List Int, len = ys.length ∧ (∀ y ∈ ys, (Lit.int k y).wf = true) ∧ ys.length ≤ cap ∧ cap ≤ maxLen ∧ (a = none → cap = 0) ∧
      (ys = [] ∨ ∃ b off, a = some ⟨b, off, none⟩ ∧ b < w.heap.size ∧ ∀ i, i < ys.length → w.cell? ⟨b, off + i, none⟩ = some (.int k (ys.getD i 0))) := by
  rcases h with ⟨rfl, rfl, rfl, rfl⟩ | ⟨x, rfl, h1, h2, h3, hc, hw⟩
  · exact ⟨[], rfl, (fun y hy => by cases hy), Nat.le_refl _, Nat.zero_le _, fun _ => rfl, .inl rfl⟩
  · refine ⟨zs.take len, by simp; omega, fun y hy => hw y (List.mem_of_mem_take hy), by simp; omega, h2, (by simp), ?_⟩
    by_cases h0 : len = 0
    · exact .inl (by simp [h0])
    · obtain ⟨b, off, spot⟩ := x
      have c0 := hc 0 (by omega)
      have hspot : spot = none := by simpa [Addr.add] using World.cell?_spot c0
      subst hspot
      refine .inr ⟨b, off, rfl, ?_, fun i hi => ?_⟩
      · have := World.block_lt_of_cell? w _ c0
        simpa [Addr.add] using this
      · simp at hi
        have hadd : (⟨b, off, none⟩ : Addr).add i = ⟨b, off + i, none⟩ := by unfold Addr.add; split <;> simp_all
        have hci := hc i (by omega)
        rw [hadd] at hci
        rw [hci]
        simp [List.getD, show i < len by omega]

theorem IsRowK.rb {w : World} {a : Option Addr} {len cap : Nat} {zs : List Int} (h : IsRowK .u8 w a len cap zs) : ∃ xs : List Nat, len = xs.length ∧ Rb w a cap xs := by
  obtain ⟨ys, h1, h2, h3, h4, h5, h6⟩ := h.cells
  have hb : ∀ y ∈ ys, 0 ≤ y ∧ y < 256 := fun y hy => wfo_u8_bounds (h2 y hy)
  refine ⟨ys.map Int.toNat, by simp [h1], ?_, by simpa using h3, h4, h5, ?_⟩
  · intro x hx
    obtain ⟨y, hy, rfl⟩ := List.mem_map.1 hx
    have := hb y hy
    omega
  · rcases h6 with rfl | ⟨b, off, e, hlt, hc⟩
    · exact .inl rfl
    · refine .inr ⟨b, off, e, hlt, fun i hi => ?_⟩
      simp at hi
      rw [hc i hi]
      have h0 : ys.getD i 0 = ys[i] := by simp [List.getD, hi]
      have hy := hb ys[i] (List.getElem_mem hi)
      rw [h0]
      simp [List.getD, hi]
      omega

end Go.Proofs.YtanppgmhlcifiaaGreatDoor

namespace Go.Proofs.YtanppgmhlcifiaaGreatDoor
open Go.RowKit
open Go.ChangeShapes Go.WideShapes Go.Joins Go.Deep
set_option linter.unusedSimpArgs false
set_option linter.unusedVariables false

theorem list_of_ltA {α : Type} {d : α} {p : Nat → α → Prop} : ∀ n, (∀ i, i < n → ∃ o, p i o) → ∃ os : List α, os.length = n ∧ ∀ i, i < n → p i (os.getD i d) := by
  intro n
  induction n with
  | zero => exact fun _ => ⟨[], rfl, fun i hi => by omega⟩
  | succ n ih =>
    intro h
    obtain ⟨os, hl, ho⟩ := ih (fun i hi => h i (by omega))
    obtain ⟨o, h1⟩ := h n (by omega)
    refine ⟨os ++ [o], by simp [hl], fun i hi => ?_⟩
    by_cases hi' : i < n
    · have e : (os ++ [o]).getD i d = os.getD i d := by simp [List.getD, List.getElem?_append_left (show i < os.length by omega)]
      rw [e]
      exact ho i hi'
    · have e : i = n := by omega
      subst e
      have e : (os ++ [o]).getD i d = o := by simp [List.getD, ← hl]
      rw [e]
      exact h1
theorem add0A (y : Addr) : y.add 0 = y := by
  obtain ⟨b, off, spot⟩ := y
  cases spot <;> simp [Addr.add]

theorem cellsAx : Tryz.prog.cellsOf 23 = 4 := by kernel_rfl
theorem cellsAi : Tryz.prog.cellsOf 3 = 1 := by kernel_rfl
theorem cellsAs : Tryz.prog.cellsOf 9 = 1 := by kernel_rfl

set_option maxRecDepth 100000 in
/-- An axis by value. -/
theorem open_axis {H : Type} {enc : TypeId × Value → H} {W : World} {sp : Nat → Bool} {held : Bool} {r : Reach} {b0 : Nat} {v : Value} {d : DataW H} {p : List MemPlace}
    (hv : Value.okWide Tryz.prog W r b0 23 v) (h : DataW.Trod enc Tryz.prog W 0 sp held 23 v d p) :
    ∃ t : Ax, v = .agg (axC t) ∧ Axw t := by
  obtain ⟨v0, v1, v2, v3, y0, y1, y2, y3, n, rfl, _, _, t0, t1, t2, t3⟩ := open_agg4 Tryz.underlying23 (by kernel_rfl) cellsAx hv h
  obtain ⟨tx, e0, _, w0⟩ := DataW.trod_string Tryz.underlying9 t0
  obtain ⟨z1, e1, _, w1⟩ := DataW.trod_int Tryz.underlying3 t1
  obtain ⟨z2, e2, _, w2⟩ := DataW.trod_int Tryz.underlying3 t2
  obtain ⟨z3, e3, _, w3⟩ := DataW.trod_int Tryz.underlying3 t3
  simp at e0 e1 e2 e3
  subst e0 e1 e2 e3
  exact ⟨⟨tx, z1, z2, z3⟩, rfl, w0, wfo_i64_bounds w1, wfo_i64_bounds w2, wfo_i64_bounds w3⟩

set_option maxRecDepth 100000 in
/-- A list of axes. -/
theorem open_axes {H : Type} {enc : TypeId × Value → H} {W : World} {sp : Nat → Bool} {held : Bool} {d : DataW H} {p : List MemPlace} {a : Option Addr} {len cap : Nat} (h : DataW.Trod enc Tryz.prog W 0 sp held 39 (.slice a len cap) d p) :
    ∃ l : List Ax, len = l.length ∧ As W a cap l := by
  obtain ⟨fuel, hf⟩ := h
  rcases open_slice Tryz.underlying39 hf with ⟨hcs, _⟩ | ⟨x, l, c, m, n, D, Pl, hcs, _, hl, hm, hmm, _, hel⟩
  · simp [Value.cells] at hcs
    obtain ⟨rfl, rfl, rfl⟩ := hcs
    exact ⟨[], rfl, As.nil _ _ _ (Nat.zero_le _)⟩
  · simp [Value.cells] at hcs
    obtain ⟨rfl, rfl, rfl⟩ := hcs
    have hle : len ≤ m := by rw [hmm]; split <;> omega
    have hone : ∀ i, i < len → ∃ o : Ax, Axw o ∧ W.cell? (x.add (i * 4)) = some (.string o.tx) ∧ W.cell? ((x.add (i * 4)).add 1) = some (.int .i64 o.lo) ∧ W.cell? ((x.add (i * 4)).add 2) = some (.int .i64 o.us) ∧ W.cell? ((x.add (i * 4)).add 3) = some (.int .i64 o.hi) := by
      intro i hi
      obtain ⟨cs', hc, ht⟩ := hel i (by omega)
      rw [cellsAx] at hc
      obtain ⟨y0, y1, y2, y3, n', hx, hlen, t0, t1, t2, t3⟩ := trod_struct4 Tryz.underlying23 ht
      rw [cellsAx] at hlen
      match cs', hlen with
      | [v0, v1, v2, v3], _ =>
        dsimp only at t0 t1 t2 t3
        rw [cellsAi] at t1 t2 t3
        rw [cellsAs] at t0
        obtain ⟨tx, e0, _, w0⟩ := DataW.trod_string Tryz.underlying9 t0
        obtain ⟨z1, e1, _, w1⟩ := DataW.trod_int Tryz.underlying3 t1
        obtain ⟨z2, e2, _, w2⟩ := DataW.trod_int Tryz.underlying3 t2
        obtain ⟨z3, e3, _, w3⟩ := DataW.trod_int Tryz.underlying3 t3
        simp at e0 e1 e2 e3
        subst e0 e1 e2 e3
        obtain ⟨_, _, hcell⟩ := World.cells?_some hc
        refine ⟨⟨tx, z1, z2, z3⟩, ⟨w0, wfo_i64_bounds w1, wfo_i64_bounds w2, wfo_i64_bounds w3⟩, ?_, hcell 1 (by omega), hcell 2 (by omega), hcell 3 (by omega)⟩
        have := hcell 0 (by omega)
        rw [add0A] at this
        exact this
    obtain ⟨os, hol, ho⟩ := list_of_ltA (d := Ax.none) len hone
    refine ⟨os, hol.symm, by omega, hm, fun o hm => ?_, fun i hi => ?_⟩
    · obtain ⟨i, hi, e⟩ := List.getElem_of_mem hm
      have := (ho i (by omega)).1
      rw [List.getD_eq_getElem?_getD, List.getElem?_eq_getElem hi] at this
      rw [← e]
      exact this
    · obtain ⟨_, c1, c2, c3, c4⟩ := ho i (by omega)
      obtain ⟨b, off, spot⟩ := x
      have hspot : spot = none := by
        have := World.cell?_spot (ho 0 (by omega)).2.1
        simpa [Addr.add] using this
      subst hspot
      have hadd : ∀ i, (⟨b, off, none⟩ : Addr).add i = ⟨b, off + i, none⟩ := by intro i; unfold Addr.add; split <;> simp_all
      have hadd2 : ∀ i j, ((⟨b, off, none⟩ : Addr).add i).add j = ⟨b, off + i + j, none⟩ := by intro i j; rw [hadd]; unfold Addr.add; split <;> simp_all
      have hlt := World.block_lt_of_cell? W _ c1
      rw [hadd] at c1 hlt
      rw [hadd2] at c2 c3 c4
      exact ⟨b, off, rfl, hlt, c1, c2, c3, c4⟩

theorem IsRowK.ri {w : World} {a : Option Addr} {len cap : Nat} {zs : List Int} (h : IsRowK .i64 w a len cap zs) : ∃ xs : List Int, len = xs.length ∧ Ri w a cap xs := by
  obtain ⟨ys, h1, h2, h3, h4, h5, h6⟩ := h.cells
  exact ⟨ys, h1, fun y hy => wfo_i64_bounds (h2 y hy), h3, h4, h6⟩

end Go.Proofs.YtanppgmhlcifiaaGreatDoor

namespace Go.Proofs.YtanppgmhlcifiaaGreatDoor
open Go.RowKit
set_option linter.unusedSimpArgs false
set_option linter.unusedVariables false
end Go.Proofs.YtanppgmhlcifiaaGreatDoor

namespace Go.Proofs.YtanppgmhlcifiaaGreatDoor
open Go.RowKit
set_option linter.unusedSimpArgs false
set_option linter.unusedVariables false

/-- A slice of integers that came in: it is nil; or it leads to a row of 'cap' cells, the numbers 'zs' (the first 'len' are its elements), each fitting its kind. -/
def IsRow (k : IntKind) (w : World) (a : Option Addr) (len cap : Nat) (zs : List Int) : Prop :=
  (a = none ∧ len = 0 ∧ cap = 0 ∧ zs = []) ∨
  ∃ x, a = some x ∧ len ≤ cap ∧ cap ≤ maxLen ∧ zs.length = cap ∧ (∀ i, i < zs.length → w.cell? (x.add i) = some (.int k (zs.getD i 0))) ∧ ∀ n ∈ zs, (Lit.int k n).wf = true

theorem wf_u32_bounds {n : Int} (h : (Lit.int .u32 n).wf = true) : 0 ≤ n ∧ n < 4294967296 := by
  simp [Lit.wf, IntKind.min, IntKind.max, IntKind.bits, IntKind.signed] at h
  omega

theorem IsRow.rd {w : World} {a : Option Addr} {len cap : Nat} {zs : List Int} (h : IsRow .u32 w a len cap zs) : ∃ xs : List Nat, len = xs.length ∧ Rd w a cap xs := by
  rcases h with ⟨rfl, rfl, rfl, rfl⟩ | ⟨x, rfl, h1, h2, h3, hc, hw⟩
  · exact ⟨[], rfl, Rd.nil _ _ _ (Nat.zero_le _) (fun _ => rfl)⟩
  · have hlim : Lim ((zs.take len).map Int.toNat) := by
      intro y hy
      obtain ⟨z, hz, rfl⟩ := List.mem_map.1 hy
      have := wf_u32_bounds (hw z (List.mem_of_mem_take hz))
      omega
    refine ⟨(zs.take len).map Int.toNat, by simp; omega, hlim, by simp; omega, h2, (by simp), ?_⟩
    by_cases h0 : len = 0
    · exact .inl (by simp [h0])
    · obtain ⟨b, off, spot⟩ := x
      have c0 := hc 0 (by omega)
      have hspot : spot = none := by simpa [Addr.add] using World.cell?_spot c0
      subst hspot
      refine .inr ⟨b, off, rfl, ?_, fun i hi => ?_⟩
      · have := World.block_lt_of_cell? w _ c0
        simpa [Addr.add] using this
      · simp at hi
        have hadd : (⟨b, off, none⟩ : Addr).add i = ⟨b, off + i, none⟩ := by unfold Addr.add; split <;> simp_all
        have hci := hc i (by omega)
        rw [hadd] at hci
        rw [hci]
        have hwi := wf_u32_bounds (hw (zs.getD i 0) (by simp [List.getD, show i < zs.length by omega]))
        have e : ((zs.take len).map Int.toNat).getD i 0 = (zs.getD i 0).toNat := by
          simp [List.getD, show i < len by omega, show i < zs.length by omega]
        rw [e, Int.toNat_of_nonneg hwi.1]

end Go.Proofs.YtanppgmhlcifiaaGreatDoor

namespace Go.Proofs.YtanppgmhlcifiaaGreatDoor
open Go.RowKit Go.Maps
set_option linter.unusedSimpArgs false
set_option linter.unusedVariables false

/-- A page with k axes. -/
def stW (l : List Ax) (k : Nat) : St := ⟨be2 (l.length : Nat) ++ axs (l.take k), [], false⟩
theorem stW_len {l : List Ax} {k : Nat} (h : FrA l) (hk : k ≤ l.length) : (be2 (l.length : Nat) ++ axs (l.take k)).length = 2 + 16 * k := by
  rw [List.length_append, axs_len (fun t ht => h.tag (List.mem_of_mem_take ht)), List.length_take_of_le hk]
  rfl
theorem put32A {bs : List Nat} {ws : List Int} {n : Int} (h1 : -2147483648 ≤ n) (h2 : n ≤ 4294967295) : (St.mk bs ws false).put32 n = ⟨bs ++ be4 n, ws, false⟩ := by simp [St.put32, h1, h2, St.app]
theorem put16A {bs : List Nat} {ws : List Int} {n : Int} (h1 : -32768 ≤ n) (h2 : n ≤ 65535) : (St.mk bs ws false).put16 n = ⟨bs ++ be2 n, ws, false⟩ := by simp [St.put16, h1, h2, St.app]
theorem tagA {bs : List Nat} {ws : List Int} {xs : List Nat} (h : gd xs = true) : (St.mk bs ws false).tag xs = ⟨bs ++ xs, ws, false⟩ := by simp [St.tag, h, St.app]
theorem stW_succ {l : List Ax} {k : Nat} {tx : ByteArray} {lo us hi : Int} (hk : k < l.length) (ht : l.getD k Ax.none = ⟨tx, lo, us, hi⟩) {b0 : List Nat} (hb : be2 (l.length : Nat) ++ axs (l.take k) = b0) :
    stW l (k + 1) = ⟨b0 ++ sb tx ++ be4 lo ++ be4 us ++ be4 hi, [], false⟩ := by
  rw [stW, takeA_succ hk, ht, axs_append, axs, axs, axE, ← hb]
  simp
theorem ps_newA (w : World) (G : Nat → Prop) (hG : ∀ k, G k → k < w.heap.size) : Ps (w.alloc (.cells #[.slice none 0 0, .slice none 0 0, .bool false] 76)) w.heap.size G St.zero := by
  refine ⟨fun k hk => by have := hG k hk; simp; omega, fun h => by have := hG _ h; omega, Wf.zero, .slice none 0 0, .slice none 0 0, heap_alloc_new w _, ⟨World.ownsRow_nil _ 0 _ 1, fun g hg => by cases hg⟩, ⟨OwnI.nil _, fun g hg => by cases hg⟩⟩

set_option maxHeartbeats 2000000 in
set_option maxRecDepth 100000 in
theorem swrite_any (a : Option Addr) (cap : Nat) (l : List Ax) (w : World) (h : As w a cap l) :
    Calls Tryz.prog 13 #[.slice a l.length cap] w fun e w' => ∃ a' cap', e = .returned (.tuple #[.slice a' (wrB l).length cap', .int .i64 (wrE l)]) ∧ Rb w' a' cap' (wrB l) ∧ Below w.heap.size w w' := by
  have k1 := h.1
  have k2 := h.2.1
  unfold maxLen at k2
  by_cases hfr : frA l = true
  rotate_left
  · have hfr : frA l = false := by simpa using hfr
    have e1 : Hid (wrE l = 1) := by show wrE l = 1; simp [wrE, hfr]
    have e2 : Hid (wrB l = []) := by show wrB l = []; simp [wrB, hfr]
    go_enter Tryz.func13, Tryz.ntmps13
    go_wp2_with fail
    refine (sformedA_any a cap l _ h).mono ?_
    rintro e u ⟨rfl, hb⟩
    rw [hfr]
    go_wp2
    go_ret2
    exact ⟨none, 0, by rw [e1.out, e2.out]; rfl, by rw [e2.out]; exact Rb.nil _ _ _ (Nat.zero_le _) (fun _ => rfl), hb⟩
  have hf := frA_iff.1 hfr
  have HF : Hid (FrA l) := hf
  have hn := hf.1
  have HE1 : Hid (wrE l = 0) := by show wrE l = 0; simp [wrE, hfr]
  have HE2 : Hid (wrB l = axB l) := by show wrB l = axB l; simp [wrB, hfr]
  go_enter Tryz.func13, Tryz.ntmps13
  go_wp2_with fail
  refine (sformedA_any a cap l _ h).mono ?_
  rintro e u ⟨rfl, hb⟩
  rw [hfr]
  have hA := h.below hb
  have HA : Hid (As u a cap l) := hA
  have hP0 := ps_newA u (· < u.heap.size) (fun _ h => h)
  have hB0 := bl1 (w := u) (.cells #[.slice none 0 0, .slice none 0 0, .bool false] 76)
  clear h hA hfr hf
  go_wp2_with fail
  refine (sput16_any u.heap.size _ _ (l.length : Int) _ hP0 ⟨by omega, by omega⟩ (by decide)).mono ?_
  rintro e u1 ⟨rfl, hP1, hK1⟩
  rw [show St.zero = ⟨[], [], false⟩ from rfl, put16A (by omega) (by omega)] at hP1
  have hB1 : Below u.heap.size u u1 := hB0.trans (hK1.below (fun k hk => hk))
  have hI : Ps u1 u.heap.size (· < u.heap.size) (stW l 0) := by
    simpa [stW, axs] using hP1
  clear hP0 hP1 hK1 hB0
  generalize hBB : u.heap.size = B at *
  have HBB : Hid (u.heap.size = B) := hBB
  clear hBB
  go_wp2
  go_loopw [5] (fun i wr => ∃ k : Nat, k ≤ l.length ∧ i = .int .i64 k ∧ Ps wr B (· < B) (stW l k) ∧ Below B u wr) (fun i _ => l.length - (intOf i).toNat)
  case atStart => exact ⟨0, Nat.zero_le _, rfl, hI, hB1⟩
  case round =>
    obtain ⟨k, hk, rfl, hP, hB⟩ := hrel
    by_cases hkn : k < l.length
    · have at_ : ∀ W, Below B u W → ∃ b off, a = some ⟨b, off, none⟩ ∧ b < B ∧ W.cell? ⟨b, off + k * 4, none⟩ = some (.string (l.getD k Ax.none).tx) ∧ W.cell? ⟨b, off + k * 4 + 1, none⟩ = some (.int .i64 (l.getD k Ax.none).lo) ∧ W.cell? ⟨b, off + k * 4 + 2, none⟩ = some (.int .i64 (l.getD k Ax.none).us) ∧ W.cell? ⟨b, off + k * 4 + 3, none⟩ = some (.int .i64 (l.getD k Ax.none).hi) := by
        intro W hW
        have := HA.out.at (wr := W) (by rw [HBB.out]; exact hW) k hkn
        rw [HBB.out] at this
        exact this
      have hw := HA.out.w hkn
      have ho := onA_iff.1 (HF.out.2.1 _ (getA_mem hkn))
      obtain ⟨s, hs⟩ : ∃ s, l.getD k Ax.none = s := ⟨_, rfl⟩
      rw [hs] at at_ hw ho
      obtain ⟨tx, lo, us, hi⟩ := s
      dsimp only at at_ ho
      obtain ⟨hgd, o1, o2, o3, o4⟩ := ho
      have htx : tx.size ≤ maxLen := hw.1
      obtain ⟨b0, hb0⟩ : ∃ b0, be2 (l.length : Nat) ++ axs (l.take k) = b0 := ⟨_, rfl⟩
      have HLN : Hid (b0.length = 2 + 16 * k) := by show b0.length = _; rw [← hb0]; exact stW_len HF.out hk
      have HG4 : Hid ((sb tx).length = 4) := gdA_len hgd
      have HSU : Hid (_) := stW_succ hkn hs hb0
      rw [stW, hb0] at hP
      have HAT : Hid (∀ W, Below B u W → ∃ b off, a = some ⟨b, off, none⟩ ∧ b < B ∧ W.cell? ⟨b, off + k * 4, none⟩ = some (.string tx) ∧ W.cell? ⟨b, off + k * 4 + 1, none⟩ = some (.int .i64 lo) ∧ W.cell? ⟨b, off + k * 4 + 2, none⟩ = some (.int .i64 us) ∧ W.cell? ⟨b, off + k * 4 + 3, none⟩ = some (.int .i64 hi)) := at_
      obtain ⟨b, off, ea, hbB, d0, d1, d2, d3⟩ := at_ wr hB
      subst ea
      clear at_ hw hs hb0 hI
      go_wp2_with fail
      refine (sputTag_any B _ _ tx _ hP htx (by have := HLN.out; show b0.length + 4 ≤ _; omega)).mono ?_
      rintro e u2 ⟨rfl, hP2, hK2⟩
      rw [tagA hgd] at hP2
      have hB2 := hB.trans (hK2.below (fun k hk => hk))
      obtain ⟨_, _, ea, _, d0, d1, d2, d3⟩ := HAT.out u2 hB2
      cases ea
      clear hP hK2
      go_wp2_with fail
      refine (sput32_any B _ _ lo _ hP2 ⟨by omega, by omega⟩ (by have := HLN.out; have := HG4.out; simp; omega)).mono ?_
      rintro e u3 ⟨rfl, hP3, hK3⟩
      rw [put32A (by omega) (by omega)] at hP3
      have hB3 := hB2.trans (hK3.below (fun k hk => hk))
      obtain ⟨_, _, ea, _, d0, d1, d2, d3⟩ := HAT.out u3 hB3
      cases ea
      clear hP2 hK3
      go_wp2_with fail
      refine (sput32_any B _ _ us _ hP3 ⟨by omega, by omega⟩ (by have := HLN.out; have := HG4.out; simp [be4]; omega)).mono ?_
      rintro e u4 ⟨rfl, hP4, hK4⟩
      rw [put32A (by omega) (by omega)] at hP4
      have hB4 := hB3.trans (hK4.below (fun k hk => hk))
      obtain ⟨_, _, ea, _, d0, d1, d2, d3⟩ := HAT.out u4 hB4
      cases ea
      clear hP3 hK4
      go_wp2_with fail
      refine (sput32_any B _ _ hi _ hP4 ⟨by omega, by omega⟩ (by have := HLN.out; have := HG4.out; simp [be4]; omega)).mono ?_
      rintro e u5 ⟨rfl, hP5, hK5⟩
      rw [put32A (by omega) (by omega), ← HSU.out] at hP5
      have hB5 := hB4.trans (hK5.below (fun k hk => hk))
      clear hP4 hK5
      go_wp2
      go_roundw
      case rel => exact ⟨k + 1, by omega, by go_num, hP5, hB5⟩
      case measure => simp [intOf]; omega
    · obtain rfl : k = l.length := by omega
      have hl := stW_len HF.out (Nat.le_refl _)
      have hall := sall_any B _ _ _ hP (by show (be2 (l.length : Nat) ++ axs (l.take l.length)).length ≤ _; omega)
      have ea : allB (stW l l.length) = axB l := by simp [allB, stW, axB]
      have eb : allE (stW l l.length) = 0 := rfl
      rw [ea, eb] at hall
      have hbw := hb.size
      rw [HBB.out] at hbw
      have hBw : Below w.heap.size w wr := hb.trans (hB.mono hbw)
      clear hI hP ea eb hl
      generalize axB l = fl at *
      go_wp2_with fail
      refine hall.mono ?_
      rintro e u9 ⟨a9, c9, rfl, hr9, hb9⟩
      have hB9 := hBw.trans (hb9.mono hBw.size)
      clear hall
      go_wp2
      go_ret2
      exact ⟨a9, c9, by rw [HE1.out, HE2.out]; rfl, by rw [HE2.out]; exact hr9.rd, hB9⟩

end Go.Proofs.YtanppgmhlcifiaaGreatDoor
