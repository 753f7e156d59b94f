/-
  What a law is told of a slice of bytes, or of int32, that came in.
  What a law is told of a list of ints that came in.
  What a law is told of a tent, and of a list of tents, that came in.
  A fraction that stays. Nothing here is a walk.
  tents.All: the walk.
-/
import Derived.Test.YtdhkpgndpgacbaaDoorZ10
import Derived.ProofKit
import Derived.Deep.Slices
import Derived.Lib.SmallJoins
import Derived.ChangeSame
import Derived.Deep.Strs
import Derived.Test.YtdhkpgndpgacbaaDoorZ11
import Derived.Test.YtdhkpgndpgacbaaDoorZ14
import Derived.Deep.CutRange
namespace Go.Proofs.YtdhkpgndpgacbaaDoor
open Go.RowKit
set_option linter.unusedSimpArgs false
set_option linter.unusedVariables false

/-- A slice of integers that came in: it is nil; or it leads to a row of 'cap' cells, the numbers 'zs' (the first 'len' are its elements), each fitting its kind. -/
def IsRowK (k : IntKind) (w : World) (a : Option Addr) (len cap : Nat) (zs : List Int) : Prop :=
  (a = none ∧ len = 0 ∧ cap = 0 ∧ zs = []) ∨
  ∃ x, a = some x ∧ len ≤ cap ∧ cap ≤ maxLen ∧ zs.length = cap ∧ (∀ i, i < zs.length → w.cell? (x.add i) = some (.int k (zs.getD i 0))) ∧ ∀ n ∈ zs, (Lit.int k n).wf = true

theorem wfo_u8_bounds {n : Int} (h : (Lit.int .u8 n).wf = true) : 0 ≤ n ∧ n < 256 := by
  simp [Lit.wf, IntKind.min, IntKind.max, IntKind.bits, IntKind.signed] at h
  omega
theorem wfo_i32_bounds {n : Int} (h : (Lit.int .i32 n).wf = true) : -2147483648 ≤ n ∧ n ≤ 2147483647 := by
  simp [Lit.wf, IntKind.min, IntKind.max, IntKind.bits, IntKind.signed] at h
  omega
theorem wfo_i64_bounds {n : Int} (h : (Lit.int .i64 n).wf = true) : -9223372036854775808 ≤ n ∧ n ≤ 9223372036854775807 := by
  simp [Lit.wf, IntKind.min, IntKind.max, IntKind.bits, IntKind.signed] at h
  omega

theorem IsRowK.cells {k : IntKind} {w : World} {a : Option Addr} {len cap : Nat} {zs : List Int} (h : IsRowK k w a len cap zs) :
    ∃ ys : List Int, len = ys.length ∧ (∀ y ∈ ys, (Lit.int k y).wf = true) ∧ ys.length ≤ cap ∧ cap ≤ maxLen ∧ (a = none → cap = 0) ∧
      (ys = [] ∨ ∃ b off, a = some ⟨b, off, none⟩ ∧ b < w.heap.size ∧ ∀ i, i < ys.length → w.cell? ⟨b, off + i, none⟩ = some (.int k (ys.getD i 0))) := by
  rcases h with ⟨rfl, rfl, rfl, rfl⟩ | ⟨x, rfl, h1, h2, h3, hc, hw⟩
  · exact ⟨[], rfl, (fun y hy => by cases hy), Nat.le_refl _, Nat.zero_le _, fun _ => rfl, .inl rfl⟩
  · refine ⟨zs.take len, by simp; omega, fun y hy => hw y (List.mem_of_mem_take hy), by simp; omega, h2, (by simp), ?_⟩
    by_cases h0 : len = 0
    · exact .inl (by simp [h0])
    · obtain ⟨b, off, spot⟩ := x
      have c0 := hc 0 (by omega)
      have hspot : spot = none := by simpa [Addr.add] using World.cell?_spot c0
      subst hspot
      refine .inr ⟨b, off, rfl, ?_, fun i hi => ?_⟩
      · have := World.block_lt_of_cell? w _ c0
        simpa [Addr.add] using this
      · simp at hi
        have hadd : (⟨b, off, none⟩ : Addr).add i = ⟨b, off + i, none⟩ := by unfold Addr.add; split <;> simp_all
        have hci := hc i (by omega)
        rw [hadd] at hci
        rw [hci]
        simp [List.getD, show i < len by omega]

theorem IsRowK.rb {w : World} {a : Option Addr} {len cap : Nat} {zs : List Int} (h : IsRowK .u8 w a len cap zs) : ∃ xs : List Nat, len = xs.length ∧ Rb w a cap xs := by
  obtain ⟨ys, h1, h2, h3, h4, h5, h6⟩ := h.cells
  have hb : ∀ y ∈ ys, 0 ≤ y ∧ y < 256 := fun y hy => wfo_u8_bounds (h2 y hy)
  refine ⟨ys.map Int.toNat, by simp [h1], ?_, by simpa using h3, h4, h5, ?_⟩
  · intro x hx
    obtain ⟨y, hy, rfl⟩ := List.mem_map.1 hx
    have := hb y hy
    omega
  · rcases h6 with rfl | ⟨b, off, e, hlt, hc⟩
    · exact .inl rfl
    · refine .inr ⟨b, off, e, hlt, fun i hi => ?_⟩
      simp at hi
      rw [hc i hi]
      have h0 : ys.getD i 0 = ys[i] := by simp [List.getD, hi]
      have hy := hb ys[i] (List.getElem_mem hi)
      rw [h0]
      simp [List.getD, hi]
      omega

end Go.Proofs.YtdhkpgndpgacbaaDoor

namespace Go.Proofs.YtdhkpgndpgacbaaDoor
open Go.RowKit
open Go.ChangeShapes Go.WideShapes Go.Joins Go.Deep
set_option linter.unusedSimpArgs false
set_option linter.unusedVariables false

theorem IsRowK.ri {w : World} {a : Option Addr} {len cap : Nat} {zs : List Int} (h : IsRowK .i64 w a len cap zs) : ∃ xs : List Int, len = xs.length ∧ Ri w a cap xs := by
  obtain ⟨ys, h1, h2, h3, h4, h5, h6⟩ := h.cells
  exact ⟨ys, h1, fun y hy => wfo_i64_bounds (h2 y hy), h3, h4, h6⟩

end Go.Proofs.YtdhkpgndpgacbaaDoor

namespace Go.Proofs.YtdhkpgndpgacbaaDoor
open Go.RowKit
open Go.ChangeShapes Go.WideShapes Go.Joins Go.Deep
set_option linter.unusedSimpArgs false
set_option linter.unusedVariables false

theorem list_of_ltT {α : Type} {d : α} {p : Nat → α → Prop} : ∀ n, (∀ i, i < n → ∃ o, p i o) → ∃ os : List α, os.length = n ∧ ∀ i, i < n → p i (os.getD i d) := by
  intro n
  induction n with
  | zero => exact fun _ => ⟨[], rfl, fun i hi => by omega⟩
  | succ n ih =>
    intro h
    obtain ⟨os, hl, ho⟩ := ih (fun i hi => h i (by omega))
    obtain ⟨o, h1⟩ := h n (by omega)
    refine ⟨os ++ [o], by simp [hl], fun i hi => ?_⟩
    by_cases hi' : i < n
    · have e : (os ++ [o]).getD i d = os.getD i d := by simp [List.getD, List.getElem?_append_left (show i < os.length by omega)]
      rw [e]
      exact ho i hi'
    · have e : i = n := by omega
      subst e
      have e : (os ++ [o]).getD i d = o := by simp [List.getD, ← hl]
      rw [e]
      exact h1
theorem add0T (y : Addr) : y.add 0 = y := by
  obtain ⟨b, off, spot⟩ := y
  cases spot <;> simp [Addr.add]

theorem cellsTe : Tryd.prog.cellsOf 23 = 3 := by kernel_rfl
theorem cellsTi : Tryd.prog.cellsOf 3 = 1 := by kernel_rfl

set_option maxRecDepth 100000 in
/-- A tent by value. -/
theorem open_tent {H : Type} {enc : TypeId × Value → H} {W : World} {sp : Nat → Bool} {held : Bool} {r : Reach} {b0 : Nat} {v : Value} {d : DataW H} {p : List MemPlace}
    (hv : Value.okWide Tryd.prog W r b0 23 v) (h : DataW.Trod enc Tryd.prog W 0 sp held 23 v d p) :
    ∃ t : Te, v = .agg (teC t) ∧ Tw t := by
  obtain ⟨v0, v1, v2, y0, y1, y2, n, rfl, _, _, t0, t1, t2⟩ := open_agg3 Tryd.underlying23 (by kernel_rfl) cellsTe hv h
  obtain ⟨z0, e0, _, w0⟩ := DataW.trod_int Tryd.underlying3 t0
  obtain ⟨z1, e1, _, w1⟩ := DataW.trod_int Tryd.underlying3 t1
  obtain ⟨z2, e2, _, w2⟩ := DataW.trod_int Tryd.underlying3 t2
  simp at e0 e1 e2
  subst e0 e1 e2
  exact ⟨⟨z0, z1, z2⟩, rfl, wfo_i64_bounds w0, wfo_i64_bounds w1, wfo_i64_bounds w2⟩

set_option maxRecDepth 100000 in
/-- A list of tents. -/
theorem open_tents {H : Type} {enc : TypeId × Value → H} {W : World} {sp : Nat → Bool} {held : Bool} {d : DataW H} {p : List MemPlace} {a : Option Addr} {len cap : Nat} (h : DataW.Trod enc Tryd.prog W 0 sp held 45 (.slice a len cap) d p) :
    ∃ l : List Te, len = l.length ∧ Tz W a cap l := by
  obtain ⟨fuel, hf⟩ := h
  rcases open_slice Tryd.underlying45 hf with ⟨hcs, _⟩ | ⟨x, l, c, m, n, D, Pl, hcs, _, hl, hm, hmm, _, hel⟩
  · simp [Value.cells] at hcs
    obtain ⟨rfl, rfl, rfl⟩ := hcs
    exact ⟨[], rfl, Tz.nil _ _ _ (Nat.zero_le _) (fun _ => rfl)⟩
  · simp [Value.cells] at hcs
    obtain ⟨rfl, rfl, rfl⟩ := hcs
    have hle : len ≤ m := by rw [hmm]; split <;> omega
    have hone : ∀ i, i < len → ∃ o : Te, Tw o ∧ W.cell? (x.add (i * 3)) = some (.int .i64 o.st) ∧ W.cell? ((x.add (i * 3)).add 1) = some (.int .i64 o.pk) ∧ W.cell? ((x.add (i * 3)).add 2) = some (.int .i64 o.en) := by
      intro i hi
      obtain ⟨cs', hc, ht⟩ := hel i (by omega)
      rw [cellsTe] at hc
      obtain ⟨y0, y1, y2, n', hx, hlen, t0, t1, t2⟩ := trod_struct3 Tryd.underlying23 ht
      rw [cellsTe] at hlen
      match cs', hlen with
      | [v0, v1, v2], _ =>
        dsimp only at t0 t1 t2
        rw [cellsTi] at t0 t1 t2
        obtain ⟨z0, e0, _, w0⟩ := DataW.trod_int Tryd.underlying3 t0
        obtain ⟨z1, e1, _, w1⟩ := DataW.trod_int Tryd.underlying3 t1
        obtain ⟨z2, e2, _, w2⟩ := DataW.trod_int Tryd.underlying3 t2
        simp at e0 e1 e2
        subst e0 e1 e2
        obtain ⟨_, _, hcell⟩ := World.cells?_some hc
        refine ⟨⟨z0, z1, z2⟩, ⟨wfo_i64_bounds w0, wfo_i64_bounds w1, wfo_i64_bounds w2⟩, ?_, hcell 1 (by omega), hcell 2 (by omega)⟩
        have := hcell 0 (by omega)
        rw [add0T] at this
        exact this
    obtain ⟨os, hol, ho⟩ := list_of_ltT (d := Te.none) len hone
    refine ⟨os, hol.symm, by omega, hm, fun o hm => ?_, (fun e => by cases e), fun i hi => ?_⟩
    · obtain ⟨i, hi, e⟩ := List.getElem_of_mem hm
      have := (ho i (by omega)).1
      rw [List.getD_eq_getElem?_getD, List.getElem?_eq_getElem hi] at this
      rw [← e]
      exact this
    · obtain ⟨_, c1, c2, c3⟩ := ho i (by omega)
      obtain ⟨b, off, spot⟩ := x
      have hspot : spot = none := by
        have := World.cell?_spot (ho 0 (by omega)).2.1
        simpa [Addr.add] using this
      subst hspot
      have hadd : ∀ i, (⟨b, off, none⟩ : Addr).add i = ⟨b, off + i, none⟩ := by intro i; unfold Addr.add; split <;> simp_all
      have hadd2 : ∀ i j, ((⟨b, off, none⟩ : Addr).add i).add j = ⟨b, off + i + j, none⟩ := by intro i j; rw [hadd]; unfold Addr.add; split <;> simp_all
      have hlt := World.block_lt_of_cell? W _ c1
      rw [hadd] at c1 hlt
      rw [hadd2] at c2 c3
      exact ⟨b, off, rfl, hlt, c1, c2, c3⟩

end Go.Proofs.YtdhkpgndpgacbaaDoor

namespace Go.Proofs.YtdhkpgndpgacbaaDoor
open Go.RowKit Go.Maps
set_option linter.unusedSimpArgs false
set_option linter.unusedVariables false

/-- A fraction stays, where its limbs do. -/
theorem Fr.moved {u U : World} {v : Value} {k : Nat} {q : Rat} (h : Fr u v k q) (hK : ∀ a c xs, Rd u a c xs → Rd U a c xs) : Fr U v k q := by
  obtain ⟨n, xs, ys, ⟨a, c, a', c', e, h1, h2⟩, h3⟩ := h
  exact ⟨n, xs, ys, ⟨a, c, a', c', e, hK _ _ _ h1, hK _ _ _ h2⟩, h3⟩

end Go.Proofs.YtdhkpgndpgacbaaDoor

namespace Go.Proofs.YtdhkpgndpgacbaaDoor
open Go.RowKit Go.Maps
set_option linter.unusedSimpArgs false
set_option linter.unusedVariables false

set_option maxHeartbeats 4000000 in
set_option maxRecDepth 100000 in
theorem callT_any (a : Option Addr) (cap : Nat) (l : List Te) (pa : Option Addr) (pc : Nat) (cs : List Int) (w : World) (h : Tz w a cap l) (hp : Ri w pa pc cs) (hl : l.length ≤ 1000) :
    Calls Tryd.prog 20 #[.slice a l.length cap, .slice pa cs.length pc] w fun e w' => ∃ v', e = .returned v' ∧ Fr w' v' (2 + 2 * l.length) (alQ l cs) ∧ Below w.heap.size w w' := by
  have k2 := h.lenB
  have k3 := hp.lenB
  have HH : Hid (Tz w a cap l) := h
  have HP : Hid (Ri w pa pc cs) := hp
  obtain ⟨W0, hW0, B0, hbW⟩ : ∃ W, W = w.alloc (.cells #[.bool false, .slice none 0 0, .slice none 0 0] 34) ∧ Box 34 W w.heap.size (.bool false) (.slice none 0 0) (.slice none 0 0) ∧ Below w.heap.size w W := ⟨_, rfl, Box.new _ _ _ _ _, al1 _⟩
  clear h hp
  go_enter Tryd.func20, Tryd.ntmps20
  go_wp2_with fail
  rw [← hW0]
  clear hW0
  refine (whole_any 1 _ (by decide) (by decide)).mono ?_
  rintro e U1 ⟨v5, rfl, hF5, hb5⟩
  replace B0 := B0.below hb5
  replace hbW := hbW.trans (hb5.mono hbW.size)
  clear hb5
  obtain ⟨n5, x5, y5, ⟨a5, c5, b5, d5, rfl, hx5, hy5⟩, hF5⟩ := hF5
  have hlt := B0.lt
  have P5 := Box.new 34 U1 (.bool n5) (.slice a5 x5.length c5) (.slice b5 y5.length d5)
  have hF5 : Fr (U1.alloc (.cells #[.bool n5, .slice a5 x5.length c5, .slice b5 y5.length d5] 34)) (.agg #[.bool n5, .slice a5 x5.length c5, .slice b5 y5.length d5]) (2 + 2 * 0) (alK l cs 0) := Fr.below ⟨_, _, _, ⟨_, _, _, _, rfl, hx5, hy5⟩, hF5⟩ (al1 _)
  replace B0 := B0.alloc (.cells #[.bool n5, .slice a5 x5.length c5, .slice b5 y5.length d5] 34)
  replace hbW := hbW.alloc hbW.size (.cells #[.bool n5, .slice a5 x5.length c5, .slice b5 y5.length d5] 34)
  clear hx5 hy5
  go_wp2
  go_loopw [12] (fun i wr => ∃ (k : Nat) (n5 : Bool) (a5 : Option Addr) (x5 c5 : Nat) (b5 : Option Addr) (y5 d5 : Nat), k ≤ l.length ∧ i = .int .i64 (k : Int) ∧ Box 34 wr U1.heap.size (.bool n5) (.slice a5 x5 c5) (.slice b5 y5 d5) ∧ Fr wr (.agg #[.bool n5, .slice a5 x5 c5, .slice b5 y5 d5]) (2 + 2 * k) (alK l cs k) ∧ Box 34 wr w.heap.size (.bool false) (.slice none 0 0) (.slice none 0 0) ∧ Below w.heap.size w wr) (fun i _ => l.length - (intOf i).toNat)
  case atStart => exact ⟨0, _, _, _, _, _, _, _, Nat.zero_le _, rfl, P5, hF5, B0, hbW⟩
  case round =>
    clear P5 hF5 B0 hbW
    obtain ⟨k, n5, a5, x5, c5, b5, y5, d5, hk, rfl, P5, hF5, B0, hbW⟩ := hrel
    by_cases hkn : k < l.length
    · obtain ⟨b0, off, ea, hb0, e0, e1, e2⟩ := HH.out.at hbW k hkn
      subst ea
      obtain ⟨z, hz⟩ : ∃ z, cs.getD k 0 = z := ⟨_, rfl⟩
      have hzi : I64 z := by
        by_cases h1 : k < cs.length
        · rw [← hz]; exact HP.out.i64 h1
        · rw [← hz, List.getD_eq_getElem?_getD, List.getElem?_eq_none (by omega)]; exact ⟨by decide, by decide⟩
      have hco := fun U hU => coordOf_any pa pc cs k U hU (by omega)
      simp only [hz] at hco
      obtain ⟨t, ht⟩ : ∃ t, l.getD k Te.none = t := ⟨_, rfl⟩
      have HK : Hid (alK l cs (k + 1) = alK l cs k * paQ t z) := by show _ = _; rw [alK_succ, ht, hz]
      have HZ : Hid (paQ t z = 0 → alQ l cs = paQ t z) := fun e => by rw [e]; exact alQ_zero hkn (by rw [ht, hz]; exact e)
      rw [ht] at e0 e1 e2
      clear ht hz
      have hpa := fun U => cpart_any t z U hzi
      obtain ⟨q, hq⟩ : ∃ q, paQ t z = q := ⟨_, rfl⟩
      simp only [hq] at hpa HK HZ
      clear hq hzi
      obtain ⟨st, pk, en⟩ := t
      dsimp only at *
      obtain ⟨V, hV, X1, hb1⟩ : ∃ V, V = wr.alloc (.cells #[.int .i64 st, .int .i64 pk, .int .i64 en] 23) ∧ Box 23 V wr.heap.size (.int .i64 st) (.int .i64 pk) (.int .i64 en) ∧ Below wr.heap.size wr V := ⟨_, rfl, Box.new _ _ _ _ _, al1 _⟩
      have HP5 : Hid (Box 34 V U1.heap.size (.bool n5) (.slice a5 x5 c5) (.slice b5 y5 d5)) := P5.below hb1
      have HF5 : Hid (Fr V (.agg #[.bool n5, .slice a5 x5 c5, .slice b5 y5 d5]) (2 + 2 * k) (alK l cs k)) := hF5.below hb1
      have HB0 : Hid (Box 34 V w.heap.size (.bool false) (.slice none 0 0) (.slice none 0 0)) := B0.below hb1
      replace hbW := hbW.trans (hb1.mono hbW.size)
      have HBW : Hid (Below w.heap.size w V) := hbW
      have HX1 : Hid (Box 23 V wr.heap.size (.int .i64 st) (.int .i64 pk) (.int .i64 en)) := X1
      have hp := HP.out.below hbW
      clear P5 hF5 B0 hb1
      have hwr : IntKind.i64.wrap (k : Int) = k := wrapi64 (by omega) (by omega)
      go_upto_region 5 with fail
      rw [← hV]
      clear hV e0 e1 e2
      go_cut [8] from 13 to 29 (fun s8 wx => ∃ (g8 : Nat) (n8 : Bool) (a8 : Option Addr) (x8 c8 : Nat) (b8 : Option Addr) (y8 d8 : Nat), s8 = .pointer (some ⟨g8, 0, none⟩) ∧ Box 34 wx g8 (.bool n8) (.slice a8 x8 c8) (.slice b8 y8 d8) ∧ Fr wx (.agg #[.bool n8, .slice a8 x8 c8, .slice b8 y8 d8]) 2 q ∧ V.heap.size ≤ g8 ∧ Below V.heap.size V wx)
      case first =>
        have hbR : Below V.heap.size V V := Below.refl _ _
        obtain ⟨p00, p01, p02, _⟩ := X1.cells
        refine wp_region_held_drew (S := (fun u => u.cell? ⟨wr.heap.size, 0, none⟩ = some (.int .i64 st) ∧ u.cell? ⟨wr.heap.size, 1, none⟩ = some (.int .i64 pk) ∧ u.cell? ⟨wr.heap.size, 2, none⟩ = some (.int .i64 en))) (by kernel_rfl) ?_ (fun hHeld => ?_)
        · (try dsimp only)
          go_keep
        have hdr : Below V.heap.size V V.drew := Below.drew1
        generalize V.drew = ud1 at hdr hHeld ⊢
        replace hp := hp.below hdr
        replace X1 := X1.below hdr
        replace hbW : Below w.heap.size w ud1 := hbW.trans (hdr.mono hbW.size)
        replace hbR : Below V.heap.size V ud1 := hbR.trans (hdr.mono hbR.size)
        clear hdr
        clear p00 p01 p02
        obtain ⟨p00, p01, p02, _⟩ := X1.cells
        refine hT 0 hHeld ?_
        refine hT 1 hHeld ?_
        refine hT 2 hHeld ?_
        refine wpAnyH_ready (rs := [3, 5]) (by kernel_rfl) (by simp) (hCons (i := 3) rfl (by rfl) (fun K hK => ?_) (hCons (i := 5) rfl (by rfl) (fun K hK => ?_) AllReadyH.nil))
        · go_simp
          refine (hco _ hp).mono ?_
          rintro e u1 ⟨rfl, hb1⟩
          replace hp := hp.below hb1
          replace X1 := X1.below hb1
          replace hbW : Below w.heap.size w u1 := hbW.trans (hb1.mono hbW.size)
          replace hbR : Below V.heap.size V u1 := hbR.trans (hb1.mono hbR.size)
          clear hb1
          clear p00 p01 p02
          obtain ⟨p00, p01, p02, _⟩ := X1.cells
          go_wp2_with fail
          refine hK.out _ _ ?_ (fun hHeld => ?_)
          · (try dsimp only)
            exact ⟨p00, p01, p02⟩
          clear hK K
          try simp only [Act.put, List.setIfInBounds_toArray, List.set_cons_zero, List.set_cons_succ]
          refine wpAnyH_ready (rs := [4, 5]) (by kernel_rfl) (by simp) (hCons (i := 4) rfl (by rfl) (fun K hK => ?_) (hCons (i := 5) rfl (by rfl) (fun K hK => ?_) AllReadyH.nil))
          · go_simp
            refine (hpa _).mono ?_
            rintro e u2 ⟨v8, rfl, hF8, hb2⟩
            replace hp := hp.below hb2
            replace X1 := X1.below hb2
            replace hbW : Below w.heap.size w u2 := hbW.trans (hb2.mono hbW.size)
            replace hbR : Below V.heap.size V u2 := hbR.trans (hb2.mono hbR.size)
            clear hb2
            obtain ⟨n8, x8, y8, ⟨a8, c8, b8, d8, rfl, hx8, hy8⟩, hF8⟩ := hF8
            clear p00 p01 p02
            obtain ⟨p00, p01, p02, _⟩ := X1.cells
            go_wp2_with fail
            refine hK.out _ _ ?_ (fun hHeld => ?_)
            · (try dsimp only)
              exact ⟨p00, p01, p02⟩
            clear hK K
            try simp only [Act.put, List.setIfInBounds_toArray, List.set_cons_zero, List.set_cons_succ]
            refine hCall (i := 5) rfl (by kernel_rfl) (by rfl) (fun K hK => ?_)
            go_simp
            obtain ⟨u63, hU, B8, hb9⟩ : ∃ U, U = u2.alloc (.cells #[.bool false, .slice none 0 0, .slice none 0 0] 34) ∧ Box 34 U u2.heap.size (.bool false) (.slice none 0 0) (.slice none 0 0) ∧ Below u2.heap.size u2 U := ⟨_, rfl, Box.new _ _ _ _ _, al1 _⟩
            rw [← hU]
            clear hU
            have n81 := hbR.size
            have n82 := hbW.size
            replace hp := hp.below hb9
            replace hx8 := hx8.below hb9
            replace hy8 := hy8.below hb9
            replace X1 := X1.below hb9
            replace hbW : Below w.heap.size w u63 := hbW.trans (hb9.mono hbW.size)
            replace hbR : Below V.heap.size V u63 := hbR.trans (hb9.mono hbR.size)
            clear hb9
            generalize u2.heap.size = g8 at B8 n81 n82 ⊢
            clear p00 p01 p02
            obtain ⟨p00, p01, p02, _⟩ := X1.cells
            obtain ⟨p10, p11, p12, _⟩ := B8.cells
            refine hK.out _ _ ?_ (fun hHeld => ?_)
            · (try dsimp only)
              exact ⟨p00, p01, p02⟩
            clear hK K
            try simp only [Act.put, List.setIfInBounds_toArray, List.set_cons_zero, List.set_cons_succ]
            refine hCall (i := 6) rfl (by kernel_rfl) (by rfl) (fun K hK => ?_)
            go_simp
            obtain ⟨u64, hU, A8, hbU, hK9, ho⟩ := set3_world B8 (.bool n8) (.slice a8 x8.length c8) (.slice b8 y8.length d8)
            rw [← hU]
            clear hU
            replace hbW := hbU _ _ hbW (by omega)
            replace hbR := hbU _ _ hbR (by omega)
            replace hx8 := hK9 _ _ _ hx8
            replace hy8 := hK9 _ _ _ hy8
            clear hbU hK9 ho X1
            have X1 := HX1.out.below hbR
            clear p00 p01 p02 p10 p11 p12
            obtain ⟨p00, p01, p02, _⟩ := X1.cells
            obtain ⟨p10, p11, p12, _⟩ := A8.cells
            refine hK.out _ _ ?_ (fun hHeld => ?_)
            · (try dsimp only)
              exact ⟨p00, p01, p02⟩
            clear hK K
            try simp only [Act.put, List.setIfInBounds_toArray, List.set_cons_zero, List.set_cons_succ]
            refine wpAnyH_done (by kernel_rfl) ?_ _
            clear hHeld
            go_wp2_with fail
            go_meet
            exact ⟨g8, _, _, _, _, _, _, _, rfl, A8, ⟨_, _, _, ⟨_, _, _, _, rfl, hx8, hy8⟩, hF8⟩, n81, hbR⟩
          · go_simp
            obtain ⟨u62, hU, B8, hb9⟩ : ∃ U, U = u1.alloc (.cells #[.bool false, .slice none 0 0, .slice none 0 0] 34) ∧ Box 34 U u1.heap.size (.bool false) (.slice none 0 0) (.slice none 0 0) ∧ Below u1.heap.size u1 U := ⟨_, rfl, Box.new _ _ _ _ _, al1 _⟩
            rw [← hU]
            clear hU
            have n81 := hbR.size
            have n82 := hbW.size
            replace hp := hp.below hb9
            replace X1 := X1.below hb9
            replace hbW : Below w.heap.size w u62 := hbW.trans (hb9.mono hbW.size)
            replace hbR : Below V.heap.size V u62 := hbR.trans (hb9.mono hbR.size)
            clear hb9
            generalize u1.heap.size = g8 at B8 n81 n82 ⊢
            clear p00 p01 p02
            obtain ⟨p00, p01, p02, _⟩ := X1.cells
            obtain ⟨p10, p11, p12, _⟩ := B8.cells
            refine hK.out _ _ ?_ (fun hHeld => ?_)
            · (try dsimp only)
              exact ⟨p00, p01, p02⟩
            clear hK K
            try simp only [Act.put, List.setIfInBounds_toArray, List.set_cons_zero, List.set_cons_succ]
            refine hCall (i := 4) rfl (by kernel_rfl) (by rfl) (fun K hK => ?_)
            go_simp
            refine (hpa _).mono ?_
            rintro e u3 ⟨v8, rfl, hF8, hb3⟩
            replace hp := hp.below hb3
            replace X1 := X1.below hb3
            replace B8 := B8.below hb3
            replace hbW : Below w.heap.size w u3 := hbW.trans (hb3.mono hbW.size)
            replace hbR : Below V.heap.size V u3 := hbR.trans (hb3.mono hbR.size)
            clear hb3
            obtain ⟨n8, x8, y8, ⟨a8, c8, b8, d8, rfl, hx8, hy8⟩, hF8⟩ := hF8
            clear p00 p01 p02 p10 p11 p12
            obtain ⟨p00, p01, p02, _⟩ := X1.cells
            obtain ⟨p10, p11, p12, _⟩ := B8.cells
            go_wp2_with fail
            refine hK.out _ _ ?_ (fun hHeld => ?_)
            · (try dsimp only)
              exact ⟨p00, p01, p02⟩
            clear hK K
            try simp only [Act.put, List.setIfInBounds_toArray, List.set_cons_zero, List.set_cons_succ]
            refine hCall (i := 6) rfl (by kernel_rfl) (by rfl) (fun K hK => ?_)
            go_simp
            obtain ⟨u64, hU, A8, hbU, hK9, ho⟩ := set3_world B8 (.bool n8) (.slice a8 x8.length c8) (.slice b8 y8.length d8)
            rw [← hU]
            clear hU
            replace hbW := hbU _ _ hbW (by omega)
            replace hbR := hbU _ _ hbR (by omega)
            replace hx8 := hK9 _ _ _ hx8
            replace hy8 := hK9 _ _ _ hy8
            clear hbU hK9 ho X1
            have X1 := HX1.out.below hbR
            clear p00 p01 p02 p10 p11 p12
            obtain ⟨p00, p01, p02, _⟩ := X1.cells
            obtain ⟨p10, p11, p12, _⟩ := A8.cells
            refine hK.out _ _ ?_ (fun hHeld => ?_)
            · (try dsimp only)
              exact ⟨p00, p01, p02⟩
            clear hK K
            try simp only [Act.put, List.setIfInBounds_toArray, List.set_cons_zero, List.set_cons_succ]
            refine wpAnyH_done (by kernel_rfl) ?_ _
            clear hHeld
            go_wp2_with fail
            go_meet
            exact ⟨g8, _, _, _, _, _, _, _, rfl, A8, ⟨_, _, _, ⟨_, _, _, _, rfl, hx8, hy8⟩, hF8⟩, n81, hbR⟩
        · go_simp
          obtain ⟨u61, hU, B8, hb9⟩ : ∃ U, U = ud1.alloc (.cells #[.bool false, .slice none 0 0, .slice none 0 0] 34) ∧ Box 34 U ud1.heap.size (.bool false) (.slice none 0 0) (.slice none 0 0) ∧ Below ud1.heap.size ud1 U := ⟨_, rfl, Box.new _ _ _ _ _, al1 _⟩
          rw [← hU]
          clear hU
          have n81 := hbR.size
          have n82 := hbW.size
          replace hp := hp.below hb9
          replace X1 := X1.below hb9
          replace hbW : Below w.heap.size w u61 := hbW.trans (hb9.mono hbW.size)
          replace hbR : Below V.heap.size V u61 := hbR.trans (hb9.mono hbR.size)
          clear hb9
          generalize ud1.heap.size = g8 at B8 n81 n82 ⊢
          clear p00 p01 p02
          obtain ⟨p00, p01, p02, _⟩ := X1.cells
          obtain ⟨p10, p11, p12, _⟩ := B8.cells
          refine hK.out _ _ ?_ (fun hHeld => ?_)
          · (try dsimp only)
            exact ⟨p00, p01, p02⟩
          clear hK K
          try simp only [Act.put, List.setIfInBounds_toArray, List.set_cons_zero, List.set_cons_succ]
          refine hCall (i := 3) rfl (by kernel_rfl) (by rfl) (fun K hK => ?_)
          go_simp
          refine (hco _ hp).mono ?_
          rintro e u2 ⟨rfl, hb2⟩
          replace hp := hp.below hb2
          replace X1 := X1.below hb2
          replace B8 := B8.below hb2
          replace hbW : Below w.heap.size w u2 := hbW.trans (hb2.mono hbW.size)
          replace hbR : Below V.heap.size V u2 := hbR.trans (hb2.mono hbR.size)
          clear hb2
          clear p00 p01 p02 p10 p11 p12
          obtain ⟨p00, p01, p02, _⟩ := X1.cells
          obtain ⟨p10, p11, p12, _⟩ := B8.cells
          go_wp2_with fail
          refine hK.out _ _ ?_ (fun hHeld => ?_)
          · (try dsimp only)
            exact ⟨p00, p01, p02⟩
          clear hK K
          try simp only [Act.put, List.setIfInBounds_toArray, List.set_cons_zero, List.set_cons_succ]
          refine hCall (i := 4) rfl (by kernel_rfl) (by rfl) (fun K hK => ?_)
          go_simp
          refine (hpa _).mono ?_
          rintro e u3 ⟨v8, rfl, hF8, hb3⟩
          replace hp := hp.below hb3
          replace X1 := X1.below hb3
          replace B8 := B8.below hb3
          replace hbW : Below w.heap.size w u3 := hbW.trans (hb3.mono hbW.size)
          replace hbR : Below V.heap.size V u3 := hbR.trans (hb3.mono hbR.size)
          clear hb3
          obtain ⟨n8, x8, y8, ⟨a8, c8, b8, d8, rfl, hx8, hy8⟩, hF8⟩ := hF8
          clear p00 p01 p02 p10 p11 p12
          obtain ⟨p00, p01, p02, _⟩ := X1.cells
          obtain ⟨p10, p11, p12, _⟩ := B8.cells
          go_wp2_with fail
          refine hK.out _ _ ?_ (fun hHeld => ?_)
          · (try dsimp only)
            exact ⟨p00, p01, p02⟩
          clear hK K
          try simp only [Act.put, List.setIfInBounds_toArray, List.set_cons_zero, List.set_cons_succ]
          refine hCall (i := 6) rfl (by kernel_rfl) (by rfl) (fun K hK => ?_)
          go_simp
          obtain ⟨u64, hU, A8, hbU, hK9, ho⟩ := set3_world B8 (.bool n8) (.slice a8 x8.length c8) (.slice b8 y8.length d8)
          rw [← hU]
          clear hU
          replace hbW := hbU _ _ hbW (by omega)
          replace hbR := hbU _ _ hbR (by omega)
          replace hx8 := hK9 _ _ _ hx8
          replace hy8 := hK9 _ _ _ hy8
          clear hbU hK9 ho X1
          have X1 := HX1.out.below hbR
          clear p00 p01 p02 p10 p11 p12
          obtain ⟨p00, p01, p02, _⟩ := X1.cells
          obtain ⟨p10, p11, p12, _⟩ := A8.cells
          refine hK.out _ _ ?_ (fun hHeld => ?_)
          · (try dsimp only)
            exact ⟨p00, p01, p02⟩
          clear hK K
          try simp only [Act.put, List.setIfInBounds_toArray, List.set_cons_zero, List.set_cons_succ]
          refine wpAnyH_done (by kernel_rfl) ?_ _
          clear hHeld
          go_wp2_with fail
          go_meet
          exact ⟨g8, _, _, _, _, _, _, _, rfl, A8, ⟨_, _, _, ⟨_, _, _, _, rfl, hx8, hy8⟩, hF8⟩, n81, hbR⟩
      case rest =>
        clear hbW hp X1 hco hpa
        obtain ⟨g8, n8, a8, x8, c8, b8, y8, d8, rfl, A8, hF8, n81, hbR⟩ := hcut
        have P5 := HP5.out.below hbR
        have hF5 := HF5.out.below hbR
        have B0 := HB0.out.below hbR
        have hbW := HBW.out.trans (hbR.mono HBW.out.size)
        have s1 := HP5.out.lt
        have s2 := HBW.out.size
        clear hbR
        obtain ⟨p0, p1, p2, _⟩ := A8.cells
        go_wp2_with fail
        refine (qsign_any 2 q _ _ hF8.ct (by decide) (by decide)).mono ?_
        rintro e u7 ⟨rfl, hb7⟩
        replace A8 := A8.below hb7
        replace hF8 := hF8.below hb7
        replace P5 := P5.below hb7
        replace hF5 := hF5.below hb7
        replace B0 := B0.below hb7
        replace hbW := hbW.trans (hb7.mono hbW.size)
        clear hb7 p0 p1 p2
        obtain ⟨p0, p1, p2, _⟩ := A8.cells
        by_cases hq : q = 0
        · have HQ : Hid (alQ l cs = q) := HZ.out hq
          have e1 : sgnQ q = 0 := sgnQ_zero.2 hq
          rw [e1]
          clear e1 hq
          obtain ⟨q1, q2, q3, q4, q5, q6⟩ := B0.cells
          have hs := B0.lt
          go_wp2
          refine ret3 (v := .agg #[.bool n8, .slice a8 x8 c8, .slice b8 y8 d8]) B0 rfl (fun U hU => by obtain ⟨r1, r2, r3, _⟩ := hU.cells; simp [results, Tryd.results20, go_sem, r1, r2, r3]) (fun U hU hK => ⟨_, rfl, by rw [HQ.out]; exact (hF8.moved hK).le (by omega), hU _ _ hbW (by omega)⟩)
        · have e1 : ¬ sgnQ q = 0 := fun e => hq (sgnQ_zero.1 e)
          have g1 : (sgnQ q == 0) = false := by simp [e1]
          generalize sgnQ q = s at *
          clear e1 hq
          obtain ⟨q1, q2, q3, _⟩ := P5.cells
          go_wp2_with fail
          refine (qmul_any (2 + 2 * k) 2 (alK l cs k) q _ _ _ hF5.ct hF8.ct (by omega) (by decide) (by omega) (by decide)).mono ?_
          rintro e u8 ⟨v9, rfl, hF9, hb8⟩
          rw [← HK.out] at hF9
          replace P5 := P5.below hb8
          replace B0 := B0.below hb8
          replace hbW := hbW.trans (hb8.mono hbW.size)
          clear hb8 hF5 hF8 A8 p0 p1 p2 q1 q2 q3
          obtain ⟨n9, x9, y9, ⟨a9, c9, b9, d9, rfl, hx9, hy9⟩, hF9⟩ := hF9
          obtain ⟨q1, q2, q3, q4, q5, q6⟩ := P5.cells
          have hs := P5.lt
          go_wp2
          obtain ⟨U9, hU9, C5, hbU, hK9, ho⟩ := set3_world P5 (.bool n9) (.slice a9 x9.length c9) (.slice b9 y9.length d9)
          rw [← hU9]
          replace B0 := B0.other ho (by omega)
          replace hbW := hbU _ _ hbW (by omega)
          have hF9 : Fr U9 (.agg #[.bool n9, .slice a9 x9.length c9, .slice b9 y9.length d9]) (2 + 2 * (k + 1)) (alK l cs (k + 1)) := Fr.le (k := 2 + 2 * k + 2) ⟨_, _, _, ⟨_, _, _, _, rfl, hK9 _ _ _ hx9, hK9 _ _ _ hy9⟩, hF9⟩ (by omega)
          clear hU9 hbU hK9 ho hx9 hy9
          go_roundw
          case rel => exact ⟨k + 1, _, _, _, _, _, _, _, by omega, by go_num, C5, hF9, B0, hbW⟩
          case measure => simp [intOf]; omega
    · obtain rfl : k = l.length := by omega
      obtain ⟨p0, p1, p2, _⟩ := P5.cells
      obtain ⟨q1, q2, q3, q4, q5, q6⟩ := B0.cells
      have hs := B0.lt
      go_wp2
      refine ret3 (v := .agg #[.bool n5, .slice a5 x5 c5, .slice b5 y5 d5]) B0 rfl (fun U hU => by obtain ⟨r1, r2, r3, _⟩ := hU.cells; simp [results, Tryd.results20, go_sem, r1, r2, r3]) (fun U hU hK => ⟨_, rfl, hF5.moved hK, hU _ _ hbW (by omega)⟩)

end Go.Proofs.YtdhkpgndpgacbaaDoor
