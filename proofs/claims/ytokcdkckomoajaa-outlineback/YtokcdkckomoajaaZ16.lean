/-
  What a law is told of an outline that came in.
  foundryref04.Same of any two: the walk.
  Rows of bytes of the call's own (Bo), and how they grow.
  outline.Box: the walk.
  foundryref06.SameInts: the walk.
-/
import Derived.Test.YtokcdkckomoajaaZ7
import Derived.Test.YtokcdkckomoajaaZ15
import Derived.Test.YtokcdkckomoajaaZ2
import Derived.Test.YtokcdkckomoajaaZ1
import Derived.Test.YtokcdkckomoajaaZ8
import Derived.Lib.MinMax
import Derived.BigQuiet
import Derived.Deep.QuietTactic
import Derived.WalkSmall
import Derived.Outline
namespace Go.Proofs.Ytokcdkckomoajaa
open Go.RowKit
open Go.ChangeShapes Go.WideShapes Go.Joins Go.Deep
set_option linter.unusedSimpArgs false
set_option linter.unusedVariables false

theorem opens_int : Opens El.int 3 := Opens.int Try.underlying3 (by kernel_rfl)
theorem opens_bool : Opens El.bool 4 := Opens.bool Try.underlying4 (by kernel_rfl)
theorem opens_pn : Opens PnE 43 :=
  (Opens.struct (E := El.int.cat (El.int.cat El.bool)) Try.underlying43 (by kernel_rfl) (OpensF.more opens_int rfl (OpensF.more opens_int rfl (OpensF.last opens_bool rfl)))).via (fun x => ⟨⟨x.1, x.2.1, x.2.2⟩, rfl⟩)
theorem opens_pa : Opens PaE 69 :=
  (Opens.struct (E := El.int.cat (El.int.cat El.int)) Try.underlying69 (by kernel_rfl) (OpensF.more opens_int rfl (OpensF.more opens_int rfl (OpensF.last opens_int rfl)))).via (fun x => ⟨⟨x.1, x.2.1, x.2.2⟩, rfl⟩)
theorem opens_pns : Opens PnE.row 37 := Opens.row opens_pn Try.underlying37 (by kernel_rfl) (by decide) (of_decide_eq_true (by kernel_rfl))
theorem opens_pnss : Opens PnE.row.row 22 := Opens.row opens_pns Try.underlying22 (by kernel_rfl) Nat.one_pos (of_decide_eq_true (by kernel_rfl))
theorem opens_pas : Opens PaE.row 23 := Opens.row opens_pa Try.underlying23 (by kernel_rfl) (by decide) (of_decide_eq_true (by kernel_rfl))
theorem opens_outline : Opens (PnE.row.row.cat PaE.row) 25 :=
  Opens.struct Try.underlying25 (by kernel_rfl) (OpensF.more opens_pnss rfl (OpensF.last opens_pas rfl))
/-- An outline by value. -/
theorem open_outline {H : Type} {enc : TypeId × Value → H} {W : World} {held : Bool} {r : Reach} {b0 : Nat} {v : Value} {d : DataW H} {p : List MemPlace}
    (hv : Value.okWide Try.prog W r b0 25 v) (hd : DataW.Trod enc Try.prog W 0 (fun _ => true) held 25 v d p) (hz : ∀ n ∈ d.weights Try.prog 25, n ≤ reachBytes) :
    ∃ a ca b cb, ∃ o : Ol, v = .agg #[.slice a o.cs.length ca, .slice b o.ps.length cb] ∧ Gr PnE.row (fun k => k < W.heap.size) W a ca o.cs ∧ Gr PaE (fun k => k < W.heap.size) W b cb o.ps := by
  obtain ⟨cs, ⟨l, m⟩, rfl, us, ts, e, ⟨a, ca, h1, _, h2, _⟩, b, cb, h3, _, h4, _⟩ := opens_outline.agg Try.underlying25 hv hd hz
  subst h1 h3
  refine ⟨a, ca, b, cb, ⟨l, m⟩, ?_, h2, h4⟩
  congr 1
  apply Array.ext'
  exact e
theorem array2' {α : Type} {cs : Array α} (h : cs.size = 2) : ∃ x y, cs = #[x, y] := by
  rcases cs with ⟨l⟩
  rcases l with _ | ⟨x, _ | ⟨y, _ | ⟨z, l⟩⟩⟩
  · simp at h
  · simp at h
  · exact ⟨x, y, rfl⟩
  · simp at h
set_option maxRecDepth 100000 in
/-- Two int8, by value. -/
theorem open_by {H : Type} {enc : TypeId × Value → H} {W : World} {held : Bool} {r : Reach} {b0 : Nat} {v : Value} {d : DataW H} {p : List MemPlace}
    (hv : Value.okWide Try.prog W r b0 51 v) (h : DataW.Trod enc Try.prog W 0 (fun _ => true) held 51 v d p) :
    ∃ x y : Int, v = .agg #[.int .i8 x, .int .i8 y] ∧ (-128 ≤ x ∧ x < 128) ∧ (-128 ≤ y ∧ y < 128) := by
  have hC : Try.prog.cellsOf 51 = 2 := by kernel_rfl
  have hc : Try.prog.cellsOf 50 = 1 := by kernel_rfl
  simp only [Value.okWide, Try.underlying51] at hv
  obtain ⟨cs, rfl, hsz, _⟩ := hv
  obtain ⟨c0, c1, rfl⟩ := array2' (hsz.trans hC)
  obtain ⟨fuel, hf⟩ := h
  obtain ⟨zs, m, _, _, _, hl, ht⟩ := DataW.trod_array Try.underlying51 hf
  have h0 := ht 0 (by decide)
  have h1 := ht 1 (by decide)
  rw [hc] at h0 h1
  rw [List.getElem?_eq_getElem (by omega)] at h0 h1
  obtain ⟨x, e0, _, w0⟩ := DataW.trod_int Try.underlying50 h0
  obtain ⟨y, e1, _, w1⟩ := DataW.trod_int Try.underlying50 h1
  simp [Value.cells] at e0 e1
  subst e0 e1
  simp [Lit.wf, IntKind.min, IntKind.max, IntKind.bits, IntKind.signed] at w0 w1
  exact ⟨x, y, rfl, by omega, by omega⟩

end Go.Proofs.Ytokcdkckomoajaa

namespace Go.Proofs.Ytokcdkckomoajaa
open Go.RowKit Go.Maps
set_option linter.unusedSimpArgs false
set_option linter.unusedVariables false

theorem list_diff {xs ys : List Nat} (hl : xs.length = ys.length) (h : ∀ k, k < xs.length → xs.getD k 0 = ys.getD k 0) : xs = ys := by
  apply List.ext_getElem hl
  intro i h1 h2
  have := h i h1
  simpa [List.getD, h1, h2] using this

set_option maxHeartbeats 1000000 in
set_option maxRecDepth 100000 in
theorem same8g_any (a b : Option Addr) (ca cb : Nat) (xs ys : List Nat) (w : World) (ha : Rb w a ca xs) (hb : Rb w b cb ys) :
    Calls Try.prog 15 #[.slice a xs.length ca, .slice b ys.length cb] w fun e w' => e = .returned (.bool (decide (xs = ys))) ∧ Below w.heap.size w w' := by
  by_cases hl : xs.length = ys.length
  rotate_left
  · have hne : ((xs.length : Int) != (ys.length : Int)) = true := by simp; omega
    have hd : decide (xs = ys) = false := decide_eq_false (fun e => hl (by rw [e]))
    rw [hd]
    go_enter Try.func15, Try.ntmps15
    go_wp2
    go_ret
    exact ⟨rfl, Below.refl _ _⟩
  have k1 := ha.le
  have k2 := ha.cap
  unfold maxLen at k2
  have fa := ha.fm
  have fb := hb.fm
  clear ha hb
  have HL : Hid (xs.length = ys.length) := hl
  have hne : ((xs.length : Int) != (ys.length : Int)) = false := by simp; omega
  obtain ⟨ly, hly⟩ : ∃ ly, ys.length = ly := ⟨_, rfl⟩
  rw [hly] at hl hne ⊢
  have HLY : Hid (ys.length = ly) := hly
  subst hl
  clear hly
  have HD : Hid (∀ B : Bool, decide (xs = ys) = B → decide (xs = ys) = B) := fun _ h => h
  generalize hD : decide (xs = ys) = D at *
  have HDD : Hid (decide (xs = ys) = D) := hD
  clear hD HD
  go_enter Try.func15, Try.ntmps15
  go_wp2
  go_loopw [5] (fun i wr => ∃ k : Nat, k ≤ xs.length ∧ i = .int .i64 k ∧ (∀ j, j < k → xs.getD j 0 = ys.getD j 0) ∧ Below w.heap.size w wr) (fun i _ => xs.length - (intOf i).toNat)
  case atStart => exact ⟨0, Nat.zero_le _, rfl, fun j hj => by omega, Below.refl _ _⟩
  case round =>
    obtain ⟨k, hk, rfl, hall, hnx⟩ := hrel
    have HALL : Hid (∀ j, j < k → xs.getD j 0 = ys.getD j 0) := hall
    clear hall
    by_cases hkn : k < xs.length
    · obtain ⟨b1, o1, rfl, _, c1⟩ := fa.at hnx k hkn
      obtain ⟨b2, o2, rfl, _, c2⟩ := fb.at hnx k (by rw [HLY.out]; exact hkn)
      obtain ⟨x, hx⟩ : ∃ x, xs.getD k 0 = x := ⟨_, rfl⟩
      obtain ⟨y, hy⟩ : ∃ y, ys.getD k 0 = y := ⟨_, rfl⟩
      rw [hx] at c1
      rw [hy] at c2
      have HX : Hid (xs.getD k 0 = x) := hx
      have HY : Hid (ys.getD k 0 = y) := hy
      clear hx hy
      have i1 : (0 : Int) ≤ (k : Int) := by omega
      have i2 : (k : Int) < (xs.length : Int) := by omega
      by_cases hxy : x = y
      · subst hxy
        have hxx : ((x : Int) != (x : Int)) = false := by simp
        go_wp2_with fail
        go_quiet (fail)
        go_wp2
        go_roundw
        case rel =>
          refine ⟨k + 1, by omega, by go_num, fun j hj => ?_, below_drewN hnx _⟩
          rcases Nat.lt_or_ge j k with h1 | h1
          · exact HALL.out j h1
          · rw [show j = k by omega, HX.out, HY.out]
        case measure => simp [intOf]; omega
      · have hxx : ((x : Int) != (y : Int)) = true := by simp; omega
        have hDf : D = false := by
          rw [← HDD.out]
          refine decide_eq_false (fun e => ?_)
          have h1 := HX.out
          rw [e, HY.out] at h1
          exact hxy h1.symm
        clear hxy
        go_wp2_with fail
        go_quiet (fail)
        go_wp2
        go_ret
        exact ⟨rt_bool (by rw [hDf]), below_drewN hnx _⟩
    · obtain rfl : k = xs.length := by omega
      have hDt : D = true := by
        rw [← HDD.out]
        exact decide_eq_true (list_diff (by rw [HLY.out]) HALL.out)
      go_wp2
      go_ret
      exact ⟨rt_bool (by rw [hDt]), hnx⟩

end Go.Proofs.Ytokcdkckomoajaa

namespace Go.Proofs.Ytokcdkckomoajaa
open Go.RowKit Go.Maps
set_option linter.unusedSimpArgs false
set_option linter.unusedVariables false

theorem info_b8 : (Try.prog.info? 5).map (fun i => (i.zero, i.size, i.bytes)) = some (some (.int .u8 0), 1, 1) := by kernel_rfl
def Bo (base : Nat) (w : World) (v : Value) (ys : List Nat) : Prop := Byt ys ∧ w.ownsRow base 5 1 v ys.length (ys.map Y)
theorem Bo.nil (base : Nat) (w : World) : Bo base w (.slice none 0 0) [] := ⟨Byt.nil, World.ownsRow_nil w base _ 1⟩
theorem Bo.slice {base : Nat} {w : World} {v : Value} {ys : List Nat} (h : Bo base w v ys) : ∃ a cap, v = .slice a ys.length cap ∧ Rb w a cap ys := by
  have h3 := h.2
  rcases h3.2 with ⟨e, h0⟩ | ⟨g, cap, cur, e, hb, hg, hc1, hc2, hc3, ht⟩
  · have : ys = [] := List.length_eq_zero_iff.1 h0
    subst this
    exact ⟨none, 0, e, Rb.nil _ _ _ (Nat.zero_le _) (fun _ => rfl)⟩
  · subst e
    exact ⟨_, _, rfl, Rw.rd (e := 5) (base := base) ⟨h.1, h3⟩⟩
theorem Bo.below {base : Nat} {w w' : World} {v : Value} {ys : List Nat} (h : Bo base w v ys) (hb : Below w.heap.size w w') : Bo base w' v ys := by
  obtain ⟨h1, h3⟩ := h
  refine ⟨h1, h3.1, ?_⟩
  rcases h3.2 with h0 | ⟨g, cap', cur, k1, k2, k3, k4⟩
  · exact .inl h0
  · exact .inr ⟨g, cap', cur, k1, k2, (hb.block g (Array.getElem?_eq_some_iff.1 k3).1).trans k3, k4⟩
theorem Bo.lo {base : Nat} {w : World} {v : Value} {ys : List Nat} (h : Bo base w v ys) {g : Nat} (hg : v.ownBlock = some g) : base ≤ g ∧ g < w.heap.size := World.ownsRow.lt h.2 g hg
/-- 'append(b, x)': x is laid in a block of its own first. -/
theorem wpList_append_b1 {w : World} {ops : Array Oper} {rest : List Oper} {o : Oper} {a : Act} {Q : Exit → Act → World → Prop}
    (hgd : o.guard = none) (s x : Operand) (ho : o.op = .call { callee := .builtin .append, args := #[s, x], argTypes := #[26, 26] })
    (base : Nat) (v : Value) (ys : List Nat) (hs : a.eval s = v) (hown : Bo base w v ys) (g : Nat) (z : Nat) (hx : a.eval x = .slice (some ⟨g, 0, none⟩) 1 1)
    (c0 : w.cell? ⟨g, 0, none⟩ = some (.int .u8 (z : Int))) (hz : z < 256) (hlen : ys.length + 1 ≤ 1000000) (hbase : base ≤ w.heap.size)
    (h : ∀ v' w', Bo base w' v' (ys ++ [z]) → w.grownBy w' v.ownBlock → wpList Try.prog ops Q rest (a.put o.dst v') w') : wpList Try.prog ops Q (o :: rest) a w := by
  obtain ⟨i0, hi, hz0, hz1, hz2⟩ := info_parts info_b8
  refine wpList_append_oneB hgd s x 26 ho base 5 i0 Try.underlying26 hi hz0 hz1 hz2 v ys.length ys hs hown.2 g z hx c0 (by omega) hbase ?_
  intro v' w' k1 k2 _
  exact h v' w' ⟨hown.1.append (fun y hy => by rw [List.mem_singleton.1 hy]; exact hz), by rw [List.length_append]; exact k1⟩ k2
/-- 'append(b, more...)'. -/
theorem wpList_append_bs {w : World} {ops : Array Oper} {rest : List Oper} {o : Oper} {a : Act} {Q : Exit → Act → World → Prop}
    (hgd : o.guard = none) (s x : Operand) (ho : o.op = .call { callee := .builtin .append, args := #[s, x], argTypes := #[26, 26] })
    (base : Nat) (v : Value) (ys : List Nat) (hs : a.eval s = v) (hown : Bo base w v ys) (ad : Option Addr) (c m : Nat) (zs : List Nat) (hm : m = zs.length) (hx : a.eval x = .slice ad m c)
    (hrd : Rb w ad c zs) (hlen : ys.length + zs.length ≤ 1000000) (hbase : base ≤ w.heap.size)
    (h : ∀ v' w', Bo base w' v' (ys ++ zs) → w.grownBy w' v.ownBlock → wpList Try.prog ops Q rest (a.put o.dst v') w') : wpList Try.prog ops Q (o :: rest) a w := by
  obtain ⟨i0, hi, hz0, hz1, hz2⟩ := info_parts info_b8
  refine wpList_append_rb hgd s x 26 ho base 5 i0 Try.underlying26 hi hz0 hz1 hz2 v ys.length ys hs hown.2 ad c m zs hx hm hrd (by omega) hbase ?_
  intro v' w' k1 k2 _
  exact h v' w' ⟨hown.1.append hrd.lim, by rw [List.length_append]; exact k1⟩ k2

end Go.Proofs.Ytokcdkckomoajaa

namespace Go.Proofs.Ytokcdkckomoajaa
open Go.RowKit Go.Maps
set_option linter.unusedSimpArgs false
set_option linter.unusedVariables false

def bxV (b : Int × Int × Int × Int) : List Value := [.int .i64 b.1, .int .i64 b.2.1, .int .i64 b.2.2.1, .int .i64 b.2.2.2]
theorem bxO_take {l : List Pn} {k : Nat} {q : Pn} (hk : k + 1 < l.length) (hq : l.getD (k + 1) Pn.none = q) : bxO (l.take (k + 1 + 1)) = bxS (bxO (l.take (k + 1))) q := by
  rw [take_snoc (d := Pn.none) hk, hq, bxO_snoc]
  intro e
  have := congrArg List.length e
  rw [List.length_take, List.length_nil] at this
  omega

theorem Bk.set4 {t : TypeId} {w : World} {g : Nat} {x y z u : Value} (h : Bk t w g [x, y, z, u]) (x' y' z' u' : Value) : Bk t ((((w.setCell ⟨g, 0, none⟩ x').setCell ⟨g, 1, none⟩ y').setCell ⟨g, 2, none⟩ z').setCell ⟨g, 3, none⟩ u') g [x', y', z', u'] := (((h.set 0 x').set 1 y').set 2 z').set 3 u'
theorem below_set4 {B g : Nat} {a w : World} (h : Below B a w) (hb : B ≤ g) (x' y' z' u' : Value) : Below B a ((((w.setCell ⟨g, 0, none⟩ x').setCell ⟨g, 1, none⟩ y').setCell ⟨g, 2, none⟩ z').setCell ⟨g, 3, none⟩ u') :=
  (((h.setCell (p := ⟨g, 0, none⟩) hb x').setCell (p := ⟨g, 1, none⟩) hb y').setCell (p := ⟨g, 2, none⟩) hb z').setCell (p := ⟨g, 3, none⟩) hb u'
theorem set4_other {w : World} {g b : Nat} (x' y' z' u' : Value) (hb : b ≠ g) : ((((w.setCell ⟨g, 0, none⟩ x').setCell ⟨g, 1, none⟩ y').setCell ⟨g, 2, none⟩ z').setCell ⟨g, 3, none⟩ u').heap[b]? = w.heap[b]? := by
  rw [Below.heap_setCell _ _ _ _ (fun e => hb e), Below.heap_setCell _ _ _ _ (fun e => hb e), Below.heap_setCell _ _ _ _ (fun e => hb e), Below.heap_setCell _ _ _ _ (fun e => hb e)]
theorem set4_size {w : World} {g : Nat} (x' y' z' u' : Value) : ((((w.setCell ⟨g, 0, none⟩ x').setCell ⟨g, 1, none⟩ y').setCell ⟨g, 2, none⟩ z').setCell ⟨g, 3, none⟩ u').heap.size = w.heap.size := by simp [World.setCell]
theorem bxV_eq (b : Int × Int × Int × Int) : bxV b = [.int .i64 b.1, .int .i64 b.2.1, .int .i64 b.2.2.1, .int .i64 b.2.2.2] := rfl

set_option maxHeartbeats 2000000 in
set_option maxRecDepth 100000 in
theorem cbox_any (S : Nat → Prop) (a : Option Addr) (ca : Nat) (vb : Value) (cs : List (List Pn)) (w : World) (h : Gr PnE.row S w a ca cs) (hl : cs.flatten.length ≤ 100000) (hv : vb.cells = #[vb]) :
    Calls Try.prog 24 #[.agg #[.slice a cs.length ca, vb]] w fun e w' => e = .returned (.tuple #[.agg (bxV (bxO cs.flatten)).toArray, .bool (decide (0 < cs.flatten.length))]) ∧ Below w.heap.size w w' := by
  obtain ⟨W, hW, X1, X2, hbW⟩ : ∃ W, W = (w.alloc (.cells #[.slice a cs.length ca, vb] 25)).alloc (.cells #[.int .i64 0, .int .i64 0, .int .i64 0, .int .i64 0] 44) ∧ Bk 25 W w.heap.size [.slice a cs.length ca, vb] ∧ Bk 44 W (w.heap.size + 1) [.int .i64 0, .int .i64 0, .int .i64 0, .int .i64 0] ∧ Below w.heap.size w W := ⟨_, rfl, (Bk.new _ _ _).below (bl1 _), Bk.new1 _ _ _ _, bl2 _ _⟩
  have hpt := cpointsO_any S a ca vb cs W (h.below hbW) hl hv
  obtain ⟨x0, x1, _⟩ := X1.two
  clear h
  generalize cs.flatten = L at *
  go_enter Try.func24, Try.ntmps24
  go_wp2_with fail
  rw [← hW]
  clear hW
  refine hpt.mono ?_
  rintro e u1 ⟨a1, c1, rfl, hg, _, hb1⟩
  replace hbW : Below w.heap.size w u1 := hbW.trans (hb1.mono hbW.size)
  replace X2 := X2.below hb1
  clear hpt hb1 x0 x1 X1
  obtain ⟨z0, z1, z2, z3, f0, f1, f2, f3⟩ := X2.four
  by_cases h0 : L = []
  · subst h0
    simp only [List.length_nil]
    obtain ⟨U, hU⟩ : ∃ U, U = ((((u1.setCell ⟨w.heap.size + 1, 0, none⟩ (.int .i64 0)).setCell ⟨w.heap.size + 1, 1, none⟩ (.int .i64 0)).setCell ⟨w.heap.size + 1, 2, none⟩ (.int .i64 0)).setCell ⟨w.heap.size + 1, 3, none⟩ (.int .i64 0)) := ⟨_, rfl⟩
    have A := X2.set4 (.int .i64 0) (.int .i64 0) (.int .i64 0) (.int .i64 0)
    have hbU := below_set4 hbW (g := w.heap.size + 1) (Nat.le_succ _) (.int .i64 0) (.int .i64 0) (.int .i64 0) (.int .i64 0)
    rw [← hU] at A hbU
    go_wp2
    rw [← hU]
    clear hU
    (try simp only [Exit.inBlock, Exit.then])
    refine bodyPost_ret (v := .tuple #[.agg #[.int .i64 0, .int .i64 0, .int .i64 0, .int .i64 0], .bool false]) (by obtain ⟨r0, r1, r2, r3, _⟩ := A.four; simp [results, Try.results24, go_sem, r0, r1, r2, r3]) rfl ⟨rfl, hbU⟩
  obtain ⟨b, off, ea, hb, ⟨w0, w1⟩, q0, q1, q2⟩ := hg.pn (Below.refl _ _) 0 (List.length_pos_iff.2 h0)
  simp only [Nat.zero_mul, Nat.add_zero] at q0 q1 q2
  subst ea
  have hlen : 0 < L.length := List.length_pos_iff.2 h0
  have g1 : ((L.length : Int) == 0) = false := by simp; exact h0
  have HL0 : Hid (L.take 1 = [L.getD 0 Pn.none]) := take_snoc (k := 0) hlen
  generalize L.getD 0 Pn.none = p at *
  obtain ⟨x, y, on⟩ := p
  dsimp only at w0 w1 q0 q1 q2
  have i1 : (1 : Int) ≤ (L.length : Int) := by omega
  have HDE : Hid (decide (0 < L.length) = true) := decide_eq_true hlen
  obtain ⟨V, hV, Y1, hbV⟩ : ∃ V, V = (u1.alloc (.cells #[.int .i64 x, .int .i64 y, .bool on] 43)).alloc (.cells #[.int .i64 x, .int .i64 y, .int .i64 x, .int .i64 y] 44) ∧ Bk 44 V (u1.heap.size + 1) [.int .i64 x, .int .i64 y, .int .i64 x, .int .i64 y] ∧ Below u1.heap.size u1 V := ⟨_, rfl, Bk.new1 _ _ _ _, bl2 _ _⟩
  have hgt : w.heap.size + 1 < u1.heap.size := X2.lt
  by_cases h2 : 2 ≤ L.length
  · have hcap := hg.1
    have hc1 : ¬ c1 = 1 := by omega
    have HG : Hid (Gr PnE (fun _ => True) u1 (some ⟨b, off, none⟩) c1 L) := hg
    have HX2 : Hid (Bk 44 u1 (w.heap.size + 1) [.int .i64 0, .int .i64 0, .int .i64 0, .int .i64 0]) := X2
    have HB1 : Hid (Below w.heap.size w u1) := hbW
    have HBV : Hid (Below u1.heap.size u1 V) := hbV
    have HY1 : Hid (Bk 44 V (u1.heap.size + 1) (bxV (bxO (L.take 1)))) := by show Bk _ _ _ _; rw [HL0.out]; exact Y1
    obtain ⟨n, hn⟩ : ∃ n, L.length - 1 = n := ⟨_, rfl⟩
    have hnL1 : L.length ≤ n + 1 := by omega
    have hnL2 : n + 1 ≤ L.length := by omega
    clear hg Y1 hbV
    go_wp2
    rw [← hV]
    clear hV q0 q1 q2 z0 z1 z2 z3 f0 f1 f2 f3 X2 hbW
    clear hn
    obtain ⟨g4, hg4⟩ : ∃ g4, u1.heap.size + 1 = g4 := ⟨_, rfl⟩
    have hg4l : u1.heap.size ≤ g4 := by omega
    rw [hg4] at HY1 ⊢
    clear hg4
    go_loopw [30] (fun i wr => ∃ k : Nat, k ≤ n ∧ i = .int .i64 k ∧ Bk 44 wr g4 (bxV (bxO (L.take (k + 1)))) ∧ Below u1.heap.size u1 wr) (fun i _ => n - (intOf i).toNat)
    case atStart => exact ⟨0, Nat.zero_le _, rfl, HY1.out, HBV.out⟩
    case round =>
      clear HY1 HBV
      obtain ⟨k, hk, rfl, hY, hB⟩ := hrel
      have X2 := HX2.out.below hB
      have hbW := HB1.out.trans (hB.mono HB1.out.size)
      by_cases hkn : k < n
      · obtain ⟨b', off', eb, hb', ⟨v0, v1⟩, q0, q1, q2⟩ := HG.out.pn hB (k + 1) (by omega)
        cases eb
        have HS : Hid (_) := bxO_take (l := L) (k := k) (by omega) rfl
        rw [show off + (k + 1) * 3 = off + 3 + k * 3 by omega] at q0 q1 q2
        generalize L.getD (k + 1) Pn.none = p at *
        obtain ⟨x5, y5, on5⟩ := p
        dsimp only at v0 v1 q0 q1 q2
        generalize bxO (L.take (k + 1)) = B at *
        obtain ⟨m0, m1, m2, m3⟩ := B
        rw [bxV_eq] at hY
        dsimp only at hY
        unfold bxS at HS
        dsimp only at HS
        have hY2 := hY.below (bl1 (.cells #[.int .i64 x5, .int .i64 y5, .bool on5] 43))
        have hY3 := hY2.set4 (.int .i64 (min m0 x5)) (.int .i64 (min m1 y5)) (.int .i64 (max m2 x5)) (.int .i64 (max m3 y5))
        have hB3 := below_set4 (hB.alloc hB.size (.cells #[.int .i64 x5, .int .i64 y5, .bool on5] 43)) hg4l (.int .i64 (min m0 x5)) (.int .i64 (min m1 y5)) (.int .i64 (max m2 x5)) (.int .i64 (max m3 y5))
        obtain ⟨r0, r1, r2, r3, f0, f1, f2, f3⟩ := hY2.four
        obtain ⟨s0, s1, s2, s3, _⟩ := hY.four
        have j1 : (0 : Int) ≤ (k : Int) := by omega
        have j2 : (k : Int) < (n : Int) := by omega
        clear X2 hbW
        go_wp2
        go_roundw
        case rel => exact ⟨k + 1, by omega, by go_num, by rw [HS.out, bxV_eq]; exact hY3, hB3⟩
        case measure => simp [intOf]; omega
      · obtain rfl : k = n := by omega
        rw [List.take_of_length_le (by omega)] at hY
        obtain ⟨⟨m0, m1, m2, m3⟩, hm⟩ : ∃ B, bxO L = B := ⟨_, rfl⟩
        have HBX : Hid (bxO L = (m0, m1, m2, m3)) := hm
        rw [hm, bxV_eq] at hY
        dsimp only at hY
        clear hm
        obtain ⟨s0, s1, s2, s3, _⟩ := hY.four
        obtain ⟨z0, z1, z2, z3, f0, f1, f2, f3⟩ := X2.four
        have j2 : ¬ (k : Int) < (k : Int) := by omega
        obtain ⟨U, hU⟩ : ∃ U, U = ((((wr.setCell ⟨w.heap.size + 1, 0, none⟩ (.int .i64 m0)).setCell ⟨w.heap.size + 1, 1, none⟩ (.int .i64 m1)).setCell ⟨w.heap.size + 1, 2, none⟩ (.int .i64 m2)).setCell ⟨w.heap.size + 1, 3, none⟩ (.int .i64 m3)) := ⟨_, rfl⟩
        have A := X2.set4 (.int .i64 m0) (.int .i64 m1) (.int .i64 m2) (.int .i64 m3)
        have hbU := below_set4 hbW (g := w.heap.size + 1) (Nat.le_succ _) (.int .i64 m0) (.int .i64 m1) (.int .i64 m2) (.int .i64 m3)
        rw [← hU] at A hbU
        go_wp2
        rw [← hU]
        clear hU
        (try simp only [Exit.inBlock, Exit.then])
        refine bodyPost_ret (v := .tuple #[.agg #[.int .i64 m0, .int .i64 m1, .int .i64 m2, .int .i64 m3], .bool true]) (by obtain ⟨r0, r1, r2, r3, _⟩ := A.four; simp [results, Try.results24, go_sem, r0, r1, r2, r3]) rfl ⟨by rw [HBX.out]; rfl, hbU⟩
  · obtain rfl : L = [⟨x, y, on⟩] := by
      have := HL0.out
      rwa [List.take_of_length_le (by omega)] at this
    have hc1 : c1 = 1 ∨ ¬ c1 = 1 := by omega
    have hbW2 := hbW.trans (hbV.mono hbW.size)
    have X3 := X2.below hbV
    have HBX : Hid (bxO [⟨x, y, on⟩] = (x, y, x, y)) := bxO_one _
    simp only [List.length_cons, List.length_nil, Nat.zero_add] at *
    clear hg
    rcases hc1 with hc1 | hc1
    · go_wp2
      rw [← hV]
      clear hV q0 q1 q2 z0 z1 z2 z3 f0 f1 f2 f3 X2 hbW
      obtain ⟨g4, hg4⟩ : ∃ g4, u1.heap.size + 1 = g4 := ⟨_, rfl⟩
      rw [hg4] at Y1 ⊢
      clear hg4
      go_loopw [30] (fun i wr => i = .int .i64 0 ∧ V = wr) (fun i _ => 0)
      case atStart => exact ⟨rfl, rfl⟩
      case round =>
        obtain ⟨rfl, rfl⟩ := hrel
        obtain ⟨s0, s1, s2, s3, _⟩ := Y1.four
        obtain ⟨z0, z1, z2, z3, f0, f1, f2, f3⟩ := X3.four
        obtain ⟨U, hU⟩ : ∃ U, U = ((((V.setCell ⟨w.heap.size + 1, 0, none⟩ (.int .i64 x)).setCell ⟨w.heap.size + 1, 1, none⟩ (.int .i64 y)).setCell ⟨w.heap.size + 1, 2, none⟩ (.int .i64 x)).setCell ⟨w.heap.size + 1, 3, none⟩ (.int .i64 y)) := ⟨_, rfl⟩
        have A := X3.set4 (.int .i64 x) (.int .i64 y) (.int .i64 x) (.int .i64 y)
        have hbU := below_set4 hbW2 (g := w.heap.size + 1) (Nat.le_succ _) (.int .i64 x) (.int .i64 y) (.int .i64 x) (.int .i64 y)
        rw [← hU] at A hbU
        go_wp2
        rw [← hU]
        clear hU
        (try simp only [Exit.inBlock, Exit.then])
        refine bodyPost_ret (v := .tuple #[.agg #[.int .i64 x, .int .i64 y, .int .i64 x, .int .i64 y], .bool true]) (by obtain ⟨r0, r1, r2, r3, _⟩ := A.four; simp [results, Try.results24, go_sem, r0, r1, r2, r3]) rfl ⟨by rw [HBX.out]; rfl, hbU⟩
    · go_wp2
      rw [← hV]
      clear hV q0 q1 q2 z0 z1 z2 z3 f0 f1 f2 f3 X2 hbW
      obtain ⟨g4, hg4⟩ : ∃ g4, u1.heap.size + 1 = g4 := ⟨_, rfl⟩
      rw [hg4] at Y1 ⊢
      clear hg4
      go_loopw [30] (fun i wr => i = .int .i64 0 ∧ V = wr) (fun i _ => 0)
      case atStart => exact ⟨rfl, rfl⟩
      case round =>
        obtain ⟨rfl, rfl⟩ := hrel
        obtain ⟨s0, s1, s2, s3, _⟩ := Y1.four
        obtain ⟨z0, z1, z2, z3, f0, f1, f2, f3⟩ := X3.four
        obtain ⟨U, hU⟩ : ∃ U, U = ((((V.setCell ⟨w.heap.size + 1, 0, none⟩ (.int .i64 x)).setCell ⟨w.heap.size + 1, 1, none⟩ (.int .i64 y)).setCell ⟨w.heap.size + 1, 2, none⟩ (.int .i64 x)).setCell ⟨w.heap.size + 1, 3, none⟩ (.int .i64 y)) := ⟨_, rfl⟩
        have A := X3.set4 (.int .i64 x) (.int .i64 y) (.int .i64 x) (.int .i64 y)
        have hbU := below_set4 hbW2 (g := w.heap.size + 1) (Nat.le_succ _) (.int .i64 x) (.int .i64 y) (.int .i64 x) (.int .i64 y)
        rw [← hU] at A hbU
        go_wp2
        rw [← hU]
        clear hU
        (try simp only [Exit.inBlock, Exit.then])
        refine bodyPost_ret (v := .tuple #[.agg #[.int .i64 x, .int .i64 y, .int .i64 x, .int .i64 y], .bool true]) (by obtain ⟨r0, r1, r2, r3, _⟩ := A.four; simp [results, Try.results24, go_sem, r0, r1, r2, r3]) rfl ⟨by rw [HBX.out]; rfl, hbU⟩

end Go.Proofs.Ytokcdkckomoajaa

namespace Go.Proofs.Ytokcdkckomoajaa
open Go.RowKit Go.Maps
set_option linter.unusedSimpArgs false
set_option linter.unusedVariables false

set_option maxHeartbeats 1000000 in
set_option maxRecDepth 100000 in
theorem ssameI_any (a b : Option Addr) (ca cb : Nat) (zs : List Int) (w : World) (ha : Ri w a ca zs) (hb : Ri w b cb zs) :
    Calls Try.prog 21 #[.slice a zs.length ca, .slice b zs.length cb] w fun e w' => e = .returned (.bool true) ∧ Below w.heap.size w w' := by
  have k1 := ha.2.1
  have k2 := ha.2.2.1
  unfold maxLen at k2
  have hne : ((zs.length : Int) != (zs.length : Int)) = false := by simp
  have HA : Hid (Ri w a ca zs) := ha
  have HB : Hid (Ri w b cb zs) := hb
  clear ha hb
  go_enter Try.func21, Try.ntmps21
  go_wp2
  go_loopw [5] (fun i wr => ∃ k : Nat, k ≤ zs.length ∧ i = .int .i64 k ∧ Below w.heap.size w wr) (fun i _ => zs.length - (intOf i).toNat)
  case atStart => exact ⟨0, Nat.zero_le _, rfl, Below.refl _ _⟩
  case round =>
    obtain ⟨k, hk, rfl, hnx⟩ := hrel
    by_cases hkn : k < zs.length
    · obtain ⟨b1, o1, rfl, _, c1⟩ := HA.out.at hnx k hkn
      obtain ⟨b2, o2, rfl, _, c2⟩ := HB.out.at hnx k hkn
      obtain ⟨x, hx⟩ : ∃ x, zs.getD k 0 = x := ⟨_, rfl⟩
      rw [hx] at c1 c2
      have hxx : ((x : Int) != (x : Int)) = false := by simp
      clear hx
      have i1 : (0 : Int) ≤ (k : Int) := by omega
      have i2 : (k : Int) < (zs.length : Int) := by omega
      go_wp2_with fail
      go_quiet (fail)
      go_wp2
      go_roundw
      case rel => exact ⟨k + 1, by omega, by go_num, below_drewN hnx _⟩
      case measure => simp [intOf]; omega
    · go_wp2
      go_ret
      exact ⟨rfl, hnx⟩

end Go.Proofs.Ytokcdkckomoajaa
