/-
  What is known of a slice of limbs in a world: where it is read (Rd), and where it is a row of the call's own (Res). Two laws on append.
  outline.Formed, slices.Grow, slices.Concat, outline.Points, outline.Ends: the walks.
  Rows of ints of the call's own (Gi): as Io, but with what is told of where they lie.
  Regions that draw their order, step by step: the kit's own laws with the operation taken out of a written list. Nothing here is a walk.
-/
import Derived.Test.YtokcdkckomoajaaZ7
import Derived.WalkKit
import Derived.ProofKit
import Derived.Below
import Derived.Laws.AppendOwnNone
import Derived.Lib.AppendZerosOnto
import Derived.Deep.CutRange
import Derived.Test.YtokcdkckomoajaaZ6
import Derived.Test.YtokcdkckomoajaaChecked
import Derived.Deep.RegionHeld3
namespace Go.Proofs.Ytokcdkckomoajaa
open Go.RowKit
set_option linter.unusedSimpArgs false
set_option linter.unusedVariables false

/-- A limb as a value. -/
def U (n : Nat) : Value := .int .u32 (n : Int)

/-- A slice of limbs: its address and capacity, and the limbs that are read there. -/
def Rd (w : World) (a : Option Addr) (cap : Nat) (xs : List Nat) : Prop :=
  Lim xs ∧ xs.length ≤ cap ∧ cap ≤ maxLen ∧ (a = none → cap = 0) ∧
  (xs = [] ∨ ∃ b off, a = some ⟨b, off, none⟩ ∧ b < w.heap.size ∧ ∀ i, i < xs.length → w.cell? ⟨b, off + i, none⟩ = some (.int .u32 (xs.getD i 0 : Nat)))

theorem Rd.lim {w : World} {a : Option Addr} {cap : Nat} {xs : List Nat} (h : Rd w a cap xs) : Lim xs := h.1
theorem Rd.le {w : World} {a : Option Addr} {cap : Nat} {xs : List Nat} (h : Rd w a cap xs) : xs.length ≤ cap := h.2.1
theorem Rd.cap {w : World} {a : Option Addr} {cap : Nat} {xs : List Nat} (h : Rd w a cap xs) : cap ≤ maxLen := h.2.2.1

/-- Where the limbs lie (a plain name, which no walk looks behind). -/
def Fm (w : World) (a : Option Addr) (xs : List Nat) : Prop :=
  xs = [] ∨ ∃ b off, a = some ⟨b, off, none⟩ ∧ b < w.heap.size ∧ ∀ i, i < xs.length → w.cell? ⟨b, off + i, none⟩ = some (.int .u32 (xs.getD i 0 : Nat))

theorem Rd.fm {w : World} {a : Option Addr} {cap : Nat} {xs : List Nat} (h : Rd w a cap xs) : Fm w a xs := h.2.2.2.2

theorem Fm.at {w wr : World} {a : Option Addr} {xs : List Nat} (h : Fm w a xs) (hb : Below w.heap.size w wr) (k : Nat) (hk : k < xs.length) :
    ∃ b off, a = some ⟨b, off, none⟩ ∧ b < w.heap.size ∧ wr.cell? ⟨b, off + k, none⟩ = some (.int .u32 (xs.getD k 0 : Nat)) := by
  rcases h with rfl | ⟨b, off, h1, h2, h3⟩
  · simp at hk
  · exact ⟨b, off, h1, h2, (hb.cell (p := ⟨b, off + k, none⟩) h2).trans (h3 k hk)⟩

theorem Rd.keep {w w' : World} {a : Option Addr} {cap : Nat} {xs : List Nat} (h : Rd w a cap xs) (hs : w.heap.size ≤ w'.heap.size)
    (hb : ∀ b, b < w.heap.size → (∃ o, a = some ⟨b, o, none⟩) → w'.heap[b]? = w.heap[b]?) : Rd w' a cap xs := by
  obtain ⟨h1, h2, h3, h5, h4⟩ := h
  refine ⟨h1, h2, h3, h5, ?_⟩
  rcases h4 with h4 | ⟨b, off, e, hb1, hc⟩
  · exact .inl h4
  · exact .inr ⟨b, off, e, Nat.lt_of_lt_of_le hb1 hs, fun i hi => (World.cell?_of_block (w := w) (a := ⟨b, off + i, none⟩) (hb b hb1 ⟨off, e⟩)).trans (hc i hi)⟩

theorem Rd.below {w w' : World} {a : Option Addr} {cap : Nat} {xs : List Nat} (h : Rd w a cap xs) (hb : Below w.heap.size w w') : Rd w' a cap xs :=
  h.keep hb.size fun b hb1 _ => hb.block b hb1

theorem Rd.take {w : World} {a : Option Addr} {cap : Nat} {xs : List Nat} (h : Rd w a cap xs) (n : Nat) : Rd w a cap (xs.take n) := by
  obtain ⟨h1, h2, h3, h5, h4⟩ := h
  refine ⟨h1.take n, by simp; omega, h3, h5, ?_⟩
  rcases h4 with rfl | ⟨b, off, e, hb1, hc⟩
  · exact .inl (by simp)
  · refine .inr ⟨b, off, e, hb1, fun i hi => ?_⟩
    simp at hi
    rw [hc i (by omega)]
    simp [List.getD, show i < n by omega]

theorem Rd.strip {w : World} {a : Option Addr} {cap : Nat} {xs : List Nat} (h : Rd w a cap xs) : Rd w a cap (strip xs) := by
  rw [strip_take]; exact h.take _

theorem Rd.nil (w : World) (a : Option Addr) (cap : Nat) (h : cap ≤ maxLen) (h0 : a = none → cap = 0) : Rd w a cap [] := ⟨Lim.nil, Nat.zero_le _, h, h0, .inl rfl⟩

/-- A row of the call's own. -/
def Res (e : TypeId) (base : Nat) (w : World) (a : Option Addr) (cap : Nat) (xs : List Nat) : Prop :=
  Lim xs ∧ w.ownsRow base e 1 (.slice a xs.length cap) xs.length (xs.map U)

theorem Res.lim {e : TypeId} {base : Nat} {w : World} {a : Option Addr} {cap : Nat} {xs : List Nat} (h : Res e base w a cap xs) : Lim xs := h.1

theorem Res.rd {e : TypeId} {base : Nat} {w : World} {a : Option Addr} {cap : Nat} {xs : List Nat} (h : Res e base w a cap xs) : Rd w a cap xs := by
  obtain ⟨hl, h⟩ := h
  rcases h.2 with ⟨hv, h0⟩ | ⟨g, cap', cur, hv, hb, hg, hc1, hc2, hc3, ht⟩
  · have : xs = [] := List.length_eq_zero_iff.1 h0
    subst this
    simp at hv
    exact Rd.nil _ _ _ (by rw [hv.2]; exact Nat.zero_le _) (fun _ => hv.2)
  · simp at hv
    obtain ⟨rfl, rfl⟩ := hv
    refine ⟨hl, hc1, hc2, (by simp), .inr ⟨g, 0, rfl, (Array.getElem?_eq_some_iff.1 hg).1, fun i hi => ?_⟩⟩
    have := h.cells (g := g) rfl i (U (xs.getD i 0)) (by simp [List.getD, hi])
    have hadd : (⟨g, 0, none⟩ : Addr).add i = ⟨g, 0 + i, none⟩ := by unfold Addr.add; split <;> simp_all
    rw [hadd] at this; exact this

theorem ownsRow_mono {w : World} {base base' : Nat} {e : TypeId} {size : Nat} {v : Value} {n : Nat} {xs : List Value} (h : w.ownsRow base e size v n xs) (hb : base' ≤ base) : w.ownsRow base' e size v n xs := by
  refine ⟨h.1, ?_⟩
  rcases h.2 with h0 | ⟨g, cap, cur, h1, h2, h3⟩
  · exact .inl h0
  · exact .inr ⟨g, cap, cur, h1, Nat.le_trans hb h2, h3⟩

theorem Res.mono {e : TypeId} {base base' : Nat} {w : World} {a : Option Addr} {cap : Nat} {xs : List Nat} (h : Res e base w a cap xs) (hb : base' ≤ base) : Res e base' w a cap xs := ⟨h.1, ownsRow_mono h.2 hb⟩

theorem Res.below {e : TypeId} {base : Nat} {w w' : World} {a : Option Addr} {cap : Nat} {xs : List Nat} (h : Res e base w a cap xs) (hb : Below w.heap.size w w') : Res e base w' a cap xs := by
  refine ⟨h.1, h.2.1, ?_⟩
  rcases h.2.2 with h0 | ⟨g, cap', cur, h1, h2, h3, h4⟩
  · exact .inl h0
  · exact .inr ⟨g, cap', cur, h1, h2, (hb.block g (Array.getElem?_eq_some_iff.1 h3).1).trans h3, h4⟩

/-- Out of what append leaves. -/
theorem Res.of {e : TypeId} {base : Nat} {w : World} {v : Value} {n : Nat} {xs : List Nat} (hl : Lim xs) (h : w.ownsRow base e 1 v n (xs.map U)) : ∃ a cap, v = .slice a xs.length cap ∧ Res e base w a cap xs := by
  have hn : n = xs.length := by have := h.1; simp at this; omega
  subst hn
  rcases h.2 with ⟨hv, h0⟩ | ⟨g, cap, cur, hv, _⟩
  · exact ⟨none, 0, by rw [hv, h0], hl, by rw [h0] at h ⊢; rw [hv] at h; exact h⟩
  · subst hv; exact ⟨_, cap, rfl, hl, h⟩

/-- A view of a block that is known whole. -/
theorem rd_block {w : World} {g : Nat} {zs : List Nat} {e : TypeId} (h : w.heap[g]? = some (.cells (zs.map U).toArray e (0, 0))) (hl : Lim zs) (off n cap : Nat) (h1 : off + n ≤ zs.length) (h2 : n ≤ cap) (h3 : cap ≤ maxLen) :
    Rd w (some ⟨g, off, none⟩) cap ((zs.drop off).take n) := by
  refine ⟨(hl.drop off).take n, by simp; omega, h3, (by simp), .inr ⟨g, off, rfl, (Array.getElem?_eq_some_iff.1 h).1, fun i hi => ?_⟩⟩
  simp at hi
  rw [cell_of_row w g (off + i) _ e (0, 0) h]
  simp [List.getD, U, show off + i < zs.length by omega, show i < n by omega]

theorem rd_new (w : World) (e : TypeId) (zs : List Nat) (cs : Array Value) (hc : cs = (zs.map U).toArray) (hl : Lim zs) (hm : zs.length ≤ maxLen) : Rd (w.alloc (.cells cs e)) (some ⟨w.heap.size, 0, none⟩) zs.length zs := by
  subst hc
  have := rd_block (heap_alloc_new w (.cells (zs.map U).toArray e)) hl 0 zs.length zs.length (by omega) (Nat.le_refl _) hm
  simpa using this

/-- What append leaves, in the walk's own spelling. -/
theorem own_snoc {w : World} {base : Nat} {e : TypeId} {v : Value} {n z : Nat} {zs : List Nat} (h : w.ownsRow base e 1 v n (List.map U zs ++ [U z])) : w.ownsRow base e 1 v n ((zs ++ [z]).map U) := by
  rw [List.map_append]; exact h

theorem oneCell_U (xs : List Nat) : ∀ u ∈ xs.map U, u.oneCell' = true := by
  intro u hu
  obtain ⟨x, _, rfl⟩ := List.mem_map.1 hu
  rfl

section
variable {P : Program} {w : World} {ops : Array Oper} {rest : List Oper} {o : Oper} {a : Act} {Q : Exit → Act → World → Prop}

/-- 'append(out, src...)': src is read, out is the call's own. -/
theorem wpList_append_rd (hgd : o.guard = none) (s x : Operand) (t : TypeId) (ho : o.op = .call { callee := .builtin .append, args := #[s, x], argTypes := #[t, t] })
    (base : Nat) (e : TypeId) (i : TypeInfo) (ht : P.underlying t = some (.slice e)) (hi : P.info? e = some i) (hz : i.zero = some (.int .u32 0)) (hsize : i.size = 1) (hby : i.bytes = 4)
    (v : Value) (n : Nat) (ys : List Nat) (hs : a.eval s = v) (hown : w.ownsRow base e 1 v n (ys.map U))
    (ad : Option Addr) (c m : Nat) (zs : List Nat) (hx : a.eval x = .slice ad m c) (hm : m = zs.length) (hrd : Rd w ad c zs) (hlen : n + zs.length ≤ 2000000000) (hbase : base ≤ w.heap.size)
    (h : ∀ v' w', w'.ownsRow base e 1 v' (n + zs.length) ((ys ++ zs).map U) → w.grownBy w' v.ownBlock → wpList P ops Q rest (a.put o.dst v') w') : wpList P ops Q (o :: rest) a w := by
  subst hm
  cases ad with
  | none =>
    have hc : c = 0 := hrd.2.2.2.1 rfl
    have hzs : zs = [] := by
      rcases hrd.2.2.2.2 with h0 | ⟨b, off, e', _⟩
      · exact h0
      · cases e'
    subst hzs; subst hc
    refine wpList_append_own_none hgd s x t ho base e i 1 ht hi v n (ys.map U) hs hown hx (h v w (by simpa using hown) (World.grownBy.refl w _))
  | some ad =>
    refine wpList_append_own w hgd s x t ho base e i (.int .u32 0) 1 4 ht hi hz hsize hby rfl (by decide) v n (ys.map U) hs hown ad zs.length c (zs.map U) hx (by simp) ?_ (oneCell_U zs) (by unfold maxLen; omega) (by omega) hbase ?_
    · intro j u hj
      rcases hrd.2.2.2.2 with rfl | ⟨b, off, e', hb, hc⟩
      · simp at hj
      · simp at e'; subst e'
        have hjl : j < zs.length := by
          rcases Nat.lt_or_ge j zs.length with h1 | h1
          · exact h1
          · rw [List.getElem?_eq_none (by simpa using h1)] at hj; cases hj
        have hadd : (⟨b, off, none⟩ : Addr).add j = ⟨b, off + j, none⟩ := by unfold Addr.add; split <;> simp_all
        rw [hadd, hc j hjl]
        rw [List.getElem?_map, List.getElem?_eq_getElem hjl] at hj
        simp at hj; rw [← hj]; simp [List.getD, hjl, U]
    · intro v' w' h1 h2 _
      exact h v' w' (by rw [List.map_append]; exact h1) h2

/-- 'append(out, x)': x is laid in a block of its own first. -/
theorem wpList_append_one (hgd : o.guard = none) (s x : Operand) (t : TypeId) (ho : o.op = .call { callee := .builtin .append, args := #[s, x], argTypes := #[t, t] })
    (base : Nat) (e : TypeId) (i : TypeInfo) (ht : P.underlying t = some (.slice e)) (hi : P.info? e = some i) (hz : i.zero = some (.int .u32 0)) (hsize : i.size = 1) (hby : i.bytes = 4)
    (v : Value) (n : Nat) (ys : List Nat) (hs : a.eval s = v) (hown : w.ownsRow base e 1 v n (ys.map U))
    (g z : Nat) (hx : a.eval x = .slice (some ⟨g, 0, none⟩) 1 1) (hc : w.cell? ⟨g, 0, none⟩ = some (.int .u32 (z : Int))) (hlen : n + 1 ≤ 2000000000) (hbase : base ≤ w.heap.size)
    (h : ∀ v' w', w'.ownsRow base e 1 v' (n + 1) ((ys ++ [z]).map U) → w.grownBy w' v.ownBlock → wpList P ops Q rest (a.put o.dst v') w') : wpList P ops Q (o :: rest) a w := by
  refine wpList_append_own w hgd s x t ho base e i (.int .u32 0) 1 4 ht hi hz hsize hby rfl (by decide) v n (ys.map U) hs hown ⟨g, 0, none⟩ 1 1 [U z] hx rfl ?_ (oneCell_U [z]) (by unfold maxLen; omega) (by omega) hbase ?_
  · intro j u hj
    match j, hj with
    | 0, hj => simp at hj; subst hj; simpa [Addr.add, U] using hc
  · intro v' w' h1 h2 _
    exact h v' w' (by rw [List.map_append]; exact h1) h2
end

theorem Below.drew1 {w : World} : Below w.heap.size w w.drew := (Below.refl _ _).drew

end Go.Proofs.Ytokcdkckomoajaa

namespace Go.Proofs.Ytokcdkckomoajaa
open Go.RowKit Go.Maps
set_option linter.unusedSimpArgs false
set_option linter.unusedVariables false

theorem foB_eq (o : Ol) : foB o = (!(decide (0 < o.ps.length) && decide (0 < o.cs.length)) && (coF o.cs && (decide (o.ps.length ≤ 6) && o.ps.all paF))) := by
  unfold foB coF
  generalize decide (0 < o.cs.length) = b1
  generalize decide (0 < o.ps.length) = b2
  generalize decide (o.cs.length ≤ 10) = b3
  generalize decide (o.ps.length ≤ 6) = b4
  generalize o.cs.all _ = b5
  generalize decide (o.cs.flatten.length ≤ 80) = b6
  generalize o.cs.flatten.all pnF = b7
  generalize o.ps.all paF = b8
  revert b1 b2 b3 b4 b5 b6 b7 b8
  decide

set_option maxHeartbeats 2000000 in
set_option maxRecDepth 100000 in
theorem cformO_any (S : Nat → Prop) (a : Option Addr) (ca : Nat) (b : Option Addr) (cb : Nat) (o : Ol) (w : World) (hc : Gr PnE.row S w a ca o.cs) (hp : Gr PaE S w b cb o.ps) :
    Calls Try.prog 17 #[.agg #[.slice a o.cs.length ca, .slice b o.ps.length cb]] w fun e w' => e = .returned (.bool (foB o)) ∧ Below w.heap.size w w' := by
  have k1 := hc.lenB
  have k2 := hp.lenB
  have HE : Hid (_) := foB_eq o
  obtain ⟨W, hW, X1, hbW⟩ : ∃ W, W = w.alloc (.cells #[.slice a o.cs.length ca, .slice b o.ps.length cb] 25) ∧ Bk 25 W w.heap.size [.slice a o.cs.length ca, .slice b o.ps.length cb] ∧ Below w.heap.size w W := ⟨_, rfl, Bk.new _ _ _, bl1 _⟩
  have hc1 := ccontF_any S a ca o.cs W (hc.below hbW)
  have hp1 := fun U (h : Below W.heap.size W U) => cpartsF_any S b cb o.ps U ((hp.below hbW).below h)
  clear hc hp
  by_cases h2 : 0 < o.ps.length
  · have e1 : decide (0 < o.ps.length) = true := decide_eq_true h2
    have g1 : decide ((0 : Int) < (o.ps.length : Int)) = true := decide_eq_true (by omega)
    by_cases h1 : 0 < o.cs.length
    · have e2 : decide (0 < o.cs.length) = true := decide_eq_true h1
      have g2 : decide ((0 : Int) < (o.cs.length : Int)) = true := decide_eq_true (by omega)
      have HF : Hid (foB o = false) := by show _ = _; rw [HE.out, e1, e2]; rfl
      clear HE hc1 hp1
      obtain ⟨x0, x1, _⟩ := X1.two
      go_enter Try.func17, Try.ntmps17
      go_wp2
      go_ret
      exact ⟨rt_bool HF.out.symm, bl1 _⟩
    · have e2 : decide (0 < o.cs.length) = false := decide_eq_false h1
      have g2 : decide ((0 : Int) < (o.cs.length : Int)) = false := decide_eq_false (by omega)
      have HF : Hid (foB o = (coF o.cs && (decide (o.ps.length ≤ 6) && o.ps.all paF))) := by show _ = _; rw [HE.out, e2, Bool.and_false]; rfl
      clear HE
      generalize coF o.cs = q1 at *
      generalize (decide (o.ps.length ≤ 6) && o.ps.all paF) = q2 at *
      go_enter Try.func17, Try.ntmps17
      go_wp2_with fail
      rw [← hW]
      clear hW
      refine hc1.mono ?_
      rintro e u1 ⟨rfl, hb1⟩
      replace hbW : Below w.heap.size w u1 := hbW.trans (hb1.mono hbW.size)
      replace hp1 := hp1 u1 hb1
      replace X1 := X1.below hb1
      clear hc1 hb1
      obtain ⟨x0, x1, _⟩ := X1.two
      cases q1 with
      | false =>
        go_wp2
        go_ret
        exact ⟨rt_bool HF.out.symm, hbW⟩
      | true =>
        go_wp2_with fail
        refine hp1.mono ?_
        rintro e u2 ⟨rfl, hb2⟩
        replace hbW : Below w.heap.size w u2 := hbW.trans (hb2.mono hbW.size)
        go_wp2
        go_ret
        exact ⟨rt_bool (by rw [HF.out, Bool.true_and]), hbW⟩
  · have e1 : decide (0 < o.ps.length) = false := decide_eq_false h2
    have g1 : decide ((0 : Int) < (o.ps.length : Int)) = false := decide_eq_false (by omega)
    have HF : Hid (foB o = (coF o.cs && (decide (o.ps.length ≤ 6) && o.ps.all paF))) := by show _ = _; rw [HE.out, e1, Bool.false_and]; rfl
    clear HE
    generalize coF o.cs = q1 at *
    generalize (decide (o.ps.length ≤ 6) && o.ps.all paF) = q2 at *
    go_enter Try.func17, Try.ntmps17
    go_wp2_with fail
    rw [← hW]
    clear hW
    refine hc1.mono ?_
    rintro e u1 ⟨rfl, hb1⟩
    replace hbW : Below w.heap.size w u1 := hbW.trans (hb1.mono hbW.size)
    replace hp1 := hp1 u1 hb1
    replace X1 := X1.below hb1
    clear hc1 hb1
    obtain ⟨x0, x1, _⟩ := X1.two
    cases q1 with
    | false =>
      go_wp2
      go_ret
      exact ⟨rt_bool HF.out.symm, hbW⟩
    | true =>
      go_wp2_with fail
      refine hp1.mono ?_
      rintro e u2 ⟨rfl, hb2⟩
      replace hbW : Below w.heap.size w u2 := hbW.trans (hb2.mono hbW.size)
      go_wp2
      go_ret
      exact ⟨rt_bool (by rw [HF.out, Bool.true_and]), hbW⟩

theorem zero_size (z : Array Value) (n : Nat) : (Builtin.zeroCells z n).size = n * z.size := by simp [Builtin.zeroCells]

set_option maxHeartbeats 2000000 in
set_option maxRecDepth 100000 in
theorem cgrow_any (n : Nat) (w : World) (hn : n ≤ 1000000) :
    Calls Try.prog 59 #[.slice none 0 0, .int .i64 (n : Int)] w fun e w' => ∃ v, e = .returned v ∧ (∀ S, Gw PnE 43 w.heap.size S w' v []) ∧ Below w.heap.size w w' := by
  by_cases h0 : n = 0
  · subst h0
    go_enter Try.func59, Try.ntmps59
    go_wp2
    go_ret
    exact ⟨_, rfl, fun S => Gw.nil _ _ _ _ _, Below.refl _ _⟩
  have h1 : ¬ ((n : Int) < 0) := by omega
  have h2 : (0 : Int) < (n : Int) := by omega
  obtain ⟨i0, hi, hz0, hz1, hz2⟩ := info_parts info_pn
  have hold := run_firstCells_none (P := Try.prog) w.drew i0.size 0 0 0
  have hrz : ∀ ty, (Builtin.append_ #[37, 3] ty #[.slice none 0 0, .int .i64 (n : Int)]).run Try.prog w = _ := fun ty => Lib.run_append_grow_zeros w 37 3 ty 43 i0 _ .i64 .i64 Try.underlying37 Try.underlying3 hi hz0 none 0 0 [] hold n (by omega) (by omega) (by omega) (by omega) (by rw [hz2]; omega) (growslice_fits (by omega) (by rw [hz2]; omega))
  simp only [Nat.zero_add] at hrz
  have hGn : n ≤ grownCap w n 0 43 := grownCap_ge w _ _ _
  obtain ⟨G, hG⟩ : ∃ G, G = grownCap w n 0 43 := ⟨_, rfl⟩
  rw [← hG] at hrz hGn
  have hG63 : G ≤ 9223372036854775807 := by
    have := grownCap_le_maxLen w n 0 43 (by unfold maxLen; omega)
    rw [← hG] at this
    unfold maxLen at this
    omega
  obtain ⟨Z, hZ⟩ : ∃ Z, (([] : List Value).toArray ++ Builtin.zeroCells (Value.agg #[.int .i64 0, .int .i64 0, .bool false]).cells n ++ Builtin.zeroCells (Value.agg #[.int .i64 0, .int .i64 0, .bool false]).cells (G - n)) = Z := ⟨_, rfl⟩
  have hZs : Z.size = G * 3 := by
    rw [← hZ]
    simp only [Array.size_append, zero_size]
    show 0 + n * 3 + (G - n) * 3 = G * 3
    omega
  rw [hZ] at hrz
  clear hold hG hi hz0 hz1 hz2 h0 hZ
  go_enter Try.func59, Try.ntmps59
  go_wp2_with (at_builtin; refine Lib.wpList_append_run _ rfl _ _ _ _ rfl _ _ rfl rfl _ _ (hrz _) ?_)
  go_ret
  refine ⟨_, rfl, fun S => Gw.made ⟨rfl, .inr ⟨w.heap.size, G, Z, rfl, Nat.le_refl _, ?_, Nat.zero_le _, by unfold maxLen; omega, hZs, rfl⟩⟩, ?_⟩
  · exact heap_alloc_new w _
  · exact (bl1 _).drew

theorem Gr.anyP {S S' : Nat → Prop} {w : World} {a : Option Addr} {cap : Nat} {l : List Pn} (h : Gr PnE S w a cap l) : Gr PnE S' w a cap l := by
  refine ⟨h.1, h.2.1, h.2.2.1, fun i hi => ?_⟩
  obtain ⟨b, off, vs, e, hb, hr, hc⟩ := h.2.2.2 i hi
  exact ⟨b, off, vs, e, hb, PnE_rep.2 (PnE_rep.1 hr), hc⟩
theorem Gr.anyA {S S' : Nat → Prop} {w : World} {a : Option Addr} {cap : Nat} {l : List Pa} (h : Gr PaE S w a cap l) : Gr PaE S' w a cap l := by
  refine ⟨h.1, h.2.1, h.2.2.1, fun i hi => ?_⟩
  obtain ⟨b, off, vs, e, hb, hr, hc⟩ := h.2.2.2 i hi
  exact ⟨b, off, vs, e, hb, PaE_rep.2 (PaE_rep.1 hr), hc⟩
theorem flat_take_snoc {cs : List (List Pn)} {k : Nat} {c : List Pn} (hk : k < cs.length) (hc : cs.getD k [] = c) : (cs.take (k + 1)).flatten = (cs.take k).flatten ++ c := by
  rw [take_snoc (d := []) hk, List.flatten_append, List.flatten_singleton, hc]

set_option maxHeartbeats 2000000 in
set_option maxRecDepth 100000 in
theorem cconcat_any (S : Nat → Prop) (a : Option Addr) (ca : Nat) (cs : List (List Pn)) (w : World) (h : Gr PnE.row S w a ca cs) (hl : cs.flatten.length ≤ 100000) :
    Calls Try.prog 44 #[.slice a cs.length ca] w fun e w' => ∃ a' c', e = .returned (.slice a' cs.flatten.length c') ∧ Gr PnE (fun _ => True) w' a' c' cs.flatten ∧ (∀ b o, a' = some ⟨b, o, none⟩ → w.heap.size ≤ b ∧ b < w'.heap.size) ∧ Below w.heap.size w w' := by
  have k2 := h.lenB
  have HH : Hid (Gr PnE.row S w a ca cs) := h
  clear h
  go_enter Try.func44, Try.ntmps44
  go_wp2
  go_loopw [3, 11] (fun n i wr => ∃ k m : Nat, k ≤ cs.length ∧ i = .int .i64 k ∧ n = .int .i64 (m : Int) ∧ m = ((cs.take k).flatten).length ∧ w = wr) (fun _ i _ => cs.length - (intOf i).toNat)
  case atStart => exact ⟨0, 0, Nat.zero_le _, rfl, rfl, rfl, rfl⟩
  case round =>
    obtain ⟨k, m, hk, rfl, rfl, hm, rfl⟩ := hrel
    have HM : Hid (m = ((cs.take k).flatten).length) := hm
    clear hm
    by_cases hkn : k < cs.length
    · obtain ⟨b, off, a1, c1, ea, hb, d0, hrow, hlb, _⟩ := HH.out.rw (Below.refl _ _) k hkn
      subst ea
      have hst := flat_take_succ hkn
      have hle := flat_take_le cs (k + 1)
      rw [← HM.out] at hst
      obtain ⟨c, hc⟩ : ∃ c, cs.getD k [] = c := ⟨_, rfl⟩
      rw [hc] at d0 hst hlb
      have HM2 : Hid (m + c.length = ((cs.take (k + 1)).flatten).length) := hst.symm
      have hmc : m + c.length ≤ 100000 := by omega
      have i1 : (0 : Int) ≤ (k : Int) := by omega
      have i2 : (k : Int) < (cs.length : Int) := by omega
      have i3 : ¬ (m : Int) + (c.length : Int) < 0 := by omega
      clear hc hst hle hrow HM hlb
      go_wp2
      go_roundw
      case rel => exact ⟨k + 1, m + c.length, by omega, by go_num, by go_num, HM2.out, trivial⟩
      case measure => simp [intOf]; omega
    · obtain rfl : k = cs.length := by omega
      have hm : m = cs.flatten.length := by rw [HM.out, List.take_length]
      have g4 : ¬ (cs.length : Int) < (cs.length : Int) := by omega
      have hgr := cgrow_any m w (by omega)
      clear HM hm
      go_wp2_with fail
      refine hgr.mono ?_
      rintro e u1 ⟨v1, rfl, hT0, hb1⟩
      have HT0 : Hid (Gw PnE 43 w.heap.size (fun _ => True) u1 v1 []) := hT0 _
      have HB1 : Hid (Below w.heap.size w u1) := hb1
      clear hgr hT0 hb1 hk hkn
      go_wp2
      go_loopw [6, 27] (fun v i wr => ∃ k : Nat, k ≤ cs.length ∧ i = .int .i64 k ∧ Gw PnE 43 w.heap.size (fun _ => True) wr v ((cs.take k).flatten) ∧ Below w.heap.size w wr) (fun _ i _ => cs.length - (intOf i).toNat)
      case atStart => exact ⟨0, Nat.zero_le _, rfl, HT0.out, HB1.out⟩
      case round =>
        clear HT0 HB1
        obtain ⟨k, hk, rfl, hT, hB⟩ := hrel
        obtain ⟨a2, c2, rfl, hgr, hblk⟩ := hT.slice
        have HT : Hid (Gw PnE 43 w.heap.size (fun _ => True) wr (.slice a2 ((cs.take k).flatten).length c2) ((cs.take k).flatten)) := hT
        clear hT
        by_cases hkn : k < cs.length
        · obtain ⟨b, off, a1, c1, ea, hb, d0, hrow, hlb, _⟩ := HH.out.rw hB k hkn
          subst ea
          have hst := flat_take_succ hkn
          have hle := flat_take_le cs (k + 1)
          obtain ⟨c, hc⟩ : ∃ c, cs.getD k [] = c := ⟨_, rfl⟩
          have HS : Hid (_) := flat_take_snoc hkn hc
          rw [hc] at d0 hst hlb hrow
          have hll : ((cs.take k).flatten).length + c.length ≤ 1000000 := by omega
          have i1 : (0 : Int) ≤ (k : Int) := by omega
          have i2 : (k : Int) < (cs.length : Int) := by omega
          have hbs : w.heap.size ≤ wr.heap.size := hB.size
          clear hc hst hle hlb hgr hblk
          generalize (cs.take k).flatten = L at *
          go_wp2_with (at_builtin; refine wpList_append_el 37 43 Try.underlying37 info_pn rfl (by decide) (by decide) rfl _ _ rfl w.heap.size (fun _ => True) _ L rfl HT.out a1 c1 _ c rfl rfl hrow.anyP hll hbs ?_)
          intro v9 w9 hT9 hgrow _
          have hB9 : Below w.heap.size w w9 := hB.grown hgrow hbs (fun k hk => (HT.out.lo hk).1)
          rw [← HS.out] at hT9
          clear hgrow hbs hll HS
          go_wp2
          go_roundw
          case rel => exact ⟨k + 1, by omega, by go_num, hT9, hB9⟩
          case measure => simp [intOf]; omega
        · obtain rfl : k = cs.length := by omega
          rw [List.take_length] at HT hgr ⊢
          have HB2 : Hid (∀ b o, a2 = some ⟨b, o, none⟩ → w.heap.size ≤ b ∧ b < wr.heap.size) := hblk
          have g4 : ¬ (cs.length : Int) < (cs.length : Int) := by omega
          clear hblk
          go_wp2
          go_ret
          exact ⟨a2, c2, rfl, hgr, HB2.out, hB⟩

set_option maxHeartbeats 1000000 in
set_option maxRecDepth 100000 in
theorem cpointsO_any (S : Nat → Prop) (a : Option Addr) (ca : Nat) (vb : Value) (cs : List (List Pn)) (w : World) (h : Gr PnE.row S w a ca cs) (hl : cs.flatten.length ≤ 100000) (hv : vb.cells = #[vb]) :
    Calls Try.prog 19 #[.agg #[.slice a cs.length ca, vb]] w fun e w' => ∃ a' c', e = .returned (.slice a' cs.flatten.length c') ∧ Gr PnE (fun _ => True) w' a' c' cs.flatten ∧ (∀ b o, a' = some ⟨b, o, none⟩ → w.heap.size ≤ b ∧ b < w'.heap.size) ∧ Below w.heap.size w w' := by
  obtain ⟨W, hW, X1, hbW⟩ : ∃ W, W = w.alloc (.cells #[.slice a cs.length ca, vb] 25) ∧ Bk 25 W w.heap.size [.slice a cs.length ca, vb] ∧ Below w.heap.size w W := ⟨_, rfl, Bk.new _ _ _, bl1 _⟩
  have hc1 := cconcat_any S a ca cs W (h.below hbW) hl
  obtain ⟨x0, x1, _⟩ := X1.two
  clear X1 h
  generalize cs.flatten = L at *
  go_enter Try.func19, Try.ntmps19
  go_wp2_with fail
  rw [← hW]
  clear hW
  refine hc1.mono ?_
  rintro e u1 ⟨a1, c1, rfl, hg, hblk, hb1⟩
  have HBK : Hid (∀ b o, a1 = some ⟨b, o, none⟩ → w.heap.size ≤ b ∧ b < u1.heap.size) := fun b o e => ⟨Nat.le_trans hbW.size (hblk b o e).1, (hblk b o e).2⟩
  replace hbW : Below w.heap.size w u1 := hbW.trans (hb1.mono hbW.size)
  clear hc1 hb1 hblk
  go_wp2
  go_ret
  exact ⟨a1, c1, rfl, hg, HBK.out, hbW⟩

theorem endF_take {cs : List (List Pn)} {k : Nat} {c : List Pn} (hk : k < cs.length) (hc : cs.getD k [] = c) : endF 0 (cs.take (k + 1)) = endF 0 (cs.take k) ++ [(((cs.take k).flatten).length : Int) + (c.length : Int) - 1] := by
  rw [take_snoc (d := []) hk, endF_append, hc]
  simp [endF]

set_option maxHeartbeats 1000000 in
set_option maxRecDepth 100000 in
theorem cends_any (S : Nat → Prop) (a : Option Addr) (ca : Nat) (vb : Value) (cs : List (List Pn)) (w : World) (h : Gr PnE.row S w a ca cs) (hl : cs.flatten.length ≤ 100000) (hn : cs.length ≤ 100000) (hv : vb.cells = #[vb]) :
    Calls Try.prog 22 #[.agg #[.slice a cs.length ca, vb]] w fun e w' => ∃ a' c', e = .returned (.slice a' (endF 0 cs).length c') ∧ Ri w' a' c' (endF 0 cs) ∧ (∀ b o, a' = some ⟨b, o, none⟩ → w.heap.size ≤ b ∧ b < w'.heap.size) ∧ Below w.heap.size w w' := by
  obtain ⟨W, hW, X1, hbW⟩ : ∃ W, W = w.alloc (.cells #[.slice a cs.length ca, vb] 25) ∧ Bk 25 W w.heap.size [.slice a cs.length ca, vb] ∧ Below w.heap.size w W := ⟨_, rfl, Bk.new _ _ _, bl1 _⟩
  obtain ⟨i0, hi0, hz0, hz1, hz2⟩ := info_parts infoA_i64
  obtain ⟨w1, hmk, hown, hgrow⟩ := run_makeSlice_owned W w.heap.size 40 3 i0 _ 1 Try.underlying40 hi0 hz0 hz1 .i64 .i64 cs.length (by omega) (by rw [hz2]; omega) (by unfold maxLen; omega) hbW.size
  have hI0 : Io w.heap.size w1 (.slice (some ⟨W.heap.size, 0, none⟩) 0 cs.length) (endF 0 (cs.take 0)) := ⟨fun t ht => (by cases ht), hown⟩
  have hB1 : Below W.heap.size W w1 := (Below.refl _ _).grown hgrow (Nat.le_refl _) (fun k hk => by cases hk)
  have X2 := X1.below hB1
  obtain ⟨x0, x1, _⟩ := X1.two
  obtain ⟨y0, y1, _⟩ := X2.two
  have HH : Hid (Gr PnE.row S w a ca cs) := h
  have HB0 : Hid (Below w.heap.size w w1) := hbW.trans (hB1.mono hbW.size)
  clear h hown hgrow hi0 hz0 hz1 hz2 X1 X2 hB1
  have hsz : W.heap.size = w.heap.size + 1 := by rw [hW]; simp
  rw [hsz] at hmk hI0
  rw [hW] at hmk
  clear hsz
  go_enter Try.func22, Try.ntmps22
  go_wp2
  clear hW x0 x1 y0 y1 hbW hmk
  go_loopw [3, 4, 14] (fun v la i wr => ∃ k m : Nat, k ≤ cs.length ∧ i = .int .i64 k ∧ la = .int .i64 ((m : Int) - 1) ∧ m = ((cs.take k).flatten).length ∧ Io w.heap.size wr v (endF 0 (cs.take k)) ∧ Below w.heap.size w wr) (fun _ _ i _ => cs.length - (intOf i).toNat)
  case atStart => exact ⟨0, 0, Nat.zero_le _, rfl, rfl, rfl, hI0, HB0.out⟩
  case round =>
    clear hI0 HB0
    obtain ⟨k, m, hk, rfl, rfl, hm, hT, hB⟩ := hrel
    obtain ⟨a2, c2, rfl, hts⟩ := hT.slice
    have hlen : (endF 0 (cs.take k)).length = k := by rw [endF_len, List.length_take]; omega
    have HM : Hid (m = ((cs.take k).flatten).length) := hm
    have HT : Hid (Io w.heap.size wr (.slice a2 (endF 0 (cs.take k)).length c2) (endF 0 (cs.take k))) := hT
    have hll : (endF 0 (cs.take k)).length + 1 ≤ 1000000 := by omega
    clear hm hT hlen
    by_cases hkn : k < cs.length
    · obtain ⟨b, off, a1, c1, ea, hb, d0, hrow, hlb, _⟩ := HH.out.rw hB k hkn
      subst ea
      have hst := flat_take_succ hkn
      have hle := flat_take_le cs (k + 1)
      rw [← HM.out] at hst
      obtain ⟨c, hc⟩ : ∃ c, cs.getD k [] = c := ⟨_, rfl⟩
      have HS : Hid (_) := endF_take hkn hc
      rw [← HM.out] at HS
      rw [hc] at d0 hst hlb
      have HM2 : Hid (m + c.length = ((cs.take (k + 1)).flatten).length) := hst.symm
      have hmc : m + c.length ≤ 100000 := by omega
      have i1 : (0 : Int) ≤ (k : Int) := by omega
      have i2 : (k : Int) < (cs.length : Int) := by omega
      obtain ⟨y, hy⟩ : ∃ y, (m : Int) + (c.length : Int) - 1 = y := ⟨_, rfl⟩
      have hy2 : (m : Int) - 1 + (c.length : Int) = y := by omega
      have HY : Hid (((m + c.length : Nat) : Int) - 1 = y) := by show _ = _; omega
      rw [hy] at HS
      have hyi : I64 y := ⟨by omega, by omega⟩
      have hT5 := HT.out.below (bl1 (.cells #[.int .i64 y] 3))
      have hN := heap_alloc_new wr (.cells #[.int .i64 y] 3)
      have n0 := cell_of_row _ wr.heap.size 0 _ _ (0, 0) hN
      have hbs : w.heap.size ≤ (wr.alloc (.cells #[.int .i64 y] 3)).heap.size := Nat.le_trans hB.size (bl1 _).size
      clear hc hst hle hrow HM hlb hN hy hts
      generalize endF 0 (cs.take k) = L at *
      go_wp2_with (at_builtin; refine wpList_append_int rfl _ _ rfl w.heap.size _ L rfl hT5 wr.heap.size y rfl n0 hyi hll hbs ?_)
      intro v' w9 hT9 hgrow
      have hB9 : Below w.heap.size w w9 := (hB.alloc hB.size _).grown hgrow hbs (fun k hk => HT.out.lo hk)
      rw [← HS.out] at hT9
      clear hgrow hT5 n0 hbs hll HS
      go_wp2
      go_roundw
      case rel => exact ⟨k + 1, m + c.length, by omega, by go_num, by rw [HY.out], HM2.out, hT9, hB9⟩
      case measure => simp [intOf]; omega
    · obtain rfl : k = cs.length := by omega
      rw [List.take_length] at HT hts ⊢
      have HB2 : Hid (∀ b o, a2 = some ⟨b, o, none⟩ → w.heap.size ≤ b ∧ b < wr.heap.size) := fun b o e => by
        subst e
        exact World.ownsRow.lt HT.out.2 b rfl
      have g4 : ¬ (cs.length : Int) < (cs.length : Int) := by omega
      clear HM hll
      go_wp2
      go_ret
      exact ⟨a2, c2, rfl, hts, HB2.out, hB⟩

end Go.Proofs.Ytokcdkckomoajaa

namespace Go.Proofs.Ytokcdkckomoajaa
open Go.RowKit Go.Maps
set_option linter.unusedSimpArgs false
set_option linter.unusedVariables false

/-- A row of ints of the call's own. -/
def Gi (base : Nat) (w : World) (v : Value) (l : List Int) : Prop := Gw El.int 3 base (fun _ => False) w v l
theorem Gi.nil (base : Nat) (w : World) : Gi base w (.slice none 0 0) [] := Gw.nil _ _ _ _ _
theorem Gi.lo {base : Nat} {w : World} {v : Value} {l : List Int} (h : Gi base w v l) {g : Nat} (hg : v.ownBlock = some g) : base ≤ g ∧ g < w.heap.size := Gw.lo h hg
theorem Gr.ri {S : Nat → Prop} {w : World} {a : Option Addr} {cap : Nat} {l : List Int} (h : Gr El.int S w a cap l) : Ri w a cap l := by
  have hz : ∀ i, i < l.length → I64 (l.getD i 0) := fun i hi => by
    obtain ⟨b, off, vs, e, hb, hr, hc⟩ := h.2.2.2 i hi
    exact hr.2
  refine ⟨fun z hz1 => ?_, h.1, h.2.1, ?_⟩
  · obtain ⟨i, hi, e⟩ := List.getElem_of_mem hz1
    have := hz i hi
    rw [List.getD_eq_getElem?_getD, List.getElem?_eq_getElem hi, Option.getD_some, e] at this
    exact this
  · by_cases h0 : l = []
    · exact .inl h0
    · obtain ⟨b, off, e, hb⟩ := h.blk h0
      refine .inr ⟨b, off, e, hb, fun i hi => ?_⟩
      obtain ⟨b', off', vs, e', hb', hr, hc⟩ := h.2.2.2 i hi
      rw [e] at e'
      cases e'
      have := hc 0 Nat.one_pos
      rw [hr.1, show i * El.int.sz = i from Nat.mul_one i] at this
      exact this
theorem Gi.slice {base : Nat} {w : World} {v : Value} {l : List Int} (h : Gi base w v l) : ∃ a cap, v = .slice a l.length cap ∧ Ri w a cap l ∧ ∀ b o, a = some ⟨b, o, none⟩ → base ≤ b ∧ b < w.heap.size := by
  obtain ⟨a, cap, e, hg, hb⟩ := Gw.slice h
  exact ⟨a, cap, e, hg.ri, hb⟩
theorem Gi.stay {base : Nat} {w w' : World} {v : Value} {l : List Int} (h : Gi base w v l) (hs : w.heap.size ≤ w'.heap.size) (ho : ∀ k, v.ownBlock = some k → w'.heap[k]? = w.heap[k]?) : Gi base w' v l :=
  Gw.stay h hs (fun k hk => hk.elim) ho
theorem Gi.below {base : Nat} {w w' : World} {v : Value} {l : List Int} (h : Gi base w v l) (hb : Below w.heap.size w w') : Gi base w' v l := Gw.below h hb
theorem Gi.grown {base : Nat} {w w' : World} {v : Value} {l : List Int} {r : Option Nat} (h : Gi base w v l) (hg : w.grownBy w' r) (hr : ∀ k, v.ownBlock = some k → r ≠ some k) : Gi base w' v l :=
  h.stay hg.size (fun k hk => hg.block k (h.lo hk).2 (fun e => hr k hk e.symm))
/-- Such a row, and a block of another type. -/
theorem Gi.ne {base : Nat} {w : World} {v : Value} {l : List Int} {t : TypeId} {g : Nat} {cs : List Value} (h : Gi base w v l) (hb : Bk t w g cs) (ht : t ≠ 3) : v.ownBlock ≠ some g := by
  intro e
  obtain ⟨cur, k⟩ := Gw.ty h e
  rw [hb] at k
  simp at k
  exact ht k.2
theorem Gi.set {base : Nat} {w : World} {v : Value} {l : List Int} {t : TypeId} {g : Nat} {cs : List Value} (h : Gi base w v l) (hb : Bk t w g cs) (ht : t ≠ 3) (j : Nat) (z : Value) : Gi base (w.setCell ⟨g, j, none⟩ z) v l :=
  h.stay (by simp [World.setCell]) (fun k hk => Below.heap_setCell _ _ _ _ (fun e => h.ne hb ht (by rw [hk, e])))
/-- 'append(v, z)': z is laid in a block of its own first. -/
theorem wpList_append_gi {w : World} {ops : Array Oper} {rest : List Oper} {o : Oper} {a : Act} {Q : Exit → Act → World → Prop}
    (hgd : o.guard = none) (s x : Operand) (ho : o.op = .call { callee := .builtin .append, args := #[s, x], argTypes := #[40, 40] })
    (base : Nat) (v : Value) (l : List Int) (hs : a.eval s = v) (hown : Gi base w v l) (g : Nat) (z : Int) (hx : a.eval x = .slice (some ⟨g, 0, none⟩) 1 1)
    (hg : g < w.heap.size) (c0 : w.cell? ⟨g, 0, none⟩ = some (.int .i64 z)) (hz : I64 z) (hlen : l.length + 1 ≤ 1000000) (hbase : base ≤ w.heap.size)
    (h : ∀ v' w', Gi base w' v' (l ++ [z]) → w.grownBy w' v.ownBlock → (v'.ownBlock = v.ownBlock ∨ v'.ownBlock = some w.heap.size) → wpList Try.prog ops Q rest (a.put o.dst v') w') : wpList Try.prog ops Q (o :: rest) a w := by
  refine wpList_append_el 40 3 Try.underlying40 infoA_i64 rfl Nat.one_pos (by decide) hgd s x ho base (fun _ => False) v l hs hown (some ⟨g, 0, none⟩) 1 1 [z] rfl hx ?_ hlen hbase (fun v' w' k1 k2 k3 => h v' w' k1 k2 k3)
  refine Gr.one (vs := [.int .i64 z]) ⟨rfl, hz⟩ hg (fun j hj => ?_)
  obtain rfl : j = 0 := by simp [El.int, El.num] at hj; exact hj
  exact c0

end Go.Proofs.Ytokcdkckomoajaa

namespace Go.Proofs.Ytokcdkckomoajaa
open Go.RowKit

/-- The operation at a place of a list. -/
def nth : List Oper → Nat → Option Oper
  | [], _ => none
  | o :: _, 0 => some o
  | _ :: l, n + 1 => nth l n
theorem nth_eq : ∀ (l : List Oper) (i : Nat), nth l i = l.toArray[i]? := by
  intro l
  induction l with
  | nil => intro i; simp [nth]
  | cons o l ih =>
    intro i
    cases i with
    | zero => simp [nth]
    | succ i => simp [nth, ih i]

theorem hTake {P : Program} {md : Region.Mode} {l : List Oper} {Q : Exit → Act → World → Prop} {S : World → Prop} {i : Nat} {o : Oper} {v : Value} {fuel : Nat} {listed : Array Bool} {a : Act} {w : World} (hi : nth l i = some o)
    (hs : Region.noSelect l.toArray = true) (hf : Region.free md l.toArray listed i = true) (hr : (Region.ready md l.toArray listed).contains i = true)
    (hQ : ∀ c a w, Q (.panic c) (a.put o.dst v) w → Q (.panic c) a w) (hy : YieldsIf P l.toArray S o v a) (hS : S w)
    (h : wpAnyH P md l.toArray Q S fuel (listed.setIfInBounds i true) (a.put o.dst v) w) : wpAnyH P md l.toArray Q S (fuel + 1) listed a w :=
  wpAnyH_take ((nth_eq l i).symm.trans hi) hs hf hr hQ hy hS h

theorem hCall {P : Program} {md : Region.Mode} {l : List Oper} {Q : Exit → Act → World → Prop} {S : World → Prop} {i : Nat} {o : Oper} {fuel : Nat} {listed : Array Bool} {a : Act} {w : World} (hi : nth l i = some o)
    (hr : Region.ready md l.toArray listed = [i]) (hw : Region.wanted o (yielded l.toArray a.tmps) = true)
    (h : ∀ K : Act → World → Prop, Shut (∀ a w, S w → (S w → wpAnyH P md l.toArray Q S fuel (listed.setIfInBounds i true) a w) → K a w) → Oper.wp P o a w K Q) :
    wpAnyH P md l.toArray Q S (fuel + 1) listed a w :=
  wpAnyH_ready hr (by simp) (AllReadyH.cons ((nth_eq l i).symm.trans hi) (fun K hK => by rw [if_pos hw]; exact h K hK) AllReadyH.nil)

theorem hCons {P : Program} {md : Region.Mode} {l : List Oper} {Q : Exit → Act → World → Prop} {S : World → Prop} {i : Nat} {o : Oper} {fuel : Nat} {listed : Array Bool} {a : Act} {w : World} {rs : List Nat} (hi : nth l i = some o)
    (hw : Region.wanted o (yielded l.toArray a.tmps) = true)
    (h : ∀ K : Act → World → Prop, Shut (∀ a w, S w → (S w → wpAnyH P md l.toArray Q S fuel (listed.setIfInBounds i true) a w) → K a w) → Oper.wp P o a w K Q)
    (hs : AllReadyH P md l.toArray Q S fuel listed a w rs) : AllReadyH P md l.toArray Q S fuel listed a w (i :: rs) :=
  AllReadyH.cons ((nth_eq l i).symm.trans hi) (fun K hK => by rw [if_pos hw]; exact h K hK) hs

/-- An operation that is carried out and only reads. -/
theorem hT {P : Program} {md : Region.Mode} {l : List Oper} {Q : Exit → Act → World → Prop} {S : World → Prop} (i : Nat) {o : Oper} {v : Value} {fuel : Nat} {listed : Array Bool} {a a2 : Act} {w : World} (hS : S w)
    (h : wpAnyH P md l.toArray Q S fuel (listed.setIfInBounds i true) a2 w)
    (hi : nth l i = some o := by rfl) (hs : Region.noSelect l.toArray = true := by kernel_rfl) (hf : Region.free md l.toArray listed i = true := by kernel_rfl) (hr : (Region.ready md l.toArray listed).contains i = true := by kernel_rfl)
    (hQ : ∀ c a w, Q (.panic c) (a.put o.dst v) w → Q (.panic c) a w := by exact fun _ _ _ h => h) (hw : Region.wanted o (yielded l.toArray a.tmps) = true := by rfl)
    (hy : ∀ w9, S w9 → (execOp a.eval o).run P w9 = .ok (.value v) w9 := by intro w9 hSw; (try dsimp only at hSw); go_simp; try with_reducible rfl)
    (ha : a.put o.dst v = a2 := by (try simp only [Act.put, List.setIfInBounds_toArray, List.set_cons_zero, List.set_cons_succ]); try rfl) : wpAnyH P md l.toArray Q S (fuel + 1) listed a w := by
  subst ha
  exact wpAnyH_take ((nth_eq l i).symm.trans hi) hs hf hr hQ (Or.inl ⟨hw, hy⟩) hS h

/-- An operation that is not wanted. -/
theorem hN {P : Program} {md : Region.Mode} {l : List Oper} {Q : Exit → Act → World → Prop} {S : World → Prop} (i : Nat) {o : Oper} {fuel : Nat} {listed : Array Bool} {a a2 : Act} {w : World} (hS : S w)
    (h : wpAnyH P md l.toArray Q S fuel (listed.setIfInBounds i true) a2 w)
    (hi : nth l i = some o := by rfl) (hs : Region.noSelect l.toArray = true := by kernel_rfl) (hf : Region.free md l.toArray listed i = true := by kernel_rfl) (hr : (Region.ready md l.toArray listed).contains i = true := by kernel_rfl)
    (hQ : ∀ c a w, Q (.panic c) (a.put o.dst undef) w → Q (.panic c) a w := by exact fun _ _ _ h => h) (hw : Region.wanted o (yielded l.toArray a.tmps) = false := by rfl)
    (ha : a.put o.dst undef = a2 := by (try simp only [Act.put, List.setIfInBounds_toArray, List.set_cons_zero, List.set_cons_succ]); try rfl) : wpAnyH P md l.toArray Q S (fuel + 1) listed a w := by
  subst ha
  exact wpAnyH_take ((nth_eq l i).symm.trans hi) hs hf hr hQ (Or.inr ⟨hw, rfl⟩) hS h

end Go.Proofs.Ytokcdkckomoajaa
