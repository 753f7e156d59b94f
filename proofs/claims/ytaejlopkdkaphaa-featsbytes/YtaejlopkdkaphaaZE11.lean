/-
  What is known of a slice of limbs in a world: where it is read (Rd), and where it is a row of the call's own (Res). Two laws on append.
  foundryref22.ints, Same (of two alike), Few: the walks.
  foundrylaw22.awake, few: the walks.
-/
import Derived.Test.YtaejlopkdkaphaaZE10
import Derived.WalkKit
import Derived.ProofKit
import Derived.Below
import Derived.Laws.AppendOwnNone
import Derived.Test.YtaejlopkdkaphaaZE9
import Derived.Deep.CutBlock
import Derived.Deep.CutRange
import Derived.BigQuiet
import Derived.Deep.QuietTactic
import Derived.WalkSmall
import Derived.Outline
namespace Go.Proofs.Ytaejlopkdkaphaa
open Go.RowKit
set_option linter.unusedSimpArgs false
set_option linter.unusedVariables false

/-- A limb as a value. -/
def U (n : Nat) : Value := .int .u32 (n : Int)

/-- A slice of limbs: its address and capacity, and the limbs that are read there. -/
def Rd (w : World) (a : Option Addr) (cap : Nat) (xs : List Nat) : Prop :=
  Lim xs ∧ xs.length ≤ cap ∧ cap ≤ maxLen ∧ (a = none → cap = 0) ∧
  (xs = [] ∨ ∃ b off, a = some ⟨b, off, none⟩ ∧ b < w.heap.size ∧ ∀ i, i < xs.length → w.cell? ⟨b, off + i, none⟩ = some (.int .u32 (xs.getD i 0 : Nat)))

theorem Rd.lim {w : World} {a : Option Addr} {cap : Nat} {xs : List Nat} (h : Rd w a cap xs) : Lim xs := h.1
theorem Rd.le {w : World} {a : Option Addr} {cap : Nat} {xs : List Nat} (h : Rd w a cap xs) : xs.length ≤ cap := h.2.1
theorem Rd.cap {w : World} {a : Option Addr} {cap : Nat} {xs : List Nat} (h : Rd w a cap xs) : cap ≤ maxLen := h.2.2.1

/-- Where the limbs lie (a plain name, which no walk looks behind). -/
def Fm (w : World) (a : Option Addr) (xs : List Nat) : Prop :=
  xs = [] ∨ ∃ b off, a = some ⟨b, off, none⟩ ∧ b < w.heap.size ∧ ∀ i, i < xs.length → w.cell? ⟨b, off + i, none⟩ = some (.int .u32 (xs.getD i 0 : Nat))

theorem Rd.fm {w : World} {a : Option Addr} {cap : Nat} {xs : List Nat} (h : Rd w a cap xs) : Fm w a xs := h.2.2.2.2

theorem Fm.at {w wr : World} {a : Option Addr} {xs : List Nat} (h : Fm w a xs) (hb : Below w.heap.size w wr) (k : Nat) (hk : k < xs.length) :
    ∃ b off, a = some ⟨b, off, none⟩ ∧ b < w.heap.size ∧ wr.cell? ⟨b, off + k, none⟩ = some (.int .u32 (xs.getD k 0 : Nat)) := by
  rcases h with rfl | ⟨b, off, h1, h2, h3⟩
  · simp at hk
  · exact ⟨b, off, h1, h2, (hb.cell (p := ⟨b, off + k, none⟩) h2).trans (h3 k hk)⟩

theorem Rd.keep {w w' : World} {a : Option Addr} {cap : Nat} {xs : List Nat} (h : Rd w a cap xs) (hs : w.heap.size ≤ w'.heap.size)
    (hb : ∀ b, b < w.heap.size → (∃ o, a = some ⟨b, o, none⟩) → w'.heap[b]? = w.heap[b]?) : Rd w' a cap xs := by
  obtain ⟨h1, h2, h3, h5, h4⟩ := h
  refine ⟨h1, h2, h3, h5, ?_⟩
  rcases h4 with h4 | ⟨b, off, e, hb1, hc⟩
  · exact .inl h4
  · exact .inr ⟨b, off, e, Nat.lt_of_lt_of_le hb1 hs, fun i hi => (World.cell?_of_block (w := w) (a := ⟨b, off + i, none⟩) (hb b hb1 ⟨off, e⟩)).trans (hc i hi)⟩

theorem Rd.below {w w' : World} {a : Option Addr} {cap : Nat} {xs : List Nat} (h : Rd w a cap xs) (hb : Below w.heap.size w w') : Rd w' a cap xs :=
  h.keep hb.size fun b hb1 _ => hb.block b hb1

theorem Rd.take {w : World} {a : Option Addr} {cap : Nat} {xs : List Nat} (h : Rd w a cap xs) (n : Nat) : Rd w a cap (xs.take n) := by
  obtain ⟨h1, h2, h3, h5, h4⟩ := h
  refine ⟨h1.take n, by simp; omega, h3, h5, ?_⟩
  rcases h4 with rfl | ⟨b, off, e, hb1, hc⟩
  · exact .inl (by simp)
  · refine .inr ⟨b, off, e, hb1, fun i hi => ?_⟩
    simp at hi
    rw [hc i (by omega)]
    simp [List.getD, show i < n by omega]

theorem Rd.strip {w : World} {a : Option Addr} {cap : Nat} {xs : List Nat} (h : Rd w a cap xs) : Rd w a cap (strip xs) := by
  rw [strip_take]; exact h.take _

theorem Rd.nil (w : World) (a : Option Addr) (cap : Nat) (h : cap ≤ maxLen) (h0 : a = none → cap = 0) : Rd w a cap [] := ⟨Lim.nil, Nat.zero_le _, h, h0, .inl rfl⟩

/-- A row of the call's own. -/
def Res (e : TypeId) (base : Nat) (w : World) (a : Option Addr) (cap : Nat) (xs : List Nat) : Prop :=
  Lim xs ∧ w.ownsRow base e 1 (.slice a xs.length cap) xs.length (xs.map U)

theorem Res.lim {e : TypeId} {base : Nat} {w : World} {a : Option Addr} {cap : Nat} {xs : List Nat} (h : Res e base w a cap xs) : Lim xs := h.1

theorem Res.rd {e : TypeId} {base : Nat} {w : World} {a : Option Addr} {cap : Nat} {xs : List Nat} (h : Res e base w a cap xs) : Rd w a cap xs := by
  obtain ⟨hl, h⟩ := h
  rcases h.2 with ⟨hv, h0⟩ | ⟨g, cap', cur, hv, hb, hg, hc1, hc2, hc3, ht⟩
  · have : xs = [] := List.length_eq_zero_iff.1 h0
    subst this
    simp at hv
    exact Rd.nil _ _ _ (by rw [hv.2]; exact Nat.zero_le _) (fun _ => hv.2)
  · simp at hv
    obtain ⟨rfl, rfl⟩ := hv
    refine ⟨hl, hc1, hc2, (by simp), .inr ⟨g, 0, rfl, (Array.getElem?_eq_some_iff.1 hg).1, fun i hi => ?_⟩⟩
    have := h.cells (g := g) rfl i (U (xs.getD i 0)) (by simp [List.getD, hi])
    have hadd : (⟨g, 0, none⟩ : Addr).add i = ⟨g, 0 + i, none⟩ := by unfold Addr.add; split <;> simp_all
    rw [hadd] at this; exact this

theorem ownsRow_mono {w : World} {base base' : Nat} {e : TypeId} {size : Nat} {v : Value} {n : Nat} {xs : List Value} (h : w.ownsRow base e size v n xs) (hb : base' ≤ base) : w.ownsRow base' e size v n xs := by
  refine ⟨h.1, ?_⟩
  rcases h.2 with h0 | ⟨g, cap, cur, h1, h2, h3⟩
  · exact .inl h0
  · exact .inr ⟨g, cap, cur, h1, Nat.le_trans hb h2, h3⟩

theorem Res.mono {e : TypeId} {base base' : Nat} {w : World} {a : Option Addr} {cap : Nat} {xs : List Nat} (h : Res e base w a cap xs) (hb : base' ≤ base) : Res e base' w a cap xs := ⟨h.1, ownsRow_mono h.2 hb⟩

theorem Res.below {e : TypeId} {base : Nat} {w w' : World} {a : Option Addr} {cap : Nat} {xs : List Nat} (h : Res e base w a cap xs) (hb : Below w.heap.size w w') : Res e base w' a cap xs := by
  refine ⟨h.1, h.2.1, ?_⟩
  rcases h.2.2 with h0 | ⟨g, cap', cur, h1, h2, h3, h4⟩
  · exact .inl h0
  · exact .inr ⟨g, cap', cur, h1, h2, (hb.block g (Array.getElem?_eq_some_iff.1 h3).1).trans h3, h4⟩

/-- Out of what append leaves. -/
theorem Res.of {e : TypeId} {base : Nat} {w : World} {v : Value} {n : Nat} {xs : List Nat} (hl : Lim xs) (h : w.ownsRow base e 1 v n (xs.map U)) : ∃ a cap, v = .slice a xs.length cap ∧ Res e base w a cap xs := by
  have hn : n = xs.length := by have := h.1; simp at this; omega
  subst hn
  rcases h.2 with ⟨hv, h0⟩ | ⟨g, cap, cur, hv, _⟩
  · exact ⟨none, 0, by rw [hv, h0], hl, by rw [h0] at h ⊢; rw [hv] at h; exact h⟩
  · subst hv; exact ⟨_, cap, rfl, hl, h⟩

/-- A view of a block that is known whole. -/
theorem rd_block {w : World} {g : Nat} {zs : List Nat} {e : TypeId} (h : w.heap[g]? = some (.cells (zs.map U).toArray e (0, 0))) (hl : Lim zs) (off n cap : Nat) (h1 : off + n ≤ zs.length) (h2 : n ≤ cap) (h3 : cap ≤ maxLen) :
    Rd w (some ⟨g, off, none⟩) cap ((zs.drop off).take n) := by
  refine ⟨(hl.drop off).take n, by simp; omega, h3, (by simp), .inr ⟨g, off, rfl, (Array.getElem?_eq_some_iff.1 h).1, fun i hi => ?_⟩⟩
  simp at hi
  rw [cell_of_row w g (off + i) _ e (0, 0) h]
  simp [List.getD, U, show off + i < zs.length by omega, show i < n by omega]

theorem rd_new (w : World) (e : TypeId) (zs : List Nat) (cs : Array Value) (hc : cs = (zs.map U).toArray) (hl : Lim zs) (hm : zs.length ≤ maxLen) : Rd (w.alloc (.cells cs e)) (some ⟨w.heap.size, 0, none⟩) zs.length zs := by
  subst hc
  have := rd_block (heap_alloc_new w (.cells (zs.map U).toArray e)) hl 0 zs.length zs.length (by omega) (Nat.le_refl _) hm
  simpa using this

/-- What append leaves, in the walk's own spelling. -/
theorem own_snoc {w : World} {base : Nat} {e : TypeId} {v : Value} {n z : Nat} {zs : List Nat} (h : w.ownsRow base e 1 v n (List.map U zs ++ [U z])) : w.ownsRow base e 1 v n ((zs ++ [z]).map U) := by
  rw [List.map_append]; exact h

theorem oneCell_U (xs : List Nat) : ∀ u ∈ xs.map U, u.oneCell' = true := by
  intro u hu
  obtain ⟨x, _, rfl⟩ := List.mem_map.1 hu
  rfl

section
variable {P : Program} {w : World} {ops : Array Oper} {rest : List Oper} {o : Oper} {a : Act} {Q : Exit → Act → World → Prop}

/-- 'append(out, src...)': src is read, out is the call's own. -/
theorem wpList_append_rd (hgd : o.guard = none) (s x : Operand) (t : TypeId) (ho : o.op = .call { callee := .builtin .append, args := #[s, x], argTypes := #[t, t] })
    (base : Nat) (e : TypeId) (i : TypeInfo) (ht : P.underlying t = some (.slice e)) (hi : P.info? e = some i) (hz : i.zero = some (.int .u32 0)) (hsize : i.size = 1) (hby : i.bytes = 4)
    (v : Value) (n : Nat) (ys : List Nat) (hs : a.eval s = v) (hown : w.ownsRow base e 1 v n (ys.map U))
    (ad : Option Addr) (c m : Nat) (zs : List Nat) (hx : a.eval x = .slice ad m c) (hm : m = zs.length) (hrd : Rd w ad c zs) (hlen : n + zs.length ≤ 2000000000) (hbase : base ≤ w.heap.size)
    (h : ∀ v' w', w'.ownsRow base e 1 v' (n + zs.length) ((ys ++ zs).map U) → w.grownBy w' v.ownBlock → wpList P ops Q rest (a.put o.dst v') w') : wpList P ops Q (o :: rest) a w := by
  subst hm
  cases ad with
  | none =>
    have hc : c = 0 := hrd.2.2.2.1 rfl
    have hzs : zs = [] := by
      rcases hrd.2.2.2.2 with h0 | ⟨b, off, e', _⟩
      · exact h0
      · cases e'
    subst hzs; subst hc
    refine wpList_append_own_none hgd s x t ho base e i 1 ht hi v n (ys.map U) hs hown hx (h v w (by simpa using hown) (World.grownBy.refl w _))
  | some ad =>
    refine wpList_append_own w hgd s x t ho base e i (.int .u32 0) 1 4 ht hi hz hsize hby rfl (by decide) v n (ys.map U) hs hown ad zs.length c (zs.map U) hx (by simp) ?_ (oneCell_U zs) (by unfold maxLen; omega) (by omega) hbase ?_
    · intro j u hj
      rcases hrd.2.2.2.2 with rfl | ⟨b, off, e', hb, hc⟩
      · simp at hj
      · simp at e'; subst e'
        have hjl : j < zs.length := by
          rcases Nat.lt_or_ge j zs.length with h1 | h1
          · exact h1
          · rw [List.getElem?_eq_none (by simpa using h1)] at hj; cases hj
        have hadd : (⟨b, off, none⟩ : Addr).add j = ⟨b, off + j, none⟩ := by unfold Addr.add; split <;> simp_all
        rw [hadd, hc j hjl]
        rw [List.getElem?_map, List.getElem?_eq_getElem hjl] at hj
        simp at hj; rw [← hj]; simp [List.getD, hjl, U]
    · intro v' w' h1 h2 _
      exact h v' w' (by rw [List.map_append]; exact h1) h2

/-- 'append(out, x)': x is laid in a block of its own first. -/
theorem wpList_append_one (hgd : o.guard = none) (s x : Operand) (t : TypeId) (ho : o.op = .call { callee := .builtin .append, args := #[s, x], argTypes := #[t, t] })
    (base : Nat) (e : TypeId) (i : TypeInfo) (ht : P.underlying t = some (.slice e)) (hi : P.info? e = some i) (hz : i.zero = some (.int .u32 0)) (hsize : i.size = 1) (hby : i.bytes = 4)
    (v : Value) (n : Nat) (ys : List Nat) (hs : a.eval s = v) (hown : w.ownsRow base e 1 v n (ys.map U))
    (g z : Nat) (hx : a.eval x = .slice (some ⟨g, 0, none⟩) 1 1) (hc : w.cell? ⟨g, 0, none⟩ = some (.int .u32 (z : Int))) (hlen : n + 1 ≤ 2000000000) (hbase : base ≤ w.heap.size)
    (h : ∀ v' w', w'.ownsRow base e 1 v' (n + 1) ((ys ++ [z]).map U) → w.grownBy w' v.ownBlock → wpList P ops Q rest (a.put o.dst v') w') : wpList P ops Q (o :: rest) a w := by
  refine wpList_append_own w hgd s x t ho base e i (.int .u32 0) 1 4 ht hi hz hsize hby rfl (by decide) v n (ys.map U) hs hown ⟨g, 0, none⟩ 1 1 [U z] hx rfl ?_ (oneCell_U [z]) (by unfold maxLen; omega) (by omega) hbase ?_
  · intro j u hj
    match j, hj with
    | 0, hj => simp at hj; subst hj; simpa [Addr.add, U] using hc
  · intro v' w' h1 h2 _
    exact h v' w' (by rw [List.map_append]; exact h1) h2
end

theorem Below.drew1 {w : World} : Below w.heap.size w w.drew := (Below.refl _ _).drew

end Go.Proofs.Ytaejlopkdkaphaa

namespace Go.Proofs.Ytaejlopkdkaphaa
open Go.RowKit Go.Maps
set_option linter.unusedSimpArgs false
set_option linter.unusedVariables false

set_option maxHeartbeats 1000000 in
set_option maxRecDepth 100000 in
theorem sints22_any (S S2 : Nat → Prop) (a b : Option Addr) (ca cb : Nat) (zs : List Int) (w : World) (ha : Gr El.int S w a ca zs) (hb : Gr El.int S2 w b cb zs) :
    Calls Try.prog 53 #[.slice a zs.length ca, .slice b zs.length cb] w fun e w' => e = .returned (.bool true) ∧ Below w.heap.size w w' := by
  have k1 := ha.lenB
  have hne : ((zs.length : Int) != (zs.length : Int)) = false := by simp
  have HA : Hid (Gr El.int S w a ca zs) := ha
  have HB : Hid (Gr El.int S2 w b cb zs) := hb
  clear ha hb
  go_enter Try.func53, Try.ntmps53
  go_wp2
  go_loopw [5] (fun i wr => ∃ k : Nat, k ≤ zs.length ∧ i = .int .i64 k ∧ Below w.heap.size w wr) (fun i _ => zs.length - (intOf i).toNat)
  case atStart => exact ⟨0, Nat.zero_le _, rfl, Below.refl _ _⟩
  case round =>
    obtain ⟨k, hk, rfl, hnx⟩ := hrel
    by_cases hkn : k < zs.length
    · obtain ⟨b1, o1, rfl, _, _, c1⟩ := HA.out.in1 hnx k hkn
      obtain ⟨b2, o2, rfl, _, _, c2⟩ := HB.out.in1 hnx k hkn
      obtain ⟨x, hx⟩ : ∃ x, zs.getD k 0 = x := ⟨_, rfl⟩
      rw [hx] at c1 c2
      have hxx : ((x : Int) != (x : Int)) = false := by simp
      clear hx
      have i1 : (0 : Int) ≤ (k : Int) := by omega
      have i2 : (k : Int) < (zs.length : Int) := by omega
      go_wp2_with fail
      go_quiet (fail)
      go_wp2
      go_roundw
      case rel => exact ⟨k + 1, by omega, by go_num, below_drewN hnx _⟩
      case measure => simp [intOf]; omega
    · go_wp2
      go_ret
      exact ⟨rfl, hnx⟩

set_option maxHeartbeats 8000000 in
set_option maxRecDepth 100000 in
theorem ssame22_any (S1 S2 S3 S4 : Nat → Prop) (a : Option Addr) (ca : Nat) (a2 : Option Addr) (ca2 : Nat) (l : List Ft) (b : Option Addr) (cb : Nat) (b2 : Option Addr) (cb2 : Nat) (s : List Sw) (w : World) (h1 : Gr FtE S1 w a ca l) (h2 : Gr FtE S2 w a2 ca2 l) (h3 : Gr SwE S3 w b cb s) (h4 : Gr SwE S4 w b2 cb2 s) :
    Calls Try.prog 20 #[.slice a l.length ca, .slice a2 l.length ca2, .slice b s.length cb, .slice b2 s.length cb2] w fun e w' => e = .returned (.bool true) ∧ Below w.heap.size w w' := by
  have k1 := h1.lenB
  have k2 := h3.lenB
  have g1 : ((l.length : Int) != (l.length : Int)) = false := by simp
  have g2 : ((s.length : Int) != (s.length : Int)) = false := by simp
  have HA : Hid (Gr FtE S1 w a ca l) := h1
  have HB : Hid (Gr FtE S2 w a2 ca2 l) := h2
  have HC : Hid (Gr SwE S3 w b cb s) := h3
  have HD : Hid (Gr SwE S4 w b2 cb2 s) := h4
  clear h1 h2 h3 h4
  go_enter Try.func20, Try.ntmps20
  go_wp2
  clear g1 g2
  go_loopw [9] (fun i wr => ∃ k : Nat, k ≤ l.length ∧ i = .int .i64 k ∧ Below w.heap.size w wr) (fun i _ => l.length - (intOf i).toNat)
  case atStart => exact ⟨0, Nat.zero_le _, rfl, Below.refl _ _⟩
  case round =>
    obtain ⟨k, hk, rfl, hB⟩ := hrel
    by_cases hkn : k < l.length
    · obtain ⟨b3, o3, xa, xc, ec, l3, _, c0, c1, r1⟩ := HA.out.ft hB k hkn
      obtain ⟨b4, o4, ya, yc, ed, l4, _, d0, d1, r2⟩ := HB.out.ft hB k hkn
      have hp := fun U (hU : Below wr.heap.size wr U) => sints22_any _ _ xa ya xc yc (l.getD k Ft.none).lk U ((rowF_rep r1).1.below hU) ((rowF_rep r2).1.below hU)
      have kq := (rowF_rep r1).1.lenB
      generalize l.getD k Ft.none = t at *
      obtain ⟨tg, lk⟩ := t
      dsimp only at c0 c1 d0 d1 hp kq
      subst ec ed
      have i3 : (0 : Int) ≤ (k : Int) := by omega
      have i4 : (k : Int) < (l.length : Int) := by omega
      have hC : ∀ u, Below wr.heap.size wr u → u.cell? ⟨b3, o3 + k * 2, none⟩ = some (.string tg) ∧ u.cell? ⟨b3, o3 + k * 2 + 1, none⟩ = some (.slice xa lk.length xc) ∧ u.cell? ⟨b4, o4 + k * 2, none⟩ = some (.string tg) ∧ u.cell? ⟨b4, o4 + k * 2 + 1, none⟩ = some (.slice ya lk.length yc) := fun u hu =>
        ⟨(hu.cell (p := ⟨b3, o3 + k * 2, none⟩) (Nat.lt_of_lt_of_le l3 hB.size)).trans c0, (hu.cell (p := ⟨b3, o3 + k * 2 + 1, none⟩) (Nat.lt_of_lt_of_le l3 hB.size)).trans c1, (hu.cell (p := ⟨b4, o4 + k * 2, none⟩) (Nat.lt_of_lt_of_le l4 hB.size)).trans d0, (hu.cell (p := ⟨b4, o4 + k * 2 + 1, none⟩) (Nat.lt_of_lt_of_le l4 hB.size)).trans d1⟩
      have HCC : Hid (_) := hC
      clear r1 r2 c0 c1 d0 d1 hC
      go_upto_region 6 with fail
      refine wp_region_held_drew (S := fun u => u.cell? ⟨b3, o3 + k * 2, none⟩ = some (.string tg) ∧ u.cell? ⟨b3, o3 + k * 2 + 1, none⟩ = some (.slice xa lk.length xc) ∧ u.cell? ⟨b4, o4 + k * 2, none⟩ = some (.string tg) ∧ u.cell? ⟨b4, o4 + k * 2 + 1, none⟩ = some (.slice ya lk.length yc)) (by kernel_rfl) ?_ (fun hHeld => ?_)
      · (try dsimp only)
        exact HCC.out _ Below.drew1
      have hdr : Below wr.heap.size wr wr.drew := Below.drew1
      generalize wr.drew = ud at hdr hHeld ⊢
      refine hT 0 hHeld ?_
      refine hT 1 hHeld ?_
      refine hT 2 hHeld ?_
      refine hT 3 hHeld ?_
      refine hT 4 hHeld ?_
      refine hT 5 hHeld ?_
      refine hT 6 hHeld ?_
      refine hT 7 hHeld ?_
      refine hT 8 hHeld ?_
      refine hT 9 hHeld ?_
      refine hT 10 hHeld ?_
      refine hT 11 hHeld ?_
      refine hT 12 hHeld ?_
      refine hT 13 hHeld ?_
      refine hT 14 hHeld ?_
      refine hT 15 hHeld ?_
      refine hT 16 hHeld ?_
      refine hT 17 hHeld ?_
      refine hT 18 hHeld ?_
      refine hT 19 hHeld ?_
      refine hT 20 hHeld ?_
      refine hT 21 hHeld ?_
      refine hCall (i := 22) rfl (by kernel_rfl) (by rfl) (fun K hK => ?_)
      go_simp
      refine (hp _ hdr).mono ?_
      rintro e u ⟨rfl, hb⟩
      replace hdr := hdr.trans (hb.mono hdr.size)
      clear hp hb
      go_wp2_with fail
      refine hK.out _ _ ?_ (fun hHeld => ?_)
      · (try dsimp only)
        exact HCC.out _ hdr
      clear hK K
      try simp only [Act.put, List.setIfInBounds_toArray, List.set_cons_zero, List.set_cons_succ]
      refine hT 23 hHeld ?_
      refine hT 24 hHeld ?_
      refine wpAnyH_done (by kernel_rfl) ?_ _
      have hBn := hB.trans (hdr.mono hB.size)
      clear hHeld HCC hdr
      go_wp2
      go_roundw
      case rel => exact ⟨k + 1, by omega, by go_num, hBn⟩
      case measure => simp [intOf]; omega
    · have g1 : ¬ (k : Int) < (l.length : Int) := by omega
      have HBW : Hid (Below w.heap.size w wr) := hB
      clear hB hkn
      go_wp2
      go_loopw [10] (fun i wx => ∃ k : Nat, k ≤ s.length ∧ i = .int .i64 k ∧ Below w.heap.size w wx) (fun i _ => s.length - (intOf i).toNat)
      case atStart => exact ⟨0, Nat.zero_le _, rfl, HBW.out⟩
      case round =>
        clear HBW
        rename World => wx
        obtain ⟨j, hj, rfl, hB⟩ := hrel
        by_cases hjn : j < s.length
        · obtain ⟨b3, o3, xa, xc, va, vc, ec, l3, _, c0, c1, c2, q1, r1⟩ := HC.out.sw hB j hjn
          obtain ⟨b4, o4, ya, yc, ua, uc, ed, l4, _, d0, d1, d2, q2, r2⟩ := HD.out.sw hB j hjn
          have hp := fun U (hU : Below wx.heap.size wx U) => sints22_any _ _ va ua vc uc (s.getD j Sw.none).lk U ((rowF_rep r1).1.below hU) ((rowF_rep r2).1.below hU)
          have kq := (rowF_rep r1).1.lenB
          have kc := (rowF_rep q1).1.lenB
          have hQ1 := (rowF_rep q1).1
          have hQ2 := (rowF_rep q2).1
          generalize s.getD j Sw.none = t at *
          obtain ⟨cn, ft, lk⟩ := t
          dsimp only at c0 c1 c2 d0 d1 d2 hp kq kc hQ1 hQ2
          subst ec ed
          have HQ1 : Hid (Gr CnE S3 wx xa xc cn) := hQ1
          have HQ2 : Hid (Gr CnE S4 wx ya yc cn) := hQ2
          have i3 : (0 : Int) ≤ (j : Int) := by omega
          have i4 : (j : Int) < (s.length : Int) := by omega
          have gcc : ((cn.length : Int) != (cn.length : Int)) = false := by simp
          have gff : ((ft : Int) != (ft : Int)) = false := by simp
          have HCC : Hid (∀ u, Below wx.heap.size wx u → u.cell? ⟨b3, o3 + j * 3, none⟩ = some (.slice xa cn.length xc) ∧ u.cell? ⟨b3, o3 + j * 3 + 1, none⟩ = some (.int .i64 ft) ∧ u.cell? ⟨b3, o3 + j * 3 + 2, none⟩ = some (.slice va lk.length vc) ∧ u.cell? ⟨b4, o4 + j * 3, none⟩ = some (.slice ya cn.length yc) ∧ u.cell? ⟨b4, o4 + j * 3 + 1, none⟩ = some (.int .i64 ft) ∧ u.cell? ⟨b4, o4 + j * 3 + 2, none⟩ = some (.slice ua lk.length uc)) := fun u hu =>
            have z3 := Nat.lt_of_lt_of_le l3 hB.size
            have z4 := Nat.lt_of_lt_of_le l4 hB.size
            ⟨(hu.cell (p := ⟨b3, o3 + j * 3, none⟩) z3).trans c0, (hu.cell (p := ⟨b3, o3 + j * 3 + 1, none⟩) z3).trans c1, (hu.cell (p := ⟨b3, o3 + j * 3 + 2, none⟩) z3).trans c2, (hu.cell (p := ⟨b4, o4 + j * 3, none⟩) z4).trans d0, (hu.cell (p := ⟨b4, o4 + j * 3 + 1, none⟩) z4).trans d1, (hu.cell (p := ⟨b4, o4 + j * 3 + 2, none⟩) z4).trans d2⟩
          clear r1 r2 q1 q2 c0 c1 c2 d0 d1 d2 hQ1 hQ2
          go_upto_region 11 with fail
          refine wp_region_held_drew (S := fun u => u.cell? ⟨b3, o3 + j * 3, none⟩ = some (.slice xa cn.length xc) ∧ u.cell? ⟨b3, o3 + j * 3 + 1, none⟩ = some (.int .i64 ft) ∧ u.cell? ⟨b3, o3 + j * 3 + 2, none⟩ = some (.slice va lk.length vc) ∧ u.cell? ⟨b4, o4 + j * 3, none⟩ = some (.slice ya cn.length yc) ∧ u.cell? ⟨b4, o4 + j * 3 + 1, none⟩ = some (.int .i64 ft) ∧ u.cell? ⟨b4, o4 + j * 3 + 2, none⟩ = some (.slice ua lk.length uc)) (by kernel_rfl) ?_ (fun hHeld => ?_)
          · (try dsimp only)
            exact HCC.out _ Below.drew1
          have hdr : Below wx.heap.size wx wx.drew := Below.drew1
          generalize wx.drew = ud at hdr hHeld ⊢
          refine hT 0 hHeld ?_
          refine hT 1 hHeld ?_
          refine hT 2 hHeld ?_
          refine hT 3 hHeld ?_
          refine hT 4 hHeld ?_
          refine hT 5 hHeld ?_
          refine hT 6 hHeld ?_
          refine hT 7 hHeld ?_
          refine hT 8 hHeld ?_
          refine hT 9 hHeld ?_
          refine hT 10 hHeld ?_
          refine hT 11 hHeld ?_
          refine hT 12 hHeld ?_
          refine hT 13 hHeld ?_
          refine hT 14 hHeld ?_
          refine hT 15 hHeld ?_
          refine hT 16 hHeld ?_
          refine hT 17 hHeld ?_
          refine hT 18 hHeld ?_
          refine hT 19 hHeld ?_
          refine hT 20 hHeld ?_
          refine hT 21 hHeld ?_
          refine hCall (i := 22) rfl (by kernel_rfl) (by rfl) (fun K hK => ?_)
          go_simp
          refine (hp _ hdr).mono ?_
          rintro e u ⟨rfl, hb⟩
          replace hdr := hdr.trans (hb.mono hdr.size)
          clear hp hb
          go_wp2_with fail
          refine hK.out _ _ ?_ (fun hHeld => ?_)
          · (try dsimp only)
            exact HCC.out _ hdr
          clear hK K
          try simp only [Act.put, List.setIfInBounds_toArray, List.set_cons_zero, List.set_cons_succ]
          refine hT 23 hHeld ?_
          refine hT 24 hHeld ?_
          refine hT 25 hHeld ?_
          refine hT 26 hHeld ?_
          refine hT 27 hHeld ?_
          refine hT 28 hHeld ?_
          refine hT 29 hHeld ?_
          refine hT 30 hHeld ?_
          refine hT 31 hHeld ?_
          refine hT 32 hHeld ?_
          refine hT 33 hHeld ?_
          refine hT 34 hHeld ?_
          refine hT 35 hHeld ?_
          refine hT 36 hHeld ?_
          refine hT 37 hHeld ?_
          refine hT 38 hHeld ?_
          refine hT 39 hHeld ?_
          refine wpAnyH_done (by kernel_rfl) ?_ _
          have HBn : Hid (Below w.heap.size w u) := hB.trans (hdr.mono hB.size)
          have HDR : Hid (Below wx.heap.size wx u) := hdr
          clear hHeld hdr hB gcc gff
          go_wp2
          go_loopw [11] (fun i wy => ∃ k : Nat, k ≤ cn.length ∧ i = .int .i64 k ∧ Below w.heap.size w wy ∧ Below wx.heap.size wx wy) (fun i _ => cn.length - (intOf i).toNat)
          case atStart => exact ⟨0, Nat.zero_le _, rfl, HBn.out, HDR.out⟩
          case round =>
            clear HBn HDR
            rename World => wy
            obtain ⟨m, hm, rfl, hB, hX⟩ := hrel
            obtain ⟨p0, p1, p2, p3, p4, p5⟩ := HCC.out wy hX
            by_cases hmn : m < cn.length
            · obtain ⟨b5, o5, ec, _, _, c0, c1, c2⟩ := HQ1.out.cn hX m hmn
              obtain ⟨b6, o6, ed, _, _, d0, d1, d2⟩ := HQ2.out.cn hX m hmn
              generalize cn.getD m Cn.none = t at *
              obtain ⟨x, y, z⟩ := t
              dsimp only at c0 c1 c2 d0 d1 d2
              subst ec ed
              have i5 : (0 : Int) ≤ (m : Int) := by omega
              have i6 : (m : Int) < (cn.length : Int) := by omega
              go_wp2_with fail
              go_quiet (fail)
              have hBn := hB.trans ((below_drewN (Below.refl wy.heap.size wy) nq).mono hB.size)
              have hXn := hX.trans ((below_drewN (Below.refl wy.heap.size wy) nq).mono hX.size)
              generalize wy.drewN nq = uf at hBn hXn
              clear p0 p1 p2 p3 p4 p5 c0 c1 c2 d0 d1 d2
              go_wp2
              go_roundw
              case rel => exact ⟨m + 1, by omega, by go_num, hBn, hXn⟩
              case measure => simp [intOf]; omega
            · have g1 : ¬ (m : Int) < (cn.length : Int) := by omega
              go_wp2
              go_roundw
              case rel => exact ⟨j + 1, by omega, by go_num, hB⟩
              case measure => simp [intOf]; omega
        · have g1 : ¬ (j : Int) < (s.length : Int) := by omega
          go_wp2
          go_ret
          exact ⟨rfl, hB⟩

/-- Features and swaps that are few. -/
structure FewF (l : List Ft) (s : List Sw) : Prop where
  len : l.length + s.length ≤ 300
  lk : ∀ k, k < l.length → (l.getD k Ft.none).lk.length ≤ 300
  sw : ∀ k, k < s.length → (s.getD k Sw.none).lk.length ≤ 300 ∧ (s.getD k Sw.none).cn.length ≤ 300
theorem FewF.lkM {l : List Ft} {s : List Sw} (h : FewF l s) : ∀ f ∈ l, f.lk.length ≤ 1000 := by
  intro f hf
  obtain ⟨k, hk, e⟩ := List.getElem_of_mem hf
  have h1 := h.lk k hk
  rw [List.getD_eq_getElem?_getD, List.getElem?_eq_getElem hk, Option.getD_some, e] at h1
  omega
theorem FewF.swM {l : List Ft} {s : List Sw} (h : FewF l s) : ∀ x ∈ s, x.lk.length ≤ 1000 := by
  intro f hf
  obtain ⟨k, hk, e⟩ := List.getElem_of_mem hf
  have h1 := (h.sw k hk).1
  rw [List.getD_eq_getElem?_getD, List.getElem?_eq_getElem hk, Option.getD_some, e] at h1
  omega
/-- What a count that goes on holds of the features that it has met. -/
structure FwA (l : List Ft) (s : List Sw) (k j : Nat) (z : Int) : Prop where
  len : (l.length : Int) + (s.length : Int) ≤ z
  lk : ∀ i, i < k → ((l.getD i Ft.none).lk.length : Int) ≤ z
  sw : ∀ i, i < j → ((s.getD i Sw.none).lk.length : Int) + ((s.getD i Sw.none).cn.length : Int) ≤ z
theorem FwA.more {l : List Ft} {s : List Sw} {k : Nat} {z : Int} (h : FwA l s k 0 z) (h0 : 0 ≤ z) : FwA l s (k + 1) 0 (z + ((l.getD k Ft.none).lk.length : Int)) := by
  refine ⟨by have := h.len; omega, fun i hi => ?_, fun i hi => by omega⟩
  rcases Nat.lt_or_ge i k with h1 | h1
  · have := h.lk i h1; omega
  · rw [show i = k by omega]; omega
theorem FwA.moreS {l : List Ft} {s : List Sw} {k j : Nat} {z : Int} (h : FwA l s k j z) (h0 : 0 ≤ z) : FwA l s k (j + 1) (z + (((s.getD j Sw.none).lk.length : Int) + ((s.getD j Sw.none).cn.length : Int))) := by
  refine ⟨by have := h.len; omega, fun i hi => by have := h.lk i hi; omega, fun i hi => ?_⟩
  rcases Nat.lt_or_ge i j with h1 | h1
  · have := h.sw i h1; omega
  · rw [show i = j by omega]; omega
theorem FwA.few {l : List Ft} {s : List Sw} {z : Int} (h : FwA l s l.length s.length z) (h0 : z ≤ 300) : FewF l s :=
  ⟨by have := h.len; omega, fun k hk => by have := h.lk k hk; omega, fun k hk => by have := h.sw k hk; omega⟩
/-- An answer that is true only if they are few. -/
structure BoolF (P : Prop) (e : Ending) : Prop where
  out : ∃ q : Bool, e = .returned (.bool q) ∧ (q = true → P)

set_option maxHeartbeats 4000000 in
set_option maxRecDepth 100000 in
theorem sfew22_any (S S2 : Nat → Prop) (a : Option Addr) (ca : Nat) (l : List Ft) (b : Option Addr) (cb : Nat) (s : List Sw) (w : World) (hl : Gr FtE S w a ca l) (hs : Gr SwE S2 w b cb s) (kl : l.length ≤ 140737488351232) (ks : s.length ≤ 140737488351232) :
    Calls Try.prog 22 #[.slice a l.length ca, .slice b s.length cb] w fun e w' => BoolF (FewF l s) e ∧ Below w.heap.size w w' := by
  have HA : Hid (Gr FtE S w a ca l) := hl
  have HC : Hid (Gr SwE S2 w b cb s) := hs
  have HF0 : Hid (FwA l s 0 0 ((l.length : Int) + (s.length : Int))) := ⟨by omega, fun i hi => by omega, fun i hi => by omega⟩
  clear hl hs
  go_enter Try.func22, Try.ntmps22
  go_upto_block 0 with fail
  go_cut [5] from 6 to 30 (fun v wx => ∃ z : Int, v = .int .i64 z ∧ 0 ≤ z ∧ z ≤ 1000000000000000000 ∧ Hid (z ≤ 300 → FwA l s l.length 0 z) ∧ Below w.heap.size w wx)
  case first =>
    go_wp2_with fail
    go_loopw [5, 6] (fun v i wr => ∃ (k : Nat) (z : Int), k ≤ l.length ∧ v = .int .i64 z ∧ 0 ≤ z ∧ z ≤ 1000000000000000000 ∧ i = .int .i64 k ∧ Hid (FwA l s k 0 z) ∧ Below w.heap.size w wr) (fun _ i _ => l.length - (intOf i).toNat)
    case atStart => exact ⟨0, _, Nat.zero_le _, rfl, by omega, by omega, rfl, HF0, Below.refl _ _⟩
    case round =>
      clear HF0
      obtain ⟨k, z, hk, rfl, hz1, hz3, rfl, HF, hB⟩ := hrel
      by_cases hkn : k < l.length
      · have g1 : decide ((k : Int) < (l.length : Int)) = true := decide_eq_true (by omega)
        by_cases hz2 : z ≤ 300
        · have g2 : decide (z ≤ 300) = true := decide_eq_true hz2
          obtain ⟨b1, o1, a1, c1, ea, _, _, d0, d1, r1⟩ := HA.out.ft hB k hkn
          have hpl := (rowF_rep r1).2.1
          have HN : Hid (FwA l s (k + 1) 0 (z + ((l.getD k Ft.none).lk.length : Int))) := HF.out.more hz1
          generalize (l.getD k Ft.none).lk.length = n1 at *
          subst ea
          clear r1 d0 hkn HF
          have i1 : (0 : Int) ≤ (k : Int) := by omega
          have i2 : (k : Int) < (l.length : Int) := of_decide_eq_true g1
          go_wp2_with fail
          go_roundw
          case rel => exact ⟨k + 1, _, by omega, rfl, by omega, by omega, by go_num, HN, hB⟩
          case measure => simp [intOf]; omega
        · have g2 : decide (z ≤ 300) = false := decide_eq_false hz2
          have i2 : (k : Int) < (l.length : Int) := by omega
          have HN : Hid (z ≤ 300 → FwA l s l.length 0 z) := fun h => absurd h hz2
          clear hkn HF
          go_wp2_with fail
          go_meet
          exact ⟨z, rfl, hz1, hz3, HN, hB⟩
      · have g1 : decide ((k : Int) < (l.length : Int)) = false := decide_eq_false (by omega)
        have i2 : ¬ (k : Int) < (l.length : Int) := by omega
        have HN : Hid (z ≤ 300 → FwA l s l.length 0 z) := fun _ => by rw [show l.length = k by omega]; exact HF.out
        clear hkn HF
        go_wp2_with fail
        go_meet
        exact ⟨z, rfl, hz1, hz3, HN, hB⟩
  case rest =>
    clear HF0
    obtain ⟨z0, rfl, hy1, hy3, HZ0, hBW⟩ := hcut
    go_wp2_with fail
    have HBW : Hid (_) := hBW
    clear hBW
    go_loopw [5, 7] (fun v i wr => ∃ (k : Nat) (z : Int), k ≤ s.length ∧ v = .int .i64 z ∧ 0 ≤ z ∧ z ≤ 1000000000000000000 ∧ i = .int .i64 k ∧ Hid (z ≤ 300 → FwA l s l.length k z) ∧ Below w.heap.size w wr) (fun _ i _ => s.length - (intOf i).toNat)
    case atStart => exact ⟨0, _, Nat.zero_le _, rfl, by omega, by omega, rfl, HZ0, HBW.out⟩
    case round =>
      clear HZ0 HBW
      obtain ⟨k, z, hk, rfl, hz1, hz3, rfl, HF, hB⟩ := hrel
      by_cases hkn : k < s.length
      · have g1 : decide ((k : Int) < (s.length : Int)) = true := decide_eq_true (by omega)
        by_cases hz2 : z ≤ 300
        · have g2 : decide (z ≤ 300) = true := decide_eq_true hz2
          obtain ⟨b1, o1, a1, c1, a2, c2, ea, _, _, d0, d1, d2, q1, r1⟩ := HC.out.sw hB k hkn
          have hpl := (rowF_rep r1).2.1
          have hpc := (rowF_rep q1).2.1
          have HN : Hid (FwA l s l.length (k + 1) (z + (((s.getD k Sw.none).lk.length : Int) + ((s.getD k Sw.none).cn.length : Int)))) := (HF.out hz2).moreS hz1
          generalize (s.getD k Sw.none).lk.length = n1 at *
          generalize (s.getD k Sw.none).cn.length = n2 at *
          subst ea
          have HN2 : Hid (z + ((n1 : Int) + (n2 : Int)) ≤ 300 → FwA l s l.length (k + 1) (z + ((n1 : Int) + (n2 : Int)))) := fun _ => HN.out
          clear r1 q1 hkn HF HN
          have i1 : (0 : Int) ≤ (k : Int) := by omega
          have i2 : (k : Int) < (s.length : Int) := of_decide_eq_true g1
          go_wp2_with fail
          go_quiet (fail)
          have hBn := hB.trans ((below_drewN (Below.refl wr.heap.size wr) nq).mono hB.size)
          generalize wr.drewN nq = uf at hBn
          clear d0 d1 d2
          go_wp2
          go_roundw
          case rel => exact ⟨k + 1, _, by omega, rfl, by omega, by omega, by go_num, HN2, hBn⟩
          case measure => simp [intOf]; omega
        · have g2 : decide (z ≤ 300) = false := decide_eq_false hz2
          have i2 : (k : Int) < (s.length : Int) := by omega
          clear hkn HF
          go_wp2_with fail
          go_ret
          exact ⟨⟨_, rfl, fun h => by cases h⟩, hB⟩
      · have g1 : decide ((k : Int) < (s.length : Int)) = false := decide_eq_false (by omega)
        have i2 : ¬ (k : Int) < (s.length : Int) := by omega
        have HN : Hid (z ≤ 300 → FewF l s) := fun h => by
          have h2 := HF.out h
          rw [show k = s.length by omega] at h2
          exact h2.few h
        clear hkn HF
        obtain ⟨q, hq⟩ : ∃ q, decide (z ≤ 300) = q := ⟨_, rfl⟩
        have HQ : Hid (decide (z ≤ 300) = q) := hq
        clear hq
        go_wp2_with fail
        go_ret
        exact ⟨⟨_, rfl, fun h => HN.out (of_decide_eq_true h)⟩, hB⟩

end Go.Proofs.Ytaejlopkdkaphaa

namespace Go.Proofs.Ytaejlopkdkaphaa
open Go.RowKit Go.Maps
set_option linter.unusedSimpArgs false
set_option linter.unusedVariables false

theorem rowE {α : Type} {E : El α} {w : World} {a : Option Addr} {c : Nat} {l : List α} (h : Gr E (fun _ => True) w a c l) (hl : l.length ≤ 1000) : E.row.rep (fun _ => True) w [.slice a l.length c] l := ⟨a, c, rfl, fun _ _ _ _ => trivial, h, by omega⟩
theorem grIE {t : TypeId} {w : World} {g : Nat} {zs : List Int} (hb : Bk t w g (zs.map (Value.int .i64))) (hz : ∀ z ∈ zs, I64 z) (hl : zs.length ≤ 1000) : Gr El.int (fun _ => True) w (some ⟨g, 0, none⟩) zs.length zs := by
  refine ⟨Nat.le_refl _, by unfold maxLen; omega, (fun e => by cases e), fun i hi => ⟨g, 0, [.int .i64 (zs.getD i 0)], rfl, hb.lt, El.int_rep.2 ⟨rfl, hz _ (getF_mem hi)⟩, fun j hj => ?_⟩⟩
  obtain rfl : j = 0 := by simp [El.int, El.num] at hj; exact hj
  show w.cell? ⟨g, 0 + i * 1 + 0, none⟩ = _
  rw [Nat.zero_add, Nat.mul_one, Nat.add_zero, hb.cell i (by rw [List.length_map]; exact hi)]
  simp [List.getD, hi]
theorem gr1E {α : Type} {E : El α} {S : Nat → Prop} {t : TypeId} {w : World} {g : Nat} {cs : List Value} {x : α} (hb : Bk t w g cs) (hr : E.rep S w cs x) : Gr E S w (some ⟨g, 0, none⟩) 1 [x] := Gr.one hr hb.lt (fun j hj => hb.cell j (by rw [E.len hr]; exact hj))
def awF : List Ft := [⟨⟨#[108, 105, 103, 97]⟩, [2, 0]⟩]
theorem awF_ch : chFt awF [] [] [⟨#[108, 105, 103, 97]⟩] = [0, 2] := by decide +kernel

set_option maxHeartbeats 4000000 in
set_option maxRecDepth 100000 in
theorem awake22_any (w : World) :
    Calls Try.prog 8 #[] w fun e w' => e = .returned (.bool true) ∧ Below w.heap.size w w' := by
  obtain ⟨W0, hW0⟩ : ∃ W0, W0 = w.alloc (.cells #[.int .i64 2, .int .i64 0] 3) := ⟨_, rfl⟩
  have sW0 : W0.heap.size = w.heap.size + 1 := by rw [hW0, World.size_alloc]
  have dW0 : Below w.heap.size w W0 := by rw [hW0]; exact bl1 _
  have cW0 : Below w.heap.size w W0 := dW0
  have BW0 : Bk 3 W0 (w.heap.size) [.int .i64 2, .int .i64 0] := by rw [hW0]; exact Bk.new _ _ _
  obtain ⟨W1, hW1⟩ : ∃ W1, W1 = W0.alloc (.cells #[.string ⟨#[108, 105, 103, 97]⟩, .slice (some ⟨w.heap.size, 0, none⟩) 2 2] 49) := ⟨_, rfl⟩
  have sW1 : W1.heap.size = w.heap.size + 1 + 1 := by rw [hW1, World.size_alloc, sW0]
  have dW1 : Below W0.heap.size W0 W1 := by rw [hW1]; exact bl1 _
  have cW1 : Below w.heap.size w W1 := cW0.trans (dW1.mono cW0.size)
  have BW1 : Bk 49 W1 (w.heap.size + 1) [.string ⟨#[108, 105, 103, 97]⟩, .slice (some ⟨w.heap.size, 0, none⟩) 2 2] := by rw [hW1, ← sW0]; exact Bk.new _ _ _
  replace BW0 := BW0.below dW1
  obtain ⟨W2, hW2⟩ : ∃ W2, W2 = W1.alloc (.cells #[.string ⟨#[108, 105, 103, 97]⟩] 9) := ⟨_, rfl⟩
  have sW2 : W2.heap.size = w.heap.size + 1 + 1 + 1 := by rw [hW2, World.size_alloc, sW1]
  have dW2 : Below W1.heap.size W1 W2 := by rw [hW2]; exact bl1 _
  have cW2 : Below w.heap.size w W2 := cW1.trans (dW2.mono cW1.size)
  have BW2 : Bk 9 W2 (w.heap.size + 1 + 1) [.string ⟨#[108, 105, 103, 97]⟩] := by rw [hW2, ← sW1]; exact Bk.new _ _ _
  replace BW0 := BW0.below dW2
  replace BW1 := BW1.below dW2
  have r0 := grIE (zs := [2, 0]) BW0 (by intro z hz; simp at hz; rcases hz with rfl | rfl <;> exact ⟨by omega, by omega⟩) (by decide)
  have r1 : Gr FtE (fun _ => True) W2 (some ⟨w.heap.size + 1, 0, none⟩) 1 awF := gr1E BW1 (FtE_rep.2 ⟨_, _, rfl, (by decide), rowE r0 (by decide)⟩)
  have r2 : Gr El.str (fun _ => True) W2 (some ⟨w.heap.size + 1 + 1, 0, none⟩) 1 [⟨#[108, 105, 103, 97]⟩] := gr1E BW2 ⟨rfl, by decide⟩
  have hch : Calls Try.prog 13 #[.slice (some ⟨w.heap.size + 1, 0, none⟩) 1 1, .slice none 0 0, .slice none 0 0, .slice (some ⟨w.heap.size + 1 + 1, 0, none⟩) 1 1] W2 fun e w' => RowF [0, 2] W2.heap.size w' e ∧ Below W2.heap.size W2 w' := by
    have h := chosenF_any (fun _ => True) _ _ awF none 0 [] none 0 [] _ _ [⟨#[108, 105, 103, 97]⟩] W2 r1 (Gr.nil _ _ _ _ _ (Nat.zero_le _) (fun _ => rfl)) (Gr.nil _ _ _ _ _ (Nat.zero_le _) (fun _ => rfl)) r2 (by intro f hf; simp [awF] at hf; subst hf; decide) (by intro f hf; cases hf) (by decide)
    rw [awF_ch] at h
    exact h
  clear r0 r1 r2 BW0 BW1 BW2 cW0 cW1
  go_enter Try.func8, Try.ntmps8
  go_wp2_with fail
  rw [← hW0, ← hW1, ← hW2]
  clear hW0 dW0 sW0 hW1 dW1 sW1 hW2 dW2 sW2
  refine hch.mono ?_
  rintro e u ⟨hrow, hbu⟩
  obtain ⟨v, rfl, hG⟩ := hrow.out
  obtain ⟨oa, oc, rfl, hri, -⟩ := hG.slice
  obtain ⟨ob, oo, rfl, _, x0⟩ := hri.at (Below.refl _ _) 0 (by decide)
  obtain ⟨ob2, oo2, e9, _, x1⟩ := hri.at (Below.refl _ _) 1 (by decide)
  cases e9
  rw [Nat.add_zero] at x0
  replace x0 : u.cell? ⟨ob, oo, none⟩ = some (.int .i64 0) := x0
  replace x1 : u.cell? ⟨ob, oo + 1, none⟩ = some (.int .i64 2) := x1
  have hfin := cW2.trans (hbu.mono cW2.size)
  clear hch hrow hG hri hbu
  go_wp2
  go_ret
  exact ⟨rfl, hfin⟩

set_option maxHeartbeats 2000000 in
set_option maxRecDepth 100000 in
theorem few22_any (S S2 : Nat → Prop) (a : Option Addr) (ca : Nat) (l : List Ft) (b : Option Addr) (cb : Nat) (s : List Sw) (n ax : Int) (c : Option Addr) (cc m : Nat) (w : World) (hl : Gr FtE S w a ca l) (hs : Gr SwE S2 w b cb s) (kl : l.length ≤ 140737488351232) (ks : s.length ≤ 140737488351232) (km : m ≤ 9223372036854775807) :
    Calls Try.prog 9 #[.agg #[.slice a l.length ca, .slice b s.length cb, .int .i64 n, .int .i64 ax], .slice c m cc] w fun e w' => BoolF (FewF l s ∧ m ≤ 20) e ∧ Below w.heap.size w w' := by
  obtain ⟨U, hU, X1, hbU⟩ : ∃ U, U = w.alloc (.cells #[.slice a l.length ca, .slice b s.length cb, .int .i64 n, .int .i64 ax] 25) ∧ Bk 25 U w.heap.size [.slice a l.length ca, .slice b s.length cb, .int .i64 n, .int .i64 ax] ∧ Below w.heap.size w U := ⟨_, rfl, Bk.new _ _ _, bl1 _⟩
  have hfe := sfew22_any S S2 a ca l b cb s U (hl.below hbU) (hs.below hbU) kl ks
  obtain ⟨x0, x1, -⟩ := X1.four
  go_enter Try.func9, Try.ntmps9
  go_upto_region 1 with fail
  rw [← hU]
  clear hU hl hs X1
  go_wp2_with fail
  refine hfe.mono ?_
  rintro e u ⟨hbo, hbu⟩
  obtain ⟨q, rfl, hq⟩ := hbo.out
  have HQ : Hid (q = true → FewF l s) := hq
  have hfin := hbU.trans (hbu.mono hbU.size)
  clear hfe hbu hbo hq x0 x1
  cases q with
  | false =>
    go_wp2
    go_ret
    exact ⟨⟨false, rfl, fun h => by cases h⟩, hfin⟩
  | true =>
    have HF : Hid (FewF l s) := HQ.out rfl
    by_cases f1 : m ≤ 20
    · have d1 : decide ((m : Int) ≤ 20) = true := decide_eq_true (by omega)
      have d1n : decide (m ≤ 20) = true := decide_eq_true f1
      have HM : Hid (m ≤ 20) := f1
      clear f1
      go_wp2
      go_ret
      exact ⟨⟨true, rfl, fun _ => ⟨HF.out, HM.out⟩⟩, hfin⟩
    · have d1 : decide ((m : Int) ≤ 20) = false := decide_eq_false (by omega)
      have d1n : decide (m ≤ 20) = false := decide_eq_false f1
      clear f1
      go_wp2
      go_ret
      exact ⟨⟨false, rfl, fun h => by cases h⟩, hfin⟩

end Go.Proofs.Ytaejlopkdkaphaa
