/-
  Bytes and a place behind a pointer (Sc), and worlds that are as they were but for one block (Kp).
  foundryref12.Same, of two alike: the walk.
-/
import Derived.Test.YtngmcghmniakeaaZ12
import Derived.Test.YtngmcghmniakeaaZ18
import Derived.BigQuiet
import Derived.Deep.QuietTactic
import Derived.WalkSmall
import Derived.Outline
namespace Go.Proofs.Ytngmcghmniakeaa
open Go.RowKit Go.Maps
set_option linter.unusedSimpArgs false
set_option linter.unusedVariables false

/-- All that was there is as it was, but for block g. -/
def Kp (g : Nat) (w w' : World) : Prop := Keep (fun k => k < w.heap.size ∧ k ≠ g) w w'
theorem Kp.refl (g : Nat) (w : World) : Kp g w w := Keep.refl _ _
theorem Kp.size {g : Nat} {w w' : World} (h : Kp g w w') : w.heap.size ≤ w'.heap.size := Keep.size h
theorem Kp.trans {g : Nat} {a b c : World} (h : Kp g a b) (k : Kp g b c) : Kp g a c :=
  Keep.trans h (Keep.mono k (fun i hi => ⟨Nat.lt_of_lt_of_le hi.1 h.size, hi.2⟩))
theorem Kp.of {g : Nat} {w w' : World} (h : Below w.heap.size w w') : Kp g w w' := Keep.of_below h (fun k hk => hk.1)
theorem Kp.setCell {g : Nat} {a w : World} (h : Kp g a w) (j : Nat) (z : Value) : Kp g a (w.setCell ⟨g, j, none⟩ z) := Keep.setCell h (p := ⟨g, j, none⟩) (fun e => e.2 rfl) z
theorem Kp.below {g B : Nat} {w w' : World} (h : Kp g w w') (h1 : B ≤ w.heap.size) (h2 : B ≤ g) : Below B w w' := Keep.below h (fun k hk => ⟨by omega, by omega⟩)
theorem Kp.alloc {g : Nat} {a w : World} (h : Kp g a w) (o : Obj) : Kp g a (w.alloc o) := h.trans (Kp.of (bl1 o))
theorem Kp.drew {g : Nat} {a w : World} (h : Kp g a w) : Kp g a w.drew := h.trans (Kp.of (Below.refl _ _).drew)
theorem Kp.grown {g : Nat} {a w w' : World} {r : Option Nat} (h : Kp g a w) (hg : w.grownBy w' r) (hr : ∀ k, r = some k → a.heap.size ≤ k) : Kp g a w' :=
  Keep.trans h ⟨hg.os, hg.tape, hg.output, hg.size, fun k hk => hg.block k (Nat.lt_of_lt_of_le hk.1 h.size) (fun e => by have := hr k e.symm; omega)⟩
theorem Kp.block {g : Nat} {w w' : World} (h : Kp g w w') {k : Nat} (h1 : k < w.heap.size) (h2 : k ≠ g) : w'.heap[k]? = w.heap[k]? := Keep.block h k ⟨h1, h2⟩
theorem Bk.kp {t : TypeId} {g b : Nat} {w w' : World} {cs : List Value} (h : Bk t w b cs) (hk : Kp g w w') (hb : b ≠ g) : Bk t w' b cs := (hk.block h.lt hb).trans h
theorem Bk.ne {t u : TypeId} {w : World} {g b : Nat} {cs ds : List Value} (h : Bk t w b cs) (h2 : Bk u w g ds) (ht : t ≠ u) : b ≠ g := by
  intro e
  subst e
  unfold Bk at h h2
  rw [h] at h2
  simp at h2
  exact ht h2.2
theorem Gw.kp {α : Type} {E : El α} {t u : TypeId} {base g : Nat} {w w' : World} {v : Value} {l : List α} {cs : List Value} (h : Gw E t base (fun _ => False) w v l) (hb : Bk u w g cs) (ht : u ≠ t) (hk : Kp g w w') : Gw E t base (fun _ => False) w' v l := by
  refine h.stay hk.size (fun k h1 => h1.elim) (fun k hv => hk.block (h.lo hv).2 (fun e => ?_))
  obtain ⟨cur, k1⟩ := h.ty hv
  rw [e, hb] at k1
  simp at k1
  exact ht k1.2
theorem Gi.kp {u : TypeId} {base g : Nat} {w w' : World} {v : Value} {l : List Int} {cs : List Value} (h : Gi base w v l) (hb : Bk u w g cs) (ht : u ≠ 3) (hk : Kp g w w') : Gi base w' v l := Gw.kp h hb ht hk
theorem Rb.keep' {w w' : World} {a : Option Addr} {cap : Nat} {xs : List Nat} (h : Rb w a cap xs) (hs : w.heap.size ≤ w'.heap.size) (hb : ∀ b o, b < w.heap.size → a = some ⟨b, o, none⟩ → xs ≠ [] → w'.heap[b]? = w.heap[b]?) : Rb w' a cap xs := by
  by_cases h0 : xs = []
  · exact ⟨h.1, h.2.1, h.2.2.1, h.2.2.2.1, .inl h0⟩
  · exact h.keep hs (fun b hb1 ⟨o, e⟩ => hb b o hb1 e h0)
/-- Bytes and a place: a block of two cells. -/
def Sc (t : TypeId) (w : World) (g : Nat) (pa : Option Addr) (pc : Nat) (xs : List Nat) (p : Nat) : Prop :=
  Bk t w g [.slice pa xs.length pc, .int .i64 (p : Int)] ∧ Rb w pa pc xs ∧ ∀ b o, pa = some ⟨b, o, none⟩ → xs ≠ [] → b ≠ g
theorem Sc.bk {t : TypeId} {w : World} {g : Nat} {pa : Option Addr} {pc : Nat} {xs : List Nat} {p : Nat} (h : Sc t w g pa pc xs p) : Bk t w g [.slice pa xs.length pc, .int .i64 (p : Int)] := h.1
theorem Sc.rb {t : TypeId} {w : World} {g : Nat} {pa : Option Addr} {pc : Nat} {xs : List Nat} {p : Nat} (h : Sc t w g pa pc xs p) : Rb w pa pc xs := h.2.1
theorem Sc.below {t : TypeId} {w w' : World} {g : Nat} {pa : Option Addr} {pc : Nat} {xs : List Nat} {p : Nat} (h : Sc t w g pa pc xs p) (hb : Below w.heap.size w w') : Sc t w' g pa pc xs p := ⟨h.1.below hb, h.2.1.below hb, h.2.2⟩
theorem Sc.step {t : TypeId} {w : World} {g : Nat} {pa : Option Addr} {pc : Nat} {xs : List Nat} {p : Nat} (h : Sc t w g pa pc xs p) (q : Nat) : Sc t (w.setCell ⟨g, 1, none⟩ (.int .i64 (q : Int))) g pa pc xs q :=
  ⟨h.1.set 1 _, h.2.1.keep' (by simp [World.setCell]) (fun b o _ e hne => Below.heap_setCell _ _ _ _ (fun e2 => h.2.2 b o e hne e2)), h.2.2⟩
/-- A row of the call's own that grows leaves it. -/
theorem Sc.grown {t : TypeId} {w w' : World} {g : Nat} {pa : Option Addr} {pc : Nat} {xs : List Nat} {p : Nat} {r : Option Nat} (h : Sc t w g pa pc xs p) (hg : w.grownBy w' r) (hr : r ≠ some g) (hb : ∀ b o, pa = some ⟨b, o, none⟩ → xs ≠ [] → r ≠ some b) : Sc t w' g pa pc xs p :=
  ⟨h.1.grown hg hr, h.2.1.keep' hg.size (fun b o hb1 e hne => hg.block b hb1 (fun e2 => hb b o e hne e2.symm)), h.2.2⟩
theorem Sc.base {t : TypeId} {w w0 : World} {g : Nat} {pa : Option Addr} {pc : Nat} {xs : List Nat} {p : Nat} (h : Sc t w g pa pc xs p) : g < w.heap.size := h.1.lt

end Go.Proofs.Ytngmcghmniakeaa

namespace Go.Proofs.Ytngmcghmniakeaa
open Go.RowKit Go.Maps
set_option linter.unusedSimpArgs false
set_option linter.unusedVariables false

theorem Gr.rwAt {α : Type} {E : El α} {S : Nat → Prop} {w : World} {a : Option Addr} {cap : Nat} {m : List (List α)} (h : Gr E.row S w a cap m) (k : Nat) (hk : k < m.length) :
    ∃ b off a' cap', a = some ⟨b, off, none⟩ ∧ b < w.heap.size ∧ (∀ wr, Below w.heap.size w wr → wr.cell? ⟨b, off + k, none⟩ = some (.slice a' (m.getD k []).length cap')) ∧ Gr E S w a' cap' (m.getD k []) := by
  obtain ⟨b, off, a', cap', e, hb, hc, hr, _⟩ := h.rw (Below.refl _ _) k hk
  exact ⟨b, off, a', cap', e, hb, fun wr hB => (hB.cell (p := ⟨b, off + k, none⟩) hb).trans hc, hr⟩

set_option maxHeartbeats 4000000 in
set_option maxRecDepth 100000 in
theorem ssameO_any (S S2 : Nat → Prop) (a : Option Addr) (ca : Nat) (b : Option Addr) (cb : Nat) (a' : Option Addr) (ca' : Nat) (b' : Option Addr) (cb' : Nat) (o : Ol) (w : World) (hg : Gr PnE.row S w a ca o.cs) (hm : Gr PaE S w b cb o.ps) (hg' : Gr PnE.row S2 w a' ca' o.cs) (hm' : Gr PaE S2 w b' cb' o.ps) :
    Calls Try.prog 11 #[.agg #[.slice a o.cs.length ca, .slice b o.ps.length cb], .agg #[.slice a' o.cs.length ca', .slice b' o.ps.length cb']] w fun e w' => e = .returned (.bool true) ∧ Below w.heap.size w w' := by
  have k1 := hg.lenB
  have k2 := hm.lenB
  have g1 : ((o.cs.length : Int) != (o.cs.length : Int)) = false := by simp
  have g2 : ((o.ps.length : Int) != (o.ps.length : Int)) = false := by simp
  obtain ⟨W, hW, X1, X2, hbW⟩ : ∃ W, W = (w.alloc (.cells #[.slice a o.cs.length ca, .slice b o.ps.length cb] 25)).alloc (.cells #[.slice a' o.cs.length ca', .slice b' o.ps.length cb'] 25) ∧
      Bk 25 W w.heap.size [.slice a o.cs.length ca, .slice b o.ps.length cb] ∧ Bk 25 W (w.heap.size + 1) [.slice a' o.cs.length ca', .slice b' o.ps.length cb'] ∧ Below w.heap.size w W := ⟨_, rfl, (Bk.new _ _ _).below (bl1 _), Bk.new1 _ _ _ _, bl2 _ _⟩
  have HA : Hid (Gr PnE.row S W a ca o.cs) := hg.below hbW
  have HB : Hid (Gr PnE.row S2 W a' ca' o.cs) := hg'.below hbW
  have HC : Hid (Gr PaE S W b cb o.ps) := hm.below hbW
  have HD : Hid (Gr PaE S2 W b' cb' o.ps) := hm'.below hbW
  have HX1 : Hid (Bk 25 W w.heap.size [.slice a o.cs.length ca, .slice b o.ps.length cb]) := X1
  have HX2 : Hid (Bk 25 W (w.heap.size + 1) [.slice a' o.cs.length ca', .slice b' o.ps.length cb']) := X2
  have HBW : Hid (Below w.heap.size w W) := hbW
  clear hg hm hg' hm' X1 X2 hbW
  go_enter Try.func11, Try.ntmps11
  go_wp2
  rw [← hW]
  clear hW g1 g2
  go_loopw [5] (fun i wr => ∃ k : Nat, k ≤ o.cs.length ∧ i = .int .i64 k ∧ Below W.heap.size W wr) (fun i _ => o.cs.length - (intOf i).toNat)
  case atStart => exact ⟨0, Nat.zero_le _, rfl, Below.refl _ _⟩
  case round =>
    obtain ⟨k, hk, rfl, hnx⟩ := hrel
    obtain ⟨x0, x1, _⟩ := (HX1.out.below hnx).two
    obtain ⟨y0, y1, _⟩ := (HX2.out.below hnx).two
    by_cases hkn : k < o.cs.length
    · obtain ⟨b1, o1, a1, c1, ea, l1, d1, p1⟩ := HA.out.rwAt k hkn
      obtain ⟨b2, o2, a2, c2, eb, l2, d2, p2⟩ := HB.out.rwAt k hkn
      obtain ⟨l, hl⟩ : ∃ l, o.cs.getD k [] = l := ⟨_, rfl⟩
      rw [hl] at d1 p1 d2 p2
      have e2 := p1.lenB
      have HD1 : Hid (∀ V, Below W.heap.size W V → V.cell? ⟨b1, o1 + k, none⟩ = some (.slice a1 l.length c1) ∧ V.cell? ⟨b2, o2 + k, none⟩ = some (.slice a2 l.length c2)) := fun V hV => ⟨d1 V hV, d2 V hV⟩
      have HP1 : Hid (Gr PnE S W a1 c1 l) := p1
      have HP2 : Hid (Gr PnE S2 W a2 c2 l) := p2
      have hll : ((l.length : Int) != (l.length : Int)) = false := by simp
      obtain ⟨q1, q2⟩ := HD1.out wr hnx
      have i1 : (0 : Int) ≤ (k : Int) := by omega
      have i2 : (k : Int) < (o.cs.length : Int) := by omega
      subst ea eb
      clear hl d1 d2 p1 p2
      go_wp2_with fail
      go_quiet (fail)
      have HNX : Hid (Below W.heap.size W wr) := hnx
      clear q1 q2 hnx x0 x1 y0 y1
      go_wp2
      go_loopw [6] (fun i wr2 => ∃ j : Nat, j ≤ l.length ∧ i = .int .i64 j ∧ Below W.heap.size W wr2) (fun i _ => l.length - (intOf i).toNat)
      case atStart => exact ⟨0, Nat.zero_le _, rfl, below_drewN HNX.out _⟩
      case round =>
        obtain ⟨j, hj, rfl, hny⟩ := hrel
        obtain ⟨q1, q2⟩ := HD1.out wr hny
        obtain ⟨x0, x1, _⟩ := (HX1.out.below hny).two
        obtain ⟨y0, y1, _⟩ := (HX2.out.below hny).two
        by_cases hjn : j < l.length
        · obtain ⟨b3, o3, ec, _, _, c0, c1', c2'⟩ := HP1.out.pn hny j hjn
          obtain ⟨b4, o4, ed, _, _, d0, d1, d2⟩ := HP2.out.pn hny j hjn
          generalize l.getD j Pn.none = t at *
          obtain ⟨x, y, z⟩ := t
          dsimp only at c0 c1' c2' d0 d1 d2
          subst ec ed
          have i3 : (0 : Int) ≤ (j : Int) := by omega
          have i4 : (j : Int) < (l.length : Int) := by omega
          go_wp2_with fail
          go_quiet (fail)
          go_wp2
          go_roundw
          case rel => exact ⟨j + 1, by omega, by go_num, below_drewN hny _⟩
          case measure => simp [intOf]; omega
        · have g1 : ¬ (j : Int) < (l.length : Int) := by omega
          go_wp2
          go_roundw
          case rel => exact ⟨k + 1, by omega, by go_num, hny⟩
          case measure => simp [intOf]; omega
    · have g1 : ¬ (k : Int) < (o.cs.length : Int) := by omega
      go_wp2
      clear x0 x1 y0 y1 hkn hk g1
      go_loopw [7] (fun i wr => ∃ k : Nat, k ≤ o.ps.length ∧ i = .int .i64 k ∧ Below W.heap.size W wr) (fun i _ => o.ps.length - (intOf i).toNat)
      case atStart => exact ⟨0, Nat.zero_le _, rfl, hnx⟩
      case round =>
        clear hnx
        obtain ⟨k, hk, rfl, hnx⟩ := hrel
        obtain ⟨x0, x1, _⟩ := (HX1.out.below hnx).two
        obtain ⟨y0, y1, _⟩ := (HX2.out.below hnx).two
        by_cases hkn : k < o.ps.length
        · obtain ⟨b3, o3, ec, _, _, c0, c1', c2'⟩ := HC.out.pa hnx k hkn
          obtain ⟨b4, o4, ed, _, _, d0, d1, d2⟩ := HD.out.pa hnx k hkn
          generalize o.ps.getD k Pa.none = t at *
          obtain ⟨x, y, z⟩ := t
          dsimp only at c0 c1' c2' d0 d1 d2
          subst ec ed
          have i3 : (0 : Int) ≤ (k : Int) := by omega
          have i4 : (k : Int) < (o.ps.length : Int) := by omega
          go_wp2_with fail
          go_quiet (fail)
          go_wp2
          go_roundw
          case rel => exact ⟨k + 1, by omega, by go_num, below_drewN hnx _⟩
          case measure => simp [intOf]; omega
        · have g1 : ¬ (k : Int) < (o.ps.length : Int) := by omega
          have hbW := HBW.out.trans (hnx.mono HBW.out.size)
          go_wp2
          go_ret
          exact ⟨rfl, hbW⟩

end Go.Proofs.Ytngmcghmniakeaa
