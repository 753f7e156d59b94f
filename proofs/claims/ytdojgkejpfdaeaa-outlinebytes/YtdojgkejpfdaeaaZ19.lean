/-
  foundryref12.Formed: the walk.
  Rows of bytes of the call's own (Bo), and how they grow.
  Rows of bytes and rows of ints side by side; an append of bytes as an operation of a region that draws.
  foundryref12.axis: the walk; two rows of bytes of the call's own side by side.
-/
import Derived.Test.YtdojgkejpfdaeaaZ17
import Derived.Test.YtdojgkejpfdaeaaZ15
import Derived.Test.YtdojgkejpfdaeaaZ18
import Derived.Deep.CutRange
import Derived.Test.YtdojgkejpfdaeaaZ1
import Derived.Test.YtdojgkejpfdaeaaZ2
import Derived.Test.YtdojgkejpfdaeaaZ11
import Derived.Test.YtdojgkejpfdaeaaZ9
namespace Go.Proofs.Ytdojgkejpfdaeaa
open Go.RowKit Go.Maps
set_option linter.unusedSimpArgs false
set_option linter.unusedVariables false

def PaF (p : Pa) : Prop := (0 ≤ p.g ∧ p.g ≤ 65535) ∧ (-32768 ≤ p.dx ∧ p.dx ≤ 32767) ∧ (-32768 ≤ p.dy ∧ p.dy ≤ 32767)
theorem fdB_no {z : Int} (h : fdB z = false) : ¬ (-32768 ≤ z ∧ z ≤ 32767) := fun h1 => by rw [fdB_iff.2 h1] at h; cases h
set_option maxHeartbeats 2000000 in
set_option maxRecDepth 100000 in
theorem sformO_any (S : Nat → Prop) (a : Option Addr) (ca : Nat) (b : Option Addr) (cb : Nat) (o : Ol) (w : World) (hc : Gr PnE.row S w a ca o.cs) (hp : Gr PaE S w b cb o.ps) (hl : o.cs.flatten.length ≤ 100000) :
    Calls Try.prog 13 #[.agg #[.slice a o.cs.length ca, .slice b o.ps.length cb]] w fun e w' => e = .returned (.bool (foB o)) ∧ Below w.heap.size w w' := by
  have k1 := hc.lenB
  have k2 := hp.lenB
  have HNO : Hid (¬ FoP o → false = foB o) := fun h => (Bool.eq_false_iff.2 (fun h1 => h (foB_iff.1 h1))).symm
  have HYE : Hid (FoP o → true = foB o) := fun h => (foB_iff.2 h).symm
  obtain ⟨W, hW, X1, hbW⟩ : ∃ W, W = w.alloc (.cells #[.slice a o.cs.length ca, .slice b o.ps.length cb] 25) ∧ Bk 25 W w.heap.size [.slice a o.cs.length ca, .slice b o.ps.length cb] ∧ Below w.heap.size w W := ⟨_, rfl, Bk.new _ _ _, bl1 _⟩
  have HC : Hid (Gr PnE.row S W a ca o.cs) := hc.below hbW
  have HP : Hid (Gr PaE S W b cb o.ps) := hp.below hbW
  have HX : Hid (Bk 25 W w.heap.size [.slice a o.cs.length ca, .slice b o.ps.length cb]) := X1
  have HBW : Hid (Below w.heap.size w W) := hbW
  have hpt := fun U h1 => spointsO_any S a ca (.slice b o.ps.length cb) o.cs U h1 hl rfl
  obtain ⟨x0, x1, _⟩ := X1.two
  clear hc hp X1
  have HNA : Hid (¬ (¬ (0 < o.cs.length ∧ 0 < o.ps.length) ∧ o.cs.length ≤ 10 ∧ o.ps.length ≤ 6) → false = foB o) := fun h => HNO.out (fun h1 => h ⟨by have := h1.1; omega, h1.2.1, h1.2.2.1⟩)
  go_enter Try.func13, Try.ntmps13
  go_upto_region 1 with fail
  rw [← hW]
  clear hW
  go_cut [29] from 8 (fun s29 wx => ∃ q : Bool, s29 = .bool q ∧ wx = W ∧ (q = true → false = foB o) ∧ (q = false → ¬ (0 < o.cs.length ∧ 0 < o.ps.length) ∧ o.cs.length ≤ 10 ∧ o.ps.length ≤ 6))
  case first =>
    clear HNO HYE hpt HC HP HX hbW HBW
    have fin : ∀ q : Bool, (q = true ↔ ¬ (¬ (0 < o.cs.length ∧ 0 < o.ps.length) ∧ o.cs.length ≤ 10 ∧ o.ps.length ≤ 6)) → (q = true → false = foB o) ∧ (q = false → ¬ (0 < o.cs.length ∧ 0 < o.ps.length) ∧ o.cs.length ≤ 10 ∧ o.ps.length ≤ 6) := fun q h => ⟨fun h1 => HNA.out (h.1 h1), fun h1 => by
      by_cases h2 : ¬ (0 < o.cs.length ∧ 0 < o.ps.length) ∧ o.cs.length ≤ 10 ∧ o.ps.length ≤ 6
      · exact h2
      · rw [h.2 h2] at h1; cases h1⟩
    have HFN : Hid (_) := fin
    clear fin HNA
    by_cases c0 : 0 < o.cs.length
    · have g1 : decide ((0 : Int) < (o.cs.length : Int)) = true := decide_eq_true (by omega)
      by_cases p0 : 0 < o.ps.length
      · have g2 : decide ((0 : Int) < (o.ps.length : Int)) = true := decide_eq_true (by omega)
        go_wp2_with fail
        go_meet
        exact ⟨true, rfl, rfl, HFN.out true (by constructor <;> intro _ <;> first | omega | rfl)⟩
      · have g2 : decide ((0 : Int) < (o.ps.length : Int)) = false := decide_eq_false (by omega)
        by_cases c10 : 10 < o.cs.length
        · have g3 : decide ((10 : Int) < (o.cs.length : Int)) = true := decide_eq_true (by omega)
          go_wp2_with fail
          go_meet
          exact ⟨true, rfl, rfl, HFN.out true (by constructor <;> intro _ <;> first | omega | rfl)⟩
        · have g3 : decide ((10 : Int) < (o.cs.length : Int)) = false := decide_eq_false (by omega)
          have g4 : decide ((6 : Int) < (o.ps.length : Int)) = false := decide_eq_false (by omega)
          go_wp2_with fail
          go_meet
          exact ⟨false, rfl, rfl, HFN.out false (by constructor; (intro h; cases h); (intro h; omega))⟩
    · have g1 : decide ((0 : Int) < (o.cs.length : Int)) = false := decide_eq_false (by omega)
      have g3 : decide ((10 : Int) < (o.cs.length : Int)) = false := decide_eq_false (by omega)
      by_cases p6 : 6 < o.ps.length
      · have g4 : decide ((6 : Int) < (o.ps.length : Int)) = true := decide_eq_true (by omega)
        go_wp2_with fail
        go_meet
        exact ⟨true, rfl, rfl, HFN.out true (by constructor <;> intro _ <;> first | omega | rfl)⟩
      · have g4 : decide ((6 : Int) < (o.ps.length : Int)) = false := decide_eq_false (by omega)
        go_wp2_with fail
        go_meet
        exact ⟨false, rfl, rfl, HFN.out false (by constructor; (intro h; cases h); (intro h; omega))⟩
  case rest =>
  obtain ⟨q, rfl, rfl, hq1, hq2⟩ := hcut
  cases q with
  | true =>
    have HF : Hid (false = foB o) := hq1 rfl
    clear hq1 hq2 HNO HYE HNA hpt HC HP HX
    go_wp2
    go_ret
    exact ⟨rt_bool HF.out, hbW⟩
  | false =>
  have HA : Hid (_) := hq2 rfl
  have hc10 := HA.out.2.1
  have hp6 := HA.out.2.2
  clear hq1 hq2 HNA x0 x1 hbW
  go_wp2
  go_loopw [3] (fun i wr => ∃ k : Nat, k ≤ o.cs.length ∧ i = .int .i64 k ∧ (∀ j, j < k → 0 < (o.cs.getD j []).length) ∧ Below wc.heap.size wc wr) (fun i _ => o.cs.length - (intOf i).toNat)
  case atStart => exact ⟨0, Nat.zero_le _, rfl, (fun j hj => by omega), Below.refl _ _⟩
  case round =>
    obtain ⟨k, hk, rfl, hok, hB⟩ := hrel
    have HOK : Hid (∀ j, j < k → 0 < (o.cs.getD j []).length) := hok
    clear hok
    obtain ⟨x0, x1, _⟩ := (HX.out.below hB).two
    have hbW : Below w.heap.size w wr := HBW.out.trans (hB.mono HBW.out.size)
    by_cases hkn : k < o.cs.length
    · obtain ⟨b1, o1, a1, c1, ea, hb1, d0, _, hlb, _⟩ := HC.out.rw hB k hkn
      subst ea
      have HN : Hid ((o.cs.getD k []).length = 0 → false = foB o) := fun h => HNO.out (fun h1 => by have := h1.2.2.2.1 _ (getL_mem' hkn); omega)
      have HS : Hid (0 < (o.cs.getD k []).length → ∀ j, j < k + 1 → 0 < (o.cs.getD j []).length) := fun h j hj => by
        rcases Nat.lt_or_ge j k with h1 | h1
        · exact HOK.out j h1
        · rw [show j = k by omega]; exact h
      generalize (o.cs.getD k []).length = n at *
      have i1 : (0 : Int) ≤ (k : Int) := by omega
      have i2 : (k : Int) < (o.cs.length : Int) := by omega
      clear hpt HOK
      rcases Nat.eq_zero_or_pos n with h0 | h0
      · subst h0
        have HF : Hid (false = foB o) := HN.out rfl
        go_wp2
        go_ret
        exact ⟨rt_bool HF.out, hbW⟩
      · have HS2 : Hid (_) := HS.out h0
        have g1 : ¬ (n : Int) = 0 := by omega
        have g2 : ((n : Int) == 0) = false := by simp; omega
        clear HS HN
        go_wp2
        go_roundw
        case rel => exact ⟨k + 1, by omega, by go_num, HS2.out, hB⟩
        case measure => simp [intOf]; omega
    · obtain rfl : k = o.cs.length := by omega
      have HNE : Hid (∀ c ∈ o.cs, 0 < c.length) := of_get HOK.out
      have g1 : ¬ (o.cs.length : Int) < (o.cs.length : Int) := by omega
      have hc1 := HC.out.below hB
      have hx := HX.out.below hB
      have hp1 := HP.out.below hB
      clear HOK HC HX HP HBW hB
      go_wp2_with fail
      refine (hpt _ hc1).mono ?_
      rintro e u1 ⟨a1, c1, rfl, hL, _, hb1⟩
      have HX : Hid (Bk 25 u1 w.heap.size [.slice a o.cs.length ca, .slice b o.ps.length cb]) := hx.below hb1
      have HP : Hid (Gr PaE S u1 b cb o.ps) := hp1.below hb1
      have HB1 : Hid (Below w.heap.size w u1) := hbW.trans (hb1.mono hbW.size)
      have HL : Hid (Gr PnE (fun _ => True) u1 a1 c1 o.cs.flatten) := hL
      have HF6 : Hid (∀ p ∈ o.ps, PaF p → True) := fun _ _ _ => trivial
      have HFP : Hid (FoP o ↔ (o.cs.flatten.length ≤ 80 ∧ (∀ p ∈ o.cs.flatten, PnF p) ∧ ∀ p ∈ o.ps, PaF p)) := ⟨fun h => ⟨h.2.2.2.2.1, h.2.2.2.2.2.1, h.2.2.2.2.2.2⟩, fun h => ⟨by have := HA.out.1; omega, hc10, hp6, HNE.out, h.1, h.2.1, h.2.2⟩⟩
      clear hpt hc1 hx hp1 hb1 hL x0 x1 HF6 HA HNE hbW
      generalize o.cs.flatten = L at *
      by_cases h80 : 80 < L.length
      · have HF : Hid (false = foB o) := HNO.out (fun h => by have := (HFP.out.1 h).1; omega)
        have g2 : (80 : Int) < (L.length : Int) := by omega
        go_wp2
        go_ret
        exact ⟨rt_bool HF.out, HB1.out⟩
      have g2 : ¬ (80 : Int) < (L.length : Int) := by omega
      go_wp2
      go_loopw [5] (fun i wr => ∃ k : Nat, k ≤ L.length ∧ i = .int .i64 k ∧ (∀ j, j < k → PnF (L.getD j Pn.none)) ∧ Below u1.heap.size u1 wr) (fun i _ => L.length - (intOf i).toNat)
      case atStart => exact ⟨0, Nat.zero_le _, rfl, (fun j hj => by omega), Below.refl _ _⟩
      case round =>
        obtain ⟨k, hk, rfl, hok, hB⟩ := hrel
        have HOK : Hid (∀ j, j < k → PnF (L.getD j Pn.none)) := hok
        clear hok
        have hbW : Below w.heap.size w wr := HB1.out.trans (hB.mono HB1.out.size)
        by_cases hkn : k < L.length
        · obtain ⟨b2, o2, ea, hb2, _, d0, d1, _⟩ := HL.out.pn hB k hkn
          subst ea
          have HN : Hid (¬ PnF (L.getD k Pn.none) → false = foB o) := fun h => HNO.out (fun h1 => h ((HFP.out.1 h1).2.1 _ (get_mem hkn)))
          have HS : Hid (PnF (L.getD k Pn.none) → ∀ j, j < k + 1 → PnF (L.getD j Pn.none)) := fun h j hj => by
            rcases Nat.lt_or_ge j k with h1 | h1
            · exact HOK.out j h1
            · rw [show j = k by omega]; exact h
          generalize L.getD k Pn.none = p at *
          obtain ⟨x, y, on⟩ := p
          dsimp only at d0 d1
          have i1 : (0 : Int) ≤ (k : Int) := by omega
          have i2 : (k : Int) < (L.length : Int) := by omega
          clear HOK
          go_wp2_with fail
          refine (sField_any x _).mono ?_
          rintro e u2 ⟨rfl, rfl⟩
          cases hx : fdB x with
          | false =>
            have HF : Hid (false = foB o) := HN.out (fun h => fdB_no hx h.1)
            clear hx HN HS
            go_wp2
            go_ret
            exact ⟨rt_bool HF.out, hbW⟩
          | true =>
            go_wp2_with fail
            refine (sField_any y _).mono ?_
            rintro e u2 ⟨rfl, rfl⟩
            cases hy : fdB y with
            | false =>
              have HF : Hid (false = foB o) := HN.out (fun h => fdB_no hy h.2)
              clear hx hy HN HS
              go_wp2
              go_ret
              exact ⟨rt_bool HF.out, hbW⟩
            | true =>
              have HS2 : Hid (_) := HS.out ⟨fdB_iff.1 hx, fdB_iff.1 hy⟩
              clear hx hy HN HS
              go_wp2
              go_roundw
              case rel => exact ⟨k + 1, by omega, by go_num, HS2.out, hB⟩
              case measure => simp [intOf]; omega
        · obtain rfl : k = L.length := by omega
          have HNE : Hid (∀ c ∈ L, PnF c) := of_get HOK.out
          have g1 : ¬ (L.length : Int) < (L.length : Int) := by omega
          have HX2 : Hid (Bk 25 wr w.heap.size [.slice a o.cs.length ca, .slice b o.ps.length cb]) := HX.out.below hB
          have HP2 : Hid (Gr PaE S wr b cb o.ps) := HP.out.below hB
          have HB2 : Hid (Below w.heap.size w wr) := hbW
          have HFQ : Hid (FoP o ↔ ∀ p ∈ o.ps, PaF p) := ⟨fun h => (HFP.out.1 h).2.2, fun h => HFP.out.2 ⟨by omega, HNE.out, h⟩⟩
          clear HOK HX HP hB hbW HB1 HFP HNE HL
          obtain ⟨u3, rfl⟩ : ∃ u3, u3 = wr := ⟨_, rfl⟩
          go_wp2
          go_loopw [6] (fun i wr => ∃ k : Nat, k ≤ o.ps.length ∧ i = .int .i64 k ∧ (∀ j, j < k → PaF (o.ps.getD j Pa.none)) ∧ Below u3.heap.size u3 wr) (fun i _ => o.ps.length - (intOf i).toNat)
          case atStart => exact ⟨0, Nat.zero_le _, rfl, (fun j hj => by omega), Below.refl _ _⟩
          case round =>
            obtain ⟨k, hk, rfl, hok, hB⟩ := hrel
            have HOK : Hid (∀ j, j < k → PaF (o.ps.getD j Pa.none)) := hok
            clear hok
            obtain ⟨x0, x1, _⟩ := (HX2.out.below hB).two
            by_cases hkn : k < o.ps.length
            · obtain ⟨b2, o2, ea, hb2, _, d0, d1, d2⟩ := HP2.out.pa hB k hkn
              subst ea
              have HN : Hid (¬ PaF (o.ps.getD k Pa.none) → false = foB o) := fun h => HNO.out (fun h1 => h (HFQ.out.1 h1 _ (get_mem hkn)))
              have HS : Hid (PaF (o.ps.getD k Pa.none) → ∀ j, j < k + 1 → PaF (o.ps.getD j Pa.none)) := fun h j hj => by
                rcases Nat.lt_or_ge j k with h1 | h1
                · exact HOK.out j h1
                · rw [show j = k by omega]; exact h
              generalize o.ps.getD k Pa.none = p at *
              obtain ⟨gg, x, y⟩ := p
              dsimp only at d0 d1 d2
              have i1 : (0 : Int) ≤ (k : Int) := by omega
              have i2 : (k : Int) < (o.ps.length : Int) := by omega
              obtain ⟨V, hV, Y1, hbV⟩ : ∃ V, V = wr.alloc (.cells #[.int .i64 gg, .int .i64 x, .int .i64 y] 59) ∧ Bk 59 V wr.heap.size [.int .i64 gg, .int .i64 x, .int .i64 y] ∧ Below u3.heap.size u3 V := ⟨_, rfl, Bk.new _ _ _, hB.alloc hB.size _⟩
              have hbW : Below w.heap.size w V := HB2.out.trans (hbV.mono HB2.out.size)
              obtain ⟨y0, y1, y2, _⟩ := Y1.three
              clear HOK Y1 hB
              go_upto_region 20 with fail
              rw [← hV]
              clear hV x0 x1 d0 d1 d2
              by_cases hg0 : gg < 0
              · have HF : Hid (false = foB o) := HN.out (fun h => by have h1 : 0 ≤ gg := h.1.1; omega)
                have g3 : decide (gg < 0) = true := decide_eq_true hg0
                clear HN HS
                go_wp2
                go_ret
                exact ⟨rt_bool HF.out, hbW⟩
              have g3 : decide (gg < 0) = false := decide_eq_false hg0
              by_cases hg1 : 65535 < gg
              · have HF : Hid (false = foB o) := HN.out (fun h => by have h1 : gg ≤ 65535 := h.1.2; omega)
                have g4 : decide (65535 < gg) = true := decide_eq_true hg1
                clear HN HS
                go_wp2
                go_ret
                exact ⟨rt_bool HF.out, hbW⟩
              have g4 : decide (65535 < gg) = false := decide_eq_false hg1
              go_wp2_with fail
              refine (sField_any x _).mono ?_
              rintro e u5 ⟨rfl, rfl⟩
              cases hx : fdB x with
              | false =>
                have HF : Hid (false = foB o) := HN.out (fun h => fdB_no hx h.2.1)
                clear hx HN HS
                go_wp2
                go_ret
                exact ⟨rt_bool HF.out, hbW⟩
              | true =>
                go_wp2_with fail
                refine (sField_any y _).mono ?_
                rintro e u5 ⟨rfl, rfl⟩
                cases hy : fdB y with
                | false =>
                  have HF : Hid (false = foB o) := HN.out (fun h => fdB_no hy h.2.2)
                  clear hx hy HN HS
                  go_wp2
                  go_ret
                  exact ⟨rt_bool HF.out, hbW⟩
                | true =>
                  have HS2 : Hid (_) := HS.out ⟨⟨by omega, by omega⟩, fdB_iff.1 hx, fdB_iff.1 hy⟩
                  clear hx hy HN HS
                  go_wp2
                  go_roundw
                  case rel => exact ⟨k + 1, by omega, by go_num, HS2.out, hbV⟩
                  case measure => simp [intOf]; omega
            · obtain rfl : k = o.ps.length := by omega
              have HF : Hid (true = foB o) := HYE.out (HFQ.out.2 (of_get HOK.out))
              have g5 : ¬ (o.ps.length : Int) < (o.ps.length : Int) := by omega
              have hbW : Below w.heap.size w wr := HB2.out.trans (hB.mono HB2.out.size)
              go_wp2
              go_ret
              exact ⟨rt_bool HF.out, hbW⟩

end Go.Proofs.Ytdojgkejpfdaeaa

namespace Go.Proofs.Ytdojgkejpfdaeaa
open Go.RowKit Go.Maps
set_option linter.unusedSimpArgs false
set_option linter.unusedVariables false

theorem info_b8 : (Try.prog.info? 5).map (fun i => (i.zero, i.size, i.bytes)) = some (some (.int .u8 0), 1, 1) := by kernel_rfl
def Bo (base : Nat) (w : World) (v : Value) (ys : List Nat) : Prop := Byt ys ∧ w.ownsRow base 5 1 v ys.length (ys.map Y)
theorem Bo.nil (base : Nat) (w : World) : Bo base w (.slice none 0 0) [] := ⟨Byt.nil, World.ownsRow_nil w base _ 1⟩
theorem Bo.slice {base : Nat} {w : World} {v : Value} {ys : List Nat} (h : Bo base w v ys) : ∃ a cap, v = .slice a ys.length cap ∧ Rb w a cap ys := by
  have h3 := h.2
  rcases h3.2 with ⟨e, h0⟩ | ⟨g, cap, cur, e, hb, hg, hc1, hc2, hc3, ht⟩
  · have : ys = [] := List.length_eq_zero_iff.1 h0
    subst this
    exact ⟨none, 0, e, Rb.nil _ _ _ (Nat.zero_le _) (fun _ => rfl)⟩
  · subst e
    exact ⟨_, _, rfl, Rw.rd (e := 5) (base := base) ⟨h.1, h3⟩⟩
theorem Bo.below {base : Nat} {w w' : World} {v : Value} {ys : List Nat} (h : Bo base w v ys) (hb : Below w.heap.size w w') : Bo base w' v ys := by
  obtain ⟨h1, h3⟩ := h
  refine ⟨h1, h3.1, ?_⟩
  rcases h3.2 with h0 | ⟨g, cap', cur, k1, k2, k3, k4⟩
  · exact .inl h0
  · exact .inr ⟨g, cap', cur, k1, k2, (hb.block g (Array.getElem?_eq_some_iff.1 k3).1).trans k3, k4⟩
theorem Bo.lo {base : Nat} {w : World} {v : Value} {ys : List Nat} (h : Bo base w v ys) {g : Nat} (hg : v.ownBlock = some g) : base ≤ g ∧ g < w.heap.size := World.ownsRow.lt h.2 g hg
/-- 'append(b, x)': x is laid in a block of its own first. -/
theorem wpList_append_b1 {w : World} {ops : Array Oper} {rest : List Oper} {o : Oper} {a : Act} {Q : Exit → Act → World → Prop}
    (hgd : o.guard = none) (s x : Operand) (ho : o.op = .call { callee := .builtin .append, args := #[s, x], argTypes := #[26, 26] })
    (base : Nat) (v : Value) (ys : List Nat) (hs : a.eval s = v) (hown : Bo base w v ys) (g : Nat) (z : Nat) (hx : a.eval x = .slice (some ⟨g, 0, none⟩) 1 1)
    (c0 : w.cell? ⟨g, 0, none⟩ = some (.int .u8 (z : Int))) (hz : z < 256) (hlen : ys.length + 1 ≤ 1000000) (hbase : base ≤ w.heap.size)
    (h : ∀ v' w', Bo base w' v' (ys ++ [z]) → w.grownBy w' v.ownBlock → wpList Try.prog ops Q rest (a.put o.dst v') w') : wpList Try.prog ops Q (o :: rest) a w := by
  obtain ⟨i0, hi, hz0, hz1, hz2⟩ := info_parts info_b8
  refine wpList_append_oneB hgd s x 26 ho base 5 i0 Try.underlying26 hi hz0 hz1 hz2 v ys.length ys hs hown.2 g z hx c0 (by omega) hbase ?_
  intro v' w' k1 k2 _
  exact h v' w' ⟨hown.1.append (fun y hy => by rw [List.mem_singleton.1 hy]; exact hz), by rw [List.length_append]; exact k1⟩ k2
/-- 'append(b, more...)'. -/
theorem wpList_append_bs {w : World} {ops : Array Oper} {rest : List Oper} {o : Oper} {a : Act} {Q : Exit → Act → World → Prop}
    (hgd : o.guard = none) (s x : Operand) (ho : o.op = .call { callee := .builtin .append, args := #[s, x], argTypes := #[26, 26] })
    (base : Nat) (v : Value) (ys : List Nat) (hs : a.eval s = v) (hown : Bo base w v ys) (ad : Option Addr) (c m : Nat) (zs : List Nat) (hm : m = zs.length) (hx : a.eval x = .slice ad m c)
    (hrd : Rb w ad c zs) (hlen : ys.length + zs.length ≤ 1000000) (hbase : base ≤ w.heap.size)
    (h : ∀ v' w', Bo base w' v' (ys ++ zs) → w.grownBy w' v.ownBlock → wpList Try.prog ops Q rest (a.put o.dst v') w') : wpList Try.prog ops Q (o :: rest) a w := by
  obtain ⟨i0, hi, hz0, hz1, hz2⟩ := info_parts info_b8
  refine wpList_append_rb hgd s x 26 ho base 5 i0 Try.underlying26 hi hz0 hz1 hz2 v ys.length ys hs hown.2 ad c m zs hx hm hrd (by omega) hbase ?_
  intro v' w' k1 k2 _
  exact h v' w' ⟨hown.1.append hrd.lim, by rw [List.length_append]; exact k1⟩ k2

end Go.Proofs.Ytdojgkejpfdaeaa

namespace Go.Proofs.Ytdojgkejpfdaeaa
open Go.RowKit Go.Maps
set_option linter.unusedSimpArgs false
set_option linter.unusedVariables false

/-- A row of ints and a row of bytes lie in two blocks. -/
theorem Io.ne_bo {base b2 : Nat} {w : World} {v vb : Value} {zs : List Int} {ys : List Nat} (h : Io base w v zs) (hb : Bo b2 w vb ys) {g : Nat} (h1 : v.ownBlock = some g) : some g ≠ vb.ownBlock := by
  intro e
  rcases h.2.2 with ⟨e0, _⟩ | ⟨g1, cap, cur, k1, k2, k3, k4⟩
  · rw [e0] at h1; cases h1
  · rcases hb.2.2 with ⟨e0, _⟩ | ⟨g2, cap2, cur2, m1, m2, m3, _⟩
    · rw [e0] at e; cases e
    · rw [m1] at e
      rw [k1] at h1
      cases h1
      cases e
      rw [k3] at m3
      cases m3
theorem Io.grownB {base b2 : Nat} {w w' : World} {v vb : Value} {zs : List Int} {ys : List Nat} (h : Io base w v zs) (hb : Bo b2 w vb ys) (hg : w.grownBy w' vb.ownBlock) : Io base w' v zs := by
  have hne := fun g => Io.ne_bo h hb (g := g)
  obtain ⟨h1, h3⟩ := h
  refine ⟨h1, h3.1, ?_⟩
  rcases h3.2 with h0 | ⟨g, cap, cur, k1, k2, k3, k4⟩
  · exact .inl h0
  · exact .inr ⟨g, cap, cur, k1, k2, (hg.block g (Array.getElem?_eq_some_iff.1 k3).1 (hne g (by rw [k1]; rfl))).trans k3, k4⟩
theorem Bo.grownI {base b2 : Nat} {w w' : World} {v vb : Value} {zs : List Int} {ys : List Nat} (hb : Bo b2 w vb ys) (h : Io base w v zs) (hg : w.grownBy w' v.ownBlock) : Bo b2 w' vb ys := by
  have hne := fun g => Io.ne_bo h hb (g := g)
  obtain ⟨h1, h3⟩ := hb
  refine ⟨h1, h3.1, ?_⟩
  rcases h3.2 with h0 | ⟨g, cap, cur, k1, k2, k3, k4⟩
  · exact .inl h0
  · refine .inr ⟨g, cap, cur, k1, k2, (hg.block g (Array.getElem?_eq_some_iff.1 k3).1 (fun e => ?_)).trans k3, k4⟩
    exact hne g e.symm (by rw [k1]; rfl)
/-- 'append(b, more...)', more not being empty. -/
theorem wp_append_bs {w : World} {o : Oper} {a : Act} {K : Act → World → Prop} {Q : Exit → Act → World → Prop}
    (s x : Operand) (ho : o.op = .call { callee := .builtin .append, args := #[s, x], argTypes := #[26, 26] })
    (base : Nat) (v : Value) (ys : List Nat) (hs : a.eval s = v) (hown : Bo base w v ys) (ad : Option Addr) (c m : Nat) (zs : List Nat) (hm : m = zs.length) (hne : zs ≠ []) (hx : a.eval x = .slice ad m c)
    (hrd : Rb w ad c zs) (hlen : ys.length + zs.length ≤ 1000000) (hbase : base ≤ w.heap.size)
    (h : ∀ v' w', Bo base w' v' (ys ++ zs) → w.grownBy w' v.ownBlock → K (a.put o.dst v') w') : o.wp Try.prog a w K Q := by
  obtain ⟨i0, hi, hz0, hz1, hz2⟩ := info_parts info_b8
  rcases hrd.2.2.2.2 with h0 | ⟨b, off, e', hb, hc⟩
  · exact absurd h0 hne
  subst e' hm
  refine wp_append_own_at w s x 26 ho base 5 i0 (.int .u8 0) 1 1 Try.underlying26 hi hz0 hz1 hz2 rfl (by decide) v ys.length (ys.map Y) hs hown.2 ⟨b, off, none⟩ zs.length c (zs.map Y) hx (by simp) ?_ (oneCell_Y zs) (by unfold maxLen; omega) (by omega) hbase ?_
  · intro j u hj
    have hjl : j < zs.length := by
      rcases Nat.lt_or_ge j zs.length with h1 | h1
      · exact h1
      · rw [List.getElem?_eq_none (by simpa using h1)] at hj; cases hj
    have hadd : (⟨b, off, none⟩ : Addr).add j = ⟨b, off + j, none⟩ := by unfold Addr.add; split <;> simp_all
    rw [hadd, hc j hjl]
    rw [List.getElem?_map, List.getElem?_eq_getElem hjl] at hj
    simp at hj; rw [← hj]; simp [List.getD, hjl, Y]
  · intro v' w' k1 k2 _ _
    exact h v' w' ⟨hown.1.append hrd.lim, by rw [List.map_append, List.length_append]; exact k1⟩ k2

end Go.Proofs.Ytdojgkejpfdaeaa

namespace Go.Proofs.Ytdojgkejpfdaeaa
open Go.RowKit Go.Maps
set_option linter.unusedSimpArgs false
set_option linter.unusedVariables false

/-- Two rows in two blocks. -/
def Apt (v u : Value) : Prop := ∀ k, v.ownBlock = some k → u.ownBlock ≠ some k
theorem Apt.symm {v u : Value} (h : Apt v u) : Apt u v := fun k h1 h2 => h k h2 h1
theorem Apt.of {base : Nat} {w : World} {v v' u : Value} {ys : List Nat} (h : Apt v u) (hu : Bo base w u ys) (hv : v'.ownBlock = v.ownBlock ∨ v'.ownBlock = some w.heap.size) : Apt v' u := fun k h1 h2 => by
  rcases hv with e | e
  · exact h k (by rw [← e]; exact h1) h2
  · rw [e] at h1; cases h1; have := (hu.lo h2).2; omega
theorem Bo.grownA {base : Nat} {w w' : World} {v u : Value} {ys : List Nat} (hu : Bo base w u ys) (hg : w.grownBy w' v.ownBlock) (h : Apt v u) : Bo base w' u ys := by
  obtain ⟨h1, h3⟩ := hu
  refine ⟨h1, h3.1, ?_⟩
  rcases h3.2 with h0 | ⟨g, cap, cur, k1, k2, k3, k4⟩
  · exact .inl h0
  · exact .inr ⟨g, cap, cur, k1, k2, (hg.block g (Array.getElem?_eq_some_iff.1 k3).1 (fun e => h g e.symm (by rw [k1]; rfl))).trans k3, k4⟩
theorem Bo.mono {base b2 : Nat} {w : World} {v : Value} {ys : List Nat} (h : Bo base w v ys) (hb : b2 ≤ base) : Bo b2 w v ys := by
  obtain ⟨h1, h3⟩ := h
  refine ⟨h1, h3.1, ?_⟩
  rcases h3.2 with h0 | ⟨g, cap, cur, k1, k2, k3, k4⟩
  · exact .inl h0
  · exact .inr ⟨g, cap, cur, k1, Nat.le_trans hb k2, k3, k4⟩
/-- As wpList_append_bs, with what is told of the block. -/
theorem wpList_append_bs3 {w : World} {ops : Array Oper} {rest : List Oper} {o : Oper} {a : Act} {Q : Exit → Act → World → Prop}
    (hgd : o.guard = none) (s x : Operand) (ho : o.op = .call { callee := .builtin .append, args := #[s, x], argTypes := #[26, 26] })
    (base : Nat) (v : Value) (ys : List Nat) (hs : a.eval s = v) (hown : Bo base w v ys) (ad : Option Addr) (c m : Nat) (zs : List Nat) (hm : m = zs.length) (hx : a.eval x = .slice ad m c)
    (hrd : Rb w ad c zs) (hlen : ys.length + zs.length ≤ 1000000) (hbase : base ≤ w.heap.size)
    (h : ∀ v' w', Bo base w' v' (ys ++ zs) → w.grownBy w' v.ownBlock → (v'.ownBlock = v.ownBlock ∨ v'.ownBlock = some w.heap.size) → wpList Try.prog ops Q rest (a.put o.dst v') w') : wpList Try.prog ops Q (o :: rest) a w := by
  obtain ⟨i0, hi, hz0, hz1, hz2⟩ := info_parts info_b8
  refine wpList_append_rb hgd s x 26 ho base 5 i0 Try.underlying26 hi hz0 hz1 hz2 v ys.length ys hs hown.2 ad c m zs hx hm hrd (by omega) hbase ?_
  intro v' w' k1 k2 k3
  exact h v' w' ⟨hown.1.append hrd.lim, by rw [List.length_append]; exact k1⟩ k2 k3

theorem bo_new (w : World) (zs : List Nat) (cs : Array Value) (hc : cs = (zs.map Y).toArray) (hl : Byt zs) (hm : zs.length ≤ maxLen) : Bo w.heap.size (w.alloc (.cells cs 5)) (.slice (some ⟨w.heap.size, 0, none⟩) zs.length zs.length) zs := by
  subst hc
  exact ⟨hl, by simp, .inr ⟨w.heap.size, zs.length, _, rfl, Nat.le_refl _, heap_alloc_new w _, Nat.le_refl _, hm, by simp, by simp [List.take_of_length_le]⟩⟩
set_option maxHeartbeats 1000000 in
set_option maxRecDepth 100000 in
theorem big2_own (x : Int) (w : World) (hx : 0 ≤ x) (hx2 : x ≤ 9223372036854775807) :
    Calls Try.prog 25 #[.int .i64 x, .int .i64 2] w fun e w' => ∃ v, e = .returned v ∧ Bo w.heap.size w' v (be2 x) ∧ Below w.heap.size w w' := by
  have hmk : ∀ w, (Instr.makeSlice 26 (.int .i64 2) (.int .i64 2)).run Try.prog w = .ok (.slice (some ⟨w.heap.size, 0, none⟩) 2 2) (w.alloc (.cells #[.int .u8 0, .int .u8 0] 5)) := by
    intro w
    have h := run_make_row' (P := Try.prog) 26 5 (.int .u8 0) 1 Try.underlying26 info_byte rfl .i64 .i64 2 (by decide) (by decide) w
    rw [show madeCells #[Value.int IntKind.u8 0] 2 = #[.int .u8 0, .int .u8 0] by kernel_rfl] at h
    exact h
  go_enter Try.func25, Try.ntmps25
  go_wp2
  refine wp_loop_rounds 3 ?_
  rw [rounds_succ]
  go_wp2
  rw [rounds_succ]
  go_wp2
  rw [rounds_succ]
  go_wp2
  go_ret
  refine ⟨_, rfl, bo_new w (be2 x) _ ?_ (byt_be2 x) (by simp [be2, maxLen]), bl1 _⟩
  simp only [be2, List.map_cons, List.map_nil, Y]
  simp
  omega

theorem tmod_nnQ {z m : Int} (h : 0 ≤ z) : z.tmod m = z % m := Int.tmod_eq_emod_of_nonneg h
theorem be2_65536Q {x : Int} : be2 ((x + 65536) % 65536) = be2 x := by
  unfold be2
  rw [show (x + 65536) % 65536 / 256 % 256 = x / 256 % 256 by omega, show (x + 65536) % 65536 % 256 = x % 256 by omega]

set_option maxHeartbeats 1000000 in
set_option maxRecDepth 100000 in
theorem saxis_any (d : Int) (sh sm : Nat) (w : World) (hd : -32768 ≤ d ∧ d ≤ 32767) (hs : sh ≤ 100) (hm : sm ≤ 100) :
    Calls Try.prog 43 #[.int .i64 d, .int .i64 (sh : Int), .int .i64 (sm : Int)] w fun e w' => ∃ v, e = .returned (.tuple #[.int .i64 ((axF d sh sm : Nat) : Int), v]) ∧ Bo w.heap.size w' v (axB d) ∧ Below w.heap.size w w' := by
  rcases ax_cases d with h | h | h | h
  · have HA : Hid (axF d sh sm = sm ∧ axB d = []) := by unfold axF axB; rw [if_pos h, if_pos h]; exact ⟨rfl, rfl⟩
    subst h
    go_enter Try.func43, Try.ntmps43
    go_wp2
    go_ret2
    exact ⟨.slice none 0 0, by rw [HA.out.1]; rfl, by rw [HA.out.2]; exact Bo.nil _ _, Below.refl _ _⟩
  · obtain ⟨n, rfl⟩ : ∃ n : Nat, d = (n : Int) := ⟨d.toNat, by omega⟩
    have HA : Hid (axF (n : Int) sh sm = sh + sm ∧ axB (n : Int) = [n]) := by unfold axF axB; rw [if_neg (by omega), if_pos h, if_neg (by omega), if_pos h]; exact ⟨rfl, by simp⟩
    have g0 : ((n : Int) == 0) = false := by simp; omega
    have g1 : decide ((0 : Int) < (n : Int)) = true := decide_eq_true h.1
    have g2 : decide ((n : Int) < 256) = true := decide_eq_true h.2
    have g3 : (n : Int) % 256 = (n : Int) := by omega
    have HR : Hid (Bo w.heap.size (w.alloc (.cells #[.int .u8 (n : Int)] 5)) (.slice (some ⟨w.heap.size, 0, none⟩) 1 1) [n]) := bo_new w [n] #[.int .u8 (n : Int)] rfl (fun x hx => by rw [List.mem_singleton.1 hx]; omega) (by unfold maxLen; simp)
    go_enter Try.func43, Try.ntmps43
    go_wp2
    go_ret2
    exact ⟨.slice (some ⟨w.heap.size, 0, none⟩) 1 1, by rw [HA.out.1]; simp, by rw [HA.out.2]; exact HR.out, bl1 _⟩
  · obtain ⟨n, rfl⟩ : ∃ n : Nat, d = -(n : Int) := ⟨(-d).toNat, by omega⟩
    have HA : Hid (axF (-(n : Int)) sh sm = sh ∧ axB (-(n : Int)) = [n]) := by unfold axF axB; rw [if_neg (by omega), if_neg (by omega), if_pos h, if_neg (by omega), if_neg (by omega), if_pos h]; exact ⟨rfl, by simp⟩
    have g0 : ((-(n : Int)) == 0) = false := by simp; omega
    have g1 : decide ((0 : Int) < -(n : Int)) = false := decide_eq_false (by omega)
    have g2 : decide (-(n : Int) < 0) = true := decide_eq_true h.1
    have g4 : decide ((-256 : Int) < -(n : Int)) = true := decide_eq_true h.2
    have g3 : (n : Int) % 256 = (n : Int) := by omega
    have HR : Hid (Bo w.heap.size (w.alloc (.cells #[.int .u8 (n : Int)] 5)) (.slice (some ⟨w.heap.size, 0, none⟩) 1 1) [n]) := bo_new w [n] #[.int .u8 (n : Int)] rfl (fun x hx => by rw [List.mem_singleton.1 hx]; omega) (by unfold maxLen; simp)
    go_enter Try.func43, Try.ntmps43
    go_wp2
    go_ret2
    exact ⟨.slice (some ⟨w.heap.size, 0, none⟩) 1 1, by rw [HA.out.1]; simp, by rw [HA.out.2]; exact HR.out, bl1 _⟩
  · have HA : Hid (axF d sh sm = 0 ∧ axB d = be2 d) := by unfold axF axB; rw [if_neg (by omega), if_neg (by omega), if_neg (by omega), if_neg (by omega), if_neg (by omega), if_neg (by omega)]; exact ⟨rfl, rfl⟩
    have g0 : (d == 0) = false := by simp; omega
    have hx0 : 0 ≤ d + 65536 := by omega
    obtain ⟨z, hz⟩ : ∃ z, z = (d + 65536) % 65536 := ⟨_, rfl⟩
    have hmz : (d + 65536).tmod 65536 = z := by rw [tmod_nnQ hx0, hz]
    have hbg := fun U => big2_own z U (by omega) (by omega)
    rw [show be2 z = be2 d by rw [hz, be2_65536Q]] at hbg
    clear hz
    have hgo : Calls Try.prog 43 #[.int .i64 d, .int .i64 (sh : Int), .int .i64 (sm : Int)] w fun e w' => ∃ v, e = .returned (.tuple #[.int .i64 0, v]) ∧ Bo w.heap.size w' v (be2 d) ∧ Below w.heap.size w w' := by
      clear HA
      rcases h with h | h
      · have g1 : decide ((0 : Int) < d) = false := decide_eq_false (by omega)
        have g2 : decide (d < 0) = true := decide_eq_true (by omega)
        have g4 : decide ((-256 : Int) < d) = false := decide_eq_false (by omega)
        go_enter Try.func43, Try.ntmps43
        go_wp2_with fail
        refine (hbg _).mono ?_
        rintro e u ⟨v, rfl, hr, hb⟩
        obtain ⟨a, c, rfl, _⟩ := hr.slice
        go_wp2
        go_ret2
        exact ⟨_, rfl, hr, hb⟩
      · have g1 : decide ((0 : Int) < d) = true := decide_eq_true (by omega)
        have g2 : decide (d < 0) = false := decide_eq_false (by omega)
        have g4 : decide (d < 256) = false := decide_eq_false (by omega)
        go_enter Try.func43, Try.ntmps43
        go_wp2_with fail
        refine (hbg _).mono ?_
        rintro e u ⟨v, rfl, hr, hb⟩
        obtain ⟨a, c, rfl, _⟩ := hr.slice
        go_wp2
        go_ret2
        exact ⟨_, rfl, hr, hb⟩
    refine hgo.mono ?_
    rintro e u ⟨v, rfl, hr, hb⟩
    exact ⟨v, by rw [HA.out.1]; rfl, by rw [HA.out.2]; exact hr, hb⟩
theorem saxisX_any (d : Int) (w : World) (hd : -32768 ≤ d ∧ d ≤ 32767) :
    Calls Try.prog 43 #[.int .i64 d, .int .i64 2, .int .i64 16] w fun e w' => ∃ v, e = .returned (.tuple #[.int .i64 ((axF d 2 16 : Nat) : Int), v]) ∧ Bo w.heap.size w' v (axB d) ∧ Below w.heap.size w w' := saxis_any d 2 16 w hd (by omega) (by omega)
theorem saxisY_any (d : Int) (w : World) (hd : -32768 ≤ d ∧ d ≤ 32767) :
    Calls Try.prog 43 #[.int .i64 d, .int .i64 4, .int .i64 32] w fun e w' => ∃ v, e = .returned (.tuple #[.int .i64 ((axF d 4 32 : Nat) : Int), v]) ∧ Bo w.heap.size w' v (axB d) ∧ Below w.heap.size w w' := saxis_any d 4 32 w hd (by omega) (by omega)
theorem axF_le (d : Int) (sh sm : Nat) : axF d sh sm ≤ sh + sm := by unfold axF; split <;> (try split) <;> (try split) <;> omega

end Go.Proofs.Ytdojgkejpfdaeaa
