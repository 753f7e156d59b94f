/-
  foundryref17.Formed, Glyph, Same: the walks.
  An append as an operation of a region that draws.
  'append(out, x)' of a row of ints as an operation of a region that draws.
  Regions that draw their order, step by step: the kit's own laws with the operation taken out of a written list. Nothing here is a walk.
  foundryref17.Map, Chars: the walks.
-/
import Derived.Test.YtgambbmonbhpnaaZ5
import Derived.BigQuiet
import Derived.Deep.QuietTactic
import Derived.WalkSmall
import Derived.Outline
import Derived.Test.YtgambbmonbhpnaaZ1
import Derived.Test.YtgambbmonbhpnaaZ6
import Derived.Test.YtgambbmonbhpnaaChecked
import Derived.Deep.RegionHeld3
import Derived.WalkKit
import Derived.Laws.IdiomStrings
namespace Go.Proofs.Ytgambbmonbhpnaa
open Go.RowKit Go.Maps
set_option linter.unusedSimpArgs false
set_option linter.unusedVariables false

def rn1 (x : Rn) (n : Int) : Bool := !decide (x.fr < 0) && (!decide (x.to < x.fr) && (!decide (1114111 < x.to) && (!decide (x.gl < 0) && (!decide (n ≤ x.gl) && !decide (n - 1 - x.gl < x.to - x.fr)))))
theorem rn1_eq (x : Rn) (n : Int) : rnB x n = rn1 x n := by
  rw [Bool.eq_iff_iff, rnB_iff]
  unfold rn1
  simp only [Bool.and_eq_true, Bool.not_eq_true', decide_eq_false_iff_not]
  omega
theorem foCx_rn {l : List Rn} {n : Int} {k : Nat} (h : rnB (l.getD k Rn.none) n = false) : foCx l n k = false := by unfold foCx; rw [h]; rfl
theorem foCx_gap {l : List Rn} {n : Int} {k j : Nat} (hj : j + 1 = k) (h : (l.getD k Rn.none).fr ≤ (l.getD j Rn.none).to) : foCx l n k = false := by
  unfold foCx
  rw [show k - 1 = j by omega, decide_eq_false (show ¬ k = 0 by omega), decide_eq_false (show ¬ (l.getD j Rn.none).to < (l.getD k Rn.none).fr by omega)]
  simp
theorem foCx_yes {l : List Rn} {n : Int} {k j : Nat} (h1 : rnB (l.getD k Rn.none) n = true) (hj : k = 0 ∨ (j + 1 = k ∧ ¬ (l.getD k Rn.none).fr ≤ (l.getD j Rn.none).to)) : foCx l n k = true := by
  rw [foCx_iff]
  refine ⟨h1, ?_⟩
  rcases hj with h | ⟨h2, h3⟩
  · exact .inl h
  · refine .inr ?_
    rw [show k - 1 = j by omega]
    omega

set_option maxHeartbeats 4000000 in
set_option maxRecDepth 100000 in
theorem sformC_any (S : Nat → Prop) (a : Option Addr) (ca : Nat) (l : List Rn) (n : Int) (w : World) (hl : Gr RnE S w a ca l) (hn : I64 n) :
    Calls Try.prog 22 #[.slice a l.length ca, .int .i64 n] w fun e w' => e = .returned (.bool (foC l n)) ∧ Below w.heap.size w w' := by
  have kl := hl.lenB
  obtain ⟨hn1, hn2⟩ := hn
  by_cases hl1 : 40 < l.length
  · have HF : Hid (foC l n = false) := foC_no1 hl1
    have g2 : (40 : Int) < (l.length : Int) := by omega
    go_enter Try.func22, Try.ntmps22
    go_wp2
    go_ret
    exact ⟨rt_bool HF.out.symm, Below.refl _ _⟩
  have g2 : ¬ (40 : Int) < (l.length : Int) := by omega
  have HL : Hid (Gr RnE S w a ca l) := hl
  clear hl
  go_enter Try.func22, Try.ntmps22
  go_wp2
  go_loopw [5] (fun i wr => ∃ (k : Nat), k ≤ l.length ∧ i = .int .i64 k ∧ Hid (∀ j, j < k → foCx l n j = true) ∧ Below w.heap.size w wr) (fun i _ => l.length - (intOf i).toNat)
  case atStart => exact ⟨0, Nat.zero_le _, rfl, (fun j hj => by omega), Below.refl _ _⟩
  case round =>
    obtain ⟨k, hk, rfl, HOK, hB⟩ := hrel
    by_cases hkn : k < l.length
    · obtain ⟨b1, off, ea, hb1, hM, c0, c1, c2⟩ := HL.out.rn hB k hkn
      subst ea
      have HBad : Hid (foCx l n k = false → foC l n = false) := foC_no2 hkn
      have HRN : Hid (rnB (l.getD k Rn.none) n = false → foCx l n k = false) := foCx_rn
      have HX : Hid (_) := rn1_eq (l.getD k Rn.none) n
      have HGP : Hid (∀ j, j + 1 = k → (l.getD k Rn.none).fr ≤ (l.getD j Rn.none).to → foCx l n k = false) := fun j hj h => foCx_gap hj h
      have HYE : Hid (∀ j, rnB (l.getD k Rn.none) n = true → (k = 0 ∨ (j + 1 = k ∧ ¬ (l.getD k Rn.none).fr ≤ (l.getD j Rn.none).to)) → foCx l n k = true) := fun j h1 h2 => foCx_yes h1 h2
      have HPV : Hid (∀ j, j + 1 = k → wr.cell? ⟨b1, off + j * 3 + 1, none⟩ = some (.int .i64 (l.getD j Rn.none).to) ∧ I64 (l.getD j Rn.none).to) := fun j hj => by
        obtain ⟨b2, o2, e2, _, hM2, _, r1, _⟩ := HL.out.rn hB j (by omega)
        injection e2 with e3
        injection e3 with e4 e5
        subst e4 e5
        exact ⟨r1, hM2.2.1⟩
      obtain ⟨x, hx⟩ : ∃ x, l.getD k Rn.none = x := ⟨_, rfl⟩
      rw [hx] at hM c0 c1 c2 HX HRN HGP HYE
      obtain ⟨⟨m1, m2⟩, ⟨m3, m4⟩, ⟨m5, m6⟩⟩ := hM
      have i1 : (0 : Int) ≤ (k : Int) := by omega
      have i2 : (k : Int) < (l.length : Int) := by omega
      obtain ⟨U, hU, XG, hbU⟩ : ∃ U, U = wr.alloc (.cells #[.int .i64 x.fr, .int .i64 x.to, .int .i64 x.gl] 43) ∧ Bk 43 U wr.heap.size [.int .i64 x.fr, .int .i64 x.to, .int .i64 x.gl] ∧ Below wr.heap.size wr U := ⟨_, rfl, Bk.new _ _ _, bl1 _⟩
      have HPU : Hid (∀ j, j + 1 = k → U.cell? ⟨b1, off + j * 3 + 1, none⟩ = some (.int .i64 (l.getD j Rn.none).to) ∧ I64 (l.getD j Rn.none).to) := fun j hj =>
        ⟨(hbU.cell (p := ⟨b1, off + j * 3 + 1, none⟩) (Nat.lt_of_lt_of_le hb1 hB.size)).trans (HPV.out j hj).1, (HPV.out j hj).2⟩
      replace hB := hB.trans (hbU.mono hB.size)
      obtain ⟨q0, q1, q2, -⟩ := XG.three
      unfold rn1 at HX
      go_upto_region 7 with fail
      rw [← hU]
      clear hU c0 c1 c2 hx hbU HPV XG
      by_cases f1 : x.fr < 0
      · have d1 : decide (x.fr < 0) = true := decide_eq_true f1
        have HF : Hid (foC l n = false) := HBad.out (HRN.out (by rw [HX.out, d1]; rfl))
        clear HX HBad HOK HRN HGP HYE HPU
        go_wp2
        go_ret
        exact ⟨rt_bool HF.out.symm, hB⟩
      have d1 : decide (x.fr < 0) = false := decide_eq_false f1
      by_cases f2 : x.to < x.fr
      · have d2 : decide (x.to < x.fr) = true := decide_eq_true f2
        have HF : Hid (foC l n = false) := HBad.out (HRN.out (by rw [HX.out, d1, d2]; rfl))
        clear HX HBad HOK HRN HGP HYE HPU
        go_wp2
        go_ret
        exact ⟨rt_bool HF.out.symm, hB⟩
      have d2 : decide (x.to < x.fr) = false := decide_eq_false f2
      by_cases f3 : 1114111 < x.to
      · have d3 : decide (1114111 < x.to) = true := decide_eq_true f3
        have HF : Hid (foC l n = false) := HBad.out (HRN.out (by rw [HX.out, d1, d2, d3]; rfl))
        clear HX HBad HOK HRN HGP HYE HPU
        go_wp2
        go_ret
        exact ⟨rt_bool HF.out.symm, hB⟩
      have d3 : decide (1114111 < x.to) = false := decide_eq_false f3
      by_cases f4 : x.gl < 0
      · have d4 : decide (x.gl < 0) = true := decide_eq_true f4
        have HF : Hid (foC l n = false) := HBad.out (HRN.out (by rw [HX.out, d1, d2, d3, d4]; rfl))
        clear HX HBad HOK HRN HGP HYE HPU
        go_wp2
        go_ret
        exact ⟨rt_bool HF.out.symm, hB⟩
      have d4 : decide (x.gl < 0) = false := decide_eq_false f4
      by_cases f5 : n ≤ x.gl
      · have d5 : decide (n ≤ x.gl) = true := decide_eq_true f5
        have HF : Hid (foC l n = false) := HBad.out (HRN.out (by rw [HX.out, d1, d2, d3, d4, d5]; rfl))
        clear HX HBad HOK HRN HGP HYE HPU
        go_wp2
        go_ret
        exact ⟨rt_bool HF.out.symm, hB⟩
      have d5 : decide (n ≤ x.gl) = false := decide_eq_false f5
      by_cases f6 : n - 1 - x.gl < x.to - x.fr
      · have d6 : decide (n - 1 - x.gl < x.to - x.fr) = true := decide_eq_true f6
        have HF : Hid (foC l n = false) := HBad.out (HRN.out (by rw [HX.out, d1, d2, d3, d4, d5, d6]; rfl))
        clear HX HBad HOK HRN HGP HYE HPU
        go_wp2
        go_ret
        exact ⟨rt_bool HF.out.symm, hB⟩
      have d6 : decide (n - 1 - x.gl < x.to - x.fr) = false := decide_eq_false f6
      have HRB : Hid (rnB x n = true) := by show _ = _; rw [HX.out, d1, d2, d3, d4, d5, d6]; rfl
      rcases Nat.eq_zero_or_pos k with hk0 | hk0
      · have HOK2 : Hid (∀ j, j < k + 1 → foCx l n j = true) := fun j hj => by
          rw [show j = k by omega]
          exact HYE.out 0 HRB.out (.inl hk0)
        have d7 : decide ((0 : Int) < (k : Int)) = false := decide_eq_false (by omega)
        have d7n : decide (0 < k) = false := decide_eq_false (by omega)
        have HK0 : Hid (k = 0) := hk0
        clear HX HBad HOK HRN HGP HYE HPU HRB hk0
        go_wp2_with fail
        go_quiet (fail)
        go_wp2
        go_roundw
        case rel => exact ⟨k + 1, by omega, by go_num, HOK2, below_drewN hB _⟩
        case measure => simp [intOf]; omega
      obtain ⟨j, hj⟩ : ∃ j, j + 1 = k := ⟨k - 1, by omega⟩
      obtain ⟨r1, ⟨r2, r3⟩⟩ := HPU.out j hj
      have HG2 : Hid (_) := HGP.out j hj
      have HY2 : Hid (_) := HYE.out j HRB.out
      obtain ⟨y, hy⟩ : ∃ y, (l.getD j Rn.none).to = y := ⟨_, rfl⟩
      rw [hy] at r1 r2 r3 HG2 HY2
      have HJ : Hid (j + 1 = k) := hj
      have s1 : (k : Int) - 1 = (j : Int) := by omega
      have s2 : IntKind.i64.wrap ((k : Int) - 1) = (j : Int) := by rw [s1]; exact wrapi64k (by omega) (by omega)
      have s3 : IntKind.i64.wrap (j : Int) = (j : Int) := wrapi64k (by omega) (by omega)
      have s4 : j < l.length := by omega
      have s5 : (0 : Int) ≤ (j : Int) := by omega
      have s6 : (j : Int) < (l.length : Int) := by omega
      have d7 : decide ((0 : Int) < (k : Int)) = true := decide_eq_true (by omega)
      have d7n : decide (0 < k) = true := decide_eq_true (by omega)
      by_cases f8 : x.fr ≤ y
      · have d8 : decide (x.fr ≤ y) = true := decide_eq_true f8
        have HF : Hid (foC l n = false) := HBad.out (HG2.out f8)
        clear HX HBad HOK HRN HGP HYE HPU HRB hk0 hj hy HG2 HY2
        go_wp2_with fail
        go_quiet (fail)
        go_wp2
        go_ret
        exact ⟨rt_bool HF.out.symm, below_drewN hB _⟩
      · have d8 : decide (x.fr ≤ y) = false := decide_eq_false f8
        have HOK2 : Hid (∀ i, i < k + 1 → foCx l n i = true) := fun i hi => by
          rcases Nat.lt_or_ge i k with h1 | h1
          · exact HOK.out i h1
          · rw [show i = k by omega]
            exact HY2.out (.inr ⟨HJ.out, f8⟩)
        clear HX HBad HOK HRN HGP HYE HPU HRB hk0 hj hy HG2 HY2
        go_wp2_with fail
        go_quiet (fail)
        go_wp2
        go_roundw
        case rel => exact ⟨k + 1, by omega, by go_num, HOK2, below_drewN hB _⟩
        case measure => simp [intOf]; omega
    · have HF : Hid (foC l n = true) := foC_iff.2 ⟨by omega, fun j hj => HOK.out j (by omega)⟩
      have g4 : ¬ (k : Int) < (l.length : Int) := by omega
      clear HOK
      go_wp2
      go_ret
      exact ⟨rt_bool HF.out.symm, hB⟩

set_option maxHeartbeats 2000000 in
set_option maxRecDepth 100000 in
theorem sglyph_any (S : Nat → Prop) (a : Option Addr) (ca : Nat) (l : List Rn) (c : Int) (w : World) (hl : Gr RnE S w a ca l) (hc : I64 c) (hno : NoR l c) :
    Calls Try.prog 11 #[.slice a l.length ca, .int .i64 c] w fun e w' => e = .returned (.int .i64 (glR c l)) ∧ Below w.heap.size w w' := by
  have kl := hl.lenB
  obtain ⟨ca1, ca2⟩ := hc
  have HL : Hid (Gr RnE S w a ca l) := hl
  have HW : Hid (NoR l c) := hno
  clear hl hno
  go_enter Try.func11, Try.ntmps11
  go_wp2
  go_loopw [5] (fun i wr => ∃ k : Nat, k ≤ l.length ∧ i = .int .i64 k ∧ Hid (∀ j, j < k → inR (l.getD j Rn.none) c = false) ∧ Below w.heap.size w wr) (fun i _ => l.length - (intOf i).toNat)
  case atStart => exact ⟨0, Nat.zero_le _, rfl, (fun j hj => by omega), Below.refl _ _⟩
  case round =>
    obtain ⟨k, hk, rfl, HNO, hB⟩ := hrel
    by_cases hkn : k < l.length
    · obtain ⟨b, off, rfl, hb, hW, d0, d1, d2⟩ := HL.out.rn hB k hkn
      have HFA : Hid (_) := glR_at hkn HNO.out
      have HWK : Hid (_) := HW.out k hkn
      have HN2 : Hid (inR (l.getD k Rn.none) c = false → ∀ j, j < k + 1 → inR (l.getD j Rn.none) c = false) := fun hn j hj => by
        rcases Nat.lt_or_ge j k with h1 | h1
        · exact HNO.out j h1
        · rw [show j = k by omega]; exact hn
      have i1 : (0 : Int) ≤ (k : Int) := by omega
      have i2 : (k : Int) < (l.length : Int) := by omega
      generalize l.getD k Rn.none = x at *
      obtain ⟨x1, x2, x3⟩ := x
      obtain ⟨⟨m1, m2⟩, ⟨m3, m4⟩, ⟨m5, m6⟩⟩ := hW
      dsimp only at *
      by_cases f1 : x1 ≤ c
      rotate_left
      · have e1 : decide (x1 ≤ c) = false := decide_eq_false f1
        have HNN : Hid (_) := HN2.out (by unfold inR; exact decide_eq_false (fun h => f1 h.1))
        clear HNO HN2 HFA HWK
        go_wp2
        go_roundw
        case rel => exact ⟨k + 1, by omega, by go_num, HNN, hB⟩
        case measure => simp [intOf]; omega
      have e1 : decide (x1 ≤ c) = true := decide_eq_true f1
      by_cases f2 : c ≤ x2
      rotate_left
      · have e2 : decide (c ≤ x2) = false := decide_eq_false f2
        have HNN : Hid (_) := HN2.out (by unfold inR; exact decide_eq_false (fun h => f2 h.2))
        clear HNO HN2 HFA HWK
        go_wp2
        go_roundw
        case rel => exact ⟨k + 1, by omega, by go_num, HNN, hB⟩
        case measure => simp [intOf]; omega
      have e2 : decide (c ≤ x2) = true := decide_eq_true f2
      have hin : inR ⟨x1, x2, x3⟩ c = true := by unfold inR; exact decide_eq_true ⟨f1, f2⟩
      obtain ⟨⟨u1, u2⟩, ⟨u3, u4⟩⟩ := HWK.out hin
      have s1 : IntKind.i64.wrap (c - x1) = c - x1 := wrapi64k u1 u2
      have s2 : IntKind.i64.wrap (x3 + (c - x1)) = x3 + (c - x1) := wrapi64k u3 u4
      have HF : Hid (glR c l = x3 + (c - x1)) := HFA.out hin
      clear HNO HN2 HFA HWK hin
      go_wp2_with fail
      go_quiet (fail)
      go_wp2
      go_ret
      exact ⟨rt_int HF.out.symm, below_drewN hB _⟩
    · have HF : Hid (glR c l = 0) := glR_no (fun j hj => HNO.out j (by omega))
      have g4 : ¬ (k : Int) < (l.length : Int) := by omega
      clear HNO
      go_wp2
      go_ret
      exact ⟨rt_int HF.out.symm, hB⟩

set_option maxHeartbeats 2000000 in
set_option maxRecDepth 100000 in
theorem ssameR17_any (S S2 : Nat → Prop) (a : Option Addr) (ca : Nat) (a' : Option Addr) (ca' : Nat) (l : List Rn) (w : World) (h1 : Gr RnE S w a ca l) (h2 : Gr RnE S2 w a' ca' l) :
    Calls Try.prog 20 #[.slice a l.length ca, .slice a' l.length ca'] w fun e w' => e = .returned (.bool true) ∧ Below w.heap.size w w' := by
  have k1 := h1.lenB
  have g1 : ((l.length : Int) != (l.length : Int)) = false := by simp
  have HA : Hid (Gr RnE S w a ca l) := h1
  have HB : Hid (Gr RnE S2 w a' ca' l) := h2
  clear h1 h2
  go_enter Try.func20, Try.ntmps20
  go_wp2
  clear g1
  go_loopw [5] (fun i wr => ∃ k : Nat, k ≤ l.length ∧ i = .int .i64 k ∧ Below w.heap.size w wr) (fun i _ => l.length - (intOf i).toNat)
  case atStart => exact ⟨0, Nat.zero_le _, rfl, Below.refl _ _⟩
  case round =>
    obtain ⟨k, hk, rfl, hnx⟩ := hrel
    by_cases hkn : k < l.length
    · obtain ⟨b3, o3, ec, _, _, c0, c1, c2⟩ := HA.out.rn hnx k hkn
      obtain ⟨b4, o4, ed, _, _, d0, d1, d2⟩ := HB.out.rn hnx k hkn
      generalize l.getD k Rn.none = t at *
      obtain ⟨x, y, z⟩ := t
      dsimp only at c0 c1 c2 d0 d1 d2
      subst ec ed
      have i3 : (0 : Int) ≤ (k : Int) := by omega
      have i4 : (k : Int) < (l.length : Int) := by omega
      go_wp2_with fail
      go_quiet (fail)
      go_wp2
      go_roundw
      case rel => exact ⟨k + 1, by omega, by go_num, below_drewN hnx _⟩
      case measure => simp [intOf]; omega
    · have g1 : ¬ (k : Int) < (l.length : Int) := by omega
      go_wp2
      go_ret
      exact ⟨rfl, hnx⟩

end Go.Proofs.Ytgambbmonbhpnaa

namespace Go.Proofs.Ytgambbmonbhpnaa
open Go.RowKit Go.Maps
set_option linter.unusedSimpArgs false
set_option linter.unusedVariables false

theorem wp_append_own_at {P : Program} (w : World) {o : Oper} {a : Act} {K : Act → World → Prop} {Q : Exit → Act → World → Prop} (s x : Operand) (t : TypeId)
    (ho : o.op = .call { callee := .builtin .append, args := #[s, x], argTypes := #[t, t] })
    (base : Nat) (e : TypeId) (i : TypeInfo) (z : Value) (size bytes : Nat) (ht : P.underlying t = some (.slice e)) (hi : P.info? e = some i) (hz : i.zero = some z)
    (hsize : i.size = size) (hby : i.bytes = bytes) (hzs : z.cells.size = size) (hsz : 0 < size)
    (v : Value) (n : Nat) (xs : List Value) (hs : a.eval s = v) (hown : w.ownsRow base e size v n xs)
    (ad : Addr) (m c : Nat) (news : List Value) (hx : a.eval x = .slice (some ad) m c) (hl : news.length = m * size) (hnews : ∀ j u, news[j]? = some u → w.cell? (ad.add j) = some u) (h1 : ∀ u ∈ news, u.oneCell' = true)
    (h63 : n + m ≤ maxLen) (hbytes : (n + m) * bytes ≤ 140737488355328) (hbase : base ≤ w.heap.size)
    (h : ∀ v' w', w'.ownsRow base e size v' (n + m) (xs ++ news) → w.grownBy w' v.ownBlock → (v' = .slice none 0 0 ↔ v = .slice none 0 0 ∧ m = 0) → (v'.ownBlock = v.ownBlock ∨ v'.ownBlock = some w.heap.size) → K (a.put o.dst v') w') :
    o.wp P a w K Q := by
  obtain ⟨v', w', hr, h2, h3, h4, h5⟩ := run_append_own_at (P := P) w base t o.type e i z size bytes ht hi hz hsize hby hzs hsz v n xs hown ad m c news hl hnews h1 h63 hbytes hbase
  unfold Oper.wp execOp
  simp only [ho, resolve, invoke, builtin, Sem.run_bind, Sem.run_pure, Result.andThen_ok, List.map_toArray, List.map_cons, List.map_nil, hs, hx, hr]
  exact h v' w' h2 h3 h4 h5

end Go.Proofs.Ytgambbmonbhpnaa

namespace Go.Proofs.Ytgambbmonbhpnaa
open Go.RowKit Go.Maps
set_option linter.unusedSimpArgs false
set_option linter.unusedVariables false

theorem wp_append_int {w : World} {o : Oper} {a : Act} {K : Act → World → Prop} {Q : Exit → Act → World → Prop} (s x : Operand)
    (ho : o.op = .call { callee := .builtin .append, args := #[s, x], argTypes := #[27, 27] })
    (base : Nat) (v : Value) (zs : List Int) (hs : a.eval s = v) (hown : Io base w v zs) (g : Nat) (z : Int) (hx : a.eval x = .slice (some ⟨g, 0, none⟩) 1 1)
    (c0 : w.cell? ⟨g, 0, none⟩ = some (.int .i64 z)) (hz : I64 z) (hlen : zs.length + 1 ≤ 1000000) (hbase : base ≤ w.heap.size)
    (h : ∀ v' w', Io base w' v' (zs ++ [z]) → w.grownBy w' v.ownBlock → K (a.put o.dst v') w') : o.wp Try.prog a w K Q := by
  obtain ⟨i0, hi, hz0, hz1, hz2⟩ := info_parts infoA_i64
  refine wp_append_own_at w s x 27 ho base 3 i0 (.int .i64 0) 1 8 Try.underlying27 hi hz0 hz1 hz2 rfl (by decide) v zs.length (zs.map (Value.int .i64)) hs hown.2 ⟨g, 0, none⟩ 1 1 [.int .i64 z] hx rfl ?_ ?_ (by unfold maxLen; omega) (by omega) hbase ?_
  · intro j u hj
    match j, hj with
    | 0, hj => simp at hj; subst hj; simpa [Addr.add] using c0
  · intro u hu
    simp at hu
    subst hu
    rfl
  · intro v' w' k1 k2 _ _
    refine h v' w' ⟨fun s hs => ?_, ?_⟩ k2
    · rcases List.mem_append.1 hs with hs | hs
      · exact hown.1 s hs
      · rw [List.mem_singleton.1 hs]; exact hz
    · rw [List.map_append, List.length_append]
      exact k1

end Go.Proofs.Ytgambbmonbhpnaa

namespace Go.Proofs.Ytgambbmonbhpnaa
open Go.RowKit

/-- The operation at a place of a list. -/
def nth : List Oper → Nat → Option Oper
  | [], _ => none
  | o :: _, 0 => some o
  | _ :: l, n + 1 => nth l n
theorem nth_eq : ∀ (l : List Oper) (i : Nat), nth l i = l.toArray[i]? := by
  intro l
  induction l with
  | nil => intro i; simp [nth]
  | cons o l ih =>
    intro i
    cases i with
    | zero => simp [nth]
    | succ i => simp [nth, ih i]

theorem hTake {P : Program} {md : Region.Mode} {l : List Oper} {Q : Exit → Act → World → Prop} {S : World → Prop} {i : Nat} {o : Oper} {v : Value} {fuel : Nat} {listed : Array Bool} {a : Act} {w : World} (hi : nth l i = some o)
    (hs : Region.noSelect l.toArray = true) (hf : Region.free md l.toArray listed i = true) (hr : (Region.ready md l.toArray listed).contains i = true)
    (hQ : ∀ c a w, Q (.panic c) (a.put o.dst v) w → Q (.panic c) a w) (hy : YieldsIf P l.toArray S o v a) (hS : S w)
    (h : wpAnyH P md l.toArray Q S fuel (listed.setIfInBounds i true) (a.put o.dst v) w) : wpAnyH P md l.toArray Q S (fuel + 1) listed a w :=
  wpAnyH_take ((nth_eq l i).symm.trans hi) hs hf hr hQ hy hS h

theorem hCall {P : Program} {md : Region.Mode} {l : List Oper} {Q : Exit → Act → World → Prop} {S : World → Prop} {i : Nat} {o : Oper} {fuel : Nat} {listed : Array Bool} {a : Act} {w : World} (hi : nth l i = some o)
    (hr : Region.ready md l.toArray listed = [i]) (hw : Region.wanted o (yielded l.toArray a.tmps) = true)
    (h : ∀ K : Act → World → Prop, Shut (∀ a w, S w → (S w → wpAnyH P md l.toArray Q S fuel (listed.setIfInBounds i true) a w) → K a w) → Oper.wp P o a w K Q) :
    wpAnyH P md l.toArray Q S (fuel + 1) listed a w :=
  wpAnyH_ready hr (by simp) (AllReadyH.cons ((nth_eq l i).symm.trans hi) (fun K hK => by rw [if_pos hw]; exact h K hK) AllReadyH.nil)

theorem hCons {P : Program} {md : Region.Mode} {l : List Oper} {Q : Exit → Act → World → Prop} {S : World → Prop} {i : Nat} {o : Oper} {fuel : Nat} {listed : Array Bool} {a : Act} {w : World} {rs : List Nat} (hi : nth l i = some o)
    (hw : Region.wanted o (yielded l.toArray a.tmps) = true)
    (h : ∀ K : Act → World → Prop, Shut (∀ a w, S w → (S w → wpAnyH P md l.toArray Q S fuel (listed.setIfInBounds i true) a w) → K a w) → Oper.wp P o a w K Q)
    (hs : AllReadyH P md l.toArray Q S fuel listed a w rs) : AllReadyH P md l.toArray Q S fuel listed a w (i :: rs) :=
  AllReadyH.cons ((nth_eq l i).symm.trans hi) (fun K hK => by rw [if_pos hw]; exact h K hK) hs

/-- An operation that is carried out and only reads. -/
theorem hT {P : Program} {md : Region.Mode} {l : List Oper} {Q : Exit → Act → World → Prop} {S : World → Prop} (i : Nat) {o : Oper} {v : Value} {fuel : Nat} {listed : Array Bool} {a a2 : Act} {w : World} (hS : S w)
    (h : wpAnyH P md l.toArray Q S fuel (listed.setIfInBounds i true) a2 w)
    (hi : nth l i = some o := by rfl) (hs : Region.noSelect l.toArray = true := by kernel_rfl) (hf : Region.free md l.toArray listed i = true := by kernel_rfl) (hr : (Region.ready md l.toArray listed).contains i = true := by kernel_rfl)
    (hQ : ∀ c a w, Q (.panic c) (a.put o.dst v) w → Q (.panic c) a w := by exact fun _ _ _ h => h) (hw : Region.wanted o (yielded l.toArray a.tmps) = true := by rfl)
    (hy : ∀ w9, S w9 → (execOp a.eval o).run P w9 = .ok (.value v) w9 := by intro w9 hSw; (try dsimp only at hSw); go_simp; try with_reducible rfl)
    (ha : a.put o.dst v = a2 := by (try simp only [Act.put, List.setIfInBounds_toArray, List.set_cons_zero, List.set_cons_succ]); try rfl) : wpAnyH P md l.toArray Q S (fuel + 1) listed a w := by
  subst ha
  exact wpAnyH_take ((nth_eq l i).symm.trans hi) hs hf hr hQ (Or.inl ⟨hw, hy⟩) hS h

/-- An operation that is not wanted. -/
theorem hN {P : Program} {md : Region.Mode} {l : List Oper} {Q : Exit → Act → World → Prop} {S : World → Prop} (i : Nat) {o : Oper} {fuel : Nat} {listed : Array Bool} {a a2 : Act} {w : World} (hS : S w)
    (h : wpAnyH P md l.toArray Q S fuel (listed.setIfInBounds i true) a2 w)
    (hi : nth l i = some o := by rfl) (hs : Region.noSelect l.toArray = true := by kernel_rfl) (hf : Region.free md l.toArray listed i = true := by kernel_rfl) (hr : (Region.ready md l.toArray listed).contains i = true := by kernel_rfl)
    (hQ : ∀ c a w, Q (.panic c) (a.put o.dst undef) w → Q (.panic c) a w := by exact fun _ _ _ h => h) (hw : Region.wanted o (yielded l.toArray a.tmps) = false := by rfl)
    (ha : a.put o.dst undef = a2 := by (try simp only [Act.put, List.setIfInBounds_toArray, List.set_cons_zero, List.set_cons_succ]); try rfl) : wpAnyH P md l.toArray Q S (fuel + 1) listed a w := by
  subst ha
  exact wpAnyH_take ((nth_eq l i).symm.trans hi) hs hf hr hQ (Or.inr ⟨hw, rfl⟩) hS h

end Go.Proofs.Ytgambbmonbhpnaa

namespace Go.Proofs.Ytgambbmonbhpnaa
open Go.RowKit Go.Maps
set_option linter.unusedSimpArgs false
set_option linter.unusedVariables false

/-- '[]rune(s)': a row of its own. -/
theorem runes_any (s : ByteArray) (w : World) (hs : s.size ≤ 100000) :
    ∃ (c : Nat) (U : World), (convert 9 45 (.string s)).run Try.prog w = .ok (.slice (some ⟨w.heap.size, 0, none⟩) (rns (sb s)).length c) U ∧ (∀ i, i < (rns (sb s)).length → U.cell? ⟨w.heap.size, i, none⟩ = some (.int .i32 ((rns (sb s)).getD i 0 : Nat))) ∧ Below w.heap.size w U ∧ w.heap.size < U.heap.size := by
  have e := runes_eq s s.size 0 #[] (by omega)
  rw [List.drop_zero] at e
  have e2 : (Conv.runesFrom s s.size 0 #[]).toList = (rns (sb s)).map (fun r : Nat => Value.int .i32 (r : Int)) := by rw [e]; rfl
  have hsz : (Conv.runesFrom s s.size 0 #[]).size = (rns (sb s)).length := by
    rw [← Array.length_toList, e2, List.length_map]
  have hle : (rns (sb s)).length ≤ 100000 := by
    have := rns_len (sb s).length (sb s)
    rw [show rnL (sb s).length (sb s) = rns (sb s) from rfl, sb_size] at this
    omega
  have hr := run_runes_of_string (P := Try.prog) w 9 45 21 s Try.underlying9 Try.underlying45 Try.underlying21 (by omega)
  rw [hsz] at hr
  refine ⟨_, _, hr, fun i hi => ?_, ((Below.refl w.heap.size w).drew).alloc (Nat.le_refl _) _, by simp⟩
  have hN := heap_alloc_new w.drew (.cells (Conv.runesFrom s s.size 0 #[] ++ Array.replicate (grownCap w (rns (sb s)).length 0 21 - (rns (sb s)).length) (.int .i32 0)) 21)
  have hc := cell_of_row _ w.drew.heap.size i _ _ (0, 0) hN
  refine Eq.trans hc ?_
  rw [Array.getElem?_append_left (by omega), ← Array.getElem?_toList, e2, List.getElem?_map, List.getElem?_eq_getElem hi, List.getD_eq_getElem?_getD, List.getElem?_eq_getElem hi]
  rfl

def mpK (l : List Rn) (rs : List Nat) : List Int := rs.map (fun r : Nat => glR (r : Int) l)
theorem mpK_len (l : List Rn) (rs : List Nat) (k : Nat) (h : k ≤ rs.length) : (mpK l (rs.take k)).length = k := by
  unfold mpK
  rw [List.length_map, List.length_take]
  omega
theorem mpK_succ {l : List Rn} {rs : List Nat} {k : Nat} (h : k < rs.length) : mpK l (rs.take (k + 1)) = mpK l (rs.take k) ++ [glR (rs.getD k 0 : Nat) l] := by
  unfold mpK
  rw [List.take_add_one, List.getElem?_eq_getElem h, List.map_append]
  simp [List.getD, h]

set_option maxHeartbeats 4000000 in
set_option maxRecDepth 100000 in
theorem smap_any (S : Nat → Prop) (a : Option Addr) (ca : Nat) (l : List Rn) (s : ByteArray) (w : World) (hl : Gr RnE S w a ca l) (hs : s.size ≤ 100000) (hno : ∀ c : Int, 0 ≤ c → c ≤ 1114111 → NoR l c) :
    Calls Try.prog 14 #[.slice a l.length ca, .string s] w fun e w' => ∃ v, e = .returned v ∧ Io w.heap.size w' v (mpC l (sb s)) ∧ Below w.heap.size w w' := by
  have kl := hl.lenB
  obtain ⟨c0, U, hcv, hcells, hbU, hgU⟩ := runes_any s w hs
  have HC : Hid (_) := hcells
  have hrl : (rns (sb s)).length ≤ 100000 := by
    have := rns_len (sb s).length (sb s)
    rw [show rnL (sb s).length (sb s) = rns (sb s) from rfl, sb_size] at this
    omega
  have HRB : Hid (∀ r ∈ rns (sb s), r ≤ 1114111) := rns_le _ _
  have HMP : Hid (mpC l (sb s) = mpK l (rns (sb s))) := rfl
  have HL : Hid (Gr RnE S U a ca l) := hl.below hbU
  have HNO : Hid (∀ c : Int, 0 ≤ c → c ≤ 1114111 → NoR l c) := hno
  have HBU : Hid (Below w.heap.size w U) := hbU
  obtain ⟨rs, hrs⟩ : ∃ rs, rns (sb s) = rs := ⟨_, rfl⟩
  rw [hrs] at hcv HC hrl HRB HMP
  obtain ⟨g0, hg0⟩ : ∃ g, w.heap.size = g := ⟨_, rfl⟩
  have HG : Hid (w.heap.size = g0) := hg0
  rw [hg0] at hcv HC hgU
  clear hl hno hcells hbU hrs hg0
  go_enter Try.func14, Try.ntmps14
  go_wp2
  clear hcv
  go_loopw [5, 7] (fun v i wr => ∃ (k : Nat), k ≤ rs.length ∧ i = .int .i64 k ∧ Io U.heap.size wr v (mpK l (rs.take k)) ∧ Below U.heap.size U wr) (fun _ i _ => rs.length - (intOf i).toNat)
  case atStart => exact ⟨0, Nat.zero_le _, rfl, Io.nil _ _, Below.refl _ _⟩
  case round =>
    obtain ⟨k, hk, rfl, hIo, hB⟩ := hrel
    obtain ⟨a5, c5, rfl, hri⟩ := hIo.slice
    have hzl := mpK_len l rs k hk
    rw [hzl] at hIo ⊢
    by_cases hkn : k < rs.length
    · have d0 := (hB.cell (p := ⟨g0, k, none⟩) hgU).trans (HC.out k hkn)
      have HSC : Hid (_) := mpK_succ (l := l) hkn
      have hrb : rs.getD k 0 ≤ 1114111 := HRB.out _ (by rw [List.getD_eq_getElem?_getD, List.getElem?_eq_getElem hkn]; exact List.getElem_mem hkn)
      obtain ⟨z, hz⟩ : ∃ z : Int, ((rs.getD k 0 : Nat) : Int) = z := ⟨_, rfl⟩
      rw [hz] at d0 HSC
      have hz0 : 0 ≤ z := by omega
      have hz1 : z ≤ 1114111 := by omega
      have HI : Hid (I64 (glR z l)) := glR_i64 (HNO.out z hz0 hz1)
      have hgl := sglyph_any S a ca l z wr (HL.out.below hB) ⟨by omega, by omega⟩ (HNO.out z hz0 hz1)
      obtain ⟨y, hy⟩ : ∃ y, glR z l = y := ⟨_, rfl⟩
      rw [hy] at HI hgl HSC
      have i1 : (0 : Int) ≤ (k : Int) := by omega
      have i2 : (k : Int) < (rs.length : Int) := by omega
      obtain ⟨zs, hzs⟩ : ∃ zs, mpK l (rs.take k) = zs := ⟨_, rfl⟩
      rw [hzs] at hIo HSC hzl
      have hll : zs.length + 1 ≤ 1000000 := by omega
      clear hz hy hri hrb hzs hzl
      go_wp2_with fail
      refine hgl.mono ?_
      rintro e u2 ⟨rfl, hb⟩
      have hT2 := hIo.below hb
      have hB3 := hB.trans (hb.mono hB.size)
      clear hgl hb hIo d0 hB
      have hT5 := hT2.below (bl1 (.cells #[.int .i64 y] 3))
      have hN := heap_alloc_new u2 (.cells #[.int .i64 y] 3)
      have n0 := cell_of_row _ u2.heap.size 0 _ _ (0, 0) hN
      have hB5 : Below U.heap.size U (u2.alloc (.cells #[.int .i64 y] 3)) := hB3.alloc hB3.size _
      clear hN
      go_wp2_with (at_builtin; refine wpList_append_int rfl _ _ rfl U.heap.size _ zs rfl hT5 u2.heap.size y rfl n0 HI.out hll hB5.size ?_)
      intro v' w9 hT9 hgrow
      have hB9 : Below U.heap.size U w9 := hB5.grown hgrow hB5.size (fun k hk => hT5.lo hk)
      rw [← HSC.out] at hT9
      clear hgrow hT5 n0 hB5 hB3 hT2
      go_wp2
      go_roundw
      case rel => exact ⟨k + 1, by omega, by go_num, hT9, hB9⟩
      case measure => simp [intOf]; omega
    · obtain rfl : k = rs.length := by omega
      have g4 : ¬ (rs.length : Int) < (rs.length : Int) := by omega
      rw [List.take_length] at hIo
      clear hri hzl
      go_wp2
      go_ret
      exact ⟨_, rfl, by rw [HMP.out]; exact hIo.mono HBU.out.size, HBU.out.trans (hB.mono HBU.out.size)⟩

theorem two17 {n b1 p q : Nat} {w U : World} {v0 v1 : Value} (hb : Below n w U) (hlt : b1 < n) (hC : w.cell? ⟨b1, p, none⟩ = some v0 ∧ w.cell? ⟨b1, q, none⟩ = some v1) : U.cell? ⟨b1, p, none⟩ = some v0 ∧ U.cell? ⟨b1, q, none⟩ = some v1 :=
  ⟨(hb.cell (p := ⟨b1, p, none⟩) hlt).trans hC.1, (hb.cell (p := ⟨b1, q, none⟩) hlt).trans hC.2⟩

set_option maxHeartbeats 4000000 in
set_option maxRecDepth 100000 in
theorem schars_any (S : Nat → Prop) (a : Option Addr) (ca : Nat) (l : List Rn) (c : Int) (w : World) (hl : Gr RnE S w a ca l) (hc : I64 c) :
    Calls Try.prog 24 #[.slice a l.length ca, .int .i64 c] w fun e w' => ∃ v, e = .returned v ∧ Io w.heap.size w' v (chC l c) ∧ Below w.heap.size w w' := by
  have kl := hl.lenB
  obtain ⟨hc1, hc2⟩ := hc
  have HFO : Hid (∀ U, Below w.heap.size w U → Calls Try.prog 22 #[.slice a l.length ca, .int .i64 65536] U fun e w' => e = .returned (.bool (foC l 65536)) ∧ Below U.heap.size U w') := fun U hU => sformC_any S a ca l 65536 U (hl.below hU) ⟨by decide, by decide⟩
  have HL : Hid (Gr RnE S w a ca l) := hl
  clear hl
  cases hf : foC l 65536 with
  | false =>
    rw [hf] at HFO
    have HF : Hid (chC l c = []) := chC_no hf
    clear hf
    go_enter Try.func24, Try.ntmps24
    go_wp2
    go_loopw [5, 6] (fun v i wr => v = .slice none 0 0 ∧ i = .int .i64 0 ∧ wr = w) (fun _ _ _ => 0)
    case atStart => exact ⟨rfl, rfl, rfl⟩
    case round =>
      obtain ⟨rfl, rfl, rfl⟩ := hrel
      by_cases h0 : 0 < l.length
      · have g1 : decide ((0 : Int) < (l.length : Int)) = true := decide_eq_true (by omega)
        have g2 : decide (0 < l.length) = true := decide_eq_true h0
        go_wp2_with fail
        refine (HFO.out _ (Below.refl _ _)).mono ?_
        rintro e u ⟨rfl, hb⟩
        go_wp2
        go_ret
        exact ⟨_, rfl, by rw [HF.out]; exact Io.nil _ _, hb⟩
      · have g1 : decide ((0 : Int) < (l.length : Int)) = false := decide_eq_false (by omega)
        have g2 : decide (0 < l.length) = false := decide_eq_false h0
        go_wp2
        go_ret
        exact ⟨_, rfl, by rw [HF.out]; exact Io.nil _ _, Below.refl _ _⟩
  | true =>
  rw [hf] at HFO
  have HC : Hid (chC l c = chK c l) := chC_yes hf
  have HEL : Hid (_) := foC_el hf
  have HTL : Hid (∀ k, (chK c (l.take k)).length ≤ 40) := fun k => chT_len c l k (foC_iff.1 hf).1
  clear hf
  go_enter Try.func24, Try.ntmps24
  go_wp2
  go_loopw [5, 6] (fun v i wr => ∃ (k : Nat), k ≤ l.length ∧ i = .int .i64 k ∧ Io w.heap.size wr v (chK c (l.take k)) ∧ Below w.heap.size w wr) (fun _ i _ => l.length - (intOf i).toNat)
  case atStart => exact ⟨0, Nat.zero_le _, rfl, Io.nil _ _, Below.refl _ _⟩
  case round =>
    obtain ⟨k, hk, rfl, hIo, hB⟩ := hrel
    obtain ⟨a5, c5, rfl, hri⟩ := hIo.slice
    by_cases hkn : k < l.length
    · have hEl := rnB_iff.1 (HEL.out k hkn)
      have HNO : Hid (_) := chK_no (g := c) hkn
      have HYE : Hid (_) := chK_yes (g := c) hkn
      have hzl := HTL.out k
      have g1 : decide ((k : Int) < (l.length : Int)) = true := decide_eq_true (by omega)
      have g2 : decide (k < l.length) = true := decide_eq_true hkn
      obtain ⟨zs, hzs⟩ : ∃ zs, chK c (l.take k) = zs := ⟨_, rfl⟩
      rw [hzs] at hIo HNO HYE hzl ⊢
      have hfo := HFO.out wr hB
      clear hri hzs
      go_wp2_with fail
      refine hfo.mono ?_
      rintro e u ⟨rfl, hb⟩
      replace hIo := hIo.below hb
      replace hB := hB.trans (hb.mono hB.size)
      clear hfo hb
      obtain ⟨b1, off, ea, hb1, hM, c0, c1, c2⟩ := HL.out.rn hB k hkn
      subst ea
      have HCW0 : Hid (w.cell? ⟨b1, off + k * 3, none⟩ = some (.int .i64 (l.getD k Rn.none).fr) ∧ w.cell? ⟨b1, off + k * 3 + 2, none⟩ = some (.int .i64 (l.getD k Rn.none).gl)) := by
        obtain ⟨b2, o2, e2, _, _, r0, _, r2⟩ := HL.out.rn (Below.refl _ _) k hkn
        injection e2 with e3
        injection e3 with e4 e5
        subst e4 e5
        exact ⟨r0, r2⟩
      obtain ⟨x, hx⟩ : ∃ x, l.getD k Rn.none = x := ⟨_, rfl⟩
      rw [hx] at hM c0 c1 c2 HNO HYE hEl HCW0
      obtain ⟨⟨m1, m2⟩, ⟨m3, m4⟩, ⟨m5, m6⟩⟩ := hM
      obtain ⟨e1, e2, e3, e4, e5⟩ := hEl
      have i1 : (0 : Int) ≤ (k : Int) := by omega
      have i2 : (k : Int) < (l.length : Int) := by omega
      have s1 : IntKind.i64.wrap (x.gl + x.to) = x.gl + x.to := wrapi64k (by omega) (by omega)
      have s2 : IntKind.i64.wrap (x.gl + x.to - x.fr) = x.gl + x.to - x.fr := wrapi64k (by omega) (by omega)
      clear hx
      by_cases f1 : x.gl ≤ c
      rotate_left
      · have d1 : decide (x.gl ≤ c) = false := decide_eq_false f1
        have HN : Hid (_) := HNO.out (by unfold hasG; exact decide_eq_false (fun h => f1 h.1))
        clear HNO HYE
        go_wp2_with fail
        go_quiet (fail)
        go_wp2
        go_roundw
        case rel => exact ⟨k + 1, by omega, by go_num, by rw [HN.out]; exact hIo.below (below_drewN (Below.refl _ _) _), below_drewN hB _⟩
        case measure => simp [intOf]; omega
      have d1 : decide (x.gl ≤ c) = true := decide_eq_true f1
      by_cases f2 : c ≤ x.gl + x.to - x.fr
      rotate_left
      · have d2 : decide (c ≤ x.gl + x.to - x.fr) = false := decide_eq_false f2
        have HN : Hid (_) := HNO.out (by unfold hasG; exact decide_eq_false (fun h => f2 (by omega)))
        clear HNO HYE
        go_wp2_with fail
        go_quiet (fail)
        go_wp2
        go_roundw
        case rel => exact ⟨k + 1, by omega, by go_num, by rw [HN.out]; exact hIo.below (below_drewN (Below.refl _ _) _), below_drewN hB _⟩
        case measure => simp [intOf]; omega
      have d2 : decide (c ≤ x.gl + x.to - x.fr) = true := decide_eq_true f2
      have HY : Hid (_) := HYE.out (by unfold hasG; exact decide_eq_true (by omega))
      have s3 : IntKind.i64.wrap (x.fr + c) = x.fr + c := wrapi64k (by omega) (by omega)
      obtain ⟨y, hy⟩ : ∃ y, x.fr + c - x.gl = y := ⟨_, rfl⟩
      have s4 : IntKind.i64.wrap (x.fr + c - x.gl) = y := by rw [← hy]; exact wrapi64k (by omega) (by omega)
      have HI : Hid (I64 y) := ⟨by omega, by omega⟩
      rw [show x.fr + (c - x.gl) = y by omega] at HY
      have hll : zs.length + 1 ≤ 1000000 := by omega
      clear HNO HYE hy
      go_wp2_with fail
      go_quiet (fail)
      go_upto_region 6 with fail
      rename World => V
      have hbZ : Below V.heap.size V (V.drewN nq) := below_drewN (Below.refl _ _) _
      generalize V.drewN nq = Z at hbZ ⊢
      replace hIo := hIo.below hbZ
      replace hB := hB.trans (hbZ.mono hB.size)
      have HCW : Hid (w.cell? ⟨b1, off + k * 3, none⟩ = some (.int .i64 x.fr) ∧ w.cell? ⟨b1, off + k * 3 + 2, none⟩ = some (.int .i64 x.gl)) := HCW0
      obtain ⟨p0, p1⟩ := two17 hB hb1 HCW.out
      clear c0 c1 c2 hbZ
      refine wp_region_held_drew (S := fun w9 => w9.cell? ⟨b1, off + k * 3, none⟩ = some (.int .i64 x.fr) ∧ w9.cell? ⟨b1, off + k * 3 + 2, none⟩ = some (.int .i64 x.gl)) (by kernel_rfl) ?_ (fun hHeld => ?_)
      · (try dsimp only)
        go_keep
      have hdr : Below Z.heap.size Z Z.drew := (Below.refl _ _).drew
      generalize Z.drew = Y at hdr hHeld ⊢
      replace hIo := hIo.below hdr
      replace hB := hB.trans (hdr.mono hB.size)
      clear p0 p1 hdr
      refine hT 0 hHeld ?_
      refine hT 1 hHeld ?_
      refine hT 2 hHeld ?_
      refine hT 3 hHeld ?_
      refine hT 4 hHeld ?_
      refine hT 5 hHeld ?_
      refine hT 6 hHeld ?_
      refine hT 7 hHeld ?_
      refine hT 8 hHeld ?_
      refine hT 9 hHeld ?_
      refine hT 10 hHeld ?_
      refine hT 11 hHeld ?_
      refine hT 12 hHeld ?_
      refine hT 13 hHeld ?_
      have hT5 := hIo.below (bl1 (.cells #[.int .i64 y] 3))
      have hN := heap_alloc_new Y (.cells #[.int .i64 y] 3)
      have n0 := cell_of_row _ Y.heap.size 0 _ _ (0, 0) hN
      have hB5 : Below w.heap.size w (Y.alloc (.cells #[.int .i64 y] 3)) := hB.alloc hB.size _
      refine hCall (i := 14) rfl (by kernel_rfl) (by rfl) (fun K hK => ?_)
      go_simp
      refine hK.out _ _ ?_ (fun hHeld => ?_)
      · (try dsimp only)
        exact two17 hB5 hb1 HCW.out
      clear hK K
      try simp only [Act.put, List.setIfInBounds_toArray, List.set_cons_zero, List.set_cons_succ]
      refine hCall (i := 15) rfl (by kernel_rfl) (by rfl) (fun K hK => ?_)
      refine wp_append_int _ _ rfl w.heap.size _ zs rfl hT5 Y.heap.size y rfl n0 HI.out hll hB5.size ?_
      intro v9 w9 hT9 hgrow
      have hB9 : Below w.heap.size w w9 := hB5.grown hgrow hB5.size (fun k hk => hT5.lo hk)
      rw [← HY.out] at hT9
      refine hK.out _ _ ?_ (fun hHeld => ?_)
      · (try dsimp only)
        exact two17 hB9 hb1 HCW.out
      clear hK K hgrow hT5 n0 hN hB5 hIo hB
      try simp only [Act.put, List.setIfInBounds_toArray, List.set_cons_zero, List.set_cons_succ]
      refine hT 16 hHeld ?_
      refine wpAnyH_done (by kernel_rfl) ?_ _
      clear hHeld
      go_wp2
      go_roundw
      case rel => exact ⟨k + 1, by omega, by go_num, hT9, hB9⟩
      case measure => simp [intOf]; omega
    · obtain rfl : k = l.length := by omega
      have g1 : decide ((l.length : Int) < (l.length : Int)) = false := decide_eq_false (by omega)
      have g2 : decide (l.length < l.length) = false := decide_eq_false (by omega)
      rw [List.take_length] at hIo ⊢
      clear hri
      go_wp2
      go_ret
      exact ⟨_, rfl, by rw [HC.out]; exact hIo, hB⟩

end Go.Proofs.Ytgambbmonbhpnaa
