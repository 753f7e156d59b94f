/-
  foundryref22.looks, swap, Formed: the walks.
  Rows of bytes of the call's own (Bo), and how they grow.
  Rows of bytes and rows of ints side by side; an append of bytes as an operation of a region that draws.
  Rows of bytes of the call's own: side by side, new ones; foundryref04.Big with a row of its own (split off OY1).
-/
import Derived.Test.YtaejlopkdkaphaaZE9
import Derived.Test.YtaejlopkdkaphaaZE1
import Derived.Test.YtaejlopkdkaphaaZE8
import Derived.Test.YtaejlopkdkaphaaZE7
import Derived.Test.YtaejlopkdkaphaaZE14
namespace Go.Proofs.Ytaejlopkdkaphaa
open Go.RowKit Go.Maps
set_option linter.unusedSimpArgs false
set_option linter.unusedVariables false

set_option maxHeartbeats 4000000 in
set_option maxRecDepth 100000 in
theorem snl22_any (S : Nat → Prop) (a : Option Addr) (ca : Nat) (l : List Int) (n : Int) (w : World) (hl : Gr El.int S w a ca l) :
    Calls Try.prog 67 #[.slice a l.length ca, .int .i64 n] w fun e w' => e = .returned (.bool (nlF n l)) ∧ Below w.heap.size w w' := by
  have kl := hl.lenB
  have HL : Hid (Gr El.int S w a ca l) := hl
  clear hl
  go_enter Try.func67, Try.ntmps67
  go_wp2
  go_loopw [5] (fun i wr => ∃ k : Nat, k ≤ l.length ∧ i = .int .i64 k ∧ Hid (∀ j, j < k → 0 ≤ l.getD j 0 ∧ l.getD j 0 < n) ∧ Below w.heap.size w wr) (fun i _ => l.length - (intOf i).toNat)
  case atStart => exact ⟨0, Nat.zero_le _, rfl, (fun j hj => by omega), Below.refl _ _⟩
  case round =>
    obtain ⟨k, hk, rfl, HOK, hB⟩ := hrel
    by_cases hkn : k < l.length
    · obtain ⟨b, off, rfl, hb, hI, d0⟩ := HL.out.in1 hB k hkn
      have HBad : Hid (¬ (0 ≤ l.getD k 0 ∧ l.getD k 0 < n) → nlF n l = false) := nlF_bad hkn
      have HXX : Hid (∀ x, l.getD k 0 = x → (0 ≤ x ∧ x < n) → ∀ j, j < k + 1 → 0 ≤ l.getD j 0 ∧ l.getD j 0 < n) := fun x e h j hj => by
        rcases Nat.lt_or_ge j k with h1 | h1
        · exact HOK.out j h1
        · rw [show j = k by omega, e]; exact h
      obtain ⟨x, hx⟩ : ∃ x, l.getD k 0 = x := ⟨_, rfl⟩
      have HX2 : Hid (_) := HXX.out x hx
      rw [hx] at d0 HBad
      clear hx HXX HOK hI
      have i1 : (0 : Int) ≤ (k : Int) := by omega
      have i2 : (k : Int) < (l.length : Int) := by omega
      by_cases h1 : 0 ≤ x
      · have g1 : decide (x < 0) = false := decide_eq_false (by omega)
        by_cases h2 : x < n
        · have g3 : decide (n ≤ x) = false := decide_eq_false (by omega)
          have HOK2 : Hid (_) := HX2.out ⟨h1, h2⟩
          clear HBad HX2 h1 h2
          go_wp2
          go_roundw
          case rel => exact ⟨k + 1, by omega, by go_num, HOK2, hB⟩
          case measure => simp [intOf]; omega
        · have g3 : decide (n ≤ x) = true := decide_eq_true (by omega)
          have HF : Hid (nlF n l = false) := HBad.out (fun h => h2 h.2)
          clear HBad HX2 h1 h2
          go_wp2
          go_ret
          exact ⟨rt_bool HF.out.symm, hB⟩
      · have g1 : decide (x < 0) = true := decide_eq_true (by omega)
        have HF : Hid (nlF n l = false) := HBad.out (fun h => h1 h.1)
        clear HBad HX2 h1
        go_wp2
        go_ret
        exact ⟨rt_bool HF.out.symm, hB⟩
    · have g4 : ¬ (k : Int) < (l.length : Int) := by omega
      by_cases h10 : l.length ≤ 10
      · have HF : Hid (nlF n l = true) := nlF_iff.2 ⟨h10, fun j hj => HOK.out j (by omega)⟩
        have g5 : decide ((l.length : Int) ≤ 10) = true := decide_eq_true (by omega)
        clear HOK h10
        go_wp2
        go_ret
        exact ⟨rt_bool HF.out.symm, hB⟩
      · have HF : Hid (nlF n l = false) := nlF_long (by omega)
        have g5 : decide ((l.length : Int) ≤ 10) = false := decide_eq_false (by omega)
        clear HOK h10
        go_wp2
        go_ret
        exact ⟨rt_bool HF.out.symm, hB⟩

set_option maxHeartbeats 4000000 in
set_option maxRecDepth 100000 in
theorem ssw22_any (S S2 : Nat → Prop) (a : Option Addr) (ca : Nat) (b : Option Addr) (cb : Nat) (x : Sw) (nf n ax : Int) (w : World) (h1 : Gr CnE S w a ca x.cn) (h2 : Gr El.int S2 w b cb x.lk) :
    Calls Try.prog 68 #[.agg #[.slice a x.cn.length ca, .int .i64 x.ft, .slice b x.lk.length cb], .int .i64 nf, .int .i64 n, .int .i64 ax] w fun e w' => e = .returned (.bool (swF nf n ax x)) ∧ Below w.heap.size w w' := by
  obtain ⟨cn, ft, lk⟩ := x
  dsimp only at *
  have k1 := h1.lenB
  have k2 := h2.lenB
  obtain ⟨W, hW, X1, hbW⟩ : ∃ W, W = w.alloc (.cells #[.slice a cn.length ca, .int .i64 ft, .slice b lk.length cb] 53) ∧ Bk 53 W w.heap.size [.slice a cn.length ca, .int .i64 ft, .slice b lk.length cb] ∧ Below w.heap.size w W := ⟨_, rfl, Bk.new _ _ _, bl1 _⟩
  have HL : Hid (Gr CnE S W a ca cn) := h1.below hbW
  have HK : Hid (Gr El.int S2 W b cb lk) := h2.below hbW
  have HBW : Hid (Below w.heap.size w W) := hbW
  have HCC : Hid (∀ u, Below W.heap.size W u → u.cell? ⟨w.heap.size, 0, none⟩ = some (.slice a cn.length ca) ∧ u.cell? ⟨w.heap.size, 1, none⟩ = some (.int .i64 ft) ∧ u.cell? ⟨w.heap.size, 2, none⟩ = some (.slice b lk.length cb)) := fun u hu => by
    obtain ⟨y0, y1, y2, -⟩ := (X1.below hu).three
    exact ⟨y0, y1, y2⟩
  have HSW : Hid (swF nf n ax ⟨cn, ft, lk⟩ = (csF ax cn && (nuF ft nf && nlF n lk))) := rfl
  clear h1 h2 hbW X1
  go_enter Try.func68, Try.ntmps68
  go_upto_block 0 with fail
  rw [← hW]
  clear hW
  go_wp2_with fail
  go_loopw [9] (fun i wr => ∃ k : Nat, k ≤ cn.length ∧ i = .int .i64 k ∧ Hid (∀ j, j < k → cnF ax (cn.getD j Cn.none) = true) ∧ Below W.heap.size W wr) (fun i _ => cn.length - (intOf i).toNat)
  case atStart => exact ⟨0, Nat.zero_le _, rfl, (fun j hj => by omega), Below.refl _ _⟩
  case round =>
    obtain ⟨k, hk, rfl, HOK, hB⟩ := hrel
    obtain ⟨p0, p1, p2⟩ := HCC.out wr hB
    by_cases hkn : k < cn.length
    · obtain ⟨b1, off, ea, hb, ⟨m1, m2, m3⟩, d0, d1, d2⟩ := HL.out.cn hB k hkn
      have HBad : Hid (cnF ax (cn.getD k Cn.none) = false → swF nf n ax ⟨cn, ft, lk⟩ = false) := fun h => by rw [HSW.out, csF_bad hkn h]; rfl
      have HXX : Hid (∀ x, cn.getD k Cn.none = x → cnF ax x = true → ∀ j, j < k + 1 → cnF ax (cn.getD j Cn.none) = true) := fun x e h j hj => by
        rcases Nat.lt_or_ge j k with h1 | h1
        · exact HOK.out j h1
        · rw [show j = k by omega, e]; exact h
      obtain ⟨x, hx⟩ : ∃ x, cn.getD k Cn.none = x := ⟨_, rfl⟩
      have HX2 : Hid (_) := HXX.out x hx
      rw [hx] at d0 d1 d2 m1 m2 m3 HBad
      clear hx HXX HOK
      have HQ : Hid (cnF ax x = (nuF x.ax ax && ((coFt x.ls && coFt x.ms) && decide (x.ls ≤ x.ms)))) := cnF_eq ax x
      obtain ⟨x1, x2, x3⟩ := x
      dsimp only at *
      subst ea
      have i1 : (0 : Int) ≤ (k : Int) := by omega
      have i2 : (k : Int) < (cn.length : Int) := by omega
      have hp2 := fun U => scoF_any x2 U
      have hp3 := fun U => scoF_any x3 U
      obtain ⟨U, hU, XG, hbU⟩ : ∃ U, U = wr.alloc (.cells #[.int .i64 x1, .int .i64 x2, .int .i64 x3] 46) ∧ Bk 46 U wr.heap.size [.int .i64 x1, .int .i64 x2, .int .i64 x3] ∧ Below wr.heap.size wr U := ⟨_, rfl, Bk.new _ _ _, bl1 _⟩
      replace hB := hB.trans (hbU.mono hB.size)
      have hfin := HBW.out.trans (hB.mono HBW.out.size)
      obtain ⟨y0, y1, y2, -⟩ := XG.three
      go_upto_region 5 with fail
      rw [← hU]
      clear hU d0 d1 d2 hbU p0 p1 p2
      by_cases f1 : 0 ≤ x1
      rotate_left
      · have g1 : decide (x1 < 0) = true := decide_eq_true (by omega)
        have HF : Hid (swF nf n ax ⟨cn, ft, lk⟩ = false) := HBad.out (by rw [HQ.out, show nuF x1 ax = false by unfold nuF; rw [decide_eq_false f1]; rfl]; rfl)
        clear HBad HX2 HQ hp2 hp3 f1
        go_wp2
        go_ret
        exact ⟨rt_bool HF.out.symm, hfin⟩
      have g1 : decide (x1 < 0) = false := decide_eq_false (by omega)
      by_cases f2 : x1 < ax
      rotate_left
      · have g2 : decide (ax ≤ x1) = true := decide_eq_true (by omega)
        have HF : Hid (swF nf n ax ⟨cn, ft, lk⟩ = false) := HBad.out (by rw [HQ.out, show nuF x1 ax = false by unfold nuF; rw [decide_eq_false f2, Bool.and_false]]; rfl)
        clear HBad HX2 HQ hp2 hp3 f1 f2
        go_wp2
        go_ret
        exact ⟨rt_bool HF.out.symm, hfin⟩
      have g2 : decide (ax ≤ x1) = false := decide_eq_false (by omega)
      rw [nuF_iff.2 ⟨f1, f2⟩] at HQ
      clear f1 f2
      cases hq2 : coFt x2 with
      | false =>
        rw [hq2] at hp2
        have HF : Hid (swF nf n ax ⟨cn, ft, lk⟩ = false) := HBad.out (by rw [HQ.out, hq2]; rfl)
        clear HBad HX2 HQ hq2 hp3
        go_wp2_with fail
        refine (hp2 _).mono ?_
        rintro e u2 ⟨rfl, rfl⟩
        clear hp2
        go_wp2
        go_ret
        exact ⟨rt_bool HF.out.symm, hfin⟩
      | true =>
      rw [hq2] at hp2 HQ
      cases hq3 : coFt x3 with
      | false =>
        rw [hq3] at hp3
        have HF : Hid (swF nf n ax ⟨cn, ft, lk⟩ = false) := HBad.out (by rw [HQ.out, hq3]; rfl)
        clear HBad HX2 HQ hq2 hq3
        go_wp2_with fail
        refine (hp2 _).mono ?_
        rintro e u2 ⟨rfl, rfl⟩
        clear hp2
        go_wp2_with fail
        refine (hp3 _).mono ?_
        rintro e u3 ⟨rfl, rfl⟩
        clear hp3
        go_wp2
        go_ret
        exact ⟨rt_bool HF.out.symm, hfin⟩
      | true =>
      rw [hq3] at hp3 HQ
      by_cases hle : x2 ≤ x3
      · have HOK2 : Hid (_) := HX2.out (by rw [HQ.out, decide_eq_true hle]; rfl)
        have g5 : decide (x3 < x2) = false := decide_eq_false (by omega)
        clear HBad HX2 HQ hq2 hq3 hle
        go_wp2_with fail
        refine (hp2 _).mono ?_
        rintro e u2 ⟨rfl, rfl⟩
        clear hp2
        go_wp2_with fail
        refine (hp3 _).mono ?_
        rintro e u3 ⟨rfl, rfl⟩
        clear hp3
        go_wp2
        go_roundw
        case rel => exact ⟨k + 1, by omega, by go_num, HOK2, hB⟩
        case measure => simp [intOf]; omega
      · have HF : Hid (swF nf n ax ⟨cn, ft, lk⟩ = false) := HBad.out (by rw [HQ.out, decide_eq_false hle]; rfl)
        have g5 : decide (x3 < x2) = true := decide_eq_true (by omega)
        clear HBad HX2 HQ hq2 hq3 hle
        go_wp2_with fail
        refine (hp2 _).mono ?_
        rintro e u2 ⟨rfl, rfl⟩
        clear hp2
        go_wp2_with fail
        refine (hp3 _).mono ?_
        rintro e u3 ⟨rfl, rfl⟩
        clear hp3
        go_wp2
        go_ret
        exact ⟨rt_bool HF.out.symm, hfin⟩
    · have g4 : ¬ (k : Int) < (cn.length : Int) := by omega
      have hfin := HBW.out.trans (hB.mono HBW.out.size)
      by_cases h10 : cn.length ≤ 4
      rotate_left
      · have HF : Hid (swF nf n ax ⟨cn, ft, lk⟩ = false) := by show _ = _; rw [HSW.out, csF_long (by omega)]; rfl
        have g5 : decide ((cn.length : Int) ≤ 4) = false := decide_eq_false (by omega)
        clear HOK h10
        go_wp2
        go_ret
        exact ⟨rt_bool HF.out.symm, hfin⟩
      have g5 : decide ((cn.length : Int) ≤ 4) = true := decide_eq_true (by omega)
      rw [csF_yes h10 (fun j hj => HOK.out j (by omega)), Bool.true_and] at HSW
      clear HOK h10
      by_cases f1 : 0 ≤ ft
      rotate_left
      · have HF : Hid (swF nf n ax ⟨cn, ft, lk⟩ = false) := by show _ = _; rw [HSW.out, show nuF ft nf = false by unfold nuF; rw [decide_eq_false f1]; rfl]; rfl
        have g6 : decide (0 ≤ ft) = false := decide_eq_false f1
        clear f1
        go_wp2
        go_ret
        exact ⟨rt_bool HF.out.symm, hfin⟩
      have g6 : decide (0 ≤ ft) = true := decide_eq_true f1
      by_cases f2 : ft < nf
      rotate_left
      · have HF : Hid (swF nf n ax ⟨cn, ft, lk⟩ = false) := by show _ = _; rw [HSW.out, show nuF ft nf = false by unfold nuF; rw [decide_eq_false f2, Bool.and_false]]; rfl
        have g7 : decide (ft < nf) = false := decide_eq_false f2
        clear f1 f2
        go_wp2
        go_ret
        exact ⟨rt_bool HF.out.symm, hfin⟩
      have g7 : decide (ft < nf) = true := decide_eq_true f2
      rw [nuF_iff.2 ⟨f1, f2⟩, Bool.true_and] at HSW
      have hp := snl22_any S2 b cb lk n wr (HK.out.below hB)
      clear f1 f2
      obtain ⟨q, hq⟩ : ∃ q, nlF n lk = q := ⟨_, rfl⟩
      rw [hq] at hp HSW
      clear hq
      go_wp2_with fail
      refine hp.mono ?_
      rintro e u ⟨rfl, hb⟩
      have hfin2 := hfin.trans (hb.mono hfin.size)
      clear hp hb p0 p1 p2
      go_wp2
      go_ret
      exact ⟨rt_bool HSW.out.symm, hfin2⟩

set_option maxHeartbeats 4000000 in
set_option maxRecDepth 100000 in
theorem sfo22_any (S S2 : Nat → Prop) (a : Option Addr) (ca : Nat) (l : List Ft) (b : Option Addr) (cb : Nat) (s : List Sw) (n ax : Int) (w : World) (hl : Gr FtE S w a ca l) (hs : Gr SwE S2 w b cb s) :
    Calls Try.prog 42 #[.slice a l.length ca, .slice b s.length cb, .int .i64 n, .int .i64 ax] w fun e w' => e = .returned (.bool (foFt l s n ax)) ∧ Below w.heap.size w w' := by
  have kl := hl.lenB
  have ks := hs.lenB
  by_cases hn1 : 10 < l.length
  · have HF : Hid (foFt l s n ax = false) := foFt_long (.inl hn1)
    have g2 : decide ((10 : Int) < (l.length : Int)) = true := decide_eq_true (by omega)
    go_enter Try.func42, Try.ntmps42
    go_wp2
    go_ret
    exact ⟨rt_bool HF.out.symm, Below.refl _ _⟩
  have g2 : decide ((10 : Int) < (l.length : Int)) = false := decide_eq_false (by omega)
  by_cases hn2 : 6 < s.length
  · have HF : Hid (foFt l s n ax = false) := foFt_long (.inr hn2)
    have g3 : decide ((6 : Int) < (s.length : Int)) = true := decide_eq_true (by omega)
    go_enter Try.func42, Try.ntmps42
    go_wp2
    go_ret
    exact ⟨rt_bool HF.out.symm, Below.refl _ _⟩
  have g3 : decide ((6 : Int) < (s.length : Int)) = false := decide_eq_false (by omega)
  have HL : Hid (Gr FtE S w a ca l) := hl
  have HS : Hid (Gr SwE S2 w b cb s) := hs
  clear hl hs
  go_enter Try.func42, Try.ntmps42
  go_wp2
  clear g2 g3
  go_loopw [9] (fun i wr => ∃ k : Nat, k ≤ l.length ∧ i = .int .i64 k ∧ Hid (∀ j, j < k → ftF n (l.getD j Ft.none) = true) ∧ Below w.heap.size w wr) (fun i _ => l.length - (intOf i).toNat)
  case atStart => exact ⟨0, Nat.zero_le _, rfl, (fun j hj => by omega), Below.refl _ _⟩
  case round =>
    obtain ⟨k, hk, rfl, HOK, hB⟩ := hrel
    by_cases hkn : k < l.length
    · obtain ⟨b1, off, a2, c2, rfl, hb, hsz, d0, d1, hrow⟩ := HL.out.ft hB k hkn
      have HBad : Hid (ftF n (l.getD k Ft.none) = false → foFt l s n ax = false) := foFt_bad1 hkn
      have HXX : Hid (∀ x, l.getD k Ft.none = x → ftF n x = true → ∀ j, j < k + 1 → ftF n (l.getD j Ft.none) = true) := fun x e h j hj => by
        rcases Nat.lt_or_ge j k with h1 | h1
        · exact HOK.out j h1
        · rw [show j = k by omega, e]; exact h
      obtain ⟨x, hx⟩ : ∃ x, l.getD k Ft.none = x := ⟨_, rfl⟩
      have HX2 : Hid (_) := HXX.out x hx
      rw [hx] at d0 d1 hsz hrow HBad
      clear hx HXX HOK
      have HQ : Hid (ftF n x = (gd (sb x.tg) && nlF n x.lk)) := rfl
      obtain ⟨tg, lk⟩ := x
      dsimp only at *
      have i1 : (0 : Int) ≤ (k : Int) := by omega
      have i2 : (k : Int) < (l.length : Int) := by omega
      have hp := fun U => sgood_any tg U hsz
      have hp2 := snl22_any S a2 c2 lk n wr (rowF_rep hrow).1
      clear hrow
      cases hq : gd (sb tg) with
      | false =>
        rw [hq] at hp
        have HF : Hid (foFt l s n ax = false) := HBad.out (by rw [HQ.out, hq]; rfl)
        clear HBad HX2 HQ hq hp2
        go_wp2_with fail
        refine (hp _).mono ?_
        rintro e u ⟨rfl, rfl⟩
        clear hp
        go_wp2
        go_ret
        exact ⟨rt_bool HF.out.symm, hB⟩
      | true =>
      rw [hq] at hp HQ
      cases hq2 : nlF n lk with
      | false =>
        rw [hq2] at hp2
        have HF : Hid (foFt l s n ax = false) := HBad.out (by rw [HQ.out, hq2]; rfl)
        clear HBad HX2 HQ hq hq2
        go_wp2_with fail
        refine (hp _).mono ?_
        rintro e u ⟨rfl, rfl⟩
        clear hp
        go_wp2_with fail
        refine hp2.mono ?_
        rintro e u2 ⟨rfl, hb2⟩
        have hfin := hB.trans (hb2.mono hB.size)
        clear hp2 hb2 d0 d1
        go_wp2
        go_ret
        exact ⟨rt_bool HF.out.symm, hfin⟩
      | true =>
      rw [hq2] at hp2 HQ
      have HOK2 : Hid (_) := HX2.out (by rw [HQ.out]; rfl)
      clear HBad HX2 HQ hq hq2
      go_wp2_with fail
      refine (hp _).mono ?_
      rintro e u ⟨rfl, rfl⟩
      clear hp
      go_wp2_with fail
      refine hp2.mono ?_
      rintro e u2 ⟨rfl, hb2⟩
      have hfin := hB.trans (hb2.mono hB.size)
      clear hp2 hb2 d0 d1
      go_wp2
      go_roundw
      case rel => exact ⟨k + 1, by omega, by go_num, HOK2, hfin⟩
      case measure => simp [intOf]; omega
    · have HOL : Hid (∀ j, j < l.length → ftF n (l.getD j Ft.none) = true) := fun j hj => HOK.out j (by omega)
      have g5 : ¬ (k : Int) < (l.length : Int) := by omega
      have HBW : Hid (Below w.heap.size w wr) := hB
      clear HOK hB hkn
      go_wp2
      go_loopw [10] (fun i wx => ∃ k : Nat, k ≤ s.length ∧ i = .int .i64 k ∧ Hid (∀ j, j < k → swF (l.length : Int) n ax (s.getD j Sw.none) = true) ∧ Below w.heap.size w wx) (fun i _ => s.length - (intOf i).toNat)
      case atStart => exact ⟨0, Nat.zero_le _, rfl, (fun j hj => by omega), HBW.out⟩
      case round =>
        clear HBW
        rename World => wx
        obtain ⟨m, hm, rfl, HOK, hB⟩ := hrel
        by_cases hmn : m < s.length
        · obtain ⟨b1, off, a1, c1, a2, c2, rfl, hb, hsz, d0, d1, d2, hrow1, hrow2⟩ := HS.out.sw hB m hmn
          have HBad : Hid (swF (l.length : Int) n ax (s.getD m Sw.none) = false → foFt l s n ax = false) := foFt_bad2 hmn
          have HXX : Hid (∀ x, s.getD m Sw.none = x → swF (l.length : Int) n ax x = true → ∀ j, j < m + 1 → swF (l.length : Int) n ax (s.getD j Sw.none) = true) := fun x e h j hj => by
            rcases Nat.lt_or_ge j m with h1 | h1
            · exact HOK.out j h1
            · rw [show j = m by omega, e]; exact h
          have hp := ssw22_any S2 S2 a1 c1 a2 c2 (s.getD m Sw.none) (l.length : Int) n ax wx (rowF_rep hrow1).1 (rowF_rep hrow2).1
          obtain ⟨x, hx⟩ : ∃ x, s.getD m Sw.none = x := ⟨_, rfl⟩
          have HX2 : Hid (_) := HXX.out x hx
          rw [hx] at d0 d1 d2 hp HBad
          clear hx HXX HOK hrow1 hrow2 hsz
          have i1 : (0 : Int) ≤ (m : Int) := by omega
          have i2 : (m : Int) < (s.length : Int) := by omega
          obtain ⟨cn, ft, lk⟩ := x
          dsimp only at *
          cases hq : swF (l.length : Int) n ax ⟨cn, ft, lk⟩ with
          | false =>
            rw [hq] at hp
            have HF : Hid (foFt l s n ax = false) := HBad.out hq
            clear HBad HX2 hq
            go_wp2_with fail
            refine hp.mono ?_
            rintro e u ⟨rfl, hb1⟩
            have hfin := hB.trans (hb1.mono hB.size)
            clear hp hb1 d0 d1 d2
            go_wp2
            go_ret
            exact ⟨rt_bool HF.out.symm, hfin⟩
          | true =>
            rw [hq] at hp
            have HOK2 : Hid (_) := HX2.out hq
            clear HBad HX2 hq
            go_wp2_with fail
            refine hp.mono ?_
            rintro e u ⟨rfl, hb1⟩
            have hfin := hB.trans (hb1.mono hB.size)
            clear hp hb1 d0 d1 d2
            go_wp2
            go_roundw
            case rel => exact ⟨m + 1, by omega, by go_num, HOK2, hfin⟩
            case measure => simp [intOf]; omega
        · have HF : Hid (foFt l s n ax = true) := foFt_iff.2 ⟨⟨by omega, by omega⟩, HOL.out, fun j hj => HOK.out j (by omega)⟩
          have g6 : ¬ (m : Int) < (s.length : Int) := by omega
          clear HOK HOL
          go_wp2
          go_ret
          exact ⟨rt_bool HF.out.symm, hB⟩

end Go.Proofs.Ytaejlopkdkaphaa

namespace Go.Proofs.Ytaejlopkdkaphaa
open Go.RowKit Go.Maps
set_option linter.unusedSimpArgs false
set_option linter.unusedVariables false

theorem info_b8 : (Try.prog.info? 5).map (fun i => (i.zero, i.size, i.bytes)) = some (some (.int .u8 0), 1, 1) := by kernel_rfl
def Bo (base : Nat) (w : World) (v : Value) (ys : List Nat) : Prop := Byt ys ∧ w.ownsRow base 5 1 v ys.length (ys.map Y)
theorem Bo.nil (base : Nat) (w : World) : Bo base w (.slice none 0 0) [] := ⟨Byt.nil, World.ownsRow_nil w base _ 1⟩
theorem Bo.slice {base : Nat} {w : World} {v : Value} {ys : List Nat} (h : Bo base w v ys) : ∃ a cap, v = .slice a ys.length cap ∧ Rb w a cap ys := by
  have h3 := h.2
  rcases h3.2 with ⟨e, h0⟩ | ⟨g, cap, cur, e, hb, hg, hc1, hc2, hc3, ht⟩
  · have : ys = [] := List.length_eq_zero_iff.1 h0
    subst this
    exact ⟨none, 0, e, Rb.nil _ _ _ (Nat.zero_le _) (fun _ => rfl)⟩
  · subst e
    exact ⟨_, _, rfl, Rw.rd (e := 5) (base := base) ⟨h.1, h3⟩⟩
theorem Bo.below {base : Nat} {w w' : World} {v : Value} {ys : List Nat} (h : Bo base w v ys) (hb : Below w.heap.size w w') : Bo base w' v ys := by
  obtain ⟨h1, h3⟩ := h
  refine ⟨h1, h3.1, ?_⟩
  rcases h3.2 with h0 | ⟨g, cap', cur, k1, k2, k3, k4⟩
  · exact .inl h0
  · exact .inr ⟨g, cap', cur, k1, k2, (hb.block g (Array.getElem?_eq_some_iff.1 k3).1).trans k3, k4⟩
theorem Bo.lo {base : Nat} {w : World} {v : Value} {ys : List Nat} (h : Bo base w v ys) {g : Nat} (hg : v.ownBlock = some g) : base ≤ g ∧ g < w.heap.size := World.ownsRow.lt h.2 g hg
/-- 'append(b, x)': x is laid in a block of its own first. -/
theorem wpList_append_b1 {w : World} {ops : Array Oper} {rest : List Oper} {o : Oper} {a : Act} {Q : Exit → Act → World → Prop}
    (hgd : o.guard = none) (s x : Operand) (ho : o.op = .call { callee := .builtin .append, args := #[s, x], argTypes := #[34, 34] })
    (base : Nat) (v : Value) (ys : List Nat) (hs : a.eval s = v) (hown : Bo base w v ys) (g : Nat) (z : Nat) (hx : a.eval x = .slice (some ⟨g, 0, none⟩) 1 1)
    (c0 : w.cell? ⟨g, 0, none⟩ = some (.int .u8 (z : Int))) (hz : z < 256) (hlen : ys.length + 1 ≤ 1000000) (hbase : base ≤ w.heap.size)
    (h : ∀ v' w', Bo base w' v' (ys ++ [z]) → w.grownBy w' v.ownBlock → wpList Try.prog ops Q rest (a.put o.dst v') w') : wpList Try.prog ops Q (o :: rest) a w := by
  obtain ⟨i0, hi, hz0, hz1, hz2⟩ := info_parts info_b8
  refine wpList_append_oneB hgd s x 34 ho base 5 i0 Try.underlying34 hi hz0 hz1 hz2 v ys.length ys hs hown.2 g z hx c0 (by omega) hbase ?_
  intro v' w' k1 k2 _
  exact h v' w' ⟨hown.1.append (fun y hy => by rw [List.mem_singleton.1 hy]; exact hz), by rw [List.length_append]; exact k1⟩ k2
/-- 'append(b, more...)'. -/
theorem wpList_append_bs {w : World} {ops : Array Oper} {rest : List Oper} {o : Oper} {a : Act} {Q : Exit → Act → World → Prop}
    (hgd : o.guard = none) (s x : Operand) (ho : o.op = .call { callee := .builtin .append, args := #[s, x], argTypes := #[34, 34] })
    (base : Nat) (v : Value) (ys : List Nat) (hs : a.eval s = v) (hown : Bo base w v ys) (ad : Option Addr) (c m : Nat) (zs : List Nat) (hm : m = zs.length) (hx : a.eval x = .slice ad m c)
    (hrd : Rb w ad c zs) (hlen : ys.length + zs.length ≤ 1000000) (hbase : base ≤ w.heap.size)
    (h : ∀ v' w', Bo base w' v' (ys ++ zs) → w.grownBy w' v.ownBlock → wpList Try.prog ops Q rest (a.put o.dst v') w') : wpList Try.prog ops Q (o :: rest) a w := by
  obtain ⟨i0, hi, hz0, hz1, hz2⟩ := info_parts info_b8
  refine wpList_append_rb hgd s x 34 ho base 5 i0 Try.underlying34 hi hz0 hz1 hz2 v ys.length ys hs hown.2 ad c m zs hx hm hrd (by omega) hbase ?_
  intro v' w' k1 k2 _
  exact h v' w' ⟨hown.1.append hrd.lim, by rw [List.length_append]; exact k1⟩ k2

end Go.Proofs.Ytaejlopkdkaphaa

namespace Go.Proofs.Ytaejlopkdkaphaa
open Go.RowKit Go.Maps
set_option linter.unusedSimpArgs false
set_option linter.unusedVariables false

/-- A row of ints and a row of bytes lie in two blocks. -/
theorem Io.ne_bo {base b2 : Nat} {w : World} {v vb : Value} {zs : List Int} {ys : List Nat} (h : Io base w v zs) (hb : Bo b2 w vb ys) {g : Nat} (h1 : v.ownBlock = some g) : some g ≠ vb.ownBlock := by
  intro e
  rcases h.2.2 with ⟨e0, _⟩ | ⟨g1, cap, cur, k1, k2, k3, k4⟩
  · rw [e0] at h1; cases h1
  · rcases hb.2.2 with ⟨e0, _⟩ | ⟨g2, cap2, cur2, m1, m2, m3, _⟩
    · rw [e0] at e; cases e
    · rw [m1] at e
      rw [k1] at h1
      cases h1
      cases e
      rw [k3] at m3
      cases m3
theorem Io.grownB {base b2 : Nat} {w w' : World} {v vb : Value} {zs : List Int} {ys : List Nat} (h : Io base w v zs) (hb : Bo b2 w vb ys) (hg : w.grownBy w' vb.ownBlock) : Io base w' v zs := by
  have hne := fun g => Io.ne_bo h hb (g := g)
  obtain ⟨h1, h3⟩ := h
  refine ⟨h1, h3.1, ?_⟩
  rcases h3.2 with h0 | ⟨g, cap, cur, k1, k2, k3, k4⟩
  · exact .inl h0
  · exact .inr ⟨g, cap, cur, k1, k2, (hg.block g (Array.getElem?_eq_some_iff.1 k3).1 (hne g (by rw [k1]; rfl))).trans k3, k4⟩
theorem Bo.grownI {base b2 : Nat} {w w' : World} {v vb : Value} {zs : List Int} {ys : List Nat} (hb : Bo b2 w vb ys) (h : Io base w v zs) (hg : w.grownBy w' v.ownBlock) : Bo b2 w' vb ys := by
  have hne := fun g => Io.ne_bo h hb (g := g)
  obtain ⟨h1, h3⟩ := hb
  refine ⟨h1, h3.1, ?_⟩
  rcases h3.2 with h0 | ⟨g, cap, cur, k1, k2, k3, k4⟩
  · exact .inl h0
  · refine .inr ⟨g, cap, cur, k1, k2, (hg.block g (Array.getElem?_eq_some_iff.1 k3).1 (fun e => ?_)).trans k3, k4⟩
    exact hne g e.symm (by rw [k1]; rfl)
/-- 'append(b, more...)', more not being empty. -/
theorem wp_append_bs {w : World} {o : Oper} {a : Act} {K : Act → World → Prop} {Q : Exit → Act → World → Prop}
    (s x : Operand) (ho : o.op = .call { callee := .builtin .append, args := #[s, x], argTypes := #[34, 34] })
    (base : Nat) (v : Value) (ys : List Nat) (hs : a.eval s = v) (hown : Bo base w v ys) (ad : Option Addr) (c m : Nat) (zs : List Nat) (hm : m = zs.length) (hne : zs ≠ []) (hx : a.eval x = .slice ad m c)
    (hrd : Rb w ad c zs) (hlen : ys.length + zs.length ≤ 1000000) (hbase : base ≤ w.heap.size)
    (h : ∀ v' w', Bo base w' v' (ys ++ zs) → w.grownBy w' v.ownBlock → K (a.put o.dst v') w') : o.wp Try.prog a w K Q := by
  obtain ⟨i0, hi, hz0, hz1, hz2⟩ := info_parts info_b8
  rcases hrd.2.2.2.2 with h0 | ⟨b, off, e', hb, hc⟩
  · exact absurd h0 hne
  subst e' hm
  refine wp_append_own_at w s x 34 ho base 5 i0 (.int .u8 0) 1 1 Try.underlying34 hi hz0 hz1 hz2 rfl (by decide) v ys.length (ys.map Y) hs hown.2 ⟨b, off, none⟩ zs.length c (zs.map Y) hx (by simp) ?_ (oneCell_Y zs) (by unfold maxLen; omega) (by omega) hbase ?_
  · intro j u hj
    have hjl : j < zs.length := by
      rcases Nat.lt_or_ge j zs.length with h1 | h1
      · exact h1
      · rw [List.getElem?_eq_none (by simpa using h1)] at hj; cases hj
    have hadd : (⟨b, off, none⟩ : Addr).add j = ⟨b, off + j, none⟩ := by unfold Addr.add; split <;> simp_all
    rw [hadd, hc j hjl]
    rw [List.getElem?_map, List.getElem?_eq_getElem hjl] at hj
    simp at hj; rw [← hj]; simp [List.getD, hjl, Y]
  · intro v' w' k1 k2 _ _
    exact h v' w' ⟨hown.1.append hrd.lim, by rw [List.map_append, List.length_append]; exact k1⟩ k2

end Go.Proofs.Ytaejlopkdkaphaa

namespace Go.Proofs.Ytaejlopkdkaphaa
open Go.RowKit Go.Maps
set_option linter.unusedSimpArgs false
set_option linter.unusedVariables false

/-- Two rows in two blocks. -/
def Apt (v u : Value) : Prop := ∀ k, v.ownBlock = some k → u.ownBlock ≠ some k
theorem Apt.symm {v u : Value} (h : Apt v u) : Apt u v := fun k h1 h2 => h k h2 h1
theorem Apt.of {base : Nat} {w : World} {v v' u : Value} {ys : List Nat} (h : Apt v u) (hu : Bo base w u ys) (hv : v'.ownBlock = v.ownBlock ∨ v'.ownBlock = some w.heap.size) : Apt v' u := fun k h1 h2 => by
  rcases hv with e | e
  · exact h k (by rw [← e]; exact h1) h2
  · rw [e] at h1; cases h1; have := (hu.lo h2).2; omega
theorem Bo.grownA {base : Nat} {w w' : World} {v u : Value} {ys : List Nat} (hu : Bo base w u ys) (hg : w.grownBy w' v.ownBlock) (h : Apt v u) : Bo base w' u ys := by
  obtain ⟨h1, h3⟩ := hu
  refine ⟨h1, h3.1, ?_⟩
  rcases h3.2 with h0 | ⟨g, cap, cur, k1, k2, k3, k4⟩
  · exact .inl h0
  · exact .inr ⟨g, cap, cur, k1, k2, (hg.block g (Array.getElem?_eq_some_iff.1 k3).1 (fun e => h g e.symm (by rw [k1]; rfl))).trans k3, k4⟩
theorem Bo.mono {base b2 : Nat} {w : World} {v : Value} {ys : List Nat} (h : Bo base w v ys) (hb : b2 ≤ base) : Bo b2 w v ys := by
  obtain ⟨h1, h3⟩ := h
  refine ⟨h1, h3.1, ?_⟩
  rcases h3.2 with h0 | ⟨g, cap, cur, k1, k2, k3, k4⟩
  · exact .inl h0
  · exact .inr ⟨g, cap, cur, k1, Nat.le_trans hb k2, k3, k4⟩
/-- As wpList_append_bs, with what is told of the block. -/
theorem wpList_append_bs3 {w : World} {ops : Array Oper} {rest : List Oper} {o : Oper} {a : Act} {Q : Exit → Act → World → Prop}
    (hgd : o.guard = none) (s x : Operand) (ho : o.op = .call { callee := .builtin .append, args := #[s, x], argTypes := #[34, 34] })
    (base : Nat) (v : Value) (ys : List Nat) (hs : a.eval s = v) (hown : Bo base w v ys) (ad : Option Addr) (c m : Nat) (zs : List Nat) (hm : m = zs.length) (hx : a.eval x = .slice ad m c)
    (hrd : Rb w ad c zs) (hlen : ys.length + zs.length ≤ 1000000) (hbase : base ≤ w.heap.size)
    (h : ∀ v' w', Bo base w' v' (ys ++ zs) → w.grownBy w' v.ownBlock → (v'.ownBlock = v.ownBlock ∨ v'.ownBlock = some w.heap.size) → wpList Try.prog ops Q rest (a.put o.dst v') w') : wpList Try.prog ops Q (o :: rest) a w := by
  obtain ⟨i0, hi, hz0, hz1, hz2⟩ := info_parts info_b8
  refine wpList_append_rb hgd s x 34 ho base 5 i0 Try.underlying34 hi hz0 hz1 hz2 v ys.length ys hs hown.2 ad c m zs hx hm hrd (by omega) hbase ?_
  intro v' w' k1 k2 k3
  exact h v' w' ⟨hown.1.append hrd.lim, by rw [List.length_append]; exact k1⟩ k2 k3

theorem Bo.rb {base : Nat} {w : World} {a : Option Addr} {c : Nat} {ys : List Nat} (h : Bo base w (.slice a ys.length c) ys) : Rb w a c ys := by
  obtain ⟨a', c', e, hr⟩ := h.slice
  injection e with e1 e2 e3
  subst e1 e3
  exact hr
theorem bo_new (w : World) (zs : List Nat) (cs : Array Value) (hc : cs = (zs.map Y).toArray) (hl : Byt zs) (hm : zs.length ≤ maxLen) : Bo w.heap.size (w.alloc (.cells cs 5)) (.slice (some ⟨w.heap.size, 0, none⟩) zs.length zs.length) zs := by
  subst hc
  exact ⟨hl, by simp, .inr ⟨w.heap.size, zs.length, _, rfl, Nat.le_refl _, heap_alloc_new w _, Nat.le_refl _, hm, by simp, by simp [List.take_of_length_le]⟩⟩
set_option maxHeartbeats 1000000 in
set_option maxRecDepth 100000 in
theorem big2_own (x : Int) (w : World) (hx : 0 ≤ x) (hx2 : x ≤ 9223372036854775807) :
    Calls Try.prog 43 #[.int .i64 x, .int .i64 2] w fun e w' => ∃ v, e = .returned v ∧ Bo w.heap.size w' v (be2 x) ∧ Below w.heap.size w w' := by
  have hmk : ∀ w, (Instr.makeSlice 34 (.int .i64 2) (.int .i64 2)).run Try.prog w = .ok (.slice (some ⟨w.heap.size, 0, none⟩) 2 2) (w.alloc (.cells #[.int .u8 0, .int .u8 0] 5)) := by
    intro w
    have h := run_make_row' (P := Try.prog) 34 5 (.int .u8 0) 1 Try.underlying34 info_byte rfl .i64 .i64 2 (by decide) (by decide) w
    rw [show madeCells #[Value.int IntKind.u8 0] 2 = #[.int .u8 0, .int .u8 0] by kernel_rfl] at h
    exact h
  go_enter Try.func43, Try.ntmps43
  go_wp2
  refine wp_loop_rounds 3 ?_
  rw [rounds_succ]
  go_wp2
  rw [rounds_succ]
  go_wp2
  rw [rounds_succ]
  go_wp2
  go_ret
  refine ⟨_, rfl, bo_new w (be2 x) _ ?_ (byt_be2 x) (by simp [be2, maxLen]), bl1 _⟩
  simp only [be2, List.map_cons, List.map_nil, Y]
  simp
  omega

set_option maxHeartbeats 1000000 in
set_option maxRecDepth 100000 in
theorem big4_own (x : Int) (w : World) (hx : 0 ≤ x) (hx2 : x ≤ 9223372036854775807) :
    Calls Try.prog 43 #[.int .i64 x, .int .i64 4] w fun e w' => ∃ v, e = .returned v ∧ Bo w.heap.size w' v (be4 x) ∧ Below w.heap.size w w' := by
  have hmk : ∀ w, (Instr.makeSlice 34 (.int .i64 4) (.int .i64 4)).run Try.prog w = .ok (.slice (some ⟨w.heap.size, 0, none⟩) 4 4) (w.alloc (.cells #[.int .u8 0, .int .u8 0, .int .u8 0, .int .u8 0] 5)) := by
    intro w
    have h := run_make_row' (P := Try.prog) 34 5 (.int .u8 0) 1 Try.underlying34 info_byte rfl .i64 .i64 4 (by decide) (by decide) w
    rw [show madeCells #[Value.int IntKind.u8 0] 4 = #[.int .u8 0, .int .u8 0, .int .u8 0, .int .u8 0] by kernel_rfl] at h
    exact h
  go_enter Try.func43, Try.ntmps43
  go_wp2
  refine wp_loop_rounds 5 ?_
  rw [rounds_succ]
  go_wp2
  rw [rounds_succ]
  go_wp2
  rw [rounds_succ]
  go_wp2
  rw [rounds_succ]
  go_wp2
  rw [rounds_succ]
  go_wp2
  go_ret
  refine ⟨_, rfl, bo_new w (be4 x) _ ?_ (byt_be4 x) (by simp [be4, maxLen]), bl1 _⟩
  simp only [be4, List.map_cons, List.map_nil, Y]
  simp
  omega


end Go.Proofs.Ytaejlopkdkaphaa
