/-
  feats.looksFit, condsFit, Formed: the walks.
  feats.holds, Holds, Looks; slices.Clone of ints: the walks.
  maps.Keys, slices.Sorted and slices.Sort of ints, laid at this cut.
-/
import Derived.Test.YtaejlopkdkaphaaZE8
import Derived.Lib.AppendZerosOnto
import Derived.Deep.CutRange
import Derived.Lib.SliceRun
import Derived.Shelf.SlIterI.Nil
import Derived.Shelf.SortM.Plain
import Derived.Shelf.SortM.SortNone
import Derived.Test.YtaejlopkdkaphaaProg
namespace Go.Proofs.Ytaejlopkdkaphaa
open Go.RowKit Go.Maps
set_option linter.unusedSimpArgs false
set_option linter.unusedVariables false

theorem nuF_iff {n m : Int} : nuF n m = true ↔ 0 ≤ n ∧ n < m := by unfold nuF; rw [Bool.and_eq_true, decide_eq_true_iff, decide_eq_true_iff]
theorem nuF_no {n m : Int} (h : nuF n m = false) : ¬ (0 ≤ n ∧ n < m) := fun h2 => by rw [nuF_iff.2 h2] at h; cases h
theorem csF_iff {ax : Int} {l : List Cn} : (decide (l.length ≤ 4) && l.all (cnF ax)) = true ↔ l.length ≤ 4 ∧ ∀ k, k < l.length → cnF ax (l.getD k Cn.none) = true := by rw [Bool.and_eq_true, decide_eq_true_iff, allF_iff (e := Cn.none)]
def csF (ax : Int) (l : List Cn) : Bool := decide (l.length ≤ 4) && l.all (cnF ax)
theorem csF_yes {ax : Int} {l : List Cn} (h : l.length ≤ 4) (h2 : ∀ k, k < l.length → cnF ax (l.getD k Cn.none) = true) : csF ax l = true := csF_iff.2 ⟨h, h2⟩
theorem csF_long {ax : Int} {l : List Cn} (h : 4 < l.length) : csF ax l = false := by unfold csF; rw [decide_eq_false (by omega)]; rfl
theorem csF_bad {ax : Int} {l : List Cn} {k : Nat} (hk : k < l.length) (h : cnF ax (l.getD k Cn.none) = false) : csF ax l = false := by
  cases hf : csF ax l with
  | false => rfl
  | true => rw [(csF_iff.1 hf).2 k hk] at h; cases h
theorem cnF_eq (ax : Int) (c : Cn) : cnF ax c = (nuF c.ax ax && ((coFt c.ls && coFt c.ms) && decide (c.ls ≤ c.ms))) := rfl
theorem swF_eq (nf n ax : Int) (s : Sw) : swF nf n ax s = (csF ax s.cn && (nuF s.ft nf && nlF n s.lk)) := rfl

set_option maxHeartbeats 2000000 in
set_option maxRecDepth 100000 in
theorem cnlF_any (S : Nat → Prop) (a : Option Addr) (ca : Nat) (l : List Int) (n : Int) (w : World) (hl : Gr El.int S w a ca l) :
    Calls Try.prog 60 #[.slice a l.length ca, .int .i64 n] w fun e w' => e = .returned (.bool (nlF n l)) ∧ Below w.heap.size w w' := by
  have kl := hl.lenB
  by_cases hn1 : 10 < l.length
  · have HF : Hid (nlF n l = false) := nlF_long hn1
    have g2 : (10 : Int) < (l.length : Int) := by omega
    go_enter Try.func60, Try.ntmps60
    go_wp2
    go_ret
    exact ⟨rt_bool HF.out.symm, Below.refl _ _⟩
  have g2 : ¬ (10 : Int) < (l.length : Int) := by omega
  have HL : Hid (Gr El.int S w a ca l) := hl
  clear hl
  go_enter Try.func60, Try.ntmps60
  go_wp2
  go_loopw [12] (fun i wr => ∃ k : Nat, k ≤ l.length ∧ i = .int .i64 k ∧ Hid (∀ j, j < k → 0 ≤ l.getD j 0 ∧ l.getD j 0 < n) ∧ Below w.heap.size w wr) (fun i _ => l.length - (intOf i).toNat)
  case atStart => exact ⟨0, Nat.zero_le _, rfl, (fun j hj => by omega), Below.refl _ _⟩
  case round =>
    obtain ⟨k, hk, rfl, HOK, hB⟩ := hrel
    by_cases hkn : k < l.length
    · obtain ⟨b, off, rfl, hb, hI, d0⟩ := HL.out.in1 hB k hkn
      have HBad : Hid (¬ (0 ≤ l.getD k 0 ∧ l.getD k 0 < n) → nlF n l = false) := nlF_bad hkn
      have HXX : Hid (∀ x, l.getD k 0 = x → (0 ≤ x ∧ x < n) → ∀ j, j < k + 1 → 0 ≤ l.getD j 0 ∧ l.getD j 0 < n) := fun x e h j hj => by
        rcases Nat.lt_or_ge j k with h1 | h1
        · exact HOK.out j h1
        · rw [show j = k by omega, e]; exact h
      obtain ⟨x, hx⟩ : ∃ x, l.getD k 0 = x := ⟨_, rfl⟩
      have HX2 : Hid (_) := HXX.out x hx
      rw [hx] at d0 hI HBad
      clear hx HXX
      have i1 : (0 : Int) ≤ (k : Int) := by omega
      have i2 : (k : Int) < (l.length : Int) := by omega
      have hp := fun U => numberOf_any x n U
      cases hq : nuF x n with
      | false =>
        rw [hq] at hp
        have HF : Hid (nlF n l = false) := HBad.out (nuF_no hq)
        clear HBad HX2 HOK hq
        go_wp2_with fail
        refine (hp _).mono ?_
        rintro e u ⟨rfl, rfl⟩
        go_wp2
        go_ret
        exact ⟨rt_bool HF.out.symm, hB⟩
      | true =>
        rw [hq] at hp
        have HOK2 : Hid (_) := HX2.out (nuF_iff.1 hq)
        clear HBad HX2 HOK hq
        go_wp2_with fail
        refine (hp _).mono ?_
        rintro e u ⟨rfl, rfl⟩
        go_wp2
        go_roundw
        case rel => exact ⟨k + 1, by omega, by go_num, HOK2, hB⟩
        case measure => simp [intOf]; omega
    · have HF : Hid (nlF n l = true) := nlF_iff.2 ⟨by omega, fun j hj => HOK.out j (by omega)⟩
      have g4 : ¬ (k : Int) < (l.length : Int) := by omega
      clear HOK
      go_wp2
      go_ret
      exact ⟨rt_bool HF.out.symm, hB⟩

set_option maxHeartbeats 4000000 in
set_option maxRecDepth 100000 in
theorem ccsF_any (S : Nat → Prop) (a : Option Addr) (ca : Nat) (l : List Cn) (n : Int) (w : World) (hl : Gr CnE S w a ca l) :
    Calls Try.prog 61 #[.slice a l.length ca, .int .i64 n] w fun e w' => e = .returned (.bool (csF n l)) ∧ Below w.heap.size w w' := by
  have kl := hl.lenB
  by_cases hn1 : 4 < l.length
  · have HF : Hid (csF n l = false) := csF_long hn1
    have g2 : (4 : Int) < (l.length : Int) := by omega
    go_enter Try.func61, Try.ntmps61
    go_wp2
    go_ret
    exact ⟨rt_bool HF.out.symm, Below.refl _ _⟩
  have g2 : ¬ (4 : Int) < (l.length : Int) := by omega
  have HL : Hid (Gr CnE S w a ca l) := hl
  clear hl
  go_enter Try.func61, Try.ntmps61
  go_wp2
  go_loopw [12] (fun i wr => ∃ k : Nat, k ≤ l.length ∧ i = .int .i64 k ∧ Hid (∀ j, j < k → cnF n (l.getD j Cn.none) = true) ∧ Below w.heap.size w wr) (fun i _ => l.length - (intOf i).toNat)
  case atStart => exact ⟨0, Nat.zero_le _, rfl, (fun j hj => by omega), Below.refl _ _⟩
  case round =>
    obtain ⟨k, hk, rfl, HOK, hB⟩ := hrel
    by_cases hkn : k < l.length
    · obtain ⟨b, off, rfl, hb, ⟨m1, m2, m3⟩, d0, d1, d2⟩ := HL.out.cn hB k hkn
      have HBad : Hid (cnF n (l.getD k Cn.none) = false → csF n l = false) := csF_bad hkn
      have HXX : Hid (∀ x, l.getD k Cn.none = x → cnF n x = true → ∀ j, j < k + 1 → cnF n (l.getD j Cn.none) = true) := fun x e h j hj => by
        rcases Nat.lt_or_ge j k with h1 | h1
        · exact HOK.out j h1
        · rw [show j = k by omega, e]; exact h
      obtain ⟨x, hx⟩ : ∃ x, l.getD k Cn.none = x := ⟨_, rfl⟩
      have HX2 : Hid (_) := HXX.out x hx
      rw [hx] at d0 d1 d2 m1 m2 m3 HBad
      clear hx HXX HOK
      have HQ : Hid (cnF n x = (nuF x.ax n && ((coFt x.ls && coFt x.ms) && decide (x.ls ≤ x.ms)))) := cnF_eq n x
      obtain ⟨x1, x2, x3⟩ := x
      dsimp only at *
      have i1 : (0 : Int) ≤ (k : Int) := by omega
      have i2 : (k : Int) < (l.length : Int) := by omega
      have hp := fun U => numberOf_any x1 n U
      have hp2 := fun U => ccoF_any x2 U
      have hp3 := fun U => ccoF_any x3 U
      obtain ⟨U, hU, XG, hbU⟩ : ∃ U, U = wr.alloc (.cells #[.int .i64 x1, .int .i64 x2, .int .i64 x3] 46) ∧ Bk 46 U wr.heap.size [.int .i64 x1, .int .i64 x2, .int .i64 x3] ∧ Below wr.heap.size wr U := ⟨_, rfl, Bk.new _ _ _, bl1 _⟩
      replace hB := hB.trans (hbU.mono hB.size)
      obtain ⟨y0, y1, y2, -⟩ := XG.three
      go_upto_region 6 with fail
      rw [← hU]
      clear hU d0 d1 d2 hbU
      cases hq : nuF x1 n with
      | false =>
        rw [hq] at hp
        have HF : Hid (csF n l = false) := HBad.out (by rw [HQ.out, hq]; rfl)
        clear HBad HX2 HQ hq hp2 hp3
        go_wp2_with fail
        refine (hp _).mono ?_
        rintro e u ⟨rfl, rfl⟩
        clear hp
        go_wp2
        go_ret
        exact ⟨rt_bool HF.out.symm, hB⟩
      | true =>
      rw [hq] at hp HQ
      cases hq2 : coFt x2 with
      | false =>
        rw [hq2] at hp2
        have HF : Hid (csF n l = false) := HBad.out (by rw [HQ.out, hq2]; rfl)
        clear HBad HX2 HQ hq hq2 hp3
        go_wp2_with fail
        refine (hp _).mono ?_
        rintro e u ⟨rfl, rfl⟩
        clear hp
        go_wp2_with fail
        refine (hp2 _).mono ?_
        rintro e u2 ⟨rfl, rfl⟩
        clear hp2
        go_wp2
        go_ret
        exact ⟨rt_bool HF.out.symm, hB⟩
      | true =>
      rw [hq2] at hp2 HQ
      cases hq3 : coFt x3 with
      | false =>
        rw [hq3] at hp3
        have HF : Hid (csF n l = false) := HBad.out (by rw [HQ.out, hq3]; rfl)
        clear HBad HX2 HQ hq hq2 hq3
        go_wp2_with fail
        refine (hp _).mono ?_
        rintro e u ⟨rfl, rfl⟩
        clear hp
        go_wp2_with fail
        refine (hp2 _).mono ?_
        rintro e u2 ⟨rfl, rfl⟩
        clear hp2
        go_wp2_with fail
        refine (hp3 _).mono ?_
        rintro e u3 ⟨rfl, rfl⟩
        clear hp3
        go_wp2
        go_ret
        exact ⟨rt_bool HF.out.symm, hB⟩
      | true =>
      rw [hq3] at hp3 HQ
      by_cases hle : x2 ≤ x3
      · have HOK2 : Hid (_) := HX2.out (by rw [HQ.out, decide_eq_true hle]; rfl)
        have g5 : ¬ x3 < x2 := by omega
        clear HBad HX2 HQ hq hq2 hq3 hle
        go_wp2_with fail
        refine (hp _).mono ?_
        rintro e u ⟨rfl, rfl⟩
        clear hp
        go_wp2_with fail
        refine (hp2 _).mono ?_
        rintro e u2 ⟨rfl, rfl⟩
        clear hp2
        go_wp2_with fail
        refine (hp3 _).mono ?_
        rintro e u3 ⟨rfl, rfl⟩
        clear hp3
        go_wp2
        go_roundw
        case rel => exact ⟨k + 1, by omega, by go_num, HOK2, hB⟩
        case measure => simp [intOf]; omega
      · have HF : Hid (csF n l = false) := HBad.out (by rw [HQ.out, decide_eq_false hle]; rfl)
        have g5 : x3 < x2 := by omega
        clear HBad HX2 HQ hq hq2 hq3 hle
        go_wp2_with fail
        refine (hp _).mono ?_
        rintro e u ⟨rfl, rfl⟩
        clear hp
        go_wp2_with fail
        refine (hp2 _).mono ?_
        rintro e u2 ⟨rfl, rfl⟩
        clear hp2
        go_wp2_with fail
        refine (hp3 _).mono ?_
        rintro e u3 ⟨rfl, rfl⟩
        clear hp3
        go_wp2
        go_ret
        exact ⟨rt_bool HF.out.symm, hB⟩
    · have HF : Hid (csF n l = true) := csF_yes (by omega) (fun j hj => HOK.out j (by omega))
      have g4 : ¬ (k : Int) < (l.length : Int) := by omega
      clear HOK
      go_wp2
      go_ret
      exact ⟨rt_bool HF.out.symm, hB⟩

set_option maxHeartbeats 4000000 in
set_option maxRecDepth 100000 in
theorem cfoF_any (S : Nat → Prop) (a : Option Addr) (ca : Nat) (l : List Ft) (b : Option Addr) (cb : Nat) (s : List Sw) (n ax : Int) (w : World) (hl : Gr FtE S w a ca l) (hs : Gr SwE S w b cb s) :
    Calls Try.prog 31 #[.slice a l.length ca, .slice b s.length cb, .int .i64 n, .int .i64 ax] w fun e w' => e = .returned (.bool (foFt l s n ax)) ∧ Below w.heap.size w w' := by
  have kl := hl.lenB
  have ks := hs.lenB
  by_cases hn1 : 10 < l.length
  · have HF : Hid (foFt l s n ax = false) := foFt_long (.inl hn1)
    have g2 : (10 : Int) < (l.length : Int) := by omega
    go_enter Try.func31, Try.ntmps31
    go_wp2
    go_ret
    exact ⟨rt_bool HF.out.symm, Below.refl _ _⟩
  have g2 : ¬ (10 : Int) < (l.length : Int) := by omega
  by_cases hn2 : 6 < s.length
  · have HF : Hid (foFt l s n ax = false) := foFt_long (.inr hn2)
    have g3 : (6 : Int) < (s.length : Int) := by omega
    go_enter Try.func31, Try.ntmps31
    go_wp2
    go_ret
    exact ⟨rt_bool HF.out.symm, Below.refl _ _⟩
  have g3 : ¬ (6 : Int) < (s.length : Int) := by omega
  have HL : Hid (Gr FtE S w a ca l) := hl
  have HS : Hid (Gr SwE S w b cb s) := hs
  clear hl hs
  go_enter Try.func31, Try.ntmps31
  go_wp2
  clear g2 g3
  go_loopw [23] (fun i wr => ∃ k : Nat, k ≤ l.length ∧ i = .int .i64 k ∧ Hid (∀ j, j < k → ftF n (l.getD j Ft.none) = true) ∧ Below w.heap.size w wr) (fun i _ => l.length - (intOf i).toNat)
  case atStart => exact ⟨0, Nat.zero_le _, rfl, (fun j hj => by omega), Below.refl _ _⟩
  case round =>
    obtain ⟨k, hk, rfl, HOK, hB⟩ := hrel
    by_cases hkn : k < l.length
    · obtain ⟨b1, off, a2, c2, rfl, hb, hsz, d0, d1, hrow⟩ := HL.out.ft hB k hkn
      have HBad : Hid (ftF n (l.getD k Ft.none) = false → foFt l s n ax = false) := foFt_bad1 hkn
      have HXX : Hid (∀ x, l.getD k Ft.none = x → ftF n x = true → ∀ j, j < k + 1 → ftF n (l.getD j Ft.none) = true) := fun x e h j hj => by
        rcases Nat.lt_or_ge j k with h1 | h1
        · exact HOK.out j h1
        · rw [show j = k by omega, e]; exact h
      obtain ⟨x, hx⟩ : ∃ x, l.getD k Ft.none = x := ⟨_, rfl⟩
      have HX2 : Hid (_) := HXX.out x hx
      rw [hx] at d0 d1 hsz hrow HBad
      clear hx HXX HOK
      have HQ : Hid (ftF n x = (gd (sb x.tg) && nlF n x.lk)) := rfl
      obtain ⟨tg, lk⟩ := x
      dsimp only at *
      have i1 : (0 : Int) ≤ (k : Int) := by omega
      have i2 : (k : Int) < (l.length : Int) := by omega
      have hp := fun U => good_any tg U hsz
      obtain ⟨U, hU, XG, hbU⟩ : ∃ U, U = wr.alloc (.cells #[.string tg, .slice a2 lk.length c2] 49) ∧ Bk 49 U wr.heap.size [.string tg, .slice a2 lk.length c2] ∧ Below wr.heap.size wr U := ⟨_, rfl, Bk.new _ _ _, bl1 _⟩
      replace hB := hB.trans (hbU.mono hB.size)
      obtain ⟨y0, y1, -⟩ := XG.two
      have hp2 := cnlF_any S a2 c2 lk n U ((rowF_rep hrow).1.below hbU)
      go_upto_region 6 with fail
      rw [← hU]
      clear hU d0 d1 hbU hrow XG
      cases hq : gd (sb tg) with
      | false =>
        rw [hq] at hp
        have HF : Hid (foFt l s n ax = false) := HBad.out (by rw [HQ.out, hq]; rfl)
        clear HBad HX2 HQ hq hp2
        go_wp2_with fail
        refine (hp _).mono ?_
        rintro e u ⟨rfl, rfl⟩
        clear hp
        go_wp2
        go_ret
        exact ⟨rt_bool HF.out.symm, hB⟩
      | true =>
      rw [hq] at hp HQ
      cases hq2 : nlF n lk with
      | false =>
        rw [hq2] at hp2
        have HF : Hid (foFt l s n ax = false) := HBad.out (by rw [HQ.out, hq2]; rfl)
        clear HBad HX2 HQ hq hq2
        go_wp2_with fail
        refine (hp _).mono ?_
        rintro e u ⟨rfl, rfl⟩
        clear hp
        go_wp2_with fail
        refine hp2.mono ?_
        rintro e u2 ⟨rfl, hb2⟩
        replace hB := hB.trans (hb2.mono hB.size)
        clear hp2 hb2 y0 y1
        go_wp2
        go_ret
        exact ⟨rt_bool HF.out.symm, hB⟩
      | true =>
      rw [hq2] at hp2 HQ
      have HOK2 : Hid (_) := HX2.out (by rw [HQ.out]; rfl)
      clear HBad HX2 HQ hq hq2
      go_wp2_with fail
      refine (hp _).mono ?_
      rintro e u ⟨rfl, rfl⟩
      clear hp
      go_wp2_with fail
      refine hp2.mono ?_
      rintro e u2 ⟨rfl, hb2⟩
      replace hB := hB.trans (hb2.mono hB.size)
      clear hp2 hb2 y0 y1
      go_wp2
      go_roundw
      case rel => exact ⟨k + 1, by omega, by go_num, HOK2, hB⟩
      case measure => simp [intOf]; omega
    have HOL : Hid (∀ j, j < l.length → ftF n (l.getD j Ft.none) = true) := fun j hj => HOK.out j (by omega)
    have HBW : Hid (Below w.heap.size w wr) := hB
    obtain ⟨wq, hwq⟩ : ∃ u, u = wr := ⟨_, rfl⟩
    rw [← hwq] at HBW
    rw [← hwq]
    have g4 : ¬ (k : Int) < (l.length : Int) := by omega
    clear HOK hB hwq
    go_wp2
    go_loopw [41] (fun i wr => ∃ k : Nat, k ≤ s.length ∧ i = .int .i64 k ∧ Hid (∀ j, j < k → swF (l.length : Int) n ax (s.getD j Sw.none) = true) ∧ Below w.heap.size w wr) (fun i _ => s.length - (intOf i).toNat)
    case atStart => exact ⟨0, Nat.zero_le _, rfl, (fun j hj => by omega), HBW.out⟩
    case round =>
      clear HBW
      obtain ⟨k, hk, rfl, HOK, hB⟩ := hrel
      by_cases hkn : k < s.length
      · obtain ⟨b1, off, a1, c1, a2, c2, rfl, hb, hsz, d0, d1, d2, hrow1, hrow2⟩ := HS.out.sw hB k hkn
        have HBad : Hid (swF (l.length : Int) n ax (s.getD k Sw.none) = false → foFt l s n ax = false) := foFt_bad2 hkn
        have HXX : Hid (∀ x, s.getD k Sw.none = x → swF (l.length : Int) n ax x = true → ∀ j, j < k + 1 → swF (l.length : Int) n ax (s.getD j Sw.none) = true) := fun x e h j hj => by
          rcases Nat.lt_or_ge j k with h1 | h1
          · exact HOK.out j h1
          · rw [show j = k by omega, e]; exact h
        obtain ⟨x, hx⟩ : ∃ x, s.getD k Sw.none = x := ⟨_, rfl⟩
        have HX2 : Hid (_) := HXX.out x hx
        rw [hx] at d0 d1 d2 hsz hrow1 hrow2 HBad
        clear hx HXX HOK
        have HQ : Hid (swF (l.length : Int) n ax x = (csF ax x.cn && (nuF x.ft (l.length : Int) && nlF n x.lk))) := swF_eq _ _ _ _
        obtain ⟨cn, ft, lk⟩ := x
        dsimp only at *
        have i1 : (0 : Int) ≤ (k : Int) := by omega
        have i2 : (k : Int) < (s.length : Int) := by omega
        obtain ⟨U, hU, XG, hbU⟩ : ∃ U, U = wr.alloc (.cells #[.slice a1 cn.length c1, .int .i64 ft, .slice a2 lk.length c2] 53) ∧ Bk 53 U wr.heap.size [.slice a1 cn.length c1, .int .i64 ft, .slice a2 lk.length c2] ∧ Below wr.heap.size wr U := ⟨_, rfl, Bk.new _ _ _, bl1 _⟩
        replace hB := hB.trans (hbU.mono hB.size)
        have hp := ccsF_any S a1 c1 cn ax U ((rowF_rep hrow1).1.below hbU)
        have hp2 := fun U => numberOf_any ft (l.length : Int) U
        have HR2 : Hid (Gr El.int S U a2 c2 lk) := (rowF_rep hrow2).1.below hbU
        go_upto_region 12 with fail
        rw [← hU]
        obtain ⟨y0, y1, y2, -⟩ := XG.three
        clear hU d0 d1 d2 hbU hrow1 hrow2
        cases hq : csF ax cn with
        | false =>
          rw [hq] at hp
          have HF : Hid (foFt l s n ax = false) := HBad.out (by rw [HQ.out, hq]; rfl)
          clear HBad HX2 HQ hq hp2 HR2
          go_wp2_with fail
          refine hp.mono ?_
          rintro e u ⟨rfl, hb1⟩
          replace hB := hB.trans (hb1.mono hB.size)
          clear hp hb1 y0 y1 y2
          go_wp2
          go_ret
          exact ⟨rt_bool HF.out.symm, hB⟩
        | true =>
        rw [hq] at hp HQ
        clear hq
        go_wp2_with fail
        refine hp.mono ?_
        rintro e u ⟨rfl, hb1⟩
        replace hB := hB.trans (hb1.mono hB.size)
        replace XG := XG.below hb1
        have hp3 := cnlF_any S a2 c2 lk n u (HR2.out.below hb1)
        clear hp hb1 y0 y1 y2 HR2
        obtain ⟨y0, y1, y2, -⟩ := XG.three
        cases hq2 : nuF ft (l.length : Int) with
        | false =>
          rw [hq2] at hp2
          have HF : Hid (foFt l s n ax = false) := HBad.out (by rw [HQ.out, hq2]; rfl)
          clear HBad HX2 HQ hq2 hp3
          go_wp2_with fail
          refine (hp2 _).mono ?_
          rintro e u2 ⟨rfl, rfl⟩
          clear hp2
          go_wp2
          go_ret
          exact ⟨rt_bool HF.out.symm, hB⟩
        | true =>
        rw [hq2] at hp2 HQ
        cases hq3 : nlF n lk with
        | false =>
          rw [hq3] at hp3
          have HF : Hid (foFt l s n ax = false) := HBad.out (by rw [HQ.out, hq3]; rfl)
          clear HBad HX2 HQ hq2 hq3
          go_wp2_with fail
          refine (hp2 _).mono ?_
          rintro e u2 ⟨rfl, rfl⟩
          clear hp2
          go_wp2_with fail
          refine hp3.mono ?_
          rintro e u3 ⟨rfl, hb3⟩
          replace hB := hB.trans (hb3.mono hB.size)
          clear hp3 hb3 y0 y1 y2
          go_wp2
          go_ret
          exact ⟨rt_bool HF.out.symm, hB⟩
        | true =>
        rw [hq3] at hp3 HQ
        have HOK2 : Hid (_) := HX2.out (by rw [HQ.out]; rfl)
        clear HBad HX2 HQ hq2 hq3
        go_wp2_with fail
        refine (hp2 _).mono ?_
        rintro e u2 ⟨rfl, rfl⟩
        clear hp2
        go_wp2_with fail
        refine hp3.mono ?_
        rintro e u3 ⟨rfl, hb3⟩
        replace hB := hB.trans (hb3.mono hB.size)
        clear hp3 hb3 y0 y1 y2
        go_wp2
        go_roundw
        case rel => exact ⟨k + 1, by omega, by go_num, HOK2, hB⟩
        case measure => simp [intOf]; omega
      · have HF : Hid (foFt l s n ax = true) := foFt_iff.2 ⟨⟨by omega, by omega⟩, HOL.out, fun j hj => HOK.out j (by omega)⟩
        have g5 : ¬ (k : Int) < (s.length : Int) := by omega
        clear HOK HOL
        go_wp2
        go_ret
        exact ⟨rt_bool HF.out.symm, hB⟩

end Go.Proofs.Ytaejlopkdkaphaa

namespace Go.Proofs.Ytaejlopkdkaphaa
open Go.RowKit Go.Maps
set_option linter.unusedSimpArgs false
set_option linter.unusedVariables false

/-- A row of the call's own, or none, and what it holds. -/
structure RowF (zs : List Int) (base : Nat) (w' : World) (e : Ending) : Prop where
  out : ∃ v, e = .returned v ∧ Gi base w' v zs
theorem Gi.lowF {b b2 : Nat} {w : World} {v : Value} {l : List Int} (h : Gi b w v l) (hb : b2 ≤ b) : Gi b2 w v l := by
  obtain ⟨vss, hl, ⟨k1, k2⟩, h4⟩ := h
  refine ⟨vss, hl, ⟨k1, ?_⟩, h4⟩
  rcases k2 with k2 | ⟨g, cap, cur, e, hg, r⟩
  · exact .inl k2
  · exact .inr ⟨g, cap, cur, e, Nat.le_trans hb hg, r⟩
theorem RowF.low {zs : List Int} {b b2 : Nat} {w' : World} {e : Ending} (h : RowF zs b w' e) (hb : b2 ≤ b) : RowF zs b2 w' e := by
  obtain ⟨v, e, h⟩ := h.out
  exact ⟨v, e, h.lowF hb⟩
theorem Gr.anyF {S S' : Nat → Prop} {w : World} {a : Option Addr} {cap : Nat} {l : List Int} (h : Gr El.int S w a cap l) : Gr El.int S' w a cap l :=
  ⟨h.1, h.2.1, h.2.2.1, fun i hi => by
    obtain ⟨b, off, vs, e, hb, hr, hc⟩ := h.2.2.2 i hi
    exact ⟨b, off, vs, e, hb, El.int_rep.2 (El.int_rep.1 hr), hc⟩⟩

set_option maxHeartbeats 2000000 in
set_option maxRecDepth 100000 in
theorem cloneF_any (S : Nat → Prop) (a : Option Addr) (ca : Nat) (L : List Int) (w : World) (h : Gr El.int S w a ca L) (hl : L.length ≤ 1000) :
    Calls Try.prog 24 #[.slice a L.length ca] w fun e w' => RowF L w.heap.size w' e ∧ Below w.heap.size w w' := by
  cases a with
  | none =>
    have h0 : L = [] := by
      have h1 := h.1
      rw [h.2.2.1 rfl] at h1
      exact List.length_eq_zero_iff.1 (Nat.le_zero.1 h1)
    subst h0
    clear h
    have q22 : ∀ (w : World) (a : Option Addr) (n c n' c' : Nat), (binOp .eql 26 (.slice a n c) (.slice none n' c')).run Try.prog w = .ok (.bool a.isNone) w := fun w a n c n' c' => Lib.run_eql_slice_nil w _ _ a n c n' c' Try.underlying26
    go_enter Try.func24, Try.ntmps24
    go_wp2
    go_ret
    exact ⟨⟨_, rfl, Gi.nil _ _⟩, Below.refl _ _⟩
  | some ad =>
    have q22 : ∀ (w : World) (a : Option Addr) (n c n' c' : Nat), (binOp .eql 26 (.slice a n c) (.slice none n' c')).run Try.prog w = .ok (.bool a.isNone) w := fun w a n c n' c' => Lib.run_eql_slice_nil w _ _ a n c n' c' Try.underlying26
    have hN0 : Gi w.heap.size (w.alloc (.cells #[] 3)) (.slice (some ⟨w.heap.size, 0, none⟩) 0 0) [] := Gw.made (World.ownsRow_made w #[] 0 (Nat.le_refl _) (Nat.zero_le _) rfl)
    have HL : Hid (Gr El.int (fun k => False ∧ (Value.slice (some ⟨w.heap.size, 0, none⟩) 0 0).ownBlock ≠ some k) (w.alloc (.cells #[] 3)) (some ad) ca L) := (h.below (bl1 _)).anyF
    have kl := h.lenB
    have hll : ([] : List Int).length + L.length ≤ 1000000 := by simp; omega
    have hW := (bl1 (w := w) (.cells #[] 3)).size
    clear h
    go_enter Try.func24, Try.ntmps24
    go_wp2_with (at_builtin; refine wpList_append_el 26 3 Try.underlying26 info_i64F rfl (by decide) (by decide) rfl _ _ rfl w.heap.size (fun _ => False) _ [] rfl hN0 _ _ _ L rfl rfl HL.out hll hW ?_)
    intro v1 w1 hT1 hgrow _
    have hB1 : Below w.heap.size w w1 := (bl1 _).grown hgrow hW (fun k hk => by simp [Value.ownBlock] at hk; omega)
    have HV : Hid (RowF L w.heap.size w1 (.returned v1)) := ⟨_, rfl, hT1⟩
    clear hgrow hT1 hll hW hN0
    go_wp2
    go_ret
    exact ⟨HV.out, hB1⟩

theorem hoC_eq {cs : List Int} {c : Cn} (h : 0 ≤ c.ax) : hoC cs c = (decide (c.ls ≤ cs.getD c.ax.toNat 0) && decide (cs.getD c.ax.toNat 0 ≤ c.ms)) := by unfold hoC; rw [decide_eq_true h]; rfl

set_option maxHeartbeats 2000000 in
set_option maxRecDepth 100000 in
theorem holdF_any (S : Nat → Prop) (x : Cn) (a : Option Addr) (ca : Nat) (cs : List Int) (w : World) (hx : CnW x) (hc : Gr El.int S w a ca cs) :
    Calls Try.prog 54 #[.agg #[.int .i64 x.ax, .int .i64 x.ls, .int .i64 x.ms], .slice a cs.length ca] w fun e w' => e = .returned (.bool (hoC cs x)) ∧ Below w.heap.size w w' := by
  have kc := hc.lenB
  obtain ⟨m1, m2, m3⟩ := hx
  obtain ⟨W, hW, X1, hbW⟩ : ∃ W, W = w.alloc (.cells #[.int .i64 x.ax, .int .i64 x.ls, .int .i64 x.ms] 46) ∧ Bk 46 W w.heap.size [.int .i64 x.ax, .int .i64 x.ls, .int .i64 x.ms] ∧ Below w.heap.size w W := ⟨_, rfl, Bk.new _ _ _, bl1 _⟩
  have HC : Hid (Gr El.int S W a ca cs) := hc.below hbW
  have HB : Hid (Below w.heap.size w W) := hbW
  obtain ⟨y0, y1, y2, -⟩ := X1.three
  have HNO : Hid (¬ 0 ≤ x.ax → hoC cs x = false) := fun h => by show _ = _; unfold hoC; rw [decide_eq_false h]; rfl
  have HEQ : Hid (0 ≤ x.ax → hoC cs x = (decide (x.ls ≤ cs.getD x.ax.toNat 0) && decide (cs.getD x.ax.toNat 0 ≤ x.ms))) := hoC_eq
  clear hc hbW X1
  by_cases h0 : 0 ≤ x.ax
  rotate_left
  · have HF : Hid (hoC cs x = false) := HNO.out h0
    have g0 : x.ax < 0 := by omega
    clear HNO HEQ h0
    go_enter Try.func54, Try.ntmps54
    go_upto_region 1 with fail
    rw [← hW]
    clear hW
    go_wp2
    go_ret
    exact ⟨rt_bool HF.out.symm, HB.out⟩
  have HE : Hid (_) := HEQ.out h0
  clear HNO HEQ
  obtain ⟨x1, x2, x3⟩ := x
  dsimp only at *
  obtain ⟨k, rfl⟩ : ∃ k : Nat, x1 = (k : Int) := ⟨x1.toNat, by omega⟩
  rw [Int.toNat_natCast] at HE
  have g0 : ¬ (k : Int) < 0 := by omega
  by_cases hk : k < cs.length
  · obtain ⟨b, off, rfl, hb, hI, d0⟩ := HC.out.in1 (Below.refl _ _) k hk
    have g1 : (k : Int) < (cs.length : Int) := by omega
    obtain ⟨z, hz⟩ : ∃ z, cs.getD k 0 = z := ⟨_, rfl⟩
    rw [hz] at d0 HE
    have i1 : (0 : Int) ≤ (k : Int) := by omega
    clear hz hI
    by_cases h1 : x2 ≤ z
    · by_cases h2 : z ≤ x3
      · rw [decide_eq_true h1, decide_eq_true h2] at HE
        go_enter Try.func54, Try.ntmps54
        go_upto_region 1 with fail
        rw [← hW]
        clear hW
        go_wp2
        go_ret
        exact ⟨rt_bool HE.out.symm, HB.out⟩
      · rw [decide_eq_true h1, decide_eq_false h2] at HE
        go_enter Try.func54, Try.ntmps54
        go_upto_region 1 with fail
        rw [← hW]
        clear hW
        go_wp2
        go_ret
        exact ⟨rt_bool HE.out.symm, HB.out⟩
    · rw [decide_eq_false h1] at HE
      go_enter Try.func54, Try.ntmps54
      go_upto_region 1 with fail
      rw [← hW]
      clear hW
      go_wp2
      go_ret
      exact ⟨rt_bool HE.out.symm, HB.out⟩
  · have g1 : ¬ (k : Int) < (cs.length : Int) := by omega
    have hz : cs.getD k 0 = 0 := by rw [List.getD_eq_getElem?_getD, List.getElem?_eq_none (by omega)]; rfl
    rw [hz] at HE
    by_cases h1 : x2 ≤ 0
    · by_cases h2 : 0 ≤ x3
      · rw [decide_eq_true h1, decide_eq_true h2] at HE
        go_enter Try.func54, Try.ntmps54
        go_upto_region 1 with fail
        rw [← hW]
        clear hW
        go_wp2
        go_ret
        exact ⟨rt_bool HE.out.symm, HB.out⟩
      · rw [decide_eq_true h1, decide_eq_false h2] at HE
        go_enter Try.func54, Try.ntmps54
        go_upto_region 1 with fail
        rw [← hW]
        clear hW
        go_wp2
        go_ret
        exact ⟨rt_bool HE.out.symm, HB.out⟩
    · rw [decide_eq_false h1] at HE
      go_enter Try.func54, Try.ntmps54
      go_upto_region 1 with fail
      rw [← hW]
      clear hW
      go_wp2
      go_ret
      exact ⟨rt_bool HE.out.symm, HB.out⟩

set_option maxHeartbeats 2000000 in
set_option maxRecDepth 100000 in
theorem holdsF_any (S S2 : Nat → Prop) (b : Option Addr) (cb : Nat) (l : List Cn) (a : Option Addr) (ca : Nat) (cs : List Int) (w : World) (hl : Gr CnE S w b cb l) (hc : Gr El.int S2 w a ca cs) :
    Calls Try.prog 21 #[.slice b l.length cb, .slice a cs.length ca] w fun e w' => e = .returned (.bool (hoB cs l)) ∧ Below w.heap.size w w' := by
  have kl := hl.lenB
  have HL : Hid (Gr CnE S w b cb l) := hl
  have HC : Hid (Gr El.int S2 w a ca cs) := hc
  clear hl hc
  go_enter Try.func21, Try.ntmps21
  go_wp2
  go_loopw [9] (fun i wr => ∃ k : Nat, k ≤ l.length ∧ i = .int .i64 k ∧ Hid (∀ j, j < k → hoC cs (l.getD j Cn.none) = true) ∧ Below w.heap.size w wr) (fun i _ => l.length - (intOf i).toNat)
  case atStart => exact ⟨0, Nat.zero_le _, rfl, (fun j hj => by omega), Below.refl _ _⟩
  case round =>
    obtain ⟨k, hk, rfl, HOK, hB⟩ := hrel
    by_cases hkn : k < l.length
    · obtain ⟨b1, off, rfl, hb, hW, d0, d1, d2⟩ := HL.out.cn hB k hkn
      have HBad : Hid (hoC cs (l.getD k Cn.none) = false → hoB cs l = false) := hoB_no hkn
      have HXX : Hid (∀ x, l.getD k Cn.none = x → hoC cs x = true → ∀ j, j < k + 1 → hoC cs (l.getD j Cn.none) = true) := fun x e h j hj => by
        rcases Nat.lt_or_ge j k with h1 | h1
        · exact HOK.out j h1
        · rw [show j = k by omega, e]; exact h
      obtain ⟨x, hx⟩ : ∃ x, l.getD k Cn.none = x := ⟨_, rfl⟩
      have HX2 : Hid (_) := HXX.out x hx
      rw [hx] at d0 d1 d2 hW HBad
      clear hx HXX HOK
      have i1 : (0 : Int) ≤ (k : Int) := by omega
      have i2 : (k : Int) < (l.length : Int) := by omega
      obtain ⟨U, hU, XG, hbU⟩ : ∃ U, U = wr.alloc (.cells #[.int .i64 x.ax, .int .i64 x.ls, .int .i64 x.ms] 46) ∧ Bk 46 U wr.heap.size [.int .i64 x.ax, .int .i64 x.ls, .int .i64 x.ms] ∧ Below wr.heap.size wr U := ⟨_, rfl, Bk.new _ _ _, bl1 _⟩
      replace hB := hB.trans (hbU.mono hB.size)
      have hp := holdF_any S2 x a ca cs U hW (HC.out.below hB)
      obtain ⟨y0, y1, y2, -⟩ := XG.three
      obtain ⟨x1, x2, x3⟩ := x
      dsimp only at *
      go_upto_region 4 with fail
      rw [← hU]
      clear hU d0 d1 d2 hbU XG
      cases hq : hoC cs ⟨x1, x2, x3⟩ with
      | false =>
        rw [hq] at hp
        have HF : Hid (hoB cs l = false) := HBad.out hq
        clear HBad HX2 hq
        go_wp2_with fail
        refine hp.mono ?_
        rintro e u ⟨rfl, hb2⟩
        replace hB := hB.trans (hb2.mono hB.size)
        clear hp hb2 y0 y1 y2
        go_wp2
        go_ret
        exact ⟨rt_bool HF.out.symm, hB⟩
      | true =>
        rw [hq] at hp
        have HOK2 : Hid (_) := HX2.out hq
        clear HBad HX2 hq
        go_wp2_with fail
        refine hp.mono ?_
        rintro e u ⟨rfl, hb2⟩
        replace hB := hB.trans (hb2.mono hB.size)
        clear hp hb2 y0 y1 y2
        go_wp2
        go_roundw
        case rel => exact ⟨k + 1, by omega, by go_num, HOK2, hB⟩
        case measure => simp [intOf]; omega
    · have HF : Hid (hoB cs l = true) := hoB_iff.2 (fun j hj => HOK.out j (by omega))
      have g4 : ¬ (k : Int) < (l.length : Int) := by omega
      clear HOK
      go_wp2
      go_ret
      exact ⟨rt_bool HF.out.symm, hB⟩

set_option maxHeartbeats 4000000 in
set_option maxRecDepth 100000 in
theorem looksF_any (S : Nat → Prop) (a : Option Addr) (ca : Nat) (l : List Ft) (b : Option Addr) (cb : Nat) (sw : List Sw) (n : Int) (c : Option Addr) (cc : Nat) (cs : List Int) (w : World) (hl : Gr FtE S w a ca l) (hs : Gr SwE S w b cb sw) (hc : Gr El.int S w c cc cs) (hn : I64 n) (hb1 : ∀ f ∈ l, f.lk.length ≤ 1000) (hb2 : ∀ x ∈ sw, x.lk.length ≤ 1000) :
    Calls Try.prog 11 #[.slice a l.length ca, .slice b sw.length cb, .int .i64 n, .slice c cs.length cc] w fun e w' => RowF (lkQ l sw n cs) w.heap.size w' e ∧ Below w.heap.size w w' := by
  have kl := hl.lenB
  have ks := hs.lenB
  have HL : Hid (Gr FtE S w a ca l) := hl
  have HS : Hid (Gr SwE S w b cb sw) := hs
  have HC : Hid (Gr El.int S w c cc cs) := hc
  have HB1 : Hid (∀ f ∈ l, f.lk.length ≤ 1000) := hb1
  have HB2 : Hid (∀ x ∈ sw, x.lk.length ≤ 1000) := hb2
  clear hl hs hc hb1 hb2
  have hp := fun U => numberOf_any n (l.length : Int) U
  cases hq : nuF n (l.length : Int) with
  | false =>
    rw [hq] at hp
    have HV : Hid (RowF (lkQ l sw n cs) w.heap.size w (.returned (.slice none 0 0))) := ⟨_, rfl, by rw [lkQ_out (nuF_no hq)]; exact Gi.nil _ _⟩
    clear hq
    go_enter Try.func11, Try.ntmps11
    go_wp2_with fail
    refine (hp _).mono ?_
    rintro e u ⟨rfl, rfl⟩
    clear hp
    go_wp2
    go_ret
    exact ⟨HV.out, Below.refl _ _⟩
  | true =>
  rw [hq] at hp
  have hn2 := nuF_iff.1 hq
  obtain ⟨m, rfl⟩ : ∃ m : Nat, n = (m : Int) := ⟨n.toNat, by omega⟩
  have HOWN : Hid (fsS cs (m : Int) sw = none → lkQ l sw (m : Int) cs = (l.getD m Ft.none).lk) := fun h => lkQ_own hn2 h
  have HSW : Hid (∀ x, fsS cs (m : Int) sw = some x → lkQ l sw (m : Int) cs = x) := fun x h => lkQ_sw hn2 h
  have hml : m < l.length := by omega
  clear hq
  go_enter Try.func11, Try.ntmps11
  go_wp2_with fail
  refine (hp _).mono ?_
  rintro e u ⟨rfl, rfl⟩
  clear hp
  go_wp2
  go_loopw [18] (fun i wr => ∃ k : Nat, k ≤ sw.length ∧ i = .int .i64 k ∧ Hid (fsS cs (m : Int) sw = fsS cs (m : Int) (sw.drop k)) ∧ Below w.heap.size w wr) (fun i _ => sw.length - (intOf i).toNat)
  case atStart => exact ⟨0, Nat.zero_le _, rfl, (rfl : fsS cs (m : Int) sw = _), Below.refl _ _⟩
  case round =>
    obtain ⟨k, hk, rfl, HOK, hB⟩ := hrel
    by_cases hkn : k < sw.length
    · obtain ⟨b1, off, a1, c1, a2, c2, rfl, hb, hI, d0, d1, d2, hr1, hr2⟩ := HS.out.sw hB k hkn
      have HSK : Hid (¬ ((sw.getD k Sw.none).ft = (m : Int) ∧ hoB cs (sw.getD k Sw.none).cn = true) → fsS cs (m : Int) sw = fsS cs (m : Int) (sw.drop (k + 1))) := fun h => HOK.out.trans (fsS_skip hkn h)
      have HMT : Hid ((sw.getD k Sw.none).ft = (m : Int) ∧ hoB cs (sw.getD k Sw.none).cn = true → lkQ l sw (m : Int) cs = (sw.getD k Sw.none).lk) := fun h => HSW.out _ (HOK.out.trans (fsS_met hkn h))
      have hln := HB2.out _ (getF_mem (d := Sw.none) hkn)
      generalize sw.getD k Sw.none = x at *
      obtain ⟨cn, ft, lk⟩ := x
      dsimp only at *
      clear HOK
      have i1 : (0 : Int) ≤ (k : Int) := by omega
      have i2 : (k : Int) < (sw.length : Int) := by omega
      obtain ⟨U, hU, XG, hbU⟩ : ∃ U, U = wr.alloc (.cells #[.slice a1 cn.length c1, .int .i64 ft, .slice a2 lk.length c2] 53) ∧ Bk 53 U wr.heap.size [.slice a1 cn.length c1, .int .i64 ft, .slice a2 lk.length c2] ∧ Below wr.heap.size wr U := ⟨_, rfl, Bk.new _ _ _, bl1 _⟩
      replace hB := hB.trans (hbU.mono hB.size)
      obtain ⟨y0, y1, y2, -⟩ := XG.three
      have hp := holdsF_any S S a1 c1 cn c cc cs U ((rowF_rep hr1).1.below hbU) (HC.out.below hB)
      have HR2 : Hid (Gr El.int S U a2 c2 lk) := (rowF_rep hr2).1.below hbU
      go_upto_region 6 with fail
      rw [← hU]
      clear hU d0 d1 d2 hbU hr1 hr2
      by_cases hft : ft = (m : Int)
      rotate_left
      · have g0 : (ft == (m : Int)) = false := beq_eq_false_iff_ne.2 hft
        have HOK2 : Hid (_) := HSK.out (fun h => hft h.1)
        clear HSK HMT hp HR2 hft
        go_wp2
        go_roundw
        case rel => exact ⟨k + 1, by omega, by go_num, HOK2, hB⟩
        case measure => simp [intOf]; omega
      have g0 : (ft == (m : Int)) = true := beq_iff_eq.2 hft
      cases hh : hoB cs cn with
      | false =>
        rw [hh] at hp
        have HOK2 : Hid (_) := HSK.out (fun h => by rw [hh] at h; cases h.2)
        clear HSK HMT HR2 hh hft
        go_wp2_with fail
        refine hp.mono ?_
        rintro e u ⟨rfl, hb3⟩
        replace hB := hB.trans (hb3.mono hB.size)
        clear hp hb3 y0 y1 y2
        go_wp2
        go_roundw
        case rel => exact ⟨k + 1, by omega, by go_num, HOK2, hB⟩
        case measure => simp [intOf]; omega
      | true =>
        rw [hh] at hp
        have HE : Hid (lkQ l sw (m : Int) cs = lk) := HMT.out ⟨hft, hh⟩
        clear HSK HMT hh hft
        go_wp2_with fail
        refine hp.mono ?_
        rintro e u ⟨rfl, hb3⟩
        replace hB := hB.trans (hb3.mono hB.size)
        replace XG := XG.below hb3
        have hcl := cloneF_any S a2 c2 lk u (HR2.out.below hb3) hln
        clear hp hb3 y0 y1 y2 HR2
        obtain ⟨y0, y1, y2, -⟩ := XG.three
        go_wp2_with fail
        refine hcl.mono ?_
        rintro e u2 ⟨hrow, hb4⟩
        obtain ⟨v, rfl, hG⟩ := hrow.out
        have HV : Hid (RowF (lkQ l sw (m : Int) cs) w.heap.size u2 (.returned v)) := ⟨v, rfl, by rw [HE.out]; exact hG.lowF hB.size⟩
        replace hB := hB.trans (hb4.mono hB.size)
        clear hcl hb4 hrow hG y0 y1 y2
        go_wp2
        go_ret
        exact ⟨HV.out, hB⟩
    · have hks : k = sw.length := by omega
      have HE : Hid (lkQ l sw (m : Int) cs = (l.getD m Ft.none).lk) := HOWN.out (by rw [HOK.out, hks]; exact fsS_end)
      have g4 : ¬ (k : Int) < (sw.length : Int) := by omega
      obtain ⟨b1, off, a1, c1, rfl, hb, hsz, d0, d1, hr⟩ := HL.out.ft hB m hml
      have hln := HB1.out _ (getF_mem (d := Ft.none) hml)
      generalize l.getD m Ft.none = x at *
      obtain ⟨tg, lk⟩ := x
      dsimp only at *
      have i1 : (0 : Int) ≤ (m : Int) := by omega
      have i2 : (m : Int) < (l.length : Int) := by omega
      have hcl := cloneF_any S a1 c1 lk wr (rowF_rep hr).1 hln
      clear HOK hks hr HOWN HSW
      go_wp2_with fail
      refine hcl.mono ?_
      rintro e u2 ⟨hrow, hb4⟩
      obtain ⟨v, rfl, hG⟩ := hrow.out
      have HV : Hid (RowF (lkQ l sw (m : Int) cs) w.heap.size u2 (.returned v)) := ⟨v, rfl, by rw [HE.out]; exact hG.lowF hB.size⟩
      replace hB := hB.trans (hb4.mono hB.size)
      clear hcl hb4 hrow hG d0 d1
      go_wp2
      go_ret
      exact ⟨HV.out, hB⟩

end Go.Proofs.Ytaejlopkdkaphaa

namespace Go.Proofs
open Go.Shelf
def Try.keysK_ren : Go.Shelf.Ren := ⟨fun | 7 => 28 | 10 => 58 | n => n, fun | 23 => 55 | 26 => 3 | 3 => 57 | 28 => 60 | 0 => 0 | 27 => 59 | 33 => 95 | 4 => 4 | n => n, fun | n => n⟩
theorem Try.keysK : Go.Proofs.SlLaysZI.n7 Try.prog Try.keysK_ren := {
  mixed := by kernel_rfl
  f7 := ⟨Try.f28.name, by decide, Try.func28.trans (congrArg some (by kernel_rfl))⟩
  f10 := ⟨Try.f58.name, by decide, Try.func58.trans (congrArg some (by kernel_rfl))⟩
  t0 := Try.underlying0
  a0 := Try.isAgg0
  z0 := Try.sizeOf0
  v0 := Try.zeroValue0
  t4 := Try.underlying4
  a4 := Try.isAgg4
  z4 := Try.sizeOf4
  v4 := Try.zeroValue4
  t23 := Try.underlying55
  a23 := Try.isAgg55
  z23 := Try.sizeOf55
  v23 := Try.zeroValue55
  t26 := Try.underlying3
  a26 := Try.isAgg3
  z26 := Try.sizeOf3
  v26 := Try.zeroValue3
  t27 := Try.underlying59
  a27 := Try.isAgg59
  z27 := Try.sizeOf59
  v27 := Try.zeroValue59
  t28 := Try.underlying60
  a28 := Try.isAgg60
  z28 := Try.sizeOf60
  v28 := Try.zeroValue60
  t33 := Try.underlying95
  a33 := Try.isAgg95
  z33 := Try.sizeOf95
  v33 := Try.zeroValue95 }
def Try.sortedK_ren : Go.Shelf.Ren := ⟨fun | 6 => 27 | 8 => 56 | 9 => 57 | 11 => 76 | 13 => 78 | 12 => 77 | 23 => 94 | 24 => 95 | 14 => 85 | 15 => 86 | 16 => 87 | 17 => 88 | 18 => 89 | 19 => 90 | 20 => 91 | 21 => 92 | 22 => 93 | 25 => 98 | 26 => 99 | 27 => 100 | 28 => 101 | 29 => 102 | 30 => 103 | 31 => 104 | n => n, fun | 26 => 3 | 28 => 60 | 24 => 26 | 0 => 0 | 3 => 3 | 37 => 100 | 48 => 122 | 50 => 124 | 4 => 4 | 40 => 116 | 39 => 115 | 45 => 86 | 5 => 5 | 9 => 9 | 51 => 125 | 55 => 129 | 57 => 132 | 58 => 133 | 33 => 95 | n => n, fun | n => n⟩
theorem Try.sortedK : Go.Proofs.SlLaysZI.n6 Try.prog Try.sortedK_ren := {
  mixed := by kernel_rfl
  f6 := ⟨Try.f27.name, by decide, Try.func27.trans (congrArg some (by kernel_rfl))⟩
  f8 := ⟨Try.f56.name, by decide, Try.func56.trans (congrArg some (by kernel_rfl))⟩
  f11 := ⟨Try.f76.name, by decide, Try.func76.trans (congrArg some (by kernel_rfl))⟩
  t0 := Try.underlying0
  a0 := Try.isAgg0
  z0 := Try.sizeOf0
  v0 := Try.zeroValue0
  t24 := Try.underlying26
  a24 := Try.isAgg26
  z24 := Try.sizeOf26
  v24 := Try.zeroValue26
  t26 := Try.underlying3
  a26 := Try.isAgg3
  z26 := Try.sizeOf3
  v26 := Try.zeroValue3
  t28 := Try.underlying60
  a28 := Try.isAgg60
  z28 := Try.sizeOf60
  v28 := Try.zeroValue60
  i26 := by kernel_rfl }
def Try.sortK_ren : Go.Shelf.Ren := ⟨fun | 5 => 57 | 8 => 78 | 7 => 77 | 19 => 94 | 20 => 95 | 10 => 85 | 11 => 86 | 12 => 87 | 13 => 88 | 14 => 89 | 15 => 90 | 16 => 91 | 17 => 92 | 18 => 93 | 30 => 98 | 31 => 99 | 32 => 100 | 33 => 101 | 34 => 102 | 35 => 103 | 40 => 104 | n => n, fun | 23 => 26 | 25 => 3 | 3 => 3 | 32 => 100 | 22 => 26 | 0 => 0 | 44 => 122 | 46 => 124 | 4 => 4 | 36 => 116 | 35 => 115 | 41 => 86 | 5 => 5 | 9 => 9 | 53 => 125 | 57 => 129 | 63 => 132 | 64 => 133 | n => n, fun | n => n⟩
theorem Try.sortK : Go.Proofs.SlLaysM.n5 Try.prog Try.sortK_ren := {
  mixed := by kernel_rfl
  f5 := ⟨Try.f57.name, by decide, Try.func57.trans (congrArg some (by kernel_rfl))⟩
  f7 := ⟨Try.f77.name, by decide, Try.func77.trans (congrArg some (by kernel_rfl))⟩
  f8 := Try.func78.trans (congrArg some (by kernel_rfl))
  f10 := ⟨Try.f85.name, by decide, Try.func85.trans (congrArg some (by kernel_rfl))⟩
  f11 := ⟨Try.f86.name, by decide, Try.func86.trans (congrArg some (by kernel_rfl))⟩
  f12 := ⟨Try.f87.name, by decide, Try.func87.trans (congrArg some (by kernel_rfl))⟩
  f13 := ⟨Try.f88.name, by decide, Try.func88.trans (congrArg some (by kernel_rfl))⟩
  f14 := ⟨Try.f89.name, by decide, Try.func89.trans (congrArg some (by kernel_rfl))⟩
  f15 := ⟨Try.f90.name, by decide, Try.func90.trans (congrArg some (by kernel_rfl))⟩
  f16 := ⟨Try.f91.name, by decide, Try.func91.trans (congrArg some (by kernel_rfl))⟩
  f17 := ⟨Try.f92.name, by decide, Try.func92.trans (congrArg some (by kernel_rfl))⟩
  f18 := ⟨Try.f93.name, by decide, Try.func93.trans (congrArg some (by kernel_rfl))⟩
  f19 := Try.func94.trans (congrArg some (by kernel_rfl))
  f20 := Try.func95.trans (congrArg some (by kernel_rfl))
  f30 := ⟨Try.f98.name, by decide, Try.func98.trans (congrArg some (by kernel_rfl))⟩
  f31 := Try.func99.trans (congrArg some (by kernel_rfl))
  f32 := Try.func100.trans (congrArg some (by kernel_rfl))
  f33 := ⟨Try.f101.name, by decide, Try.func101.trans (congrArg some (by kernel_rfl))⟩
  f34 := ⟨Try.f102.name, by decide, Try.func102.trans (congrArg some (by kernel_rfl))⟩
  f35 := ⟨Try.f103.name, by decide, Try.func103.trans (congrArg some (by kernel_rfl))⟩
  f40 := ⟨Try.f104.name, by decide, Try.func104.trans (congrArg some (by kernel_rfl))⟩
  t0 := Try.underlying0
  a0 := Try.isAgg0
  z0 := Try.sizeOf0
  v0 := Try.zeroValue0
  t3 := Try.underlying3
  a3 := Try.isAgg3
  z3 := Try.sizeOf3
  v3 := Try.zeroValue3
  t4 := Try.underlying4
  a4 := Try.isAgg4
  z4 := Try.sizeOf4
  v4 := Try.zeroValue4
  t5 := Try.underlying5
  a5 := Try.isAgg5
  z5 := Try.sizeOf5
  v5 := Try.zeroValue5
  t9 := Try.underlying9
  a9 := Try.isAgg9
  z9 := Try.sizeOf9
  v9 := Try.zeroValue9
  t22 := Try.underlying26
  a22 := Try.isAgg26
  z22 := Try.sizeOf26
  v22 := Try.zeroValue26
  t23 := Try.underlying26
  a23 := Try.isAgg26
  z23 := Try.sizeOf26
  v23 := Try.zeroValue26
  t25 := Try.underlying3
  a25 := Try.isAgg3
  z25 := Try.sizeOf3
  v25 := Try.zeroValue3
  t32 := Try.underlying100
  a32 := Try.isAgg100
  z32 := Try.sizeOf100
  v32 := Try.zeroValue100
  t35 := Try.underlying115
  a35 := Try.isAgg115
  z35 := Try.sizeOf115
  v35 := Try.zeroValue115
  t36 := Try.underlying116
  a36 := Try.isAgg116
  z36 := Try.sizeOf116
  v36 := Try.zeroValue116
  t41 := Try.underlying86
  a41 := Try.isAgg86
  z41 := Try.sizeOf86
  v41 := Try.zeroValue86
  t44 := Try.underlying122
  a44 := Try.isAgg122
  z44 := Try.sizeOf122
  v44 := Try.zeroValue122
  t46 := Try.underlying124
  a46 := Try.isAgg124
  z46 := Try.sizeOf124
  v46 := Try.zeroValue124
  t53 := Try.underlying125
  a53 := Try.isAgg125
  z53 := Try.sizeOf125
  v53 := Try.zeroValue125
  t57 := Try.underlying129
  a57 := Try.isAgg129
  z57 := Try.sizeOf129
  v57 := Try.zeroValue129
  t63 := Try.underlying132
  a63 := Try.isAgg132
  z63 := Try.sizeOf132
  v63 := Try.zeroValue132
  t64 := Try.underlying133
  a64 := Try.isAgg133
  z64 := Try.sizeOf133
  v64 := Try.zeroValue133 }
end Go.Proofs
