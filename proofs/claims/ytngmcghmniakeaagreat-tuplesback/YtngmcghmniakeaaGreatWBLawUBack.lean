/-
  foundrylaw14.TuplesBack: the walk.
-/
import Derived.Test.YtngmcghmniakeaaGreatZB31
import Derived.Test.YtngmcghmniakeaaGreatZB43
namespace Go.Proofs.YtngmcghmniakeaaGreat
open Go.RowKit Go.Maps
set_option linter.unusedSimpArgs false
set_option linter.unusedVariables false

set_option maxHeartbeats 8000000 in
set_option maxRecDepth 100000 in
theorem tuplesBack_any (S : Nat → Prop) (a : Option Addr) (ca : Nat) (b : Option Addr) (cb : Nat) (o : Ol) (la : Option Addr) (lc : Nat) (l : List Tu) (ax : Int) (xa : Option Addr) (xc : Nat) (xs : List Nat) (w : World) (hc : Gr PnE.row S w a ca o.cs) (hp : Gr PaE S w b cb o.ps) (hl : Gr TuE S w la lc l) (hx : Rb w xa xc xs) (hi : -9223372036854775808 ≤ ax ∧ ax ≤ 9223372036854775807) :
    Calls Tryz.prog 5 #[.agg #[.slice a o.cs.length ca, .slice b o.ps.length cb, .slice la l.length lc], .int .i64 ax, .slice xa xs.length xc] w fun e w' => e = .returned (.bool true) ∧ Below w.heap.size w w' := by
  have kl := hl.lenB
  have kx := hx.le
  have kx2 := hx.cap
  unfold maxLen at kx2
  obtain ⟨W, hW, X1, hbW⟩ : ∃ W, W = w.alloc (.cells #[.slice a o.cs.length ca, .slice b o.ps.length cb, .slice la l.length lc] 28) ∧ Bk 28 W w.heap.size [.slice a o.cs.length ca, .slice b o.ps.length cb, .slice la l.length lc] ∧ Below w.heap.size w W := ⟨_, rfl, Bk.new _ _ _, bl1 _⟩
  obtain ⟨p0, p1, p2, _⟩ := X1.three
  replace hc := hc.below hbW
  replace hp := hp.below hbW
  replace hl := hl.below hbW
  replace hx := hx.below hbW
  go_enter Tryz.func5, Tryz.ntmps5
  go_upto_region 1 with fail
  rw [← hW]
  clear hW
  go_wp2_with fail
  refine (awake14_any _).mono ?_
  rintro e m1 ⟨rfl, hb1⟩
  replace hc := hc.below hb1
  replace hp := hp.below hb1
  replace hl := hl.below hb1
  replace hx := hx.below hb1
  replace X1 := X1.below hb1
  replace hbW := hbW.trans (hb1.mono hbW.size)
  clear hb1 p0 p1 p2
  obtain ⟨p0, p1, p2, _⟩ := X1.three
  have cf := few14_any S a ca b cb o la lc l none 0 0 m1 hc hp hl (by omega)
  cases hq : (fewB o && (fewT l && decide (0 ≤ 20))) with
  | false =>
    rw [hq] at cf
    clear hq
    go_wp2_with fail
    refine cf.mono ?_
    rintro e m2 ⟨rfl, hb2⟩
    replace hbW := hbW.trans (hb2.mono hbW.size)
    clear hb2 cf
    go_wp2_with fail
    refine (awake14_any _).mono ?_
    rintro e v9 ⟨rfl, hb9⟩
    replace hbW := hbW.trans (hb9.mono hbW.size)
    clear hb9
    go_wp2
    go_ret
    exact ⟨rfl, hbW⟩
  | true =>
  rw [hq] at cf
  rw [Bool.and_eq_true, Bool.and_eq_true] at hq
  obtain ⟨f1, f2, f3⟩ := fewB_of hq.1
  obtain ⟨f4, f5⟩ := fewT_of hq.2.1
  clear hq
  go_wp2_with fail
  refine cf.mono ?_
  rintro e m2 ⟨rfl, hb2⟩
  replace hc := hc.below hb2
  replace hp := hp.below hb2
  replace hl := hl.below hb2
  replace hx := hx.below hb2
  replace X1 := X1.below hb2
  replace hbW := hbW.trans (hb2.mono hbW.size)
  clear hb2 cf p0 p1 p2
  obtain ⟨p0, p1, p2, _⟩ := X1.three

  by_cases hx4 : xs.length ≤ 4000
  rotate_left
  · have g1 : (4000 : Int) < (xs.length : Int) := by omega
    go_wp2_with fail
    refine (awake14_any _).mono ?_
    rintro e v9 ⟨rfl, hb9⟩
    replace hbW := hbW.trans (hb9.mono hbW.size)
    clear hb9
    go_wp2
    go_ret
    exact ⟨rfl, hbW⟩
  have g1 : ¬ (4000 : Int) < (xs.length : Int) := by omega
  have hwr := uwrite_any S a ca b cb o S la lc l ax m2 hc hp hl hi
  cases hfo : foT o l ax with
  | false =>
    rw [(wrT_no hfo).1, (wrT_no hfo).2] at hwr
    clear hfo
    go_wp2_with fail
    refine hwr.mono ?_
    rintro e m3 ⟨a1, c1, rfl, -, hb⟩
    replace hc := hc.below hb
    replace hp := hp.below hb
    replace hl := hl.below hb
    replace hx := hx.below hb
    replace X1 := X1.below hb
    replace hbW := hbW.trans (hb.mono hbW.size)
    clear hb p0 p1 p2
    obtain ⟨p0, p1, p2, _⟩ := X1.three
    clear hwr g1
    have hrd := uread_any xa xc xs S a ca b cb o ax m3 hx hc hp hi (by omega)
    cases hok : rdTOk xs o ax with
    | false =>
      rw [(rdT_no hok).1, (rdT_no hok).2] at hrd
      clear hok
      go_wp2_with fail
      refine hrd.mono ?_
      rintro e y1 ⟨a5, c5, rfl, -, hb⟩
      replace hbW := hbW.trans (hb.mono hbW.size)
      clear hrd hb
      go_wp2
      go_ret
      exact ⟨rfl, hbW⟩
    | true =>
      obtain ⟨ho1, ho2⟩ := rdT_of hok
      have he0 : rdTE xs o ax = 0 := by unfold rdTE; rw [if_pos hok]
      have h40 := (foT_iff.1 ho1).2.2.1
      rw [he0] at hrd
      have HW2 : Hid (wrTB o (rdTL xs o ax) ax = xs ∧ wrTE o (rdTL xs o ax) ax = 0) := ⟨(wrT_yes ho1).1.trans ho2, (wrT_yes ho1).2⟩
      clear hok ho1 ho2 he0
      obtain ⟨L, hL⟩ : ∃ L, rdTL xs o ax = L := ⟨_, rfl⟩
      rw [hL] at hrd HW2 h40
      clear hL
      go_wp2_with fail
      refine hrd.mono ?_
      rintro e y1 ⟨a5, c5, rfl, hg5, hb⟩
      replace hc := hc.below hb
      replace hp := hp.below hb
      replace hl := hl.below hb
      replace hx := hx.below hb
      replace X1 := X1.below hb
      replace hbW := hbW.trans (hb.mono hbW.size)
      clear hb p0 p1 p2
      obtain ⟨p0, p1, p2, _⟩ := X1.three
      clear hrd
      have hw2 := uwrite_any S a ca b cb o _ a5 c5 L ax y1 hc hp hg5 hi
      rw [HW2.out.1, HW2.out.2] at hw2
      go_wp2_with fail
      refine hw2.mono ?_
      rintro e y2 ⟨a6, c6, rfl, hg6, hb⟩
      have hsm := same8g_any xa a6 xc c6 xs xs y2 (hx.below hb) hg6
      rw [decide_eq_true (rfl : xs = xs)] at hsm
      replace hbW := hbW.trans (hb.mono hbW.size)
      clear hw2 hb p0 p1 p2 X1
      go_wp2_with fail
      refine hsm.mono ?_
      rintro e y3 ⟨rfl, hb⟩
      replace hbW := hbW.trans (hb.mono hbW.size)
      clear hsm hb
      go_wp2
      go_ret
      exact ⟨rfl, hbW⟩
  | true =>
    rw [(wrT_yes hfo).1, (wrT_yes hfo).2] at hwr
    have HBK : Hid (rdTL (tuBt l) o ax = l ∧ rdTE (tuBt l) o ax = 0) := rdT_back hfo
    have HLN : Hid ((tuBt l).length ≤ 33000) := tuBt_le hfo
    clear hfo
    go_wp2_with fail
    refine hwr.mono ?_
    rintro e m3 ⟨a1, c1, rfl, hr1, hb⟩
    replace hc := hc.below hb
    replace hp := hp.below hb
    replace hl := hl.below hb
    replace hx := hx.below hb
    replace X1 := X1.below hb
    replace hbW := hbW.trans (hb.mono hbW.size)
    clear hb p0 p1 p2
    obtain ⟨p0, p1, p2, _⟩ := X1.three
    clear hwr g1
    have hrr := uread_any a1 c1 (tuBt l) S a ca b cb o ax m3 hr1 hc hp hi (by have := HLN.out; omega)
    rw [HBK.out.1, HBK.out.2] at hrr
    have hl1 := hr1.le
    have hl2 := HLN.out
    clear hr1
    go_wp2_with fail
    refine hrr.mono ?_
    rintro e m4 ⟨a2, c2, rfl, hg2, hb⟩
    replace hc := hc.below hb
    replace hp := hp.below hb
    replace hl := hl.below hb
    replace hx := hx.below hb
    replace X1 := X1.below hb
    replace hbW := hbW.trans (hb.mono hbW.size)
    clear hb p0 p1 p2
    obtain ⟨p0, p1, p2, _⟩ := X1.three
    clear hrr
    have hsa := ssameU_any _ S a2 c2 la lc l m4 hg2 hl
    go_wp2_with fail
    refine hsa.mono ?_
    rintro e m5 ⟨rfl, hb⟩
    replace hc := hc.below hb
    replace hp := hp.below hb
    replace hl := hl.below hb
    replace hx := hx.below hb
    replace X1 := X1.below hb
    replace hbW := hbW.trans (hb.mono hbW.size)
    clear hb p0 p1 p2
    obtain ⟨p0, p1, p2, _⟩ := X1.three
    clear hsa hg2 hl1 hl2
    have hrd := uread_any xa xc xs S a ca b cb o ax m5 hx hc hp hi (by omega)
    cases hok : rdTOk xs o ax with
    | false =>
      rw [(rdT_no hok).1, (rdT_no hok).2] at hrd
      clear hok
      go_wp2_with fail
      refine hrd.mono ?_
      rintro e y1 ⟨a5, c5, rfl, -, hb⟩
      replace hbW := hbW.trans (hb.mono hbW.size)
      clear hrd hb
      go_wp2
      go_ret
      exact ⟨rfl, hbW⟩
    | true =>
      obtain ⟨ho1, ho2⟩ := rdT_of hok
      have he0 : rdTE xs o ax = 0 := by unfold rdTE; rw [if_pos hok]
      have h40 := (foT_iff.1 ho1).2.2.1
      rw [he0] at hrd
      have HW2 : Hid (wrTB o (rdTL xs o ax) ax = xs ∧ wrTE o (rdTL xs o ax) ax = 0) := ⟨(wrT_yes ho1).1.trans ho2, (wrT_yes ho1).2⟩
      clear hok ho1 ho2 he0
      obtain ⟨L, hL⟩ : ∃ L, rdTL xs o ax = L := ⟨_, rfl⟩
      rw [hL] at hrd HW2 h40
      clear hL
      go_wp2_with fail
      refine hrd.mono ?_
      rintro e y1 ⟨a5, c5, rfl, hg5, hb⟩
      replace hc := hc.below hb
      replace hp := hp.below hb
      replace hl := hl.below hb
      replace hx := hx.below hb
      replace X1 := X1.below hb
      replace hbW := hbW.trans (hb.mono hbW.size)
      clear hb p0 p1 p2
      obtain ⟨p0, p1, p2, _⟩ := X1.three
      clear hrd
      have hw2 := uwrite_any S a ca b cb o _ a5 c5 L ax y1 hc hp hg5 hi
      rw [HW2.out.1, HW2.out.2] at hw2
      go_wp2_with fail
      refine hw2.mono ?_
      rintro e y2 ⟨a6, c6, rfl, hg6, hb⟩
      have hsm := same8g_any xa a6 xc c6 xs xs y2 (hx.below hb) hg6
      rw [decide_eq_true (rfl : xs = xs)] at hsm
      replace hbW := hbW.trans (hb.mono hbW.size)
      clear hw2 hb p0 p1 p2 X1
      go_wp2_with fail
      refine hsm.mono ?_
      rintro e y3 ⟨rfl, hb⟩
      replace hbW := hbW.trans (hb.mono hbW.size)
      clear hsm hb
      go_wp2
      go_ret
      exact ⟨rfl, hbW⟩

end Go.Proofs.YtngmcghmniakeaaGreat
