/-
  foundrylaw14.TuplesMove: the walk.
-/
import Derived.Test.YtngmcghmniakeaaGreatZM22
import Derived.Test.YtngmcghmniakeaaGreatZM41
import Derived.Test.YtngmcghmniakeaaGreatZM42
import Derived.Test.YtngmcghmniakeaaGreatZM21
import Derived.Test.YtngmcghmniakeaaGreatZM20
set_option maxHeartbeats 8000000
set_option maxRecDepth 100000
set_option linter.unusedSimpArgs false
set_option linter.unusedVariables false
namespace Go.Proofs.YtngmcghmniakeaaGreat
open Go.RowKit Go.Maps
theorem exA_le (f : Pn → Int) (g : Pa → Int) (tl : Tu → List Int) (o : Ol) (l : List Tu) (cs : List Int) : (exA f g tl o l cs).length ≤ 86 := by
 unfold exA
 cases h : foT o l (cs.length : Int) with
 | false =>
  rw [if_neg (by decide)]
  exact Nat.zero_le _
 | true =>
  rw [if_pos rfl, exL_len]
  exact cnt_le (foT_iff.1 h).1
theorem tuplesMove_any (S : Nat → Prop) (a : Option Addr) (ca : Nat) (b : Option Addr) (cb : Nat) (o : Ol) (la : Option Addr) (lc : Nat) (l : List Tu) (ga : Option Addr) (gc : Nat) (cs : List Int) (w : World) (hc : Gr PnE.row S w a ca o.cs) (hp : Gr PaE S w b cb o.ps) (hl : Gr TuE S w la lc l) (hg : Ri w ga gc cs) :
    Calls Tryz.prog 3 #[.agg #[.slice a o.cs.length ca, .slice b o.ps.length cb, .slice la l.length lc], .slice ga cs.length gc] w fun e w' => e = .returned (.bool true) ∧ Below w.heap.size w w' := by
 have kl := hl.lenB
 have kg := hg.lenB
 obtain ⟨W, hW, X1, hbW⟩ : ∃ W, W = w.alloc (.cells #[.slice a o.cs.length ca, .slice b o.ps.length cb, .slice la l.length lc] 28) ∧ Bk 28 W w.heap.size [.slice a o.cs.length ca, .slice b o.ps.length cb, .slice la l.length lc] ∧ Below w.heap.size w W := ⟨_, rfl, Bk.new _ _ _, bl1 _⟩
 obtain ⟨p0, p1, p2, _⟩ := X1.three; replace hc := hc.below hbW; replace hp := hp.below hbW; replace hl := hl.below hbW; replace hg := hg.below hbW
 go_enter Tryz.func3, Tryz.ntmps3
 go_upto_region 1 with fail
 rw [← hW]; clear hW
 go_wp2_with fail
 refine (awake14_any _).mono ?_
 rintro e m1 ⟨rfl, hb1⟩; replace hc := hc.below hb1; replace hp := hp.below hb1; replace hl := hl.below hb1; replace hg := hg.below hb1; replace X1 := X1.below hb1
 replace hbW := hbW.trans (hb1.mono hbW.size)
 clear hb1 p0 p1 p2; obtain ⟨p0, p1, p2, _⟩ := X1.three
 have cf := few14_any S a ca b cb o la lc l ga cs.length gc m1 hc hp hl kg
 cases hq : (fewB o && (fewT l && decide (cs.length ≤ 20))) with
 | false =>
  rw [hq] at cf; clear hq
  go_wp2_with fail
  refine cf.mono ?_
  rintro e m2 ⟨rfl, hb2⟩
  replace hbW := hbW.trans (hb2.mono hbW.size)
  clear hb2 cf
  go_wp2_with fail
  refine (awake14_any _).mono ?_
  rintro e v9 ⟨rfl, hb9⟩
  replace hbW := hbW.trans (hb9.mono hbW.size)
  clear hb9; go_wp2
  go_ret
  exact ⟨rfl, hbW⟩
 | true =>
 rw [hq] at cf; rw [Bool.and_eq_true, Bool.and_eq_true] at hq
 obtain ⟨f1, f2, f3⟩ := fewB_of hq.1
 obtain ⟨f4, f5⟩ := fewT_of hq.2.1
 clear hq
 go_wp2_with fail
 refine cf.mono ?_
 rintro e m2 ⟨rfl, hb2⟩; replace hc := hc.below hb2; replace hp := hp.below hb2; replace hl := hl.below hb2; replace hg := hg.below hb2; replace X1 := X1.below hb2
 replace hbW := hbW.trans (hb2.mono hbW.size)
 clear hb2 cf p0 p1 p2; obtain ⟨p0, p1, p2, _⟩ := X1.three
 obtain ⟨QX, hQX⟩ : ∃ x, exA Pn.x Pa.dx Tu.dx o l cs = x := ⟨_, rfl⟩
 obtain ⟨QY, hQY⟩ : ∃ x, exA Pn.y Pa.dy Tu.dy o l cs = x := ⟨_, rfl⟩
 obtain ⟨E1, hE1⟩ : ∃ x, exE o l cs = x := ⟨_, rfl⟩
 obtain ⟨AO, hAO⟩ : ∃ x, atO o l cs = x := ⟨_, rfl⟩
 obtain ⟨E2, hE2⟩ : ∃ x, atE o l cs = x := ⟨_, rfl⟩
 have HEQ : Hid (exA Pn.x Pa.dx Tu.dx o l cs = QX ∧ exA Pn.y Pa.dy Tu.dy o l cs = QY ∧ exE o l cs = E1) := ⟨hQX, hQY, hE1⟩
 have HAT : Hid (atO o l cs = AO ∧ atE o l cs = E2) := ⟨hAO, hE2⟩
 have HLQ : Hid (QX.length ≤ 86 ∧ QY.length ≤ 86) := ⟨by rw [← hQX]; exact exA_le _ _ _ _ _ _, by rw [← hQY]; exact exA_le _ _ _ _ _ _⟩
 have z1 : (E1 == E1) = true := by simp
 have z2 : (E2 == E2) = true := by simp
 clear hQX hQY hE1 hAO hE2
 have q1 := uexact_any S a ca b cb o S la lc l ga gc cs m2 hc hp hl hg
 rw [HEQ.out.1, HEQ.out.2.1, HEQ.out.2.2] at q1
 go_wp2_with fail
 refine q1.mono ?_
 rintro e m3 ⟨a1, c1, a2, c2, rfl, hr1, hr2, hb⟩; replace hc := hc.below hb; replace hp := hp.below hb; replace hl := hl.below hb; replace hg := hg.below hb; replace X1 := X1.below hb
 replace hbW := hbW.trans (hb.mono hbW.size)
 clear hb p0 p1 p2; obtain ⟨p0, p1, p2, _⟩ := X1.three; clear q1
 have q2 := sexact14_any S a ca b cb o S la lc l ga gc cs m3 hc hp hl hg (by omega) (by omega)
 rw [HEQ.out.1, HEQ.out.2.1, HEQ.out.2.2] at q2
 go_wp2_with fail
 refine q2.mono ?_
 rintro e m4 ⟨a3, c3, a4, c4, rfl, hr3, hr4, hb⟩; replace hc := hc.below hb; replace hp := hp.below hb; replace hl := hl.below hb; replace hg := hg.below hb; replace hr1 := hr1.below hb; replace hr2 := hr2.below hb; replace X1 := X1.below hb
 replace hbW := hbW.trans (hb.mono hbW.size)
 clear hb p0 p1 p2; obtain ⟨p0, p1, p2, _⟩ := X1.three; clear q2
 have q3 := uat_any S a ca b cb o S la lc l ga gc cs m4 hc hp hl hg
 rw [HAT.out.1, HAT.out.2] at q3
 go_wp2_with fail
 refine q3.mono ?_
 rintro e m5 ⟨a5, c5, a6, c6, rfl, hg5, hg6, -, hb⟩; replace hc := hc.below hb; replace hp := hp.below hb; replace hl := hl.below hb; replace hg := hg.below hb; replace hr1 := hr1.below hb; replace hr2 := hr2.below hb; replace hr3 := hr3.below hb; replace hr4 := hr4.below hb; replace X1 := X1.below hb
 replace hbW := hbW.trans (hb.mono hbW.size)
 clear hb p0 p1 p2; obtain ⟨p0, p1, p2, _⟩ := X1.three; clear q3
 obtain ⟨V1, hV1, Y1, hb⟩ : ∃ V, V = m5.alloc (.cells #[.slice a5 AO.cs.length c5, .slice a6 AO.ps.length c6] 25) ∧ Bk 25 V m5.heap.size [.slice a5 AO.cs.length c5, .slice a6 AO.ps.length c6] ∧ Below m5.heap.size m5 V := ⟨_, rfl, Bk.new _ _ _, bl1 _⟩
 go_upto_region 6 with fail
 rw [← hV1]; clear hV1; replace hc := hc.below hb; replace hp := hp.below hb; replace hl := hl.below hb; replace hg := hg.below hb; replace hr1 := hr1.below hb; replace hr2 := hr2.below hb; replace hr3 := hr3.below hb; replace hr4 := hr4.below hb; replace hg5 := hg5.below hb; replace hg6 := hg6.below hb
 replace X1 := X1.below hb
 replace hbW := hbW.trans (hb.mono hbW.size)
 clear hb p0 p1 p2; obtain ⟨p0, p1, p2, _⟩ := X1.three
 have q4 := sat14_any S a ca b cb o S la lc l ga gc cs V1 hc hp hl hg (by omega) (by omega)
 rw [HAT.out.1, HAT.out.2] at q4
 go_wp2_with fail
 refine q4.mono ?_
 rintro e m6 ⟨a7, c7, a8, c8, rfl, hg7, hg8, -, hb⟩; replace hc := hc.below hb; replace hp := hp.below hb; replace hl := hl.below hb; replace hg := hg.below hb; replace hr1 := hr1.below hb; replace hr2 := hr2.below hb; replace hr3 := hr3.below hb; replace hr4 := hr4.below hb; replace hg5 := hg5.below hb
 replace hg6 := hg6.below hb; replace Y1 := Y1.below hb; replace X1 := X1.below hb
 replace hbW := hbW.trans (hb.mono hbW.size)
 clear hb p0 p1 p2; obtain ⟨p0, p1, p2, _⟩ := X1.three; clear q4
 obtain ⟨V2, hV2, Y2, hb⟩ : ∃ V, V = m6.alloc (.cells #[.slice a7 AO.cs.length c7, .slice a8 AO.ps.length c8] 25) ∧ Bk 25 V m6.heap.size [.slice a7 AO.cs.length c7, .slice a8 AO.ps.length c8] ∧ Below m6.heap.size m6 V := ⟨_, rfl, Bk.new _ _ _, bl1 _⟩
 go_upto_region 7 with fail
 rw [← hV2]; clear hV2; replace hc := hc.below hb; replace hp := hp.below hb; replace hl := hl.below hb; replace hg := hg.below hb; replace hr1 := hr1.below hb; replace hr2 := hr2.below hb; replace hr3 := hr3.below hb; replace hr4 := hr4.below hb; replace hg5 := hg5.below hb; replace hg6 := hg6.below hb
 replace Y1 := Y1.below hb; replace hg7 := hg7.below hb; replace hg8 := hg8.below hb; replace X1 := X1.below hb
 replace hbW := hbW.trans (hb.mono hbW.size)
 clear hb p0 p1 p2; obtain ⟨p0, p1, p2, _⟩ := X1.three; clear p0 p1 p2 X1 hc hp hl hg
 go_wp2_with fail
 refine (plain14_any a1 c1 QX _ hr1.1 (by have := HLQ.out; omega)).mono ?_
 rintro e n1 ⟨b1, d1, rfl, hP1, hb⟩; replace hr3 := hr3.below hb; replace hr2 := hr2.below hb; replace hr4 := hr4.below hb; replace hg5 := hg5.below hb; replace hg6 := hg6.below hb; replace hg7 := hg7.below hb; replace hg8 := hg8.below hb; replace Y1 := Y1.below hb; replace Y2 := Y2.below hb
 replace hbW := hbW.trans (hb.mono hbW.size)
 clear hb
 go_wp2_with fail
 refine (ssameR_any 900 900 b1 d1 a3 c3 QX _ hP1.1 hr3.1.1).mono ?_
 rintro e n2 ⟨rfl, hb⟩; replace hr2 := hr2.below hb; replace hr4 := hr4.below hb; replace hg5 := hg5.below hb; replace hg6 := hg6.below hb; replace hg7 := hg7.below hb; replace hg8 := hg8.below hb; replace Y1 := Y1.below hb; replace Y2 := Y2.below hb
 replace hbW := hbW.trans (hb.mono hbW.size)
 clear hb
 go_wp2_with fail
 refine (plain14_any a2 c2 QY _ hr2.1 (by have := HLQ.out; omega)).mono ?_
 rintro e n3 ⟨b2, d2, rfl, hP2, hb⟩; replace hr4 := hr4.below hb; replace hg5 := hg5.below hb; replace hg6 := hg6.below hb; replace hg7 := hg7.below hb; replace hg8 := hg8.below hb; replace Y1 := Y1.below hb; replace Y2 := Y2.below hb
 replace hbW := hbW.trans (hb.mono hbW.size)
 clear hb
 go_wp2_with fail
 refine (ssameR_any 900 900 b2 d2 a4 c4 QY _ hP2.1 hr4.1.1).mono ?_
 rintro e n4 ⟨rfl, hb⟩; replace hg5 := hg5.below hb; replace hg6 := hg6.below hb; replace hg7 := hg7.below hb; replace hg8 := hg8.below hb; replace Y1 := Y1.below hb; replace Y2 := Y2.below hb
 replace hbW := hbW.trans (hb.mono hbW.size)
 clear hb; obtain ⟨s0, s1, _⟩ := Y1.two; obtain ⟨t0, t1, _⟩ := Y2.two
 go_wp2_with fail
 refine (ssameO_any _ _ a5 c5 a6 c6 a7 c7 a8 c8 AO _ hg5 hg6 hg7 hg8).mono ?_
 rintro e n5 ⟨rfl, hb⟩
 replace hbW := hbW.trans (hb.mono hbW.size)
 clear hb; go_wp2
 go_ret
 exact ⟨by first | rfl | simp, hbW⟩
end Go.Proofs.YtngmcghmniakeaaGreat
