/-
  foundrylaw14.TuplesBytes: the walk.
-/
import Derived.Test.YtngmcghmniakeaaGreatZY22
import Derived.Test.YtngmcghmniakeaaGreatZY31
import Derived.Test.YtngmcghmniakeaaGreatZY41
set_option maxHeartbeats 8000000
set_option maxRecDepth 100000
set_option linter.unusedSimpArgs false
set_option linter.unusedVariables false
namespace Go.Proofs.YtngmcghmniakeaaGreat
open Go.RowKit Go.Maps
theorem tuplesBytes_any (S : Nat → Prop) (a : Option Addr) (ca : Nat) (b : Option Addr) (cb : Nat) (o : Ol) (la : Option Addr) (lc : Nat) (l : List Tu) (ax : Int) (xa : Option Addr) (xc : Nat) (xs : List Nat) (w : World) (hc : Gr PnE.row S w a ca o.cs) (hp : Gr PaE S w b cb o.ps) (hl : Gr TuE S w la lc l) (hx : Rb w xa xc xs) (hi : -9223372036854775808 ≤ ax ∧ ax ≤ 9223372036854775807) :
    Calls Tryz.prog 4 #[.agg #[.slice a o.cs.length ca, .slice b o.ps.length cb, .slice la l.length lc], .int .i64 ax, .slice xa xs.length xc] w fun e w' => e = .returned (.bool true) ∧ Below w.heap.size w w' := by
 have kl := hl.lenB
 have kx := hx.le
 have kx2 := hx.cap
 unfold maxLen at kx2
 obtain ⟨W, hW, X1, hbW⟩ : ∃ W, W = w.alloc (.cells #[.slice a o.cs.length ca, .slice b o.ps.length cb, .slice la l.length lc] 28) ∧ Bk 28 W w.heap.size [.slice a o.cs.length ca, .slice b o.ps.length cb, .slice la l.length lc] ∧ Below w.heap.size w W := ⟨_, rfl, Bk.new _ _ _, bl1 _⟩
 obtain ⟨p0, p1, p2, _⟩ := X1.three; replace hc := hc.below hbW; replace hp := hp.below hbW; replace hl := hl.below hbW; replace hx := hx.below hbW
 go_enter Tryz.func4, Tryz.ntmps4
 go_upto_region 1 with fail
 rw [← hW]; clear hW
 go_wp2_with fail
 refine (awake14_any _).mono ?_
 rintro e m1 ⟨rfl, hb1⟩; replace hc := hc.below hb1; replace hp := hp.below hb1; replace hl := hl.below hb1; replace hx := hx.below hb1; replace X1 := X1.below hb1
 replace hbW := hbW.trans (hb1.mono hbW.size)
 clear hb1 p0 p1 p2; obtain ⟨p0, p1, p2, _⟩ := X1.three
 have cf := few14_any S a ca b cb o la lc l none 0 0 m1 hc hp hl (by omega)
 cases hq : (fewB o && (fewT l && decide (0 ≤ 20))) with
 | false =>
  rw [hq] at cf; clear hq
  go_wp2_with fail
  refine cf.mono ?_
  rintro e m2 ⟨rfl, hb2⟩
  replace hbW := hbW.trans (hb2.mono hbW.size)
  clear hb2 cf
  go_wp2_with fail
  refine (awake14_any _).mono ?_
  rintro e v9 ⟨rfl, hb9⟩
  replace hbW := hbW.trans (hb9.mono hbW.size)
  clear hb9; go_wp2
  go_ret
  exact ⟨rfl, hbW⟩
 | true =>
 rw [hq] at cf; rw [Bool.and_eq_true, Bool.and_eq_true] at hq
 obtain ⟨f1, f2, f3⟩ := fewB_of hq.1
 obtain ⟨f4, f5⟩ := fewT_of hq.2.1
 clear hq
 go_wp2_with fail
 refine cf.mono ?_
 rintro e m2 ⟨rfl, hb2⟩; replace hc := hc.below hb2; replace hp := hp.below hb2; replace hl := hl.below hb2; replace hx := hx.below hb2; replace X1 := X1.below hb2
 replace hbW := hbW.trans (hb2.mono hbW.size)
 clear hb2 cf p0 p1 p2; obtain ⟨p0, p1, p2, _⟩ := X1.three
 by_cases hx4 : xs.length ≤ 4000
 rotate_left
 · have g1 : (4000 : Int) < (xs.length : Int) := by omega
   go_wp2_with fail
   refine (awake14_any _).mono ?_
   rintro e v9 ⟨rfl, hb9⟩
   replace hbW := hbW.trans (hb9.mono hbW.size)
   clear hb9; go_wp2
   go_ret
   exact ⟨rfl, hbW⟩
 have g1 : ¬ (4000 : Int) < (xs.length : Int) := by omega
 obtain ⟨B1, hB1⟩ : ∃ x, wrTB o l ax = x := ⟨_, rfl⟩
 obtain ⟨E1, hE1⟩ : ∃ x, wrTE o l ax = x := ⟨_, rfl⟩
 obtain ⟨L1, hL1⟩ : ∃ x, rdTL xs o ax = x := ⟨_, rfl⟩
 obtain ⟨E2, hE2⟩ : ∃ x, rdTE xs o ax = x := ⟨_, rfl⟩
 obtain ⟨F1, hF1⟩ : ∃ x, foT o l ax = x := ⟨_, rfl⟩
 have HW1 : Hid (wrTB o l ax = B1 ∧ wrTE o l ax = E1) := ⟨hB1, hE1⟩
 have HR1 : Hid (rdTL xs o ax = L1 ∧ rdTE xs o ax = E2) := ⟨hL1, hE2⟩
 have HF1 : Hid (foT o l ax = F1) := hF1
 clear hB1 hE1 hL1 hE2 hF1
 have q1 := uwrite_any S a ca b cb o S la lc l ax m2 hc hp hl hi
 rw [HW1.out.1, HW1.out.2] at q1
 go_wp2_with fail
 refine q1.mono ?_
 rintro e m3 ⟨a1, c1, rfl, hr1, hb⟩; replace hc := hc.below hb; replace hp := hp.below hb; replace hl := hl.below hb; replace hx := hx.below hb; replace X1 := X1.below hb
 replace hbW := hbW.trans (hb.mono hbW.size)
 clear hb p0 p1 p2; obtain ⟨p0, p1, p2, _⟩ := X1.three; clear q1
 have q2 := swriteU_any S a ca b cb o S la lc l ax m3 hc hp hl (by omega) (by omega) hi
 rw [HW1.out.1, HW1.out.2] at q2
 go_wp2_with fail
 refine q2.mono ?_
 rintro e m4 ⟨a2, c2, rfl, hr2, hb⟩; replace hc := hc.below hb; replace hp := hp.below hb; replace hl := hl.below hb; replace hx := hx.below hb; replace hr1 := hr1.below hb; replace X1 := X1.below hb
 replace hbW := hbW.trans (hb.mono hbW.size)
 clear hb p0 p1 p2; obtain ⟨p0, p1, p2, _⟩ := X1.three; clear q2
 have q3 := uread_any xa xc xs S a ca b cb o ax m4 hx hc hp hi (by omega)
 rw [HR1.out.1, HR1.out.2] at q3
 go_wp2_with fail
 refine q3.mono ?_
 rintro e m5 ⟨a3, c3, rfl, hg3, hb⟩; replace hc := hc.below hb; replace hp := hp.below hb; replace hl := hl.below hb; replace hx := hx.below hb; replace hr1 := hr1.below hb; replace hr2 := hr2.below hb; replace X1 := X1.below hb
 replace hbW := hbW.trans (hb.mono hbW.size)
 clear hb p0 p1 p2; obtain ⟨p0, p1, p2, _⟩ := X1.three; clear q3
 have q4 := sreadU_any xa xc xs S a ca b cb o ax m5 hx hc hp (by omega) (by omega) hi (by omega)
 rw [HR1.out.1, HR1.out.2] at q4
 go_wp2_with fail
 refine q4.mono ?_
 rintro e m6 ⟨a4, c4, rfl, hg4, hb⟩; replace hc := hc.below hb; replace hp := hp.below hb; replace hl := hl.below hb; replace hx := hx.below hb; replace hr1 := hr1.below hb; replace hr2 := hr2.below hb; replace hg3 := hg3.below hb; replace X1 := X1.below hb
 replace hbW := hbW.trans (hb.mono hbW.size)
 clear hb p0 p1 p2; obtain ⟨p0, p1, p2, _⟩ := X1.three; clear q4
 have t1 := fun U (k1 : Rb U a1 c1 B1) (k2 : Rb U a2 c2 B1) => same8g_any a1 a2 c1 c2 B1 B1 U k1 k2
 simp only [decide_true] at t1
 have t2 := fun U (k1 : Gr TuE (fun _ => True) U a3 c3 L1) (k2 : Gr TuE (fun _ => True) U a4 c4 L1) => ssameU_any _ _ a3 c3 a4 c4 L1 U k1 k2
 have t3 := fun U (k1 : Gr PnE.row S U a ca o.cs) (k2 : Gr PaE S U b cb o.ps) (k3 : Gr TuE S U la lc l) => cformU_any S a ca b cb o S la lc l ax U k1 k2 k3 hi
 have t4 := fun U (k1 : Gr PnE.row S U a ca o.cs) (k2 : Gr PaE S U b cb o.ps) (k3 : Gr TuE S U la lc l) => sformU_any S a ca b cb o S la lc l ax U k1 k2 k3 (by omega) (by omega) hi
 simp only [HF1.out] at t3 t4
 have z1 : (E1 == E1) = true := by simp
 have z2 : (E2 == E2) = true := by simp
 have z3 : (F1 == F1) = true := by simp
 go_upto_region 7 with fail
 refine wp_region_held_drew (S := (fun u => u.cell? ⟨w.heap.size, 0, none⟩ = some (.slice a o.cs.length ca) ∧ u.cell? ⟨w.heap.size, 1, none⟩ = some (.slice b o.ps.length cb) ∧ u.cell? ⟨w.heap.size, 2, none⟩ = some (.slice la l.length lc))) (by kernel_rfl) ?_ (fun hHeld => ?_)
 · (try dsimp only)
   go_keep
 have hb : Below m6.heap.size m6 m6.drew := Below.drew1
 generalize m6.drew = ud at hb hHeld ⊢
 replace hc := hc.below hb; replace hp := hp.below hb; replace hl := hl.below hb; replace hx := hx.below hb; replace hr1 := hr1.below hb; replace hr2 := hr2.below hb; replace hg3 := hg3.below hb; replace hg4 := hg4.below hb; replace X1 := X1.below hb
 replace hbW := hbW.trans (hb.mono hbW.size)
 clear hb p0 p1 p2; obtain ⟨p0, p1, p2, _⟩ := X1.three; refine hT 0 hHeld ?_; refine hT 1 hHeld ?_; refine hT 2 hHeld ?_; refine hT 3 hHeld ?_; refine hT 4 hHeld ?_; refine hT 5 hHeld ?_
 refine hCall (i := 6) rfl (by kernel_rfl) (by rfl) (fun K hK => ?_)
 go_simp
 refine (t1 _ hr1 hr2).mono ?_
 rintro e y1 ⟨rfl, hb⟩; replace hc := hc.below hb; replace hp := hp.below hb; replace hl := hl.below hb; replace hx := hx.below hb; replace hg3 := hg3.below hb; replace hg4 := hg4.below hb; replace X1 := X1.below hb
 replace hbW := hbW.trans (hb.mono hbW.size)
 clear hb p0 p1 p2; obtain ⟨p0, p1, p2, _⟩ := X1.three
 go_wp2_with fail
 refine hK.out _ _ ?_ (fun hHeld => ?_)
 · (try dsimp only)
   exact ⟨p0, p1, p2⟩
 clear hK K
 try simp only [Act.put, pZ]
 refine hT 7 hHeld ?_; refine hT 8 hHeld ?_; refine hT 9 hHeld ?_; refine hT 10 hHeld ?_; refine hT 11 hHeld ?_; refine hT 12 hHeld ?_; refine hT 13 hHeld ?_; refine hT 14 hHeld ?_; refine hT 15 hHeld ?_
 refine hCall (i := 16) rfl (by kernel_rfl) (by rfl) (fun K hK => ?_)
 go_simp
 refine (t2 _ hg3 hg4).mono ?_
 rintro e y2 ⟨rfl, hb⟩; replace hc := hc.below hb; replace hp := hp.below hb; replace hl := hl.below hb; replace hx := hx.below hb; replace X1 := X1.below hb
 replace hbW := hbW.trans (hb.mono hbW.size)
 clear hb p0 p1 p2; obtain ⟨p0, p1, p2, _⟩ := X1.three
 go_wp2_with fail
 refine hK.out _ _ ?_ (fun hHeld => ?_)
 · (try dsimp only)
   exact ⟨p0, p1, p2⟩
 clear hK K
 try simp only [Act.put, pZ]
 refine hT 17 hHeld ?_; refine hT 18 hHeld ?_; refine hT 19 hHeld ?_; refine hT 20 hHeld ?_; refine hT 21 hHeld ?_; refine hT 22 hHeld ?_; refine hT 23 hHeld ?_; refine hT 25 hHeld ?_; refine hT 26 hHeld ?_; refine hT 27 hHeld ?_; refine hT 28 hHeld ?_; refine hT 29 hHeld ?_
 refine hCall (i := 24) rfl (by kernel_rfl) (by rfl) (fun K hK => ?_)
 go_simp
 refine (t3 _ hc hp hl).mono ?_
 rintro e y3 ⟨rfl, hb⟩; replace hc := hc.below hb; replace hp := hp.below hb; replace hl := hl.below hb; replace hx := hx.below hb; replace X1 := X1.below hb
 replace hbW := hbW.trans (hb.mono hbW.size)
 clear hb p0 p1 p2; obtain ⟨p0, p1, p2, _⟩ := X1.three
 go_wp2_with fail
 refine hK.out _ _ ?_ (fun hHeld => ?_)
 · (try dsimp only)
   exact ⟨p0, p1, p2⟩
 clear hK K
 try simp only [Act.put, pZ]
 refine hCall (i := 30) rfl (by kernel_rfl) (by rfl) (fun K hK => ?_)
 go_simp
 refine (t4 _ hc hp hl).mono ?_
 rintro e y4 ⟨rfl, hb⟩; replace hc := hc.below hb; replace hp := hp.below hb; replace hl := hl.below hb; replace hx := hx.below hb; replace X1 := X1.below hb
 replace hbW := hbW.trans (hb.mono hbW.size)
 clear hb p0 p1 p2; obtain ⟨p0, p1, p2, _⟩ := X1.three
 go_wp2_with fail
 refine hK.out _ _ ?_ (fun hHeld => ?_)
 · (try dsimp only)
   exact ⟨p0, p1, p2⟩
 clear hK K
 try simp only [Act.put, pZ]
 refine hT 31 hHeld ?_; refine hT 32 hHeld ?_; refine hT 33 hHeld ?_
 refine wpAnyH_done (by kernel_rfl) ?_ _
 clear hHeld; go_wp2
 go_ret
 exact ⟨by first | rfl | simp, hbW⟩
end Go.Proofs.YtngmcghmniakeaaGreat
