/-
  foundrylaw12.OutlineTells: the walk.
-/
import Derived.Test.YtokcdkckomoajaaZ12
import Derived.Test.YtokcdkckomoajaaZ13
import Derived.Test.YtokcdkckomoajaaZ14
import Derived.Test.YtokcdkckomoajaaZ8
namespace Go.Proofs.Ytokcdkckomoajaa
open Go.RowKit Go.Maps
set_option linter.unusedSimpArgs false
set_option linter.unusedVariables false

theorem cells_intQ : Try.prog.cellsOf 3 = 1 := by kernel_rfl
theorem info_intQ : (Try.prog.info? 3).map (fun i => (i.zero, i.size, i.bytes)) = some (some (.int .i64 0), 1, 8) := by kernel_rfl
theorem eq4int (w : World) (a b c d : Int) :
    (Op.equalIn 10000 44 (.agg #[.int .i64 a, .int .i64 b, .int .i64 c, .int .i64 d]) (.agg #[.int .i64 a, .int .i64 b, .int .i64 c, .int .i64 d])).run Try.prog w = .ok true w := by
  obtain ⟨i, hi, hz0, hz1, hz2⟩ := info_parts info_intQ
  rw [run_equalIn_array w 9999 _ _ Try.underlying44 hi, cells_intQ]
  simp only [List.range, List.range.loop]
  simp [Op.eqItems, part, go_sem]

set_option maxHeartbeats 1000000 in
set_option maxRecDepth 100000 in
theorem outlineTells_any (S : Nat → Prop) (a : Option Addr) (ca : Nat) (b : Option Addr) (cb : Nat) (o : Ol) (w : World) (hg : Gr PnE.row S w a ca o.cs) (hm : Gr PaE S w b cb o.ps) :
    Calls Try.prog 4 #[.agg #[.slice a o.cs.length ca, .slice b o.ps.length cb]] w fun e w' => e = .returned (.bool true) ∧ Below w.heap.size w w' := by
  have k1 := hg.lenB
  have k2 := hm.lenB
  obtain ⟨W, hW, X1, hbW⟩ : ∃ W, W = w.alloc (.cells #[.slice a o.cs.length ca, .slice b o.ps.length cb] 25) ∧ Bk 25 W w.heap.size [.slice a o.cs.length ca, .slice b o.ps.length cb] ∧ Below w.heap.size w W := ⟨_, rfl, Bk.new _ _ _, bl1 _⟩
  replace hg := hg.below hbW
  replace hm := hm.below hbW
  go_enter Try.func4, Try.ntmps4
  go_wp2_with fail
  rw [← hW]
  clear hW
  refine (awake12_any _).mono ?_
  rintro e t1 ⟨rfl, hb1⟩
  replace hg := hg.below hb1
  replace hm := hm.below hb1
  replace X1 := X1.below hb1
  replace hbW : Below w.heap.size w t1 := hbW.trans (hb1.mono hbW.size)
  clear hb1 
  obtain ⟨p0, p1, _⟩ := X1.two
  go_wp2_with fail
  refine (sfewO_any S a ca b cb o _ hg hm).mono ?_
  rintro e t2 ⟨rfl, hb2⟩
  replace hg := hg.below hb2
  replace hm := hm.below hb2
  replace X1 := X1.below hb2
  replace hbW : Below w.heap.size w t2 := hbW.trans (hb2.mono hbW.size)
  clear hb2 p0 p1
  obtain ⟨p0, p1, _⟩ := X1.two
  cases hq : fewB o with
  | false =>
    clear hq
    go_wp2_with fail
    refine (awake12_any _).mono ?_
    rintro e v9 ⟨rfl, hb9⟩
    replace hbW := hbW.trans (hb9.mono hbW.size)
    clear hb9
    go_wp2
    go_ret
    exact ⟨rfl, hbW⟩
  | true =>
  obtain ⟨q1, q2, q3⟩ := fewB_of hq
  clear hq
  have hpc := fun U h1 => cpointsO_any S a ca (.slice b o.ps.length cb) o.cs U h1 (by omega) rfl
  have hps := fun U h1 => spointsO_any S a ca (.slice b o.ps.length cb) o.cs U h1 (by omega) rfl
  have hec := fun U h1 => cends_any S a ca (.slice b o.ps.length cb) o.cs U h1 (by omega) (by omega) rfl
  have hes := fun U h1 => sendsO_any S a ca (.slice b o.ps.length cb) o.cs U h1 (by omega) (by omega) rfl
  have hbc := fun U h1 => cbox_any S a ca (.slice b o.ps.length cb) o.cs U h1 (by omega) rfl
  have hbs := fun U h1 => sbox_any S a ca (.slice b o.ps.length cb) o.cs U h1 (by omega) rfl
  have hsi := fun p q c d U h1 h2 => ssameI_any p q c d (endF 0 o.cs) U h1 h2
  generalize bxO o.cs.flatten = BB at *
  generalize endF 0 o.cs = EE at *
  generalize o.cs.flatten = L at *
  generalize decide (0 < L.length) = qq at *
  obtain ⟨e0, e1, e2, e3⟩ := BB
  simp only [bxV_eq] at hbc hbs
  try dsimp only at hbc hbs
  clear hm
  go_upto_region 3 with fail
  clear p0 p1
  obtain ⟨k00, k01, _⟩ := X1.two
  refine wp_region_held_drew (S := fun w9 => w9.cell? ⟨w.heap.size, 0, none⟩ = some (.slice a o.cs.length ca) ∧ w9.cell? ⟨w.heap.size, 1, none⟩ = some (.slice b o.ps.length cb)) (by kernel_rfl) ?_ (fun hHeld => ?_)
  · (try dsimp only)
    go_keep
  have hdr : Below t2.heap.size t2 t2.drew := Below.drew1
  generalize t2.drew = t3 at hdr hHeld ⊢
  replace hg := hg.below hdr
  replace X1 := X1.below hdr
  replace hbW : Below w.heap.size w t3 := hbW.trans (hdr.mono hbW.size)
  clear hdr k00 k01
  refine hT 0 hHeld ?_
  refine hT 2 hHeld ?_
  refine hCall (i := 1) rfl (by kernel_rfl) (by rfl) (fun K hK => ?_)
  go_simp
  refine (hpc _ hg).mono ?_
  rintro e t4 ⟨a1, c1, rfl, hp1, _, hb4⟩
  replace hg := hg.below hb4
  replace X1 := X1.below hb4
  replace hbW : Below w.heap.size w t4 := hbW.trans (hb4.mono hbW.size)
  clear hb4 
  obtain ⟨k00, k01, _⟩ := X1.two
  go_wp2_with fail
  refine hK.out _ _ ?_ (fun hHeld => ?_)
  · (try dsimp only)
    exact ⟨k00, k01⟩
  clear hK K k00 k01
  try simp only [Act.put, List.setIfInBounds_toArray, List.set_cons_zero, List.set_cons_succ]
  refine hCall (i := 3) rfl (by kernel_rfl) (by rfl) (fun K hK => ?_)
  go_simp
  refine (hps _ hg).mono ?_
  rintro e t5 ⟨a2, c2, rfl, hp2, _, hb5⟩
  replace hg := hg.below hb5
  replace X1 := X1.below hb5
  replace hp1 := hp1.below hb5
  replace hbW : Below w.heap.size w t5 := hbW.trans (hb5.mono hbW.size)
  clear hb5 
  obtain ⟨k00, k01, _⟩ := X1.two
  go_wp2_with fail
  refine hK.out _ _ ?_ (fun hHeld => ?_)
  · (try dsimp only)
    exact ⟨k00, k01⟩
  clear hK K k00 k01
  try simp only [Act.put, List.setIfInBounds_toArray, List.set_cons_zero, List.set_cons_succ]
  refine hT 4 hHeld ?_
  refine hT 5 hHeld ?_
  refine wpAnyH_done (by kernel_rfl) ?_ _
  clear hHeld hpc hps
  go_upto_region 4 with fail
  obtain ⟨k00, k01, _⟩ := X1.two
  refine wp_region_held_drew (S := fun w9 => w9.cell? ⟨w.heap.size, 0, none⟩ = some (.slice a o.cs.length ca) ∧ w9.cell? ⟨w.heap.size, 1, none⟩ = some (.slice b o.ps.length cb)) (by kernel_rfl) ?_ (fun hHeld => ?_)
  · (try dsimp only)
    go_keep
  have hdr : Below t5.heap.size t5 t5.drew := Below.drew1
  generalize t5.drew = t6 at hdr hHeld ⊢
  replace hg := hg.below hdr
  replace X1 := X1.below hdr
  replace hp1 := hp1.below hdr
  replace hp2 := hp2.below hdr
  replace hbW : Below w.heap.size w t6 := hbW.trans (hdr.mono hbW.size)
  clear hdr k00 k01
  refine hT 0 hHeld ?_
  refine hT 1 hHeld ?_
  refine hT 2 hHeld ?_
  refine hT 3 hHeld ?_
  refine hT 4 hHeld ?_
  refine hT 5 hHeld ?_
  refine hT 6 hHeld ?_
  refine hT 8 hHeld ?_
  refine hCall (i := 7) rfl (by kernel_rfl) (by rfl) (fun K hK => ?_)
  go_simp
  refine (hec _ hg).mono ?_
  rintro e t7 ⟨a3, c3, rfl, i1, _, hb7⟩
  replace hg := hg.below hb7
  replace X1 := X1.below hb7
  replace hp1 := hp1.below hb7
  replace hp2 := hp2.below hb7
  replace hbW : Below w.heap.size w t7 := hbW.trans (hb7.mono hbW.size)
  clear hb7 
  obtain ⟨k00, k01, _⟩ := X1.two
  go_wp2_with fail
  refine hK.out _ _ ?_ (fun hHeld => ?_)
  · (try dsimp only)
    exact ⟨k00, k01⟩
  clear hK K k00 k01
  try simp only [Act.put, List.setIfInBounds_toArray, List.set_cons_zero, List.set_cons_succ]
  refine hCall (i := 9) rfl (by kernel_rfl) (by rfl) (fun K hK => ?_)
  go_simp
  refine (hes _ hg).mono ?_
  rintro e t8 ⟨a4, c4, rfl, i2, _, hb8⟩
  replace hg := hg.below hb8
  replace X1 := X1.below hb8
  replace hp1 := hp1.below hb8
  replace hp2 := hp2.below hb8
  replace i1 := i1.below hb8
  replace hbW : Below w.heap.size w t8 := hbW.trans (hb8.mono hbW.size)
  clear hb8 
  obtain ⟨k00, k01, _⟩ := X1.two
  go_wp2_with fail
  refine hK.out _ _ ?_ (fun hHeld => ?_)
  · (try dsimp only)
    exact ⟨k00, k01⟩
  clear hK K k00 k01
  try simp only [Act.put, List.setIfInBounds_toArray, List.set_cons_zero, List.set_cons_succ]
  refine hCall (i := 10) rfl (by kernel_rfl) (by rfl) (fun K hK => ?_)
  go_simp
  refine (hsi _ _ _ _ _ i1 i2).mono ?_
  rintro e t9 ⟨rfl, hb9⟩
  replace hg := hg.below hb9
  replace X1 := X1.below hb9
  replace hp1 := hp1.below hb9
  replace hp2 := hp2.below hb9
  replace i1 := i1.below hb9
  replace i2 := i2.below hb9
  replace hbW : Below w.heap.size w t9 := hbW.trans (hb9.mono hbW.size)
  clear hb9 
  obtain ⟨k00, k01, _⟩ := X1.two
  go_wp2_with fail
  refine hK.out _ _ ?_ (fun hHeld => ?_)
  · (try dsimp only)
    exact ⟨k00, k01⟩
  clear hK K k00 k01
  try simp only [Act.put, List.setIfInBounds_toArray, List.set_cons_zero, List.set_cons_succ]
  refine hT 11 hHeld ?_
  refine hT 12 hHeld ?_
  refine wpAnyH_done (by kernel_rfl) ?_ _
  clear hHeld hec hes hsi i1 i2
  have hLb := hp1.lenB
  have HP1 : Hid (Gr PnE (fun _ => True) t9 a1 c1 L) := hp1
  have HP2 : Hid (Gr PnE (fun _ => True) t9 a2 c2 L) := hp2
  have HG : Hid (Gr PnE.row S t9 a ca o.cs) := hg
  have HX1 : Hid (Bk 25 t9 w.heap.size [.slice a o.cs.length ca, .slice b o.ps.length cb]) := X1
  have HB : Hid (Below w.heap.size w t9) := hbW
  clear hp1 hp2 hg X1 hbW
  go_wp2
  go_loopw [5] (fun i wr => ∃ k : Nat, k ≤ L.length ∧ i = .int .i64 k ∧ Below t9.heap.size t9 wr) (fun i _ => L.length - (intOf i).toNat)
  case atStart => exact ⟨0, Nat.zero_le _, rfl, Below.refl _ _⟩
  case round =>
    obtain ⟨k, hk, rfl, hnx⟩ := hrel
    by_cases hkn : k < L.length
    · obtain ⟨b1, o1, ea, _, ⟨w0, w1⟩, j0, j1, j2⟩ := HP1.out.pn hnx k hkn
      obtain ⟨b2, o2, eb, _, _, d0, d1, d2⟩ := HP2.out.pn hnx k hkn
      subst ea eb
      generalize L.getD k Pn.none = q at *
      obtain ⟨x, y, on⟩ := q
      dsimp only at *
      have i1 : (0 : Int) ≤ (k : Int) := by omega
      have i2 : (k : Int) < (L.length : Int) := by omega
      go_wp2_with fail
      go_quiet (fail)
      go_wp2
      go_roundw
      case rel => exact ⟨k + 1, by omega, by go_num, below_drewN hnx _⟩
      case measure => simp [intOf]; omega
    · obtain rfl : k = L.length := by omega
      have hg := HG.out.below hnx
      have X1 := HX1.out.below hnx
      have hbW : Below w.heap.size w wr := HB.out.trans (hnx.mono HB.out.size)
      have g1 : ¬ (L.length : Int) < (L.length : Int) := by omega
      clear HG HX1 HB HP1 HP2 hnx
      obtain ⟨x0, x1, _⟩ := X1.two
      go_wp2_with fail
      refine (hbc _ hg).mono ?_
      rintro e t10 ⟨rfl, hb10⟩
      replace hg := hg.below hb10
      replace X1 := X1.below hb10
      replace hbW : Below w.heap.size w t10 := hbW.trans (hb10.mono hbW.size)
      clear hb10 x0 x1 hbc
      obtain ⟨V0, hV, Y0, hbV⟩ : ∃ V, V = t10.alloc (.cells #[.int .i64 e0, .int .i64 e1, .int .i64 e2, .int .i64 e3] 44) ∧ Bk 44 V t10.heap.size [.int .i64 e0, .int .i64 e1, .int .i64 e2, .int .i64 e3] ∧ Below t10.heap.size t10 V := ⟨_, rfl, Bk.new _ _ _, bl1 _⟩
      replace hg := hg.below hbV
      replace X1 := X1.below hbV
      replace hbW : Below w.heap.size w V0 := hbW.trans (hbV.mono hbW.size)
      clear hbV
      go_upto_region 12 with fail
      rw [← hV]
      clear hV
      obtain ⟨x0, x1, _⟩ := X1.two
      go_wp2_with fail
      refine (hbs _ hg).mono ?_
      rintro e t11 ⟨rfl, hb11⟩
      replace hg := hg.below hb11
      replace X1 := X1.below hb11
      replace Y0 := Y0.below hb11
      replace hbW : Below w.heap.size w t11 := hbW.trans (hb11.mono hbW.size)
      clear hb11 x0 x1 hbs
      obtain ⟨V1, hV, Y1, hbV⟩ : ∃ V, V = t11.alloc (.cells #[.int .i64 e0, .int .i64 e1, .int .i64 e2, .int .i64 e3] 44) ∧ Bk 44 V t11.heap.size [.int .i64 e0, .int .i64 e1, .int .i64 e2, .int .i64 e3] ∧ Below t11.heap.size t11 V := ⟨_, rfl, Bk.new _ _ _, bl1 _⟩
      replace hg := hg.below hbV
      replace X1 := X1.below hbV
      replace Y0 := Y0.below hbV
      replace hbW : Below w.heap.size w V1 := hbW.trans (hbV.mono hbW.size)
      clear hbV
      go_upto_region 13 with fail
      rw [← hV]
      clear hV
      obtain ⟨m0, m1, m2, m3, _⟩ := Y0.four
      obtain ⟨y0, y1, y2, y3, _⟩ := Y1.four
      have he1 := fun w => eq4int w e0 e1 e2 e3
      have hbb : (qq == qq) = true := by cases qq <;> rfl
      go_wp2
      go_ret
      exact ⟨rfl, hbW⟩

end Go.Proofs.Ytokcdkckomoajaa
