/-
  foundrylaw22: the walk of a law.
-/
import Derived.Test.YtaejlopkdkaphaaZE11
import Derived.Test.YtaejlopkdkaphaaZE15
import Derived.Test.YtaejlopkdkaphaaZE17
import Derived.Test.YtaejlopkdkaphaaZE20
namespace Go.Proofs.Ytaejlopkdkaphaa
open Go.RowKit Go.Maps
set_option linter.unusedSimpArgs false
set_option linter.unusedVariables false

theorem frE22_len {l : List Ft} {s : List Sw} {n ax : Int} (h : foFt l s n ax = true) : (frE22 l s).length ≤ 564 := by
  obtain ⟨⟨hl1, hl2⟩, -⟩ := foFt_iff.1 h
  obtain ⟨hm1, hm2⟩ := foFt_mem h
  have h1 : (lsE ftE l).length ≤ 2 + 26 * 10 := lsE_len (fun x hx => by
    obtain ⟨h3, h4⟩ := ftF_iff.1 (hm1 x hx)
    exact ftE_len h3 (nlF_iff.1 h4).1) hl1
  have h2 : (lsE swE s).length ≤ 2 + 50 * 6 := lsE_len (fun x hx => by
    obtain ⟨⟨h3, _⟩, _, h4⟩ := swF_iff.1 (hm2 x hx)
    exact swE_len h3 (nlF_iff.1 h4).1) hl2
  rw [frE22, List.length_append]
  omega
theorem wrFB_len (l : List Ft) (s : List Sw) (n ax : Int) : (wrFB l s n ax).length ≤ 564 := by
  by_cases h : foFt l s n ax = true ∧ n ≤ 65536 ∧ ax ≤ 65536
  · rw [(wr22_yes h).2]; exact frE22_len h.1
  · rw [(wr22_no h).2]; exact Nat.zero_le _


set_option maxHeartbeats 8000000 in
set_option maxRecDepth 100000 in
theorem featsBytes_any (S : Nat → Prop) (a : Option Addr) (ca : Nat) (l : List Ft) (b : Option Addr) (cb : Nat) (s : List Sw) (n ax : Int) (pa : Option Addr) (pc : Nat) (xs : List Nat) (w : World) (hS : ∀ k, S k → k < w.heap.size) (hl : FtE.row.rep S w [.slice a l.length ca] l) (hs : SwE.row.rep S w [.slice b s.length cb] s) (hn : I64 n) (hax : I64 ax) (hxs : Rb w pa pc xs) :
    Calls Try.prog 4 #[.agg #[.slice a l.length ca, .slice b s.length cb, .int .i64 n, .int .i64 ax], .slice pa xs.length pc] w fun e w' => e = .returned (.bool true) ∧ Below w.heap.size w w' := by
  have kl := (rowF_rep hl).2.1
  have ks := (rowF_rep hs).2.1
  obtain ⟨W, hW, X1, hbW⟩ : ∃ W, W = w.alloc (.cells #[.slice a l.length ca, .slice b s.length cb, .int .i64 n, .int .i64 ax] 25) ∧ Bk 25 W w.heap.size [.slice a l.length ca, .slice b s.length cb, .int .i64 n, .int .i64 ax] ∧ Below w.heap.size w W := ⟨_, rfl, Bk.new _ _ _, bl1 _⟩
  have HX : Hid (∀ U, Below W.heap.size W U → U.cell? ⟨w.heap.size, 0, none⟩ = some (.slice a l.length ca) ∧ U.cell? ⟨w.heap.size, 1, none⟩ = some (.slice b s.length cb) ∧ U.cell? ⟨w.heap.size, 2, none⟩ = some (.int .i64 n) ∧ U.cell? ⟨w.heap.size, 3, none⟩ = some (.int .i64 ax)) := fun U hU => by
    obtain ⟨e0, e1, e2, e3, -⟩ := (X1.below hU).four
    exact ⟨e0, e1, e2, e3⟩
  have HL : Hid (∀ U, Below w.heap.size w U → FtE.row.rep S U [.slice a l.length ca] l) := fun U hU => FtE.row.stay hl hU.size (fun k hk hlt => ⟨hk, hU.block k hlt⟩)
  have HS : Hid (∀ U, Below w.heap.size w U → SwE.row.rep S U [.slice b s.length cb] s) := fun U hU => SwE.row.stay hs hU.size (fun k hk hlt => ⟨hk, hU.block k hlt⟩)
  have HSS : Hid (∀ k, S k → k < w.heap.size) := hS
  have HNI : Hid (I64 n) := hn
  have HAX : Hid (I64 ax) := hax
  have HBW : Hid (Below w.heap.size w W) := hbW
  have kx := hxs.le
  have kx2 := hxs.cap
  unfold maxLen at kx2
  have HB : Hid (∀ U, Below w.heap.size w U → Rb U pa pc xs) := fun U hU => hxs.below hU
  clear hxs
  clear hl hs hS hn hax
  go_enter Try.func4, Try.ntmps4
  go_upto_region 1 with fail
  rw [← hW]
  clear hW X1
  go_wp2_with fail
  refine (awake22_any _).mono ?_
  rintro e y1 ⟨rfl, hy1⟩
  have hb1 := hbW.trans (hy1.mono hbW.size)
  obtain ⟨p0, p1, p2, p3⟩ := HX.out y1 hy1
  have hfe := few22_any S S a ca l b cb s n ax none 0 0 y1 (rowF_rep (HL.out y1 hb1)).1 (rowF_rep (HS.out y1 hb1)).1 kl ks (by omega)
  go_wp2_with fail
  refine hfe.mono ?_
  rintro e y2 ⟨hbo, hc2⟩
  obtain ⟨qf, rfl, hqf⟩ := hbo.out
  have hy2 := hy1.trans (hc2.mono hy1.size)
  replace hbW := hb1.trans (hc2.mono hb1.size)
  clear hfe hc2 hb1 hy1 hbo p0 p1 p2 p3
  cases qf with
  | false =>
    clear hqf
    go_wp2_with fail
    refine (awake22_any _).mono ?_
    rintro e uz ⟨rfl, hbz⟩
    have hfin := hbW.trans (hbz.mono hbW.size)
    clear hbz
    go_wp2
    go_ret
    exact ⟨rfl, hfin⟩
  | true =>
  obtain ⟨hfew, hcl⟩ := hqf rfl
  have HFW : Hid (FewF l s) := hfew
  clear hqf hfew
  by_cases hx2 : 2000 < xs.length
  · have g2 : decide ((2000 : Int) < (xs.length : Int)) = true := decide_eq_true (by omega)
    have g2n : decide (2000 < xs.length) = true := decide_eq_true hx2
    clear hcl
    go_wp2_with fail
    refine (awake22_any _).mono ?_
    rintro e uz ⟨rfl, hbz⟩
    have hfin := hbW.trans (hbz.mono hbW.size)
    clear hbz
    go_wp2
    go_ret
    exact ⟨rfl, hfin⟩
  have g2 : decide ((2000 : Int) < (xs.length : Int)) = false := decide_eq_false (by omega)
  have g2n : decide (2000 < xs.length) = false := decide_eq_false hx2
  have HXL : Hid (xs.length ≤ 2000) := by show _ ≤ _; omega
  have k9 := HXL.out
  obtain ⟨p0, p1, p2, p3⟩ := HX.out y2 hy2
  have hcw := cwriteF_any S a ca l b cb s n ax y2 (fun k hk => Nat.lt_of_lt_of_le (HSS.out k hk) hbW.size) (HL.out _ hbW) (HS.out _ hbW)
  have HWL : Hid ((wrFB l s n ax).length ≤ 564) := wrFB_len l s n ax
  go_wp2_with fail
  refine hcw.mono ?_
  rintro e y3 ⟨a1, c1, rfl, hr1, hb3⟩
  have hrd1 := hr1.rd
  replace hy2 := hy2.trans (hb3.mono hy2.size)
  replace hbW := hbW.trans (hb3.mono hbW.size)
  clear hcw hr1 hb3 p0 p1 p2 p3 g2 g2n hx2 hcl
  obtain ⟨p0, p1, p2, p3⟩ := HX.out y3 hy2
  have hsw := swrite22_any S a ca l b cb s n ax y3 (rowF_rep (HL.out _ hbW)).1 (rowF_rep (HS.out _ hbW)).1
  go_wp2_with fail
  refine hsw.mono ?_
  rintro e y4 ⟨a2, c2, rfl, hr2, hb4⟩
  have hrd2 := hr2.rd
  replace hrd1 := hrd1.below hb4
  replace hy2 := hy2.trans (hb4.mono hy2.size)
  replace hbW := hbW.trans (hb4.mono hbW.size)
  clear hsw hr2 hb4 p0 p1 p2 p3
  obtain ⟨p0, p1, p2, p3⟩ := HX.out y4 hy2
  have hcr := creadF_any pa pc xs n ax y4 (HB.out _ hbW) (by omega)
  go_wp2_with fail
  refine hcr.mono ?_
  rintro e y5 ⟨f1, d1, f2, d2, rfl, hg1, hg2, hb5⟩
  replace hrd1 := hrd1.below hb5
  replace hrd2 := hrd2.below hb5
  replace hy2 := hy2.trans (hb5.mono hy2.size)
  replace hbW := hbW.trans (hb5.mono hbW.size)
  clear hcr hb5 p0 p1 p2 p3
  obtain ⟨p0, p1, p2, p3⟩ := HX.out y5 hy2
  have hsr := sread22_any pa pc xs n ax y5 (HB.out _ hbW) (by omega)
  have kg1 := (rowF_rep hg1).1.lenB
  have kg2 := (rowF_rep hg2).1.lenB
  go_wp2_with fail
  refine hsr.mono ?_
  rintro e y6 ⟨f3, d3, f4, d4, rfl, hg3, hg4, hb6⟩
  replace hrd1 := hrd1.below hb6
  replace hrd2 := hrd2.below hb6
  have hG1 := (rowF_rep hg1).1.below hb6
  have hG2 := (rowF_rep hg2).1.below hb6
  replace hy2 := hy2.trans (hb6.mono hy2.size)
  replace hbW := hbW.trans (hb6.mono hbW.size)
  clear hsr hb6 p0 p1 p2 p3 hg1 hg2
  have hs1 := same8g_any a1 a2 c1 c2 (wrFB l s n ax) (wrFB l s n ax) y6 hrd1 hrd2
  rw [show decide (wrFB l s n ax = wrFB l s n ax) = true from decide_eq_true rfl] at hs1
  have k7 := HWL.out
  have HSA : Hid (∀ U, Below y6.heap.size y6 U → Calls Try.prog 20 #[.slice f1 (rdFL xs n ax).length d1, .slice f3 (rdFL xs n ax).length d3, .slice f2 (rdFS xs n ax).length d2, .slice f4 (rdFS xs n ax).length d4] U fun e w' => e = .returned (.bool true) ∧ Below U.heap.size U w') := fun U hU => ssame22_any _ _ _ _ f1 d1 f3 d3 (rdFL xs n ax) f2 d2 f4 d4 (rdFS xs n ax) U (hG1.below hU) ((rowF_rep hg3).1.below hU) (hG2.below hU) ((rowF_rep hg4).1.below hU)
  clear hrd1 hrd2 hG1 hG2 hg3 hg4 HWL
  have q1 : (wrFE l s n ax == wrFE l s n ax) = true := by simp
  have q2 : (rdFE xs n ax == rdFE xs n ax) = true := by simp
  generalize (wrFB l s n ax).length = n1 at *
  generalize wrFE l s n ax = we at *
  generalize rdFE xs n ax = re at *
  generalize (rdFL xs n ax).length = n2 at *
  generalize (rdFS xs n ax).length = n3 at *
  go_wp2_with fail
  refine hs1.mono ?_
  rintro e y7 ⟨rfl, hb7⟩
  have hsa := HSA.out y7 hb7
  replace hy2 := hy2.trans (hb7.mono hy2.size)
  replace hbW := hbW.trans (hb7.mono hbW.size)
  clear hs1 hb7 HSA
  go_wp2_with fail
  refine hsa.mono ?_
  rintro e y8 ⟨rfl, hb8⟩
  have hfin := hbW.trans (hb8.mono hbW.size)
  clear hsa hb8
  go_wp2
  go_ret
  exact ⟨rfl, hfin⟩

end Go.Proofs.Ytaejlopkdkaphaa
