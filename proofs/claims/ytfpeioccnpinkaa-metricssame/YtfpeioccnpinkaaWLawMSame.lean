/-
  foundrylaw16: the walk of a law.
-/
import Derived.Test.YtfpeioccnpinkaaZ19
import Derived.Test.YtfpeioccnpinkaaZ26
import Derived.Test.YtfpeioccnpinkaaZ16
namespace Go.Proofs.Ytfpeioccnpinkaa
open Go.RowKit Go.Maps
set_option linter.unusedSimpArgs false
set_option linter.unusedVariables false

theorem sixM {n b1 h k off : Nat} {w U : World} {v0 v1 v2 v3 v4 v5 : Value} (hb : Below n w U) (hlt : b1 < n ∧ h < n) (hC : w.cell? ⟨h, 0, none⟩ = some v0 ∧ w.cell? ⟨h, 1, none⟩ = some v1 ∧ w.cell? ⟨h, 2, none⟩ = some v2 ∧ w.cell? ⟨b1, off + k * 3, none⟩ = some v3 ∧ w.cell? ⟨b1, off + k * 3 + 1, none⟩ = some v4 ∧ w.cell? ⟨b1, off + k * 3 + 2, none⟩ = some v5) : U.cell? ⟨h, 0, none⟩ = some v0 ∧ U.cell? ⟨h, 1, none⟩ = some v1 ∧ U.cell? ⟨h, 2, none⟩ = some v2 ∧ U.cell? ⟨b1, off + k * 3, none⟩ = some v3 ∧ U.cell? ⟨b1, off + k * 3 + 1, none⟩ = some v4 ∧ U.cell? ⟨b1, off + k * 3 + 2, none⟩ = some v5 :=
  ⟨(hb.cell (p := ⟨h, 0, none⟩) hlt.2).trans hC.1, (hb.cell (p := ⟨h, 1, none⟩) hlt.2).trans hC.2.1, (hb.cell (p := ⟨h, 2, none⟩) hlt.2).trans hC.2.2.1, (hb.cell (p := ⟨b1, off + k * 3, none⟩) hlt.1).trans hC.2.2.2.1, (hb.cell (p := ⟨b1, off + k * 3 + 1, none⟩) hlt.1).trans hC.2.2.2.2.1, (hb.cell (p := ⟨b1, off + k * 3 + 2, none⟩) hlt.1).trans hC.2.2.2.2.2⟩
theorem va_own {l : List Mt} {s : Sr} {k : Nat} {x : Mt} (cs : List Int) (hx : l.getD k Mt.none = x) (h : fnM l x.tg = (k : Int)) : vaMN l s x.tg cs = roN s x.ab x.ar cs ∧ vaME l s x.tg cs = roE s x.ab x.ar cs := by
  have h1 : fnM l x.tg ≠ -1 := by rw [h]; omega
  have h2 : vaMi l x.tg = x := by unfold vaMi; rw [h, Int.toNat_natCast, hx]
  unfold vaMN vaME
  rw [if_neg h1, if_neg h1, h2]
  exact ⟨rfl, rfl⟩

set_option maxHeartbeats 8000000 in
set_option maxRecDepth 100000 in
theorem metricsSame_any (S : Nat → Prop) (a : Option Addr) (ca : Nat) (l : List Mt) (ga : Option Addr) (gc : Nat) (ma : Option Addr) (mc : Nat) (s : Sr) (pa : Option Addr) (pc : Nat) (cs : List Int) (w : World) (hl : Gr MtE S w a ca l) (hg : Tzz w ga gc s.rg) (hm : Rii w ma mc s.rw) (hp : Ri w pa pc cs) :
    Calls Try.prog 6 #[.agg #[.slice a l.length ca, .slice ga s.rg.length gc, .slice ma s.rw.length mc], .slice pa cs.length pc] w fun e w' => e = .returned (.bool true) ∧ Below w.heap.size w w' := by
  have kl := hl.lenB
  have kg := hg.lenB
  have km := hm.lenB
  obtain ⟨W, hW, X1, hbW⟩ : ∃ W, W = w.alloc (.cells #[.slice a l.length ca, .slice ga s.rg.length gc, .slice ma s.rw.length mc] 28) ∧ Bk 28 W w.heap.size [.slice a l.length ca, .slice ga s.rg.length gc, .slice ma s.rw.length mc] ∧ Below w.heap.size w W := ⟨_, rfl, Bk.new _ _ _, bl1 _⟩
  replace hl := hl.below hbW
  replace hg := hg.below hbW
  replace hm := hm.below hbW
  replace hp := hp.below hbW
  go_enter Try.func6, Try.ntmps6
  go_upto_region 1 with fail
  rw [← hW]
  clear hW
  obtain ⟨p0, p1, p2, -⟩ := X1.three
  go_wp2_with fail
  refine (awake16_any _).mono ?_
  rintro e y1 ⟨rfl, hb1⟩
  replace hl := hl.below hb1
  replace hg := hg.below hb1
  replace hm := hm.below hb1
  replace hp := hp.below hb1
  replace X1 := X1.below hb1
  replace hbW := hbW.trans (hb1.mono hbW.size)
  clear p0 p1 p2 hb1
  obtain ⟨p0, p1, p2, -⟩ := X1.three
  go_wp2_with fail
  refine (few16_any a ca l.length ga gc ma mc s _ kl hg hm).mono ?_
  rintro e y2 ⟨⟨q, rfl, HQ⟩, hb1⟩
  replace HQ : Hid (q = true → l.length ≤ 40 ∧ s.rg.length ≤ 20 ∧ ∀ l ∈ s.rg, l.length ≤ 8) := HQ
  replace hl := hl.below hb1
  replace hg := hg.below hb1
  replace hm := hm.below hb1
  replace hp := hp.below hb1
  replace X1 := X1.below hb1
  replace hbW := hbW.trans (hb1.mono hbW.size)
  clear p0 p1 p2 hb1
  obtain ⟨p0, p1, p2, -⟩ := X1.three
  cases q with
  | false =>
    go_wp2_with fail
    refine (awake16_any _).mono ?_
    rintro e uz ⟨rfl, hbz⟩
    have hfin := hbW.trans (hbz.mono hbW.size)
    clear hbz
    go_wp2
    go_ret
    exact ⟨rfl, hfin⟩
  | true =>
  have HQ2 : Hid (l.length ≤ 40 ∧ s.rg.length ≤ 20 ∧ ∀ l ∈ s.rg, l.length ≤ 8) := HQ.out rfl
  clear HQ
  have kp := hp.lenB
  by_cases hx6 : 20 < cs.length
  · have g1 : decide ((20 : Int) < (cs.length : Int)) = true := decide_eq_true (by omega)
    go_wp2_with fail
    refine (awake16_any _).mono ?_
    rintro e uz ⟨rfl, hbz⟩
    have hfin := hbW.trans (hbz.mono hbW.size)
    clear hbz
    go_wp2
    go_ret
    exact ⟨rfl, hfin⟩
  have g1 : decide ((20 : Int) < (cs.length : Int)) = false := decide_eq_false (by omega)
  have hfm := mform_any S a ca l ga gc ma mc s _ hl km
  cases hfo : foM l s with
  | false =>
    rw [hfo] at hfm
    clear hfo
    go_wp2_with fail
    refine hfm.mono ?_
    rintro e y3 ⟨rfl, hb1⟩
    clear hfm
    replace hl := hl.below hb1
    replace hg := hg.below hb1
    replace hm := hm.below hb1
    replace hp := hp.below hb1
    replace X1 := X1.below hb1
    replace hbW := hbW.trans (hb1.mono hbW.size)
    clear p0 p1 p2 hb1
    obtain ⟨p0, p1, p2, -⟩ := X1.three
    go_wp2_with fail
    refine (awake16_any _).mono ?_
    rintro e uz ⟨rfl, hbz⟩
    have hfin := hbW.trans (hbz.mono hbW.size)
    clear hbz
    go_wp2
    go_ret
    exact ⟨rfl, hfin⟩
  | true =>
  rw [hfo] at hfm
  have HFO : Hid (_) := (foM_iff.1 hfo).2
  clear hfo
  go_wp2_with fail
  refine hfm.mono ?_
  rintro e y3 ⟨rfl, hb1⟩
  clear hfm g1
  replace hl := hl.below hb1
  replace hg := hg.below hb1
  replace hm := hm.below hb1
  replace hp := hp.below hb1
  replace X1 := X1.below hb1
  replace hbW := hbW.trans (hb1.mono hbW.size)
  clear p0 p1 p2 hb1
  obtain ⟨p0, p1, p2, -⟩ := X1.three
  have HL : Hid (Gr MtE S y3 a ca l) := hl
  have HG : Hid (Tzz y3 ga gc s.rg) := hg
  have HM : Hid (Rii y3 ma mc s.rw) := hm
  have HP : Hid (Ri y3 pa pc cs) := hp
  have HX1 : Hid (Bk 28 y3 w.heap.size [.slice a l.length ca, .slice ga s.rg.length gc, .slice ma s.rw.length mc]) := X1
  have HBW : Hid (Below w.heap.size w y3) := hbW
  clear hl hg hm hp X1 hbW
  go_wp2
  clear p0 p1 p2
  go_loopw [5] (fun i wr => ∃ k : Nat, k ≤ l.length ∧ i = .int .i64 k ∧ Below y3.heap.size y3 wr) (fun i _ => l.length - (intOf i).toNat)
  case atStart => exact ⟨0, Nat.zero_le _, rfl, Below.refl _ _⟩
  case round =>
    obtain ⟨k, hk, rfl, hB⟩ := hrel
    have hBw : Below w.heap.size w wr := HBW.out.trans (hB.mono HBW.out.size)
    obtain ⟨p0, p1, p2, -⟩ := (HX1.out.below hB).three
    by_cases hkn : k < l.length
    rotate_left
    · have g4 : ¬ (k : Int) < (l.length : Int) := by omega
      go_wp2
      go_ret
      exact ⟨rfl, hBw⟩
    obtain ⟨b1, off, ea, hb1, hM, c0, c1, c2⟩ := HL.out.mt hB k hkn
    subst ea
    obtain ⟨-, hfk, hfx⟩ := foMx_iff.1 (HFO.out k hkn)
    obtain ⟨x, hx⟩ : ∃ x, l.getD k Mt.none = x := ⟨_, rfl⟩
    rw [hx] at hM c0 c1 c2 hfk hfx
    obtain ⟨v1, v2⟩ := va_own (s := s) cs hx hfk
    obtain ⟨m1, m2, m3⟩ := hM
    have i1 : (0 : Int) ≤ (k : Int) := by omega
    have i2 : (k : Int) < (l.length : Int) := by omega
    have hb1w : b1 < wr.heap.size := Nat.lt_of_lt_of_le hb1 hB.size
    have hw0 : w.heap.size < wr.heap.size := (HX1.out.below hB).lt
    have hc1 := fun U (hU : Below wr.heap.size wr U) => mvalue_any S _ ca l ga gc ma mc s x.tg pa pc cs U (HL.out.below (hB.trans (hU.mono hB.size))) (HG.out.below (hB.trans (hU.mono hB.size))) (HM.out.below (hB.trans (hU.mono hB.size))) (HP.out.below (hB.trans (hU.mono hB.size))) (Nat.le_trans HQ2.out.2.1 (by decide)) HQ2.out.2.2
    have hc2 := fun U (hU : Below wr.heap.size wr U) => crounded_any ga gc ma mc s x.ab x.ar pa pc cs U (HG.out.below (hB.trans (hU.mono hB.size))) (HM.out.below (hB.trans (hU.mono hB.size))) (HP.out.below (hB.trans (hU.mono hB.size))) m2 m3 (Nat.le_trans HQ2.out.2.1 (by decide)) HQ2.out.2.2
    have hc3 := fun U (hU : Below wr.heap.size wr U) => mfind_any S _ ca l x.tg U (HL.out.below (hB.trans (hU.mono hB.size)))
    simp only [v1, v2] at hc1
    simp only [hfk] at hc3
    have HRO : Hid (x.ar = -1 → roN s x.ab x.ar cs = x.ab ∧ roE s x.ab x.ar cs = 0) := fun e => by rw [e] at hfx ⊢; exact ro_none hfx
    obtain ⟨z1, hz1⟩ : ∃ z, roN s x.ab x.ar cs = z := ⟨_, rfl⟩
    obtain ⟨z2, hz2⟩ : ∃ z, roE s x.ab x.ar cs = z := ⟨_, rfl⟩
    simp only [hz1, hz2] at hc1 hc2 HRO
    clear hx hfk hfx v1 v2 hz1 hz2
    go_upto_region 6 with fail
    refine wp_region_held_drew (S := fun w9 => w9.cell? ⟨w.heap.size, 0, none⟩ = some (.slice (some ⟨b1, off, none⟩) l.length ca) ∧ w9.cell? ⟨w.heap.size, 1, none⟩ = some (.slice ga s.rg.length gc) ∧ w9.cell? ⟨w.heap.size, 2, none⟩ = some (.slice ma s.rw.length mc) ∧ w9.cell? ⟨b1, off + k * 3, none⟩ = some (.string x.tg) ∧ w9.cell? ⟨b1, off + k * 3 + 1, none⟩ = some (.int .i64 x.ab) ∧ w9.cell? ⟨b1, off + k * 3 + 2, none⟩ = some (.int .i64 x.ar)) (by kernel_rfl) ?_ (fun hHeld => ?_)
    · (try dsimp only)
      go_keep
    have hdr : Below wr.heap.size wr wr.drew := Below.drew1
    generalize wr.drew = Z at hdr hHeld ⊢
    have HC0 : Hid (_) := And.intro p0 (And.intro p1 (And.intro p2 (And.intro c0 (And.intro c1 (c2)))))
    clear p0 p1 p2 c0 c1 c2
    refine hT 0 hHeld ?_
    refine hT 1 hHeld ?_
    refine hT 2 hHeld ?_
    refine hT 3 hHeld ?_
    refine hT 4 hHeld ?_
    refine hT 5 hHeld ?_
    refine hT 6 hHeld ?_
    refine hT 7 hHeld ?_
    refine hT 8 hHeld ?_
    refine hT 9 hHeld ?_
    refine hT 10 hHeld ?_
    refine hCall (i := 11) rfl (by kernel_rfl) (by rfl) (fun K hK => ?_)
    go_simp
    refine (hc1 _ hdr).mono ?_
    rintro e u1 ⟨rfl, hu1⟩
    replace hdr := hdr.trans (hu1.mono hdr.size)
    clear hu1 hc1
    go_wp2_with fail
    refine hK.out _ _ ?_ (fun hHeld => ?_)
    · (try dsimp only)
      exact sixM hdr ⟨hb1w, hw0⟩ HC0.out
    clear hK K
    try simp only [Act.put, List.setIfInBounds_toArray, List.set_cons_zero, List.set_cons_succ]
    refine hT 12 hHeld ?_
    refine hT 13 hHeld ?_
    refine hT 14 hHeld ?_
    refine hT 15 hHeld ?_
    refine hT 16 hHeld ?_
    refine wpAnyH_done (by kernel_rfl) ?_ _
    have hdr1 := hdr
    clear hHeld hdr
    obtain ⟨p0, p1, p2, c0, c1, c2⟩ := sixM hdr1 ⟨hb1w, hw0⟩ HC0.out
    clear HC0
    have hb1w1 : b1 < u1.heap.size := Nat.lt_of_lt_of_le hb1w hdr1.size
    have hw01 : w.heap.size < u1.heap.size := Nat.lt_of_lt_of_le hw0 hdr1.size
    replace hc2 := fun U (hU : Below u1.heap.size u1 U) => hc2 U (hdr1.trans (hU.mono hdr1.size))
    replace hc3 := fun U (hU : Below u1.heap.size u1 U) => hc3 U (hdr1.trans (hU.mono hdr1.size))
    go_upto_region 7 with fail
    refine wp_region_held_drew (S := fun w9 => w9.cell? ⟨w.heap.size, 0, none⟩ = some (.slice (some ⟨b1, off, none⟩) l.length ca) ∧ w9.cell? ⟨w.heap.size, 1, none⟩ = some (.slice ga s.rg.length gc) ∧ w9.cell? ⟨w.heap.size, 2, none⟩ = some (.slice ma s.rw.length mc) ∧ w9.cell? ⟨b1, off + k * 3, none⟩ = some (.string x.tg) ∧ w9.cell? ⟨b1, off + k * 3 + 1, none⟩ = some (.int .i64 x.ab) ∧ w9.cell? ⟨b1, off + k * 3 + 2, none⟩ = some (.int .i64 x.ar)) (by kernel_rfl) ?_ (fun hHeld => ?_)
    · (try dsimp only)
      go_keep
    have hdr : Below u1.heap.size u1 u1.drew := Below.drew1
    generalize u1.drew = Z at hdr hHeld ⊢
    have HC0 : Hid (_) := And.intro p0 (And.intro p1 (And.intro p2 (And.intro c0 (And.intro c1 (c2)))))
    clear p0 p1 p2 c0 c1 c2
    refine hT 0 hHeld ?_
    refine hT 1 hHeld ?_
    refine hT 2 hHeld ?_
    refine hT 3 hHeld ?_
    refine hT 4 hHeld ?_
    refine hT 5 hHeld ?_
    refine hT 6 hHeld ?_
    refine hT 7 hHeld ?_
    refine hT 8 hHeld ?_
    refine hCall (i := 9) rfl (by kernel_rfl) (by rfl) (fun K hK => ?_)
    go_simp
    refine (hc2 _ hdr).mono ?_
    rintro e u2 ⟨rfl, hu2⟩
    replace hdr := hdr.trans (hu2.mono hdr.size)
    clear hu2 hc2
    go_wp2_with fail
    refine hK.out _ _ ?_ (fun hHeld => ?_)
    · (try dsimp only)
      exact sixM hdr ⟨hb1w1, hw01⟩ HC0.out
    clear hK K
    try simp only [Act.put, List.setIfInBounds_toArray, List.set_cons_zero, List.set_cons_succ]
    refine hT 10 hHeld ?_
    refine hT 11 hHeld ?_
    refine hT 12 hHeld ?_
    refine hT 13 hHeld ?_
    refine hT 14 hHeld ?_
    refine wpAnyH_done (by kernel_rfl) ?_ _
    have hdr2 := hdr
    clear hHeld hdr
    obtain ⟨p0, p1, p2, c0, c1, c2⟩ := sixM hdr2 ⟨hb1w1, hw01⟩ HC0.out
    clear HC0
    have hb1w2 : b1 < u2.heap.size := Nat.lt_of_lt_of_le hb1w1 hdr2.size
    have hw02 : w.heap.size < u2.heap.size := Nat.lt_of_lt_of_le hw01 hdr2.size
    replace hc3 := fun U (hU : Below u2.heap.size u2 U) => hc3 U (hdr2.trans (hU.mono hdr2.size))
    go_upto_region 8 with fail
    refine wp_region_held_drew (S := fun w9 => w9.cell? ⟨w.heap.size, 0, none⟩ = some (.slice (some ⟨b1, off, none⟩) l.length ca) ∧ w9.cell? ⟨w.heap.size, 1, none⟩ = some (.slice ga s.rg.length gc) ∧ w9.cell? ⟨w.heap.size, 2, none⟩ = some (.slice ma s.rw.length mc) ∧ w9.cell? ⟨b1, off + k * 3, none⟩ = some (.string x.tg) ∧ w9.cell? ⟨b1, off + k * 3 + 1, none⟩ = some (.int .i64 x.ab) ∧ w9.cell? ⟨b1, off + k * 3 + 2, none⟩ = some (.int .i64 x.ar)) (by kernel_rfl) ?_ (fun hHeld => ?_)
    · (try dsimp only)
      go_keep
    have hdr : Below u2.heap.size u2 u2.drew := Below.drew1
    generalize u2.drew = Z at hdr hHeld ⊢
    have HC0 : Hid (_) := And.intro p0 (And.intro p1 (And.intro p2 (And.intro c0 (And.intro c1 (c2)))))
    clear p0 p1 p2 c0 c1 c2
    refine hT 0 hHeld ?_
    refine hT 1 hHeld ?_
    refine hT 2 hHeld ?_
    refine hT 3 hHeld ?_
    refine hT 4 hHeld ?_
    refine hT 5 hHeld ?_
    refine hT 6 hHeld ?_
    refine hT 7 hHeld ?_
    refine hT 8 hHeld ?_
    refine hT 9 hHeld ?_
    refine hT 10 hHeld ?_
    refine hT 11 hHeld ?_
    refine hT 12 hHeld ?_
    refine hT 13 hHeld ?_
    refine hT 14 hHeld ?_
    refine hT 15 hHeld ?_
    refine hT 16 hHeld ?_
    refine hT 18 hHeld ?_
    refine hCall (i := 17) rfl (by kernel_rfl) (by rfl) (fun K hK => ?_)
    go_simp
    refine (hc3 _ hdr).mono ?_
    rintro e u3 ⟨rfl, hu3⟩
    replace hdr := hdr.trans (hu3.mono hdr.size)
    clear hu3 hc3
    go_wp2_with fail
    refine hK.out _ _ ?_ (fun hHeld => ?_)
    · (try dsimp only)
      exact sixM hdr ⟨hb1w2, hw02⟩ HC0.out
    clear hK K
    try simp only [Act.put, List.setIfInBounds_toArray, List.set_cons_zero, List.set_cons_succ]
    refine hT 19 hHeld ?_
    refine hT 20 hHeld ?_
    refine wpAnyH_done (by kernel_rfl) ?_ _
    obtain ⟨p0, p1, p2, c0, c1, c2⟩ := sixM hdr ⟨hb1w2, hw02⟩ HC0.out
    clear HC0 hHeld
    replace hB := hB.trans ((hdr1.trans ((hdr2.trans (hdr.mono hdr2.size)).mono hdr1.size)).mono hB.size)
    clear hdr hdr1 hdr2 hBw
    by_cases har : x.ar = -1
    rotate_left
    · have g5 : (x.ar == -1) = false := beq_eq_false_iff_ne.2 har
      have g6 : decide (x.ar = -1) = false := decide_eq_false har
      go_wp2
      go_roundw
      case rel => exact ⟨k + 1, by omega, by go_num, hB⟩
      case measure => simp [intOf]; omega
    obtain ⟨rfl, rfl⟩ := HRO.out har
    rw [har] at c2
    clear har HRO
    go_wp2
    go_roundw
    case rel => exact ⟨k + 1, by omega, by go_num, hB⟩
    case measure => simp [intOf]; omega

end Go.Proofs.Ytfpeioccnpinkaa
