/-
  foundryref21.All: the walk.
  What a law is told of a slice of bytes, or of int32, that came in.
  What a law is told of things that came in, one for all (Opens).
  What a law is told of a list of ints that came in.
  What a law of layer 21 is told of what came in: lookups and which are done; a scene; a laid line; two int8.
-/
import Derived.Test.YtchdoakoelfenaaGreatZX26
import Derived.Test.YtchdoakoelfenaaGreatZX34
import Derived.Test.YtchdoakoelfenaaGreatZX24
import Derived.Test.YtchdoakoelfenaaGreatZX1
import Derived.ProofKit
import Derived.Test.YtchdoakoelfenaaGreatZX3
import Derived.Deep.Strs
import Derived.OpenShut
import Derived.SizedLaws
import Derived.Lib.SmallJoins
import Derived.Test.YtchdoakoelfenaaGreatZX4
import Derived.Deep.Slices
import Derived.ChangeSame
import Derived.Test.YtchdoakoelfenaaGreatZX5
import Derived.Test.YtchdoakoelfenaaGreatZX14
namespace Go.Proofs.YtchdoakoelfenaaGreat
open Go.RowKit Go.Maps
set_option linter.unusedSimpArgs false
set_option linter.unusedVariables false

/-- What the reference's All answers. -/
structure PaS (r : Int × List Pd) (w' : World) (e : Ending) : Prop where
  out : ∃ va vc, e = .returned (.tuple #[.slice va r.2.length vc, .int .i64 r.1]) ∧ Gr PdE (fun _ => False) w' va vc r.2
theorem PaS.nil {r : Int × List Pd} {w' : World} {z : Int} (h : r = (z, [])) : PaS r w' (.returned (.tuple #[.slice none 0 0, .int .i64 z])) := ⟨none, 0, by rw [h]; rfl, by rw [h]; exact Gr.nil _ _ _ _ _ (Nat.zero_le _) (fun _ => rfl)⟩
theorem PaS.yes {r : Int × List Pd} {w' : World} {Q : List Pd} {va : Option Addr} {vc : Nat} (h : r = (0, Q)) (hl : Gr PdE (fun _ => False) w' va vc Q) : PaS r w' (.returned (.tuple #[.slice va Q.length vc, .int .i64 0])) := ⟨va, vc, by rw [h], by rw [h]; exact hl⟩

set_option maxHeartbeats 16000000 in
set_option maxRecDepth 100000 in
theorem sallP21_any (Sl Sm Sp : Nat → Prop) (la : Option Addr) (lc : Nat) (l : List Lk) (xa : Option Addr) (xc : Nat) (ks : List Int) (ga : Option Addr) (gc : Nat) (ma : Option Addr) (mc : Nat) (s : Sr) (ka : Option Addr) (kc : Nat) (ms : List Bool) (pa : Option Addr) (pc : Nat) (cs : List Int) (qa : Option Addr) (qc : Nat) (P : List Pd) (w : World)
    (hl : Gr LkE Sl w la lc l) (hx : Ri w xa xc ks) (hg : Tzz w ga gc s.rg) (hrw : Rii w ma mc s.rw) (hm : Gr El.bool Sm w ka kc ms) (hp : Ri w pa pc cs) (h40 : s.rg.length ≤ 40) (h8 : ∀ l ∈ s.rg, l.length ≤ 8) (hP : Gr PdE Sp w qa qc P) :
    Calls Tryz.prog 7 #[.slice la l.length lc, .slice xa ks.length xc, .agg #[.slice ga s.rg.length gc, .slice ma s.rw.length mc, .slice ka ms.length kc, .slice pa cs.length pc], .slice qa P.length qc] w fun e w' => PaS (paE (fiS s) (rO s cs) (rE s cs) ms l ks P) w' e ∧ Below w.heap.size w w' := by
  have kP := hP.lenB
  have kl := hl.lenB
  have kx := hx.lenB
  have k2 := hrw.lenB
  obtain ⟨W, hW, X1, hbW⟩ : ∃ W, W = w.alloc (.cells #[.slice ga s.rg.length gc, .slice ma s.rw.length mc, .slice ka ms.length kc, .slice pa cs.length pc] 40) ∧ Bk 40 W w.heap.size [.slice ga s.rg.length gc, .slice ma s.rw.length mc, .slice ka ms.length kc, .slice pa cs.length pc] ∧ Below w.heap.size w W := ⟨_, rfl, Bk.new _ _ _, bl1 _⟩
  obtain ⟨x0, x1, x2, x3, -⟩ := X1.four
  have hfo := sformP21_any Sl la lc l ga gc ma mc s 65536 W (hl.below hbW) k2 ⟨by decide, by decide⟩
  have HNF : Hid (foM20 (fiS s) l 65536 = false → paE (fiS s) (rO s cs) (rE s cs) ms l ks P = (1, [])) := fun h => by unfold paE; rw [if_neg (by rw [h]; decide)]
  have HLG : Hid (foM20 (fiS s) l 65536 = true → 100 < P.length → paE (fiS s) (rO s cs) (rE s cs) ms l ks P = (3, [])) := fun h h1 => by unfold paE; rw [if_pos h, if_pos h1]
  have HGO : Hid (foM20 (fiS s) l 65536 = true → ¬ 100 < P.length → paE (fiS s) (rO s cs) (rE s cs) ms l ks P = alM (rO s cs) (rE s cs) ms l ks P) := fun h h1 => by unfold paE; rw [if_pos h, if_neg h1]
  generalize paE (fiS s) (rO s cs) (rE s cs) ms l ks P = PR at HNF HLG HGO ⊢
  have HL : Hid (Gr LkE Sl W la lc l) := hl.below hbW
  have HXK : Hid (Ri W xa xc ks) := hx.below hbW
  have HG : Hid (Tzz W ga gc s.rg) := hg.below hbW
  have HRW : Hid (Rii W ma mc s.rw) := hrw.below hbW
  have HM : Hid (Gr El.bool Sm W ka kc ms) := hm.below hbW
  have HP : Hid (Ri W pa pc cs) := hp.below hbW
  have HPP : Hid (Gr PdE Sp W qa qc P) := hP.below hbW
  have HBW : Hid (Below w.heap.size w W) := hbW
  have HX1 : Hid (Bk 40 W w.heap.size [.slice ga s.rg.length gc, .slice ma s.rw.length mc, .slice ka ms.length kc, .slice pa cs.length pc]) := X1
  clear hl hx hg hrw hm hp hP
  go_enter Tryz.func7, Tryz.ntmps7
  go_upto_region 1 with fail
  rw [← hW]
  clear hW X1
  cases hfm : foM20 (fiS s) l 65536 with
  | false =>
    have HV : Hid (∀ U, PaS PR U (.returned (.tuple #[.slice none 0 0, .int .i64 1]))) := fun U => PaS.nil (HNF.out hfm)
    rw [hfm] at hfo
    clear HNF HLG HGO hfm HL HXK HG HRW HM HP HPP
    go_wp2_with fail
    refine hfo.mono ?_
    rintro e u ⟨rfl, hb⟩
    have hfin := hbW.trans (hb.mono hbW.size)
    clear hfo hb
    go_wp2
    go_ret2
    exact ⟨HV.out _, hfin⟩
  | true =>
  have HFM : Hid (foM20 (fiS s) l 65536 = true) := hfm
  rw [hfm] at hfo
  by_cases hlong : 100 < P.length
  · have HV : Hid (∀ U, PaS PR U (.returned (.tuple #[.slice none 0 0, .int .i64 3]))) := fun U => PaS.nil (HLG.out hfm hlong)
    have g1 : (100 : Int) < (P.length : Int) := by omega
    clear HNF HLG HGO hfm HL HXK HG HRW HM HP HPP hlong
    go_wp2_with fail
    refine hfo.mono ?_
    rintro e u ⟨rfl, hb⟩
    have hfin := hbW.trans (hb.mono hbW.size)
    clear hfo hb
    go_wp2
    go_ret2
    exact ⟨HV.out _, hfin⟩
  have HPR : Hid (PR = alM (rO s cs) (rE s cs) ms l ks P) := HGO.out hfm hlong
  have g1 : ¬ (100 : Int) < (P.length : Int) := by omega
  have HP100 : Hid (P.length ≤ 100) := by show _ ≤ _; omega
  clear HNF HLG HGO hfm
  go_wp2_with fail
  refine hfo.mono ?_
  rintro e u ⟨rfl, hb⟩
  have hsrc : Gr PdE (fun k => False ∧ (Value.slice none 0 0).ownBlock ≠ some k) u qa qc P := (HPP.out.below hb).anyP
  have hll : ([] : List Pd).length + P.length ≤ 1000000 := by simp; omega
  clear hfo x0 x1 x2 x3 hbW hlong
  go_wp2_with (at_builtin; refine wpList_append_el (E := PdE) 33 54 Tryz.underlying33 info_pd rfl (by decide) (by decide) rfl _ _ rfl u.heap.size (fun _ => False) _ [] rfl (Gw.nil _ _ _ _ _) qa qc P.length P rfl rfl hsrc hll (Nat.le_refl _) ?_)
  intro v9 w9 hT9 hgrow _
  have hb9 : Below u.heap.size u w9 := (Below.refl _ _).grown hgrow (Nat.le_refl _) (fun k hk => by cases hk)
  have hbw9 := hb.trans (hb9.mono hb.size)
  obtain ⟨va, vc, e9, hout, -⟩ := hT9.slice
  subst e9
  have HOUT : Hid (Gr PdE (fun _ => False) w9 va vc P) := hout
  clear hT9 hgrow hsrc hll g1 hb9 hb hout
  go_wp2
  go_loopw [10, 11] (fun vo vi wr => ∃ (r : Nat) (Q : List Pd) (va1 : Option Addr) (vc1 : Nat), r ≤ ks.length ∧ vo = .slice va1 P.length vc1 ∧ vi = .int .i64 r ∧ Hid (PR = alM (rO s cs) (rE s cs) ms l (ks.drop r) Q) ∧ Hid (Q.length = P.length ∧ naL Q = naL P) ∧ Hid (Gr PdE (fun _ => False) wr va1 vc1 Q) ∧ Below W.heap.size W wr) (fun _ vi _ => ks.length - (intOf vi).toNat)
  case atStart => exact ⟨0, P, va, vc, Nat.zero_le _, rfl, rfl, HPR.out, ⟨rfl, rfl⟩, HOUT.out, hbw9⟩
  case round =>
    clear HOUT hbw9 HPR
    rename World => wr
    obtain ⟨r, Q, va1, vc1, hr, rfl, rfl, HPQ, HQQ, HLQ, hB⟩ := hrel
    by_cases hrn : r < ks.length
    rotate_left
    · have hql := HQQ.out.1
      have HV : Hid (PaS PR wr (.returned (.tuple #[.slice va1 P.length vc1, .int .i64 0]))) := by rw [← hql]; exact PaS.yes (by rw [HPQ.out, show r = ks.length by omega]; exact alM_end) HLQ.out
      have g4 : ¬ (r : Int) < (ks.length : Int) := by omega
      have hBw := HBW.out.trans (hB.mono HBW.out.size)
      clear HPQ hql
      go_wp2
      go_ret2
      exact ⟨HV.out, hBw⟩
    · obtain ⟨jb, jo, rfl, hjb, c0⟩ := HXK.out.at hB r hrn
      have hz := HXK.out.i64 hrn
      have i1 : (0 : Int) ≤ (r : Int) := by omega
      have i2 : (r : Int) < (ks.length : Int) := by omega
      by_cases h01 : 0 ≤ ks.getD r 0 ∧ ks.getD r 0 < (l.length : Int)
      rotate_left
      · have HV : Hid (∀ U, PaS PR U (.returned (.tuple #[.slice none 0 0, .int .i64 5]))) := fun U => PaS.nil (by rw [HPQ.out]; exact alM_none hrn h01)
        have hBw := HBW.out.trans (hB.mono HBW.out.size)
        obtain ⟨z, hzz⟩ : ∃ z, ks.getD r 0 = z := ⟨_, rfl⟩
        rw [hzz] at c0 hz h01
        clear HPQ hzz
        by_cases h0 : z < 0
        · have d0 : decide (z < 0) = true := decide_eq_true h0
          clear h0 h01
          go_wp2
          go_ret2
          exact ⟨HV.out _, hBw⟩
        · have d0 : decide (z < 0) = false := decide_eq_false h0
          have d1 : decide ((l.length : Int) ≤ z) = true := decide_eq_true (by omega)
          clear h0 h01
          go_wp2
          go_ret2
          exact ⟨HV.out _, hBw⟩
      · obtain ⟨k, hk⟩ : ∃ k : Nat, ks.getD r 0 = (k : Int) := ⟨(ks.getD r 0).toNat, by omega⟩
        have hkl : k < l.length := by omega
        rw [hk] at c0
        obtain ⟨kb, ko, ra, rc, ela, hkd, hall⟩ := HL.out.lkAll k hkl
        have HBD : Hid (thQ (rO s cs) (rE s cs) ms (l.getD k Lk.none) Q = none → PR = (4, [])) := fun h => by rw [HPQ.out]; exact alM_thB hrn hk hkl h
        have HON : Hid (∀ R, thQ (rO s cs) (rE s cs) ms (l.getD k Lk.none) Q = some R → PR = alM (rO s cs) (rE s cs) ms l (ks.drop (r + 1)) R) := fun R h => by rw [HPQ.out]; exact alM_thO hrn hk hkl h
        have HPM : Hid (mvB (l.getD k Lk.none).kd = true → ∀ q ∈ (l.getD k Lk.none).rs, PrF (fiS s) (l.getD k Lk.none).kd (l.getD k Lk.none).sk q) := fun h q hq => pr_mem HFM.out hkl h hq
        obtain ⟨x, hx⟩ : ∃ x, l.getD k Lk.none = x := ⟨_, rfl⟩
        rw [hx] at hkd hall HBD HON HPM
        clear hx HPQ hz
        obtain ⟨kd, sk, rs⟩ := x
        dsimp only at hkd hall HPM
        subst ela
        have i3 : (0 : Int) ≤ (k : Int) := by omega
        have i4 : (k : Int) < (l.length : Int) := by omega
        have d0 : decide ((k : Int) < 0) = false := decide_eq_false (by omega)
        have d1 : decide ((l.length : Int) ≤ (k : Int)) = false := decide_eq_false (by omega)
        have d1n : decide (l.length ≤ k) = false := decide_eq_false (by omega)
        have HALL : Hid (∀ u, Below W.heap.size W u → Gr RuE Sl u ra rc rs ∧ u.cell? ⟨kb, ko + k * 3, none⟩ = some (.int .i64 kd) ∧ u.cell? ⟨kb, ko + k * 3 + 1, none⟩ = some (.bool sk) ∧ u.cell? ⟨kb, ko + k * 3 + 2, none⟩ = some (.slice ra rs.length rc)) := hall
        have HIN : Hid (mvB kd = true → ∀ q ∈ rs, kd = 6 → q.inn.length = 2) := fun h q hq h6 => by
          have := (HPM.out h q hq).inn
          rw [h6] at this
          exact this
        have HOQ0 : Hid (thQ (rO s cs) (rE s cs) ms ⟨kd, sk, rs⟩ Q = if mvB kd then ruQ (rO s cs) (rE s cs) ms ⟨kd, sk, rs⟩ Q ((0 : Nat) : Int) else some Q) := rfl
        generalize thQ (rO s cs) (rE s cs) ms ⟨kd, sk, rs⟩ Q = O at HBD HON HOQ0
        clear h01 hk hall
        go_wp2
        clear c0 d0 d1 d1n
        go_loopw [10, 13] (fun vo vt wr => ∃ (Q1 : List Pd) (va2 : Option Addr) (vc2 i : Nat), vo = .slice va2 P.length vc2 ∧ vt = .int .i64 (i : Int) ∧ i ≤ 3 * P.length + 3 ∧ Hid (O = if mvB kd then ruQ (rO s cs) (rE s cs) ms ⟨kd, sk, rs⟩ Q1 (i : Int) else some Q1) ∧ Hid (Q1.length = P.length ∧ naL Q1 = naL P) ∧ Hid (Gr PdE (fun _ => False) wr va2 vc2 Q1) ∧ Below W.heap.size W wr) (fun _ vt _ => P.length - (intOf vt).toNat)
        case atStart => exact ⟨Q, va1, vc1, 0, rfl, rfl, by omega, HOQ0.out, HQQ.out, HLQ.out, hB⟩
        case round =>
          clear HOQ0 HQQ HLQ hB
          rename World => wr
          obtain ⟨Q1, va2, vc2, i, rfl, rfl, hi3, HOQ, HQ1, HL1, hB⟩ := hrel
          obtain ⟨hrs, e0, e1, e2⟩ := HALL.out wr hB
          have hkb : kb < wr.heap.size := cell_ltL e0
          clear hrs hkb
          by_cases hin : i < P.length
          rotate_left
          · have g4 : decide ((i : Int) < (P.length : Int)) = false := decide_eq_false (by omega)
            have g4n : decide (i < P.length) = false := decide_eq_false hin
            have HOS : Hid (O = some Q1) := by
              show _ = _
              rw [HOQ.out]
              split
              · exact ruQ_end (by omega) (by rw [HQ1.out.1]; omega)
              · rfl
            have HNX : Hid (PR = alM (rO s cs) (rE s cs) ms l (ks.drop (r + 1)) Q1) := HON.out Q1 HOS.out
            clear HOQ HOS HON HBD HPM HIN hin
            go_wp2
            go_roundw
            case rel => exact ⟨r + 1, Q1, va2, vc2, by omega, rfl, by go_num, HNX, HQ1, HL1, hB⟩
            case measure => simp [intOf]; omega
          have g4 : decide ((i : Int) < (P.length : Int)) = true := decide_eq_true (by omega)
          have g4n : decide (i < P.length) = true := decide_eq_true hin
          have i5 : (0 : Int) ≤ (i : Int) := by omega
          have i6 : (i : Int) < (P.length : Int) := by omega
          have hmo := smoves21_any kd wr hkd
          go_wp2_with fail
          refine hmo.mono ?_
          rintro e u9 ⟨rfl, rfl⟩
          clear hmo
          cases hmv : mvB kd with
          | false =>
            have HOS : Hid (O = some Q1) := by
              show _ = _
              rw [HOQ.out, hmv]
              rfl
            have HNX : Hid (PR = alM (rO s cs) (rE s cs) ms l (ks.drop (r + 1)) Q1) := HON.out Q1 HOS.out
            clear HOQ HOS HON HBD HPM HIN hin hmv e0 e1 e2
            go_wp2
            go_roundw
            case rel => exact ⟨r + 1, Q1, va2, vc2, by omega, rfl, by go_num, HNX, HQ1, HL1, hB⟩
            case measure => simp [intOf]; omega
          | true =>
          clear e0 e1 e2
          obtain ⟨Z, hZw⟩ : ∃ Z, Z = wr := ⟨_, rfl⟩
          have hBZ : Below W.heap.size W Z := by rw [hZw]; exact hB
          have HLZ : Hid (Gr PdE (fun _ => False) Z va2 vc2 Q1) := by rw [hZw]; exact HL1
          rw [← hZw]
          clear hZw hB HL1
          have HOR : Hid (O = ruQ (rO s cs) (rE s cs) ms ⟨kd, sk, rs⟩ Q1 (i : Int)) := by show _ = _; rw [HOQ.out, hmv]; rfl
          have HIN2 : Hid (∀ q ∈ rs, kd = 6 → q.inn.length = 2) := HIN.out hmv
          have HPM2 : Hid (∀ q ∈ rs, PrF (fiS s) kd sk q) := HPM.out hmv
          have HK5 : Hid (kd = 5 ∨ kd = 6 ∨ kd = 7) := mvB_iff.1 hmv
          clear HOQ HIN HPM hmv
          go_upto_region 15 with fail
          clear g4
          obtain ⟨hrs, e0, e1, e2⟩ := HALL.out Z hBZ
          have hkb : kb < Z.heap.size := cell_ltL e0
          have X1 := HX1.out.below hBZ
          obtain ⟨x0, x1, x2, x3, -⟩ := X1.four
          have hsl : w.heap.size < Z.heap.size := X1.lt
          have hZd : Below Z.heap.size Z Z.drew := (Below.refl _ _).drew
          have hBD := hBZ.trans (hZd.mono hBZ.size)
          have hon := sone21_any Sm Sl (fun _ => False) ga gc ma mc s ka kc ms pa pc cs va2 vc2 Q1 kd sk ra rc rs i Z.drew (HG.out.below hBD) (HRW.out.below hBD) (HM.out.below hBD) (HP.out.below hBD) h40 h8 (HLZ.out.below hZd) (hrs.below hZd) HK5.out HPM2.out (by rw [HQ1.out.1]; exact hin) (by have h1 := HQ1.out.1; have h2 := HP100.out; omega)
          rw [HQ1.out.1] at hon
          have HBD2 : Hid (onP (rO s cs) (rE s cs) ms ⟨kd, sk, rs⟩ Q1 i = none → PR = (4, [])) := fun h => HBD.out (by rw [HOR.out]; exact ruQ_bad (by rw [HQ1.out.1]; exact hin) h)
          have HON2 : Hid (∀ R nx, onP (rO s cs) (rE s cs) ms ⟨kd, sk, rs⟩ Q1 i = some (R, nx) → O = ruQ (rO s cs) (rE s cs) ms ⟨kd, sk, rs⟩ R nx ∧ R.length = P.length ∧ naL R = naL P ∧ (i : Int) < nx ∧ nx ≤ (P.length : Int) + (i : Int) + 1) := fun R nx h => by
            obtain ⟨h1, h2, h3, h4⟩ := on_keep h HIN2.out
            refine ⟨by rw [HOR.out]; exact ruQ_on HIN2.out (by rw [HQ1.out.1]; exact hin) h, by rw [h1]; exact HQ1.out.1, by rw [h2]; exact HQ1.out.2, h3, ?_⟩
            rw [HQ1.out.1] at h4
            exact h4
          have HMT : Hid (mvB kd = true) := mvB_iff.2 HK5.out
          generalize onP (rO s cs) (rE s cs) ms ⟨kd, sk, rs⟩ Q1 i = D at hon HBD2 HON2
          clear HOR HBD HIN2 HPM2 HLZ HQ1 hBZ X1 hrs
          refine wp_region_held_drew (S := fun v => (v.cell? ⟨kb, ko + k * 3, none⟩ = some (.int .i64 kd) ∧ v.cell? ⟨kb, ko + k * 3 + 1, none⟩ = some (.bool sk) ∧ v.cell? ⟨kb, ko + k * 3 + 2, none⟩ = some (.slice ra rs.length rc)) ∧ v.cell? ⟨w.heap.size, 0, none⟩ = some (.slice ga s.rg.length gc) ∧ v.cell? ⟨w.heap.size, 1, none⟩ = some (.slice ma s.rw.length mc) ∧ v.cell? ⟨w.heap.size, 2, none⟩ = some (.slice ka ms.length kc) ∧ v.cell? ⟨w.heap.size, 3, none⟩ = some (.slice pa cs.length pc)) (by kernel_rfl) ⟨⟨e0, e1, e2⟩, x0, x1, x2, x3⟩ (fun hHeld => ?_)
          refine hT 0 hHeld ?_
          refine hT 1 hHeld ?_
          refine hT 2 hHeld ?_
          refine hT 3 hHeld ?_
          refine hT 4 hHeld ?_
          refine hT 5 hHeld ?_
          refine hT 6 hHeld ?_
          refine hCall (i := 7) rfl (by kernel_rfl) (by rfl) (fun K hK => ?_)
          go_simp
          refine hon.mono ?_
          rintro e u2 ⟨hO, hb⟩
          have hUu := hZd.trans (hb.mono hZd.size)
          have hfin := hBD.trans (hb.mono hBD.size)
          have hS : Hid ((u2.cell? ⟨kb, ko + k * 3, none⟩ = some (.int .i64 kd) ∧ u2.cell? ⟨kb, ko + k * 3 + 1, none⟩ = some (.bool sk) ∧ u2.cell? ⟨kb, ko + k * 3 + 2, none⟩ = some (.slice ra rs.length rc)) ∧ u2.cell? ⟨w.heap.size, 0, none⟩ = some (.slice ga s.rg.length gc) ∧ u2.cell? ⟨w.heap.size, 1, none⟩ = some (.slice ma s.rw.length mc) ∧ u2.cell? ⟨w.heap.size, 2, none⟩ = some (.slice ka ms.length kc) ∧ u2.cell? ⟨w.heap.size, 3, none⟩ = some (.slice pa cs.length pc)) :=
            ⟨⟨(hUu.cell (p := ⟨kb, ko + k * 3, none⟩) hkb).trans e0, (hUu.cell (p := ⟨kb, ko + k * 3 + 1, none⟩) hkb).trans e1, (hUu.cell (p := ⟨kb, ko + k * 3 + 2, none⟩) hkb).trans e2⟩, (hUu.cell (p := ⟨w.heap.size, 0, none⟩) hsl).trans x0, (hUu.cell (p := ⟨w.heap.size, 1, none⟩) hsl).trans x1, (hUu.cell (p := ⟨w.heap.size, 2, none⟩) hsl).trans x2, (hUu.cell (p := ⟨w.heap.size, 3, none⟩) hsl).trans x3⟩
          clear hon hb hUu hHeld x0 x1 x2 x3 e0 e1 e2 hkb hsl hZd hBD
          cases D with
          | none =>
            have he := hO.no rfl
            subst he
            have HV : Hid (∀ U, PaS PR U (.returned (.tuple #[.slice none 0 0, .int .i64 4]))) := fun U => PaS.nil (HBD2.out rfl)
            have hBw := HBW.out.trans (hfin.mono HBW.out.size)
            clear HBD2 HON2 HON hO
            go_wp2_with fail
            refine hK.out _ _ hS.out (fun hHeld => ?_)
            clear hK K
            try simp only [Act.put, List.setIfInBounds_toArray, List.set_cons_zero, List.set_cons_succ]
            refine hT 8 hHeld ?_
            refine hT 9 hHeld ?_
            refine hT 10 hHeld ?_
            refine hT 11 hHeld ?_
            refine hT 12 hHeld ?_
            refine hT 13 hHeld ?_
            refine hT 14 hHeld ?_
            refine wpAnyH_done (by kernel_rfl) ?_ _
            clear hHeld hS
            go_wp2
            go_ret2
            exact ⟨HV.out _, hBw⟩
          | some q =>
            obtain ⟨R, nx⟩ := q
            obtain ⟨h1, h2, h3, h4, h5⟩ := HON2.out R nx rfl
            obtain ⟨va3, vc3, he, hgr⟩ := hO.ok R nx rfl
            rw [h2] at he
            obtain ⟨j, rfl⟩ : ∃ j : Nat, nx = (j : Int) := ⟨nx.toNat, by omega⟩
            subst he
            have HOR : Hid (O = if mvB kd then ruQ (rO s cs) (rE s cs) ms ⟨kd, sk, rs⟩ R (j : Int) else some R) := by show _ = _; rw [if_pos HMT.out]; exact h1
            have HRR : Hid (R.length = P.length ∧ naL R = naL P) := ⟨h2, h3⟩
            have HLR : Hid (Gr PdE (fun _ => False) u2 va3 vc3 R) := hgr
            have i8 : j ≤ 3 * P.length + 3 := by omega
            have i9 : i < j := by omega
            clear HBD2 HON2 hO h1 h2 h3 h4 h5 hgr
            go_wp2_with fail
            refine hK.out _ _ hS.out (fun hHeld => ?_)
            clear hK K
            try simp only [Act.put, List.setIfInBounds_toArray, List.set_cons_zero, List.set_cons_succ]
            refine hT 8 hHeld ?_
            refine hT 9 hHeld ?_
            refine hT 10 hHeld ?_
            refine hT 11 hHeld ?_
            refine hT 12 hHeld ?_
            refine hT 13 hHeld ?_
            refine hT 14 hHeld ?_
            refine wpAnyH_done (by kernel_rfl) ?_ _
            clear hHeld hS
            go_wp2
            go_roundw
            case rel => exact ⟨R, va3, vc3, j, rfl, rfl, i8, HOR, HRR, HLR, hfin⟩
            case measure => simp [intOf]; omega

end Go.Proofs.YtchdoakoelfenaaGreat

namespace Go.Proofs.YtchdoakoelfenaaGreat
open Go.RowKit
set_option linter.unusedSimpArgs false
set_option linter.unusedVariables false

/-- A slice of integers that came in: it is nil; or it leads to a row of 'cap' cells, the numbers 'zs' (the first 'len' are its elements), each fitting its kind. -/
def IsRowK (k : IntKind) (w : World) (a : Option Addr) (len cap : Nat) (zs : List Int) : Prop :=
  (a = none ∧ len = 0 ∧ cap = 0 ∧ zs = []) ∨
  ∃ x, a = some x ∧ len ≤ cap ∧ cap ≤ maxLen ∧ zs.length = cap ∧ (∀ i, i < zs.length → w.cell? (x.add i) = some (.int k (zs.getD i 0))) ∧ ∀ n ∈ zs, (Lit.int k n).wf = true

theorem wfo_u8_bounds {n : Int} (h : (Lit.int .u8 n).wf = true) : 0 ≤ n ∧ n < 256 := by
  simp [Lit.wf, IntKind.min, IntKind.max, IntKind.bits, IntKind.signed] at h
  omega
theorem wfo_i32_bounds {n : Int} (h : (Lit.int .i32 n).wf = true) : -2147483648 ≤ n ∧ n ≤ 2147483647 := by
  simp [Lit.wf, IntKind.min, IntKind.max, IntKind.bits, IntKind.signed] at h
  omega
theorem wfo_i64_bounds {n : Int} (h : (Lit.int .i64 n).wf = true) : -9223372036854775808 ≤ n ∧ n ≤ 9223372036854775807 := by
  simp [Lit.wf, IntKind.min, IntKind.max, IntKind.bits, IntKind.signed] at h
  omega

theorem IsRowK.cells {k : IntKind} {w : World} {a : Option Addr} {len cap : Nat} {zs : List Int} (h : IsRowK k w a len cap zs) :
    ∃ ys : List Int, len = ys.length ∧ (∀ y ∈ ys, (Lit.int k y).wf = true) ∧ ys.length ≤ cap ∧ cap ≤ maxLen ∧ (a = none → cap = 0) ∧
      (ys = [] ∨ ∃ b off, a = some ⟨b, off, none⟩ ∧ b < w.heap.size ∧ ∀ i, i < ys.length → w.cell? ⟨b, off + i, none⟩ = some (.int k (ys.getD i 0))) := by
  rcases h with ⟨rfl, rfl, rfl, rfl⟩ | ⟨x, rfl, h1, h2, h3, hc, hw⟩
  · exact ⟨[], rfl, (fun y hy => by cases hy), Nat.le_refl _, Nat.zero_le _, fun _ => rfl, .inl rfl⟩
  · refine ⟨zs.take len, by simp; omega, fun y hy => hw y (List.mem_of_mem_take hy), by simp; omega, h2, (by simp), ?_⟩
    by_cases h0 : len = 0
    · exact .inl (by simp [h0])
    · obtain ⟨b, off, spot⟩ := x
      have c0 := hc 0 (by omega)
      have hspot : spot = none := by simpa [Addr.add] using World.cell?_spot c0
      subst hspot
      refine .inr ⟨b, off, rfl, ?_, fun i hi => ?_⟩
      · have := World.block_lt_of_cell? w _ c0
        simpa [Addr.add] using this
      · simp at hi
        have hadd : (⟨b, off, none⟩ : Addr).add i = ⟨b, off + i, none⟩ := by unfold Addr.add; split <;> simp_all
        have hci := hc i (by omega)
        rw [hadd] at hci
        rw [hci]
        simp [List.getD, show i < len by omega]

theorem IsRowK.rb {w : World} {a : Option Addr} {len cap : Nat} {zs : List Int} (h : IsRowK .u8 w a len cap zs) : ∃ xs : List Nat, len = xs.length ∧ Rb w a cap xs := by
  obtain ⟨ys, h1, h2, h3, h4, h5, h6⟩ := h.cells
  have hb : ∀ y ∈ ys, 0 ≤ y ∧ y < 256 := fun y hy => wfo_u8_bounds (h2 y hy)
  refine ⟨ys.map Int.toNat, by simp [h1], ?_, by simpa using h3, h4, h5, ?_⟩
  · intro x hx
    obtain ⟨y, hy, rfl⟩ := List.mem_map.1 hx
    have := hb y hy
    omega
  · rcases h6 with rfl | ⟨b, off, e, hlt, hc⟩
    · exact .inl rfl
    · refine .inr ⟨b, off, e, hlt, fun i hi => ?_⟩
      simp at hi
      rw [hc i hi]
      have h0 : ys.getD i 0 = ys[i] := by simp [List.getD, hi]
      have hy := hb ys[i] (List.getElem_mem hi)
      rw [h0]
      simp [List.getD, hi]
      omega

end Go.Proofs.YtchdoakoelfenaaGreat

namespace Go.Proofs.YtchdoakoelfenaaGreat
open Go.RowKit
open Go.ChangeShapes Go.WideShapes Go.Joins Go.Deep
set_option linter.unusedSimpArgs false
set_option linter.unusedVariables false

/-- What came in as data of a type lies as such a thing. -/
def Opens {α : Type} (E : El α) (t : TypeId) : Prop :=
  Tryz.prog.cellsOf t = E.sz ∧ ∀ (H : Type) (enc : TypeId × Value → H) (W : World) (held : Bool) (fuel : Nat) (cs : List Value) (x : DataW H × List MemPlace),
    DataW.trod enc Tryz.prog W 0 (fun _ => true) held fuel t cs = some x → (∀ n ∈ x.1.weights Tryz.prog t, n ≤ reachBytes) → ∃ y : α, E.rep (fun k => k < W.heap.size) W cs y
theorem Opens.num {t : TypeId} {k : IntKind} {lo hi : Int} (ht : Tryz.prog.underlying t = some (.int k)) (hc : Tryz.prog.cellsOf t = 1) (hb : ∀ z, (Lit.int k z).wf = true → lo ≤ z ∧ z ≤ hi) : Opens (El.num k lo hi) t :=
  ⟨hc, fun H enc W held fuel cs x h hz => by
    obtain ⟨z, e, _, hw⟩ := DataW.trod_int ht h
    exact ⟨z, e, hb z hw⟩⟩
theorem Opens.int {t : TypeId} (ht : Tryz.prog.underlying t = some (.int .i64)) (hc : Tryz.prog.cellsOf t = 1) : Opens El.int t := Opens.num ht hc (fun z hw => wfo_i64_bounds hw)
theorem Opens.bool {t : TypeId} (ht : Tryz.prog.underlying t = some .bool) (hc : Tryz.prog.cellsOf t = 1) : Opens El.bool t :=
  ⟨hc, fun H enc W held fuel cs x h hz => by
    obtain ⟨z, e, _⟩ := DataW.trod_bool ht h
    exact ⟨z, e⟩⟩
theorem Opens.str {t : TypeId} (ht : Tryz.prog.underlying t = some .string) (hc : Tryz.prog.cellsOf t = 1) : Opens El.str t :=
  ⟨hc, fun H enc W held fuel cs x h hz => by
    obtain ⟨z, e, _, hw⟩ := DataW.trod_string ht h
    exact ⟨z, e, hw⟩⟩
theorem Opens.via {α β : Type} {E : El α} {t : TypeId} (h : Opens E t) {f : β → α} {d : β} (hf : ∀ x, ∃ y, f y = x) : Opens (E.via f d) t :=
  ⟨h.1, fun H enc W held fuel cs x h1 hz => by
    obtain ⟨z, hz⟩ := h.2 H enc W held fuel cs x h1 hz
    obtain ⟨y, rfl⟩ := hf z
    exact ⟨y, hz⟩⟩
theorem list_of_ltG {α : Type} {d : α} {p : Nat → α → Prop} : ∀ n, (∀ i, i < n → ∃ o, p i o) → ∃ os : List α, os.length = n ∧ ∀ i, i < n → p i (os.getD i d) := by
  intro n
  induction n with
  | zero => exact fun _ => ⟨[], rfl, fun i hi => by omega⟩
  | succ n ih =>
    intro h
    obtain ⟨os, hl, ho⟩ := ih (fun i hi => h i (by omega))
    obtain ⟨o, h1⟩ := h n (by omega)
    refine ⟨os ++ [o], by simp [hl], fun i hi => ?_⟩
    by_cases hi' : i < n
    · have e : (os ++ [o]).getD i d = os.getD i d := by simp [List.getD, List.getElem?_append_left (show i < os.length by omega)]
      rw [e]
      exact ho i hi'
    · have e : i = n := by omega
      subst e
      have e : (os ++ [o]).getD i d = o := by simp [List.getD, ← hl]
      rw [e]
      exact h1
theorem weights_all {H : Type} {P : Program} {e : TypeId} {d : DataW H} : ∀ {l : List (DataW H)}, d ∈ l → ∀ {n : Nat}, n ∈ d.weights P e → n ∈ DataW.weightsAll P e l
  | c :: l, h, n, hn => by
    rw [DataW.weightsAll, List.mem_append]
    rcases List.mem_cons.1 h with h | h
    · exact .inl (by rw [← h]; exact hn)
    · exact .inr (weights_all h hn)
theorem Opens.row {α : Type} {E : El α} {t e : TypeId} (h : Opens E e) (ht : Tryz.prog.underlying t = some (.slice e)) (hc : Tryz.prog.cellsOf t = 1) (hsz : 0 < E.sz) (hby : 1 ≤ Tryz.prog.bytesOf e) : Opens E.row t :=
  ⟨hc, fun H enc W held fuel cs x hf hz => by
    rcases open_slice ht hf with ⟨hcs, _⟩ | ⟨ad, len, cap, m, n, D, Pl, hcs, _, hl, hm, hmm, hx, hel⟩
    · exact ⟨[], none, 0, hcs, (fun b o e1 => by cases e1), Gr.nil _ _ _ _ _ (Nat.zero_le _) (fun _ => rfl), Nat.zero_le _⟩
    · have hle : len ≤ m := by rw [hmm]; split <;> omega
      subst hx
      have hzm : ∀ i, i < len → ∀ k ∈ (D i).weights Tryz.prog e, k ≤ reachBytes := by
        intro i hi k hk
        refine hz k ?_
        simp only [DataW.weights, ht, List.mem_cons, List.mem_append]
        exact .inr (.inl (weights_all (List.mem_map.2 ⟨i, List.mem_range.2 hi, rfl⟩) hk))
      have hzl : len ≤ 140737488351232 := by
        have h1 := hz ((((List.range len).map D).length + ((List.range (m - len)).map fun j => D (len + j)).length) * Tryz.prog.bytesOf e) (by simp only [DataW.weights, ht]; exact List.mem_cons_self)
        rw [List.length_map, List.length_map, List.length_range, List.length_range] at h1
        have h2 : (len + (m - len)) * 1 ≤ (len + (m - len)) * Tryz.prog.bytesOf e := Nat.mul_le_mul_left _ hby
        have h3 : reachBytes = 140737488351232 := rfl
        omega
      have hone : ∀ i, i < len → ∃ o : α, ∃ vs, E.rep (fun k => k < W.heap.size) W vs o ∧ ∀ j, j < E.sz → W.cell? ((ad.add (i * E.sz)).add j) = vs[j]? := by
        intro i hi
        obtain ⟨cs', hc', ht'⟩ := hel i (by omega)
        rw [h.1] at hc'
        obtain ⟨hlen, _, hcell⟩ := World.cells?_some hc'
        obtain ⟨o, ho⟩ := h.2 H enc W held n cs' _ ht' (hzm i hi)
        refine ⟨o, cs', ho, fun j hj => ?_⟩
        have := hcell j (by omega)
        rw [this, List.getElem?_eq_getElem (by omega)]
      obtain ⟨os, hol, ho⟩ := list_of_ltG (d := E.dfl) len hone
      have key : ∀ i, i < len → ∃ b off vs, ad = ⟨b, off, none⟩ ∧ b < W.heap.size ∧ E.rep (fun k => k < W.heap.size) W vs (os.getD i E.dfl) ∧ ∀ j, j < E.sz → W.cell? ⟨b, off + i * E.sz + j, none⟩ = vs[j]? := by
        intro i hi
        obtain ⟨vs, h1, h2⟩ := ho i hi
        obtain ⟨b, off, spot⟩ := ad
        have h0 := h2 0 hsz
        have hv : 0 < vs.length := by rw [E.len h1]; exact hsz
        rw [List.getElem?_eq_getElem hv] at h0
        have hspot : spot = none := by
          obtain ⟨vs', h1', h2'⟩ := ho 0 (by omega)
          have h0' := h2' 0 hsz
          rw [List.getElem?_eq_getElem (by rw [E.len h1']; exact hsz)] at h0'
          have := World.cell?_spot h0'
          simpa [Addr.add] using this
        subst hspot
        have hadd : ∀ i, (⟨b, off, none⟩ : Addr).add i = ⟨b, off + i, none⟩ := by intro i; unfold Addr.add; split <;> simp_all
        have hadd2 : ∀ i j, ((⟨b, off, none⟩ : Addr).add i).add j = ⟨b, off + i + j, none⟩ := by intro i j; rw [hadd]; unfold Addr.add; split <;> simp_all
        have hlt := World.block_lt_of_cell? W _ h0
        rw [hadd2] at hlt
        exact ⟨b, off, vs, rfl, hlt, h1, fun j hj => by rw [← hadd2]; exact h2 j hj⟩
      refine ⟨os, some ad, cap, by rw [hcs, hol], fun b o e1 hne => ?_, ⟨by omega, hm, (fun e => by cases e), fun i hi => ?_⟩, by rw [hol]; exact hzl⟩
      · obtain ⟨b', off', _, e2, hb', _⟩ := key 0 (by have := List.length_pos_iff.2 hne; omega)
        rw [e2] at e1
        cases e1
        exact hb'
      · obtain ⟨b, off, vs, e2, hb, h1, h2⟩ := key i (by omega)
        exact ⟨b, off, vs, by rw [e2], hb, h1, h2⟩⟩
/-- Fields, one behind the other. -/
def OpensF {α : Type} (E : El α) (fs : List Field) (off : Nat) : Prop :=
  ∀ (H : Type) (enc : TypeId × Value → H) (W : World) (held : Bool) (n : Nat) (cs : List Value), (∀ f ∈ fs, ∃ y, DataW.trod enc Tryz.prog W 0 (fun _ => true) held n f.type ((cs.drop f.offset).take (Tryz.prog.cellsOf f.type)) = some y ∧ ∀ k ∈ y.1.weights Tryz.prog f.type, k ≤ reachBytes) →
    ∃ x : α, E.rep (fun k => k < W.heap.size) W ((cs.drop off).take E.sz) x
theorem OpensF.last {α : Type} {E : El α} {f : Field} {off : Nat} (h : Opens E f.type) (ho : f.offset = off) : OpensF E [f] off := by
  intro H enc W held n cs hy
  obtain ⟨y, hy, hz⟩ := hy f (by simp)
  rw [h.1, ho] at hy
  exact h.2 H enc W held n _ y hy hz
theorem OpensF.more {α β : Type} {E : El α} {F : El β} {f : Field} {fs : List Field} {off : Nat} (h : Opens E f.type) (ho : f.offset = off) (hs : OpensF F fs (off + E.sz)) : OpensF (E.cat F) (f :: fs) off := by
  intro H enc W held n cs hy
  obtain ⟨y, hy0, hz0⟩ := hy f (by simp)
  rw [h.1, ho] at hy0
  obtain ⟨x, hx⟩ := h.2 H enc W held n _ y hy0 hz0
  obtain ⟨z, hz⟩ := hs H enc W held n cs (fun g hg => hy g (by simp [hg]))
  refine ⟨(x, z), (cs.drop off).take E.sz, (cs.drop (off + E.sz)).take F.sz, ?_, hx, hz⟩
  show (cs.drop off).take (E.sz + F.sz) = _
  rw [List.take_add, List.drop_drop]
theorem Opens.struct {α : Type} {E : El α} {t : TypeId} {fs : Array Field} (ht : Tryz.prog.underlying t = some (.struct fs)) (hc : Tryz.prog.cellsOf t = E.sz) (h : OpensF E fs.toList 0) : Opens E t :=
  ⟨hc, fun H enc W held fuel cs x hf hz => by
    obtain ⟨xs, n, _, hx, hl, hlen, hff⟩ := DataW.trod_struct ht hf
    subst hx
    obtain ⟨y, hy⟩ := h H enc W held n cs (fun f hf' => by
      obtain ⟨i, hi, e⟩ := List.getElem_of_mem hf'
      have := hff i f (by rw [← e]; simp)
      have hix : i < xs.length := by simpa [hlen] using hi
      rw [this]
      refine ⟨xs[i]'hix, by rw [List.getElem?_eq_getElem], fun k hk => hz k ?_⟩
      simp only [DataW.weights, ht]
      refine DataW.weights_mem_each (j := i) (t := f.type) (d := (xs[i]'hix).1) ?_ ?_ k hk
      · rw [List.getElem?_map, List.getElem?_eq_getElem hi, e]
        rfl
      · rw [List.getElem?_map, List.getElem?_eq_getElem hix]
        rfl)
    rw [List.drop_zero, List.take_of_length_le (by rw [hl, hc]; exact Nat.le_refl _)] at hy
    exact ⟨y, hy⟩⟩
set_option maxRecDepth 100000 in
/-- A struct by value. -/
theorem Opens.agg {α : Type} {E : El α} {t : TypeId} (h : Opens E t) {fs : Array Field} (ht : Tryz.prog.underlying t = some (.struct fs)) {H : Type} {enc : TypeId × Value → H} {W : World} {held : Bool} {r : Reach} {b0 : Nat} {v : Value} {d : DataW H} {p : List MemPlace}
    (hv : Value.okWide Tryz.prog W r b0 t v) (hd : DataW.Trod enc Tryz.prog W 0 (fun _ => true) held t v d p) (hz : ∀ n ∈ d.weights Tryz.prog t, n ≤ reachBytes) : ∃ (cs : Array Value) (y : α), v = .agg cs ∧ E.rep (fun k => k < W.heap.size) W cs.toList y := by
  obtain ⟨cs, rfl, hsz⟩ := okWide_struct ht hv
  obtain ⟨fuel, hf⟩ := hd
  obtain ⟨y, hy⟩ := h.2 H enc W held fuel _ _ hf hz
  exact ⟨cs, y, rfl, by simpa [Value.cells] using hy⟩
set_option maxRecDepth 100000 in
/-- Anything of one cell. -/
theorem Opens.cell {α : Type} {E : El α} {t : TypeId} (h : Opens E t) {H : Type} {enc : TypeId × Value → H} {W : World} {held : Bool} {v : Value} {d : DataW H} {p : List MemPlace}
    (hd : DataW.Trod enc Tryz.prog W 0 (fun _ => true) held t v d p) (hz : ∀ n ∈ d.weights Tryz.prog t, n ≤ reachBytes) (hone : v.cells = #[v]) : ∃ y : α, E.rep (fun k => k < W.heap.size) W [v] y := by
  obtain ⟨fuel, hf⟩ := hd
  obtain ⟨y, hy⟩ := h.2 H enc W held fuel _ _ hf hz
  exact ⟨y, by simpa [hone] using hy⟩

end Go.Proofs.YtchdoakoelfenaaGreat

namespace Go.Proofs.YtchdoakoelfenaaGreat
open Go.RowKit
open Go.ChangeShapes Go.WideShapes Go.Joins Go.Deep
set_option linter.unusedSimpArgs false
set_option linter.unusedVariables false

theorem IsRowK.ri {w : World} {a : Option Addr} {len cap : Nat} {zs : List Int} (h : IsRowK .i64 w a len cap zs) : ∃ xs : List Int, len = xs.length ∧ Ri w a cap xs := by
  obtain ⟨ys, h1, h2, h3, h4, h5, h6⟩ := h.cells
  exact ⟨ys, h1, fun y hy => wfo_i64_bounds (h2 y hy), h3, h4, h6⟩

end Go.Proofs.YtchdoakoelfenaaGreat

namespace Go.Proofs.YtchdoakoelfenaaGreat
open Go.RowKit
open Go.ChangeShapes Go.WideShapes Go.Joins Go.Deep
set_option linter.unusedSimpArgs false
set_option linter.unusedVariables false

/-- An element of a row of rows. -/
theorem Gr.rwJ {α : Type} {E : El α} {S : Nat → Prop} {w wr : World} {a : Option Addr} {cap : Nat} {m : List (List α)} (h : Gr E.row S w a cap m) (hb : Below w.heap.size w wr) (k : Nat) (hk : k < m.length) :
    ∃ b off a' cap', a = some ⟨b, off, none⟩ ∧ b < w.heap.size ∧ wr.cell? ⟨b, off + k, none⟩ = some (.slice a' (m.getD k []).length cap') ∧ Gr E S wr a' cap' (m.getD k []) ∧ (m.getD k []).length ≤ 140737488351232 ∧ ∀ b o, a' = some ⟨b, o, none⟩ → m.getD k [] ≠ [] → S b := by
  obtain ⟨b, off, vs, e, hl, ⟨a', cap', hv, hS, hr, hlb⟩, hc⟩ := h.at hb k hk
  have := hc 0 Nat.one_pos
  rw [hv, show k * E.row.sz = k from Nat.mul_one k] at this
  exact ⟨b, off, a', cap', e, hl, this, hr, hlb, hS⟩
def TeJ : El Te := (El.int.cat (El.int.cat El.int)).via (fun t => (t.st, t.pk, t.en)) Te.none
theorem TeJ_rep {S : Nat → Prop} {w : World} {vs : List Value} {p : Te} : TeJ.rep S w vs p ↔ vs = [.int .i64 p.st, .int .i64 p.pk, .int .i64 p.en] ∧ Tw p := by
  constructor
  · rintro ⟨us, ts, rfl, ⟨rfl, h1⟩, us2, ts2, rfl, ⟨rfl, h2⟩, ⟨rfl, h3⟩⟩
    exact ⟨rfl, h1, h2, h3⟩
  · rintro ⟨rfl, h1, h2, h3⟩
    exact ⟨[_], _, rfl, ⟨rfl, h1⟩, [_], [_], rfl, ⟨rfl, h2⟩, ⟨rfl, h3⟩⟩
theorem Gr.tzJ {S : Nat → Prop} {w : World} {a : Option Addr} {cap : Nat} {l : List Te} (h : Gr TeJ S w a cap l) : Tz w a cap l := by
  refine ⟨h.1, h.2.1, fun t ht => ?_, h.2.2.1, fun i hi => ?_⟩
  · obtain ⟨i, hi, e⟩ := List.getElem_of_mem ht
    obtain ⟨b, off, vs, e1, hb, hr, hc⟩ := h.2.2.2 i hi
    have h2 := (TeJ_rep.1 hr).2
    rw [List.getD_eq_getElem?_getD, List.getElem?_eq_getElem hi, Option.getD_some, e] at h2
    exact h2
  · obtain ⟨b, off, vs, e1, hb, hr, hc⟩ := h.2.2.2 i hi
    obtain ⟨rfl, h2⟩ := TeJ_rep.1 hr
    exact ⟨b, off, e1, hb, hc 0 (by decide), hc 1 (by decide), hc 2 (by decide)⟩
theorem Gr.tzzJ {S : Nat → Prop} {w : World} {a : Option Addr} {cap : Nat} {m : List (List Te)} (h : Gr TeJ.row S w a cap m) : Tzz w a cap m := by
  refine ⟨h.1, h.2.1, fun i hi => ?_⟩
  obtain ⟨b, off, a', cap', h1, h2, h3, h4, -, -⟩ := h.rwJ (Below.refl _ _) i hi
  exact ⟨b, off, a', cap', h1, h2, h3, h4.tzJ⟩
theorem Gr.riiJ {S : Nat → Prop} {w : World} {a : Option Addr} {cap : Nat} {m : List (List Int)} (h : Gr El.int.row S w a cap m) : Rii w a cap m := by
  refine ⟨h.1, h.2.1, fun i hi => ?_⟩
  obtain ⟨b, off, a', cap', h1, h2, h3, h4, -, -⟩ := h.rwJ (Below.refl _ _) i hi
  exact ⟨b, off, a', cap', h1, h2, h3, h4.ri⟩
theorem opens_intJ : Opens El.int 3 := Opens.int Tryz.underlying3 (by kernel_rfl)
theorem opens_isJ : Opens El.int.row 23 := Opens.row opens_intJ Tryz.underlying23 (by kernel_rfl) Nat.one_pos (of_decide_eq_true (by kernel_rfl))
theorem opens_teJ : Opens TeJ 141 :=
  (Opens.struct (E := El.int.cat (El.int.cat El.int)) Tryz.underlying141 (by kernel_rfl) (OpensF.more opens_intJ rfl (OpensF.more opens_intJ rfl (OpensF.last opens_intJ rfl)))).via (fun x => ⟨⟨x.1, x.2.1, x.2.2⟩, rfl⟩)
theorem opens_tesJ : Opens TeJ.row 67 := Opens.row opens_teJ Tryz.underlying67 (by kernel_rfl) (by decide) (of_decide_eq_true (by kernel_rfl))
theorem opens_tessJ : Opens TeJ.row.row 26 := Opens.row opens_tesJ Tryz.underlying26 (by kernel_rfl) Nat.one_pos (of_decide_eq_true (by kernel_rfl))
theorem opens_issJ : Opens El.int.row.row 27 := Opens.row opens_isJ Tryz.underlying27 (by kernel_rfl) Nat.one_pos (of_decide_eq_true (by kernel_rfl))
theorem opens_storeJ : Opens (TeJ.row.row.cat El.int.row.row) 29 := Opens.struct Tryz.underlying29 (by kernel_rfl) (OpensF.more opens_tessJ rfl (OpensF.last opens_issJ rfl))
theorem opens_boolJ : Opens El.bool 4 := Opens.bool Tryz.underlying4 (by kernel_rfl)
theorem opens_bsJ : Opens El.bool.row 30 := Opens.row opens_boolJ Tryz.underlying30 (by kernel_rfl) Nat.one_pos (of_decide_eq_true (by kernel_rfl))
theorem opens_slotJ : Opens SlU 45 := Opens.struct (E := El.int.cat El.int) Tryz.underlying45 (by kernel_rfl) (OpensF.more opens_intJ rfl (OpensF.last opens_intJ rfl))
theorem opens_ruleJ : Opens RuE 48 :=
  (Opens.struct (E := El.int.row.cat (El.int.row.cat (El.int.cat (El.int.cat (SlU.cat (SlU.cat SlU)))))) Tryz.underlying48 (by kernel_rfl)
    (OpensF.more opens_isJ rfl (OpensF.more opens_isJ rfl (OpensF.more opens_intJ rfl (OpensF.more opens_intJ rfl (OpensF.more opens_slotJ rfl (OpensF.more opens_slotJ rfl (OpensF.last opens_slotJ rfl)))))))).via (fun x => ⟨⟨x.1, x.2.1, x.2.2.1, x.2.2.2.1, x.2.2.2.2.1, x.2.2.2.2.2.1, x.2.2.2.2.2.2⟩, rfl⟩)
theorem opens_rulesJ : Opens RuE.row 49 := Opens.row opens_ruleJ Tryz.underlying49 (by kernel_rfl) (by decide) (of_decide_eq_true (by kernel_rfl))
theorem opens_lookJ : Opens LkE 51 :=
  (Opens.struct (E := El.int.cat (El.bool.cat RuE.row)) Tryz.underlying51 (by kernel_rfl) (OpensF.more opens_intJ rfl (OpensF.more opens_boolJ rfl (OpensF.last opens_rulesJ rfl)))).via (fun x => ⟨⟨x.1, x.2.1, x.2.2⟩, rfl⟩)
theorem opens_looksJ : Opens LkE.row 22 := Opens.row opens_lookJ Tryz.underlying22 (by kernel_rfl) (by decide) (of_decide_eq_true (by kernel_rfl))
theorem opens_pdJ : Opens PdE 54 :=
  (Opens.struct (E := El.int.cat (El.int.cat (El.int.cat El.int))) Tryz.underlying54 (by kernel_rfl) (OpensF.more opens_intJ rfl (OpensF.more opens_intJ rfl (OpensF.more opens_intJ rfl (OpensF.last opens_intJ rfl))))).via (fun x => ⟨⟨x.1, x.2.1, x.2.2.1, x.2.2.2⟩, rfl⟩)
theorem opens_pdsJ : Opens PdE.row 33 := Opens.row opens_pdJ Tryz.underlying33 (by kernel_rfl) (by decide) (of_decide_eq_true (by kernel_rfl))
theorem opens_sceneJ : Opens ((TeJ.row.row.cat El.int.row.row).cat (El.bool.row.cat El.int.row)) 32 := Opens.struct Tryz.underlying32 (by kernel_rfl) (OpensF.more opens_storeJ rfl (OpensF.more opens_bsJ rfl (OpensF.last opens_isJ rfl)))
theorem opens_toldJ : Opens (LkE.row.cat El.int.row) 25 := Opens.struct Tryz.underlying25 (by kernel_rfl) (OpensF.more opens_looksJ rfl (OpensF.last opens_isJ rfl))
set_option maxRecDepth 100000 in
/-- A laid line. -/
theorem open_pdsJ {H : Type} {enc : TypeId × Value → H} {W : World} {held : Bool} {a : Option Addr} {len cap : Nat} {d : DataW H} {p : List MemPlace}
    (hd : DataW.Trod enc Tryz.prog W 0 (fun _ => true) held 33 (.slice a len cap) d p) (hz : ∀ n ∈ d.weights Tryz.prog 33, n ≤ reachBytes) : ∃ l : List Pd, len = l.length ∧ Gr PdE (fun k => k < W.heap.size) W a cap l := by
  obtain ⟨l, a', cap', e, _, hg, _⟩ := opens_pdsJ.cell hd hz rfl
  simp at e
  obtain ⟨rfl, rfl, rfl⟩ := e
  exact ⟨l, rfl, hg⟩
set_option maxRecDepth 100000 in
/-- A scene, by value. -/
theorem open_sceneJ {H : Type} {enc : TypeId × Value → H} {W : World} {held : Bool} {r : Reach} {b0 : Nat} {v : Value} {d : DataW H} {p : List MemPlace}
    (hv : Value.okWide Tryz.prog W r b0 32 v) (hd : DataW.Trod enc Tryz.prog W 0 (fun _ => true) held 32 v d p) (hz : ∀ n ∈ d.weights Tryz.prog 32, n ≤ reachBytes) :
    ∃ ga gc ma mc, ∃ s : Sr, ∃ ka kc, ∃ ms : List Bool, ∃ pa pc, ∃ cs : List Int, v = .agg #[.slice ga s.rg.length gc, .slice ma s.rw.length mc, .slice ka ms.length kc, .slice pa cs.length pc] ∧ Tzz W ga gc s.rg ∧ Rii W ma mc s.rw ∧ Gr El.bool (fun k => k < W.heap.size) W ka kc ms ∧ Ri W pa pc cs := by
  obtain ⟨xs, ⟨⟨m, n⟩, bs, cs⟩, rfl, us, ts, e, ⟨us1, ts1, e1, ⟨a, ca, h1, _, h2, _⟩, ⟨b, cb, h3, _, h4, _⟩⟩, us2, ts2, e2, ⟨c, cc, h5, _, h6, _⟩, d', cd, h7, _, h8, _⟩ := opens_sceneJ.agg Tryz.underlying32 hv hd hz
  subst h1 h3 h5 h7
  refine ⟨a, ca, b, cb, ⟨m, n⟩, c, cc, bs, d', cd, cs, ?_, h2.tzzJ, h4.riiJ, h6, h8.ri⟩
  congr 1
  apply Array.ext'
  rw [e, e1, e2]
  rfl
set_option maxRecDepth 100000 in
/-- Lookups, and which are done, by value. -/
theorem open_toldJ {H : Type} {enc : TypeId × Value → H} {W : World} {held : Bool} {r : Reach} {b0 : Nat} {v : Value} {d : DataW H} {p : List MemPlace}
    (hv : Value.okWide Tryz.prog W r b0 25 v) (hd : DataW.Trod enc Tryz.prog W 0 (fun _ => true) held 25 v d p) (hz : ∀ n ∈ d.weights Tryz.prog 25, n ≤ reachBytes) :
    ∃ la lc, ∃ l : List Lk, ∃ xa xc, ∃ ks : List Int, v = .agg #[.slice la l.length lc, .slice xa ks.length xc] ∧ Gr LkE (fun k => k < W.heap.size) W la lc l ∧ Ri W xa xc ks := by
  obtain ⟨xs, ⟨l, ks⟩, rfl, us, ts, e, ⟨a, ca, h1, _, h2, _⟩, b, cb, h3, _, h4, _⟩ := opens_toldJ.agg Tryz.underlying25 hv hd hz
  subst h1 h3
  refine ⟨a, ca, l, b, cb, ks, ?_, h2, h4.ri⟩
  congr 1
  apply Array.ext'
  rw [e]
  rfl
theorem array2J {α : Type} {cs : Array α} (h : cs.size = 2) : ∃ x y, cs = #[x, y] := by
  rcases cs with ⟨l⟩
  rcases l with _ | ⟨x, _ | ⟨y, _ | ⟨z, l⟩⟩⟩
  · simp at h
  · simp at h
  · exact ⟨x, y, rfl⟩
  · simp at h
end Go.Proofs.YtchdoakoelfenaaGreat
