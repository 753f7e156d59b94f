/-
  foundrylaw12.OutlineMoved: the walk.
-/
import Derived.Test.YtokcdkckomoajaaZ12
import Derived.Test.YtokcdkckomoajaaZ16
import Derived.Test.YtokcdkckomoajaaZ15
import Derived.Test.YtokcdkckomoajaaZ9
import Derived.Test.YtokcdkckomoajaaZ14
import Derived.Test.YtokcdkckomoajaaZ8
namespace Go.Proofs.Ytokcdkckomoajaa
open Go.RowKit Go.Maps
set_option linter.unusedSimpArgs false
set_option linter.unusedVariables false

theorem bxS_in {b : Int × Int × Int × Int} {q : Pn} (hb : (-32768 ≤ b.1 ∧ b.1 ≤ 32767) ∧ (-32768 ≤ b.2.1 ∧ b.2.1 ≤ 32767) ∧ (-32768 ≤ b.2.2.1 ∧ b.2.2.1 ≤ 32767) ∧ (-32768 ≤ b.2.2.2 ∧ b.2.2.2 ≤ 32767)) (hq : PnF q) :
    (-32768 ≤ (bxS b q).1 ∧ (bxS b q).1 ≤ 32767) ∧ (-32768 ≤ (bxS b q).2.1 ∧ (bxS b q).2.1 ≤ 32767) ∧ (-32768 ≤ (bxS b q).2.2.1 ∧ (bxS b q).2.2.1 ≤ 32767) ∧ (-32768 ≤ (bxS b q).2.2.2 ∧ (bxS b q).2.2.2 ≤ 32767) := by
  unfold PnF at hq
  unfold bxS
  dsimp only
  omega
theorem bxF_in : ∀ (l : List Pn) (b : Int × Int × Int × Int), (∀ p ∈ l, PnF p) → ((-32768 ≤ b.1 ∧ b.1 ≤ 32767) ∧ (-32768 ≤ b.2.1 ∧ b.2.1 ≤ 32767) ∧ (-32768 ≤ b.2.2.1 ∧ b.2.2.1 ≤ 32767) ∧ (-32768 ≤ b.2.2.2 ∧ b.2.2.2 ≤ 32767)) →
    (-32768 ≤ (l.foldl bxS b).1 ∧ (l.foldl bxS b).1 ≤ 32767) ∧ (-32768 ≤ (l.foldl bxS b).2.1 ∧ (l.foldl bxS b).2.1 ≤ 32767) ∧ (-32768 ≤ (l.foldl bxS b).2.2.1 ∧ (l.foldl bxS b).2.2.1 ≤ 32767) ∧ (-32768 ≤ (l.foldl bxS b).2.2.2 ∧ (l.foldl bxS b).2.2.2 ≤ 32767) := by
  intro l
  induction l with
  | nil => intro b _ hb; exact hb
  | cons p t ih => intro b h hb; exact ih (bxS b p) (fun q hq => h q (by simp [hq])) (bxS_in hb (h p (by simp)))
theorem bxO_in {l : List Pn} (h : ∀ p ∈ l, PnF p) : (-32768 ≤ (bxO l).1 ∧ (bxO l).1 ≤ 32767) ∧ (-32768 ≤ (bxO l).2.1 ∧ (bxO l).2.1 ≤ 32767) ∧ (-32768 ≤ (bxO l).2.2.1 ∧ (bxO l).2.2.1 ≤ 32767) ∧ (-32768 ≤ (bxO l).2.2.2 ∧ (bxO l).2.2.2 ≤ 32767) := by
  cases l with
  | nil => exact ⟨⟨by decide, by decide⟩, ⟨by decide, by decide⟩, ⟨by decide, by decide⟩, ⟨by decide, by decide⟩⟩
  | cons p t =>
    have hp := h p (by simp)
    unfold PnF at hp
    exact bxF_in t _ (fun q hq => h q (by simp [hq])) ⟨hp.1, hp.2, hp.1, hp.2⟩
theorem mvO_take {cs : List (List Pn)} {u v : Int} {k : Nat} {c : List Pn} (hk : k < cs.length) (hc : cs.getD k [] = c) : (mvO u v cs).take (k + 1) = (mvO u v cs).take k ++ [c.map (mvP u v)] := by
  rw [take_snoc (d := []) (by unfold mvO; rw [List.length_map]; exact hk)]
  congr 2
  rw [← hc]
  unfold mvO
  simp [List.getD, hk]
theorem mvP_take {c : List Pn} {u v : Int} {j : Nat} {q : Pn} (hj : j < c.length) (hq : c.getD j Pn.none = q) : (c.map (mvP u v)).take (j + 1) = (c.map (mvP u v)).take j ++ [mvP u v q] := by
  rw [take_snoc (d := Pn.none) (by rw [List.length_map]; exact hj)]
  congr 2
  rw [← hq]
  simp [List.getD, hj]
theorem mvO_len (u v : Int) (cs : List (List Pn)) : (mvO u v cs).length = cs.length := by unfold mvO; rw [List.length_map]

set_option maxHeartbeats 1000000 in
set_option maxRecDepth 100000 in
theorem outlineMoved_any (S : Nat → Prop) (a : Option Addr) (ca : Nat) (b : Option Addr) (cb : Nat) (o : Ol) (u v : Int) (w : World) (hg : Gr PnE.row S w a ca o.cs) (hm : Gr PaE S w b cb o.ps) (hu : -128 ≤ u ∧ u < 128) (hv : -128 ≤ v ∧ v < 128) :
    Calls Try.prog 8 #[.agg #[.slice a o.cs.length ca, .slice b o.ps.length cb], .agg #[.int .i8 u, .int .i8 v]] w fun e w' => e = .returned (.bool true) ∧ Below w.heap.size w w' := by
  have k1 := hg.lenB
  have k2 := hm.lenB
  obtain ⟨W, hW, X1, X2, hbW⟩ : ∃ W, W = (w.alloc (.cells #[.slice a o.cs.length ca, .slice b o.ps.length cb] 25)).alloc (.cells #[.int .i8 u, .int .i8 v] 51) ∧ Bk 25 W w.heap.size [.slice a o.cs.length ca, .slice b o.ps.length cb] ∧ Bk 51 W (w.heap.size + 1) [.int .i8 u, .int .i8 v] ∧ Below w.heap.size w W := ⟨_, rfl, (Bk.new _ _ _).below (bl1 _), Bk.new1 _ _ _ _, bl2 _ _⟩
  replace hg := hg.below hbW
  replace hm := hm.below hbW
  go_enter Try.func8, Try.ntmps8
  go_wp2_with fail
  rw [← hW]
  clear hW
  refine (awake12_any _).mono ?_
  rintro e t1 ⟨rfl, hb1⟩
  replace hg := hg.below hb1
  replace hm := hm.below hb1
  replace X1 := X1.below hb1
  replace X2 := X2.below hb1
  replace hbW : Below w.heap.size w t1 := hbW.trans (hb1.mono hbW.size)
  clear hb1 
  obtain ⟨p0, p1, _⟩ := X1.two
  go_wp2_with fail
  refine (sfewO_any S a ca b cb o _ hg hm).mono ?_
  rintro e t2 ⟨rfl, hb2⟩
  replace hg := hg.below hb2
  replace hm := hm.below hb2
  replace X1 := X1.below hb2
  replace X2 := X2.below hb2
  replace hbW : Below w.heap.size w t2 := hbW.trans (hb2.mono hbW.size)
  clear hb2 p0 p1
  obtain ⟨p0, p1, _⟩ := X1.two
  cases hq : fewB o with
  | false =>
    clear hq
    go_wp2_with fail
    refine (awake12_any _).mono ?_
    rintro e v9 ⟨rfl, hb9⟩
    replace hbW := hbW.trans (hb9.mono hbW.size)
    clear hb9
    go_wp2
    go_ret
    exact ⟨rfl, hbW⟩
  | true =>
  obtain ⟨q1, q2, q3⟩ := fewB_of hq
  clear hq
  have hfo := fun U h1 h2 => cformO_any S a ca b cb o U h1 h2
  cases hf : foB o with
  | false =>
    simp only [hf] at hfo
    clear hf
    go_wp2_with fail
    refine (hfo _ hg hm).mono ?_
    rintro e t3 ⟨rfl, hb3⟩
    replace hg := hg.below hb3
    replace hm := hm.below hb3
    replace X1 := X1.below hb3
    replace X2 := X2.below hb3
    replace hbW : Below w.heap.size w t3 := hbW.trans (hb3.mono hbW.size)
    clear hb3 p0 p1
    go_wp2_with fail
    refine (awake12_any _).mono ?_
    rintro e v9 ⟨rfl, hb9⟩
    replace hbW := hbW.trans (hb9.mono hbW.size)
    clear hb9
    go_wp2
    go_ret
    exact ⟨rfl, hbW⟩
  | true =>
  simp only [hf] at hfo
  obtain ⟨f1, f2, f3, f4, f5, f6, f7⟩ := foB_iff.1 hf
  have HPF : Hid (∀ c ∈ o.cs, ∀ p ∈ c, PnF p) := fun c hc p hp => f6 p (List.mem_flatten.2 ⟨c, hc, hp⟩)
  have hin := bxO_in (l := o.cs.flatten) f6
  have HWP : Hid (o.ps.length = 0 → wrOE o = 0 → wrOE ⟨mvO u v o.cs, []⟩ = 0 → (wrOB o).length ≤ (wrOB ⟨mvO u v o.cs, []⟩).length + 6 ∧ (wrOB ⟨mvO u v o.cs, []⟩).length ≤ (wrOB o).length + 6) := fun h1 h2 h3 => by
    rw [wrOB_co h2 h1, wrOB_co h3 rfl]
    exact coB_mv u v o.cs f5
  clear hf f1 f3 f4 f6 f7
  go_wp2_with fail
  refine (hfo _ hg hm).mono ?_
  rintro e t3 ⟨rfl, hb3⟩
  replace hg := hg.below hb3
  replace hm := hm.below hb3
  replace X1 := X1.below hb3
  replace X2 := X2.below hb3
  replace hbW : Below w.heap.size w t3 := hbW.trans (hb3.mono hbW.size)
  clear hb3 p0 p1 hfo
  obtain ⟨V, hV, Y1, hbV⟩ : ∃ V, V = t3.alloc (.cells #[.slice none 0 0, .slice none 0 0] 25) ∧ Bk 25 V t3.heap.size [.slice none 0 0, .slice none 0 0] ∧ Below t3.heap.size t3 V := ⟨_, rfl, Bk.new _ _ _, bl1 _⟩
  have hX1l : w.heap.size < t3.heap.size := X1.lt
  have hX2l : w.heap.size + 1 < t3.heap.size := X2.lt
  have HG : Hid (Gr PnE.row S t3 a ca o.cs) := hg
  have HM : Hid (Gr PaE S t3 b cb o.ps) := hm
  have HX1 : Hid (Bk 25 t3 w.heap.size [.slice a o.cs.length ca, .slice b o.ps.length cb]) := X1
  have HX2 : Hid (Bk 51 t3 (w.heap.size + 1) [.int .i8 u, .int .i8 v]) := X2
  have HB : Hid (Below w.heap.size w t3) := hbW
  have HY1 : Hid (Bk 25 V t3.heap.size [.slice none 0 0, .slice none 0 0]) := Y1
  have HBV : Hid (Below t3.heap.size t3 V) := hbV
  have hVs : V.heap.size = t3.heap.size + 1 := by rw [hV]; simp
  clear hg hm X1 X2 hbW Y1 hbV
  go_wp2
  rw [← hV]
  clear hV
  obtain ⟨g5, hg5⟩ : ∃ g, t3.heap.size = g := ⟨_, rfl⟩
  have HG5 : Hid (t3.heap.size = g5) := hg5
  rw [hg5] at HY1 hVs ⊢
  obtain ⟨vs, hvs⟩ : ∃ n, V.heap.size = n := ⟨_, rfl⟩
  have hvs2 : g5 < vs := by omega
  have HVS : Hid (V.heap.size = vs) := hvs
  clear hg5 hvs hVs
  go_loopw [6] (fun i wr => ∃ (k : Nat) (pv : Value), k ≤ o.cs.length ∧ i = .int .i64 k ∧ Bk 25 wr g5 [pv, .slice none 0 0] ∧ Gw PnE.row 37 vs (fun b => vs ≤ b ∧ b < wr.heap.size) wr pv ((mvO u v o.cs).take k) ∧ vs ≤ wr.heap.size ∧ Below t3.heap.size t3 wr) (fun i _ => o.cs.length - (intOf i).toNat)
  case atStart => exact ⟨0, .slice none 0 0, Nat.zero_le _, rfl, HY1.out, Gw.nil _ _ _ _ _, by rw [HVS.out]; exact Nat.le_refl _, HBV.out⟩
  case round =>
    clear HY1 HBV HVS
    obtain ⟨k, pv, hk, rfl, hY, hG, hvl, hB⟩ := hrel
    obtain ⟨x0, x1, _⟩ := (HX1.out.below hB).two
    by_cases hkn : k < o.cs.length
    · obtain ⟨b1, o1, a1, c1, ea, hb1, d0, hrow, hlb, _⟩ := HG.out.rw hB k hkn
      have hmem := getL_mem' hkn
      obtain ⟨_, _, _, _, ea', _, hcd, hrow0⟩ := HG.out.rwAt k hkn
      rw [ea] at ea'
      cases ea'
      subst ea
      obtain ⟨c, hc⟩ : ∃ c, o.cs.getD k [] = c := ⟨_, rfl⟩
      have HMV : Hid (_) := mvO_take (u := u) (v := v) hkn hc
      have hcl := flat_take_succ hkn
      have hcl2 := flat_take_le o.cs (k + 1)
      rw [hc] at d0 hrow hlb hmem hcd hrow0 hcl
      have hcb : c.length ≤ 80 := by omega
      have hslc := hcd wr hB
      rw [d0] at hslc
      injection hslc with hslc
      injection hslc with e1 e2 e3
      subst e1 e3
      have HCD : Hid (∀ wr, Below t3.heap.size t3 wr → wr.cell? ⟨b1, o1 + k, none⟩ = some (.slice a1 c.length c1)) := hcd
      have HROW : Hid (Gr PnE S t3 a1 c1 c) := hrow0
      have HPC : Hid (∀ p ∈ c, PnF p) := HPF.out c hmem
      have hll : ((mvO u v o.cs).take k).length + 1 ≤ 1000000 := by rw [List.length_take, mvO_len]; omega
      have i1 : (0 : Int) ≤ (k : Int) := by omega
      have i2 : (k : Int) < (o.cs.length : Int) := by omega
      have HGW : Hid (Gw PnE.row 37 vs (fun b => vs ≤ b ∧ b < wr.heap.size) wr pv ((mvO u v o.cs).take k)) := hG
      have HY : Hid (Bk 25 wr g5 [pv, .slice none 0 0]) := hY
      have HBO : Hid (Below t3.heap.size t3 wr) := hB
      obtain ⟨wo, rfl⟩ : ∃ wo, wo = wr := ⟨_, rfl⟩
      generalize (mvO u v o.cs).take k = ML at *
      clear hc hmem hcl hcl2 hrow hlb hcd hrow0 e2 hG hY
      go_wp2
      clear d0 x0 x1 hB
      go_loopw [7, 8] (fun cv j wr => ∃ r : Nat, r ≤ c.length ∧ j = .int .i64 r ∧ Gw PnE 43 wo.heap.size (fun _ => False) wr cv ((c.map (mvP u v)).take r) ∧ Below wo.heap.size wo wr) (fun _ j _ => c.length - (intOf j).toNat)
      case atStart => exact ⟨0, Nat.zero_le _, rfl, Gw.nil _ _ _ _ _, Below.refl _ _⟩
      case round =>
        obtain ⟨r, hr, rfl, hV, hBo⟩ := hrel
        obtain ⟨a7, c7, rfl, hgr7, hb7⟩ := hV.slice
        have hBu := HBO.out.trans (hBo.mono HBO.out.size)
        obtain ⟨x0, x1, _⟩ := (HX1.out.below hBu).two
        have d0 := HCD.out wr hBu
        by_cases hrn : r < c.length
        · obtain ⟨b2, o2, eb, hb2, ⟨w0, w1⟩, e0, e1, e2⟩ := HROW.out.pn hBu r hrn
          subst eb
          have HMP : Hid (_) := mvP_take (u := u) (v := v) hrn rfl
          have hpf := HPC.out _ (get_mem (d := Pn.none) hrn)
          generalize c.getD r Pn.none = q at *
          obtain ⟨x, y, on⟩ := q
          unfold PnF at hpf
          rw [show mvP u v ⟨x, y, on⟩ = ⟨x + u, y + v, on⟩ from rfl] at HMP
          dsimp only at w0 w1 e0 e1 e2 hpf
          obtain ⟨x2, hx2⟩ : ∃ z, x + u = z := ⟨_, rfl⟩
          obtain ⟨y2, hy2⟩ : ∃ z, y + v = z := ⟨_, rfl⟩
          rw [hx2, hy2] at HMP
          have hx2b : -9223372036854775808 ≤ x2 ∧ x2 ≤ 9223372036854775807 := by omega
          have hy2b : -9223372036854775808 ≤ y2 ∧ y2 ≤ 9223372036854775807 := by omega
          have hl7 : ((c.map (mvP u v)).take r).length + 1 ≤ 1000000 := by rw [List.length_take, List.length_map]; omega
          obtain ⟨u0, v0, _⟩ := (HX2.out.below hBu).two
          obtain ⟨u1, v1, _⟩ := ((HX2.out.below hBu).below (bl1 (w := wr) (.cells #[.int .i64 x, .int .i64 y, .bool on] 43))).two
          obtain ⟨u2, v2, _⟩ := ((HX2.out.below hBu).below (bl1 (w := wr) (.cells #[.int .i64 x2, .int .i64 y, .bool on] 43))).two
          have bp := bl2 (w := wr) (.cells #[.int .i64 x2, .int .i64 y2, .bool on] 43) (.cells #[.int .i64 x2, .int .i64 y2, .bool on] 43)
          have hVb := hV.below bp
          have hone : Gr PnE (fun k => False ∧ (Value.slice a7 ((c.map (mvP u v)).take r).length c7).ownBlock ≠ some k) ((wr.alloc (.cells #[.int .i64 x2, .int .i64 y2, .bool on] 43)).alloc (.cells #[.int .i64 x2, .int .i64 y2, .bool on] 43)) (some ⟨wr.heap.size + 1, 0, none⟩) 1 [⟨x2, y2, on⟩] := by
            have := Gr.one_new (E := PnE) (S := fun k => False ∧ (Value.slice a7 ((c.map (mvP u v)).take r).length c7).ownBlock ≠ some k) (w := wr.alloc (.cells #[.int .i64 x2, .int .i64 y2, .bool on] 43)) (pnC ⟨x2, y2, on⟩) 43 (PnE_rep.2 ⟨rfl, hx2b, hy2b⟩)
            rw [show (wr.alloc (.cells #[.int .i64 x2, .int .i64 y2, .bool on] 43)).heap.size = wr.heap.size + 1 by simp] at this
            exact this
          have hBb := hBo.trans (bp.mono hBo.size)
          have hbs := hBb.size
          have i3 : (0 : Int) ≤ (r : Int) := by omega
          have i4 : (r : Int) < (c.length : Int) := by omega
          clear hpf hgr7 hb7 w0 w1 bp
          generalize (c.map (mvP u v)).take r = K1 at *
          go_wp2_with (at_builtin; refine wpList_append_el 37 43 Try.underlying37 info_pn rfl (by decide) (by decide) rfl _ _ rfl wo.heap.size (fun _ => False) _ K1 rfl hVb (some ⟨wr.heap.size + 1, 0, none⟩) 1 1 [⟨x2, y2, on⟩] rfl rfl hone hl7 hbs ?_)
          intro v9 w9 hT9 hgrow _
          have hB9 : Below wo.heap.size wo w9 := hBb.grown hgrow hbs (fun k hk => (hVb.lo hk).1)
          rw [← HMP.out] at hT9
          clear hgrow hVb hone hbs hl7 HMP hBb
          go_wp2
          go_roundw
          case rel => exact ⟨r + 1, by omega, by go_num, hT9, hB9⟩
          case measure => simp [intOf]; omega
        · obtain rfl : r = c.length := by omega
          rw [List.take_of_length_le (by rw [List.length_map]; exact Nat.le_refl _)] at hV hgr7 ⊢
          have g1 : ¬ (c.length : Int) < (c.length : Int) := by omega
          have hcb2 : (c.map (mvP u v)).length ≤ 140737488351232 := by rw [List.length_map]; omega
          generalize c.map (mvP u v) = K1 at *
          have hYr := HY.out.below hBo
          obtain ⟨z0, z1, _⟩ := hYr.two
          have bp := bl1 (w := wr) (.cells #[.slice a7 K1.length c7] 37)
          have hG1 := (HGW.out.below hBo).below bp
          have hG2 : Gw PnE.row 37 vs (fun b => vs ≤ b ∧ b < (wr.alloc (.cells #[.slice a7 K1.length c7] 37)).heap.size) (wr.alloc (.cells #[.slice a7 K1.length c7] 37)) pv ML := hG1.widen (fun k h1 h2 => ⟨h1.1, h2⟩)
          have hVb := hV.below bp
          have hgrb := hgr7.below bp
          have hrep : PnE.row.rep (fun k => (vs ≤ k ∧ k < (wr.alloc (.cells #[.slice a7 K1.length c7] 37)).heap.size) ∧ pv.ownBlock ≠ some k) (wr.alloc (.cells #[.slice a7 K1.length c7] 37)) [.slice a7 K1.length c7] K1 := by
            refine ⟨a7, c7, rfl, fun b o e hne => ?_, hgrb.anyP, hcb2⟩
            have hbb := hb7 b o e
            have hsz2 := bp.size
            refine ⟨⟨by omega, by omega⟩, fun e2 => ?_⟩
            exact hG2.ne hVb (by decide) e2 (by rw [e]; rfl)
          have hN := Bk.new 37 wr [.slice a7 K1.length c7]
          have hone := Gr.one (E := PnE.row) hrep hN.lt (fun jj hjj => by
            obtain rfl : jj = 0 := by have h1 : jj < 1 := hjj; omega
            exact hN.cell 0 (by simp))
          have hBb := hBu.trans (bp.mono hBu.size)
          have hbs : vs ≤ (wr.alloc (.cells #[.slice a7 K1.length c7] 37)).heap.size := Nat.le_trans hvl (Nat.le_trans hBo.size bp.size)
          have hYb := hYr.below bp
          have hpg : pv.ownBlock ≠ some g5 := fun e => by have := (HGW.out.lo e).1; omega
          obtain ⟨apv, cpv, epv, _, _⟩ := hG2.slice
          subst epv
          clear hV hgr7 hb7 hG1 hVb hgrb hrep hN bp hYr hBo
          go_wp2_with (at_builtin; refine wpList_append_el 22 37 Try.underlying22 info_pns rfl Nat.one_pos (by decide) rfl _ _ rfl vs _ _ ML rfl hG2 (some ⟨wr.heap.size, 0, none⟩) 1 1 [K1] rfl rfl hone hll hbs ?_)
          intro v9 w9 hT9 hgrow hown
          have hB9 : Below t3.heap.size t3 w9 := hBb.grown hgrow hBb.size (fun k hk => by have := (hG2.lo hk).1; have := HG5.out; omega)
          have hY9 := hYb.grown hgrow hpg
          have hT9 := hT9.widen (S' := fun b => vs ≤ b ∧ b < w9.heap.size) (fun k h1 h2 => ⟨h1.1, h2⟩)
          have hv9 : v9.ownBlock ≠ some g5 := fun e => by have := (hT9.lo e).1; omega
          obtain ⟨M2, hM2⟩ : ∃ M2, ML ++ [K1] = M2 := ⟨_, rfl⟩
          have HM2 : Hid ((mvO u v o.cs).take (k + 1) = M2) := by show _ = _; rw [HMV.out, hM2]
          rw [hM2] at hT9
          clear hM2
          have hws : vs ≤ w9.heap.size := Nat.le_trans hbs hgrow.size
          obtain ⟨y0, y1, f0, f1⟩ := hY9.two
          have hY10 := hY9.set 0 v9
          have hT10 : Gw PnE.row 37 vs (fun b => vs ≤ b ∧ b < (w9.setCell ⟨g5, 0, none⟩ v9).heap.size) (w9.setCell ⟨g5, 0, none⟩ v9) v9 M2 := by
            refine hT9.stay (by simp [World.setCell]) (fun kk h1 _ h3 => ⟨⟨h1.1, by simp [World.setCell]; exact h3⟩, Below.heap_setCell _ _ _ _ (fun e => by have h4 : kk = g5 := e; have h5 : vs ≤ kk := h1.1; omega)⟩) (fun k hk => Below.heap_setCell _ _ _ _ (fun e => hv9 (by rw [hk]; exact congrArg some e)))
          have hB10 : Below t3.heap.size t3 (w9.setCell ⟨g5, 0, none⟩ v9) := hB9.setCell (p := ⟨g5, 0, none⟩) (by show t3.heap.size ≤ g5; have := HG5.out; omega) _
          have hws2 : vs ≤ (w9.setCell ⟨g5, 0, none⟩ v9).heap.size := by simp [World.setCell]; exact hws
          obtain ⟨a9, c9, e9, _, _⟩ := hT9.slice
          have HY10 : Hid (_) := hY10
          have HT10 : Hid (_) := hT10
          have HB10 : Hid (_) := hB10
          have HWS : Hid (_) := hws2
          clear hgrow hown hG2 hone hbs hll hBb hYb hpg hY9 hv9 hT9 hB9 hws hY10 hT10 hB10 hws2 HMV z0 z1 x0 x1 d0
          subst e9
          go_wp2
          go_roundw
          case rel => exact ⟨k + 1, _, by omega, by go_num, HY10.out, by rw [HM2.out]; exact HT10.out, HWS.out, HB10.out⟩
          case measure => simp [intOf]; omega
    · obtain rfl : k = o.cs.length := by omega
      have g1 : ¬ (o.cs.length : Int) < (o.cs.length : Int) := by omega
      have hml : (mvO u v o.cs).length ≤ o.cs.length := by rw [mvO_len]; exact Nat.le_refl _
      rw [List.take_of_length_le hml] at hG
      obtain ⟨a5, c5, rfl, hg5, hb5⟩ := hG.slice
      have hgt : w.heap.size ≠ g5 := by have := HG5.out; omega
      have hg := HG.out.below hB
      have hm := HM.out.below hB
      have X1 := HX1.out.below hB
      have X2 := HX2.out.below hB
      have hbW : Below w.heap.size w wr := HB.out.trans (hB.mono HB.out.size)
      have HML : Hid ((mvO u v o.cs).length = o.cs.length) := mvO_len _ _ _
      have hfl := mvO_flat u v o.cs
      have hbo := fun U h1 => cbox_any S a ca (.slice b o.ps.length cb) o.cs U h1 (by omega) rfl
      have hbp := fun U h1 => cbox_any (fun b => vs ≤ b ∧ b < wr.heap.size) a5 c5 (.slice none 0 0) (mvO u v o.cs) U h1 (by rw [hfl, List.length_map]; omega) rfl
      have heo := fun U h1 => cends_any S a ca (.slice b o.ps.length cb) o.cs U h1 (by omega) (by omega) rfl
      have hep := fun U h1 => cends_any (fun b => vs ≤ b ∧ b < wr.heap.size) a5 c5 (.slice none 0 0) (mvO u v o.cs) U h1 (by rw [hfl, List.length_map]; omega) (by rw [mvO_len]; omega) rfl
      have hwo := fun U h1 h2 => cwriteO_any S a ca b cb o U h1 h2
      have hwp := fun U h1 h2 => cwriteO_any (fun b => vs ≤ b ∧ b < wr.heap.size) a5 c5 none 0 ⟨mvO u v o.cs, []⟩ U h1 h2
      have hnil : ∀ U, Gr PaE (fun b => vs ≤ b ∧ b < wr.heap.size) U none 0 [] := fun U => Gr.nil _ _ _ _ _ (Nat.zero_le _) (fun _ => rfl)
      simp only [mvO_ends] at hep
      simp only [hfl, List.length_map] at hbp
      have hsi := fun p q c d U h1 h2 => ssameI_any p q c d (endF 0 o.cs) U h1 h2
      have hmvb : o.cs.flatten ≠ [] → bxO (o.cs.flatten.map (mvP u v)) = ((bxO o.cs.flatten).1 + u, (bxO o.cs.flatten).2.1 + v, (bxO o.cs.flatten).2.2.1 + u, (bxO o.cs.flatten).2.2.2 + v) := fun h => bxO_mv u v h
      have hbz : o.cs.flatten = [] → bxO (o.cs.flatten.map (mvP u v)) = (0, 0, 0, 0) ∧ bxO o.cs.flatten = (0, 0, 0, 0) := fun h => by rw [h]; exact ⟨rfl, rfl⟩
      have hdz : decide (0 < o.cs.flatten.length) = true ↔ o.cs.flatten ≠ [] := by rw [decide_eq_true_iff, List.length_pos_iff]
      have Z5 := hY
      clear hG hY HG HM HX1 HX2 HB hB hfl hml
      generalize bxO (o.cs.flatten.map (mvP u v)) = Bp at *
      generalize bxO o.cs.flatten = Bo at *
      generalize decide (0 < o.cs.flatten.length) = qq at *
      generalize endF 0 o.cs = EE at *
      have hwB := fun h1 h2 h3 => HWP.out h1 h2 h3
      have hZl := hwp
      clear HWP hZl
      generalize hMM : mvO u v o.cs = MM at *
      obtain ⟨e0, e1, e2, e3⟩ := Bo
      obtain ⟨d0, d1, d2, d3⟩ := Bp
      simp only [bxV_eq] at hbo hbp
      dsimp only at hbo hbp hin hmvb hbz hwp
      simp only [List.length_nil] at hwp
      obtain ⟨⟨r0, r1⟩, ⟨r2, r3⟩, ⟨r4, r5⟩, r6, r7⟩ := hin
      have hcase : (qq = true ∧ d0 = e0 + u ∧ d1 = e1 + v ∧ d2 = e2 + u ∧ d3 = e3 + v) ∨ qq = false := by
        cases qq with
        | true => have := hmvb (hdz.1 rfl); simp only [Prod.mk.injEq] at this; exact .inl ⟨rfl, this⟩
        | false => exact .inr rfl
      generalize wrOB o = xo at *
      generalize wrOE o = eo at *
      generalize wrOB ⟨MM, []⟩ = xp at *
      generalize wrOE ⟨MM, []⟩ = ep at *
      clear hmvb hbz hdz HML hMM HPF hvl hb5 x0 x1 HG5 hX1l hX2l
      rcases hcase with ⟨rfl, rfl, rfl, rfl, rfl⟩ | rfl
      · obtain ⟨x0, x1, _⟩ := X1.two
        go_wp2_with fail
        refine (hbo _ hg).mono ?_
        rintro e t11 ⟨rfl, hb11⟩
        replace hg := hg.below hb11
        replace hm := hm.below hb11
        replace X1 := X1.below hb11
        replace X2 := X2.below hb11
        replace hg5 := hg5.below hb11
        replace Z5 := Z5.below hb11
        replace hbW : Below w.heap.size w t11 := hbW.trans (hb11.mono hbW.size)
        clear hb11 x0 x1 hbo
        obtain ⟨V0, hV, Y0, hbV⟩ : ∃ V, V = t11.alloc (.cells #[.int .i64 (e0), .int .i64 (e1), .int .i64 (e2), .int .i64 (e3)] 44) ∧ Bk 44 V t11.heap.size [.int .i64 (e0), .int .i64 (e1), .int .i64 (e2), .int .i64 (e3)] ∧ Below t11.heap.size t11 V := ⟨_, rfl, Bk.new _ _ _, bl1 _⟩
        replace hg := hg.below hbV
        replace hm := hm.below hbV
        replace X1 := X1.below hbV
        replace X2 := X2.below hbV
        replace hg5 := hg5.below hbV
        replace Z5 := Z5.below hbV
        replace hbW : Below w.heap.size w V0 := hbW.trans (hbV.mono hbW.size)
        clear hbV
        go_upto_region 17 with fail
        rw [← hV]
        clear hV
        obtain ⟨z0, z1, _⟩ := Z5.two
        go_wp2_with fail
        refine (hbp _ hg5).mono ?_
        rintro e t12 ⟨rfl, hb12⟩
        replace hg := hg.below hb12
        replace hm := hm.below hb12
        replace X1 := X1.below hb12
        replace X2 := X2.below hb12
        replace hg5 := hg5.below hb12
        replace Z5 := Z5.below hb12
        replace Y0 := Y0.below hb12
        replace hbW : Below w.heap.size w t12 := hbW.trans (hb12.mono hbW.size)
        clear hb12 z0 z1 hbp
        obtain ⟨V1, hV, Y1, hbV⟩ : ∃ V, V = t12.alloc (.cells #[.int .i64 (e0 + u), .int .i64 (e1 + v), .int .i64 (e2 + u), .int .i64 (e3 + v)] 44) ∧ Bk 44 V t12.heap.size [.int .i64 (e0 + u), .int .i64 (e1 + v), .int .i64 (e2 + u), .int .i64 (e3 + v)] ∧ Below t12.heap.size t12 V := ⟨_, rfl, Bk.new _ _ _, bl1 _⟩
        replace hg := hg.below hbV
        replace hm := hm.below hbV
        replace X1 := X1.below hbV
        replace X2 := X2.below hbV
        replace hg5 := hg5.below hbV
        replace Z5 := Z5.below hbV
        replace Y0 := Y0.below hbV
        replace hbW : Below w.heap.size w V1 := hbW.trans (hbV.mono hbW.size)
        clear hbV
        go_upto_region 18 with fail
        rw [← hV]
        clear hV
        obtain ⟨k00, k01, _⟩ := X1.two
        obtain ⟨k10, k11, _⟩ := Z5.two
        refine wp_region_held_drew (S := fun w9 => w9.cell? ⟨w.heap.size, 0, none⟩ = some (.slice a o.cs.length ca) ∧ w9.cell? ⟨w.heap.size, 1, none⟩ = some (.slice b o.ps.length cb) ∧ w9.cell? ⟨g5, 0, none⟩ = some (.slice a5 MM.length c5) ∧ w9.cell? ⟨g5, 1, none⟩ = some (.slice none 0 0)) (by kernel_rfl) ?_ (fun hHeld => ?_)
        · (try dsimp only)
          go_keep
        have hdr : Below V1.heap.size V1 V1.drew := Below.drew1
        generalize V1.drew = t13 at hdr hHeld ⊢
        replace hg := hg.below hdr
        replace hm := hm.below hdr
        replace X1 := X1.below hdr
        replace X2 := X2.below hdr
        replace hg5 := hg5.below hdr
        replace Z5 := Z5.below hdr
        replace Y0 := Y0.below hdr
        replace Y1 := Y1.below hdr
        replace hbW : Below w.heap.size w t13 := hbW.trans (hdr.mono hbW.size)
        clear hdr k00 k01 k10 k11
        refine hT 0 hHeld ?_
        refine hT 1 hHeld ?_
        refine hT 2 hHeld ?_
        refine hT 3 hHeld ?_
        refine hT 4 hHeld ?_
        refine hT 6 hHeld ?_
        refine hCall (i := 5) rfl (by kernel_rfl) (by rfl) (fun K hK => ?_)
        go_simp
        refine (heo _ hg).mono ?_
        rintro e t14 ⟨p1, n1, rfl, i1, _, hb14⟩
        replace hg := hg.below hb14
        replace hm := hm.below hb14
        replace X1 := X1.below hb14
        replace X2 := X2.below hb14
        replace hg5 := hg5.below hb14
        replace Z5 := Z5.below hb14
        replace Y0 := Y0.below hb14
        replace Y1 := Y1.below hb14
        replace hbW : Below w.heap.size w t14 := hbW.trans (hb14.mono hbW.size)
        clear hb14 
        obtain ⟨k00, k01, _⟩ := X1.two
        obtain ⟨k10, k11, _⟩ := Z5.two
        go_wp2_with fail
        refine hK.out _ _ ?_ (fun hHeld => ?_)
        · (try dsimp only)
          exact ⟨k00, k01, k10, k11⟩
        clear hK K k00 k01 k10 k11
        try simp only [Act.put, List.setIfInBounds_toArray, List.set_cons_zero, List.set_cons_succ]
        refine hCall (i := 7) rfl (by kernel_rfl) (by rfl) (fun K hK => ?_)
        go_simp
        refine (hep _ hg5).mono ?_
        rintro e t15 ⟨p2, n2, rfl, i2, _, hb15⟩
        replace hg := hg.below hb15
        replace hm := hm.below hb15
        replace X1 := X1.below hb15
        replace X2 := X2.below hb15
        replace hg5 := hg5.below hb15
        replace Z5 := Z5.below hb15
        replace Y0 := Y0.below hb15
        replace Y1 := Y1.below hb15
        replace i1 := i1.below hb15
        replace hbW : Below w.heap.size w t15 := hbW.trans (hb15.mono hbW.size)
        clear hb15 
        obtain ⟨k00, k01, _⟩ := X1.two
        obtain ⟨k10, k11, _⟩ := Z5.two
        go_wp2_with fail
        refine hK.out _ _ ?_ (fun hHeld => ?_)
        · (try dsimp only)
          exact ⟨k00, k01, k10, k11⟩
        clear hK K k00 k01 k10 k11
        try simp only [Act.put, List.setIfInBounds_toArray, List.set_cons_zero, List.set_cons_succ]
        refine hCall (i := 8) rfl (by kernel_rfl) (by rfl) (fun K hK => ?_)
        go_simp
        refine (hsi _ _ _ _ _ i1 i2).mono ?_
        rintro e t16 ⟨rfl, hb16⟩
        replace hg := hg.below hb16
        replace hm := hm.below hb16
        replace X1 := X1.below hb16
        replace X2 := X2.below hb16
        replace hg5 := hg5.below hb16
        replace Z5 := Z5.below hb16
        replace Y0 := Y0.below hb16
        replace Y1 := Y1.below hb16
        replace i1 := i1.below hb16
        replace i2 := i2.below hb16
        replace hbW : Below w.heap.size w t16 := hbW.trans (hb16.mono hbW.size)
        clear hb16 
        obtain ⟨k00, k01, _⟩ := X1.two
        obtain ⟨k10, k11, _⟩ := Z5.two
        go_wp2_with fail
        refine hK.out _ _ ?_ (fun hHeld => ?_)
        · (try dsimp only)
          exact ⟨k00, k01, k10, k11⟩
        clear hK K k00 k01 k10 k11
        try simp only [Act.put, List.setIfInBounds_toArray, List.set_cons_zero, List.set_cons_succ]
        refine hT 9 hHeld ?_
        refine hT 10 hHeld ?_
        refine wpAnyH_done (by kernel_rfl) ?_ _
        clear hHeld heo hep hsi i1 i2
        obtain ⟨m0, m1, m2, m3, _⟩ := Y0.four
        obtain ⟨y0, y1, y2, y3, _⟩ := Y1.four
        obtain ⟨x0, x1, _⟩ := X1.two
        obtain ⟨u0, v0, _⟩ := X2.two
        go_wp2_with fail
        refine (hwo _ hg hm).mono ?_
        rintro e t17 ⟨p1, n1, rfl, hr1, hb17⟩
        replace hg := hg.below hb17
        replace hm := hm.below hb17
        replace X1 := X1.below hb17
        replace X2 := X2.below hb17
        replace hg5 := hg5.below hb17
        replace Z5 := Z5.below hb17
        replace Y0 := Y0.below hb17
        replace Y1 := Y1.below hb17
        replace hbW : Below w.heap.size w t17 := hbW.trans (hb17.mono hbW.size)
        clear hb17 x0 x1 u0 v0 m0 m1 m2 m3 y0 y1 y2 y3 hwo
        obtain ⟨z0, z1, _⟩ := Z5.two
        go_wp2_with fail
        refine (hwp _ hg5 (hnil _)).mono ?_
        rintro e t18 ⟨p2, n2, rfl, hr2, hb18⟩
        replace hg := hg.below hb18
        replace hm := hm.below hb18
        replace X1 := X1.below hb18
        replace X2 := X2.below hb18
        replace hg5 := hg5.below hb18
        replace Z5 := Z5.below hb18
        replace Y0 := Y0.below hb18
        replace Y1 := Y1.below hb18
        replace hr1 := hr1.below hb18
        replace hbW : Below w.heap.size w t18 := hbW.trans (hb18.mono hbW.size)
        clear hb18 z0 z1 hwp
        obtain ⟨x0, x1, _⟩ := X1.two
        have l1 : xo.length ≤ 9223372036854775807 := Nat.le_trans hr1.le hr1.cap
        have l2 : xp.length ≤ 9223372036854775807 := Nat.le_trans hr2.le hr2.cap
        clear hr1 hr2 hg hm hg5 X1 X2 Z5 Y0 Y1
        generalize xo.length = nx at *
        generalize xp.length = ny at *
        generalize o.ps.length = np at *
        by_cases h1 : eo = 0
        · by_cases h2 : ep = 0
          · rcases Nat.eq_zero_or_pos np with h3 | h3
            · obtain ⟨b1, b2⟩ := hwB h3 h1 h2
              clear hwB
              subst h1 h2 h3
              have b3 : (nx : Int) - (ny : Int) ≤ 6 := by omega
              have b4 : -6 ≤ (nx : Int) - (ny : Int) := by omega
              go_wp2
              go_ret
              exact ⟨rfl, hbW⟩
            · subst h1 h2
              clear hwB
              have b3 : (0 : Int) < (np : Int) := by omega
              go_wp2
              go_ret
              exact ⟨rfl, hbW⟩
          · clear hwB
            subst h1
            go_wp2
            go_ret
            exact ⟨rfl, hbW⟩
        · clear hwB
          go_wp2
          go_ret
          exact ⟨rfl, hbW⟩
      · obtain ⟨x0, x1, _⟩ := X1.two
        go_wp2_with fail
        refine (hbo _ hg).mono ?_
        rintro e t11 ⟨rfl, hb11⟩
        replace hg := hg.below hb11
        replace hm := hm.below hb11
        replace X1 := X1.below hb11
        replace X2 := X2.below hb11
        replace hg5 := hg5.below hb11
        replace Z5 := Z5.below hb11
        replace hbW : Below w.heap.size w t11 := hbW.trans (hb11.mono hbW.size)
        clear hb11 x0 x1 hbo
        obtain ⟨V0, hV, Y0, hbV⟩ : ∃ V, V = t11.alloc (.cells #[.int .i64 (e0), .int .i64 (e1), .int .i64 (e2), .int .i64 (e3)] 44) ∧ Bk 44 V t11.heap.size [.int .i64 (e0), .int .i64 (e1), .int .i64 (e2), .int .i64 (e3)] ∧ Below t11.heap.size t11 V := ⟨_, rfl, Bk.new _ _ _, bl1 _⟩
        replace hg := hg.below hbV
        replace hm := hm.below hbV
        replace X1 := X1.below hbV
        replace X2 := X2.below hbV
        replace hg5 := hg5.below hbV
        replace Z5 := Z5.below hbV
        replace hbW : Below w.heap.size w V0 := hbW.trans (hbV.mono hbW.size)
        clear hbV
        go_upto_region 17 with fail
        rw [← hV]
        clear hV
        obtain ⟨z0, z1, _⟩ := Z5.two
        go_wp2_with fail
        refine (hbp _ hg5).mono ?_
        rintro e t12 ⟨rfl, hb12⟩
        replace hg := hg.below hb12
        replace hm := hm.below hb12
        replace X1 := X1.below hb12
        replace X2 := X2.below hb12
        replace hg5 := hg5.below hb12
        replace Z5 := Z5.below hb12
        replace Y0 := Y0.below hb12
        replace hbW : Below w.heap.size w t12 := hbW.trans (hb12.mono hbW.size)
        clear hb12 z0 z1 hbp
        obtain ⟨V1, hV, Y1, hbV⟩ : ∃ V, V = t12.alloc (.cells #[.int .i64 (d0), .int .i64 (d1), .int .i64 (d2), .int .i64 (d3)] 44) ∧ Bk 44 V t12.heap.size [.int .i64 (d0), .int .i64 (d1), .int .i64 (d2), .int .i64 (d3)] ∧ Below t12.heap.size t12 V := ⟨_, rfl, Bk.new _ _ _, bl1 _⟩
        replace hg := hg.below hbV
        replace hm := hm.below hbV
        replace X1 := X1.below hbV
        replace X2 := X2.below hbV
        replace hg5 := hg5.below hbV
        replace Z5 := Z5.below hbV
        replace Y0 := Y0.below hbV
        replace hbW : Below w.heap.size w V1 := hbW.trans (hbV.mono hbW.size)
        clear hbV
        go_upto_region 18 with fail
        rw [← hV]
        clear hV
        obtain ⟨k00, k01, _⟩ := X1.two
        obtain ⟨k10, k11, _⟩ := Z5.two
        refine wp_region_held_drew (S := fun w9 => w9.cell? ⟨w.heap.size, 0, none⟩ = some (.slice a o.cs.length ca) ∧ w9.cell? ⟨w.heap.size, 1, none⟩ = some (.slice b o.ps.length cb) ∧ w9.cell? ⟨g5, 0, none⟩ = some (.slice a5 MM.length c5) ∧ w9.cell? ⟨g5, 1, none⟩ = some (.slice none 0 0)) (by kernel_rfl) ?_ (fun hHeld => ?_)
        · (try dsimp only)
          go_keep
        have hdr : Below V1.heap.size V1 V1.drew := Below.drew1
        generalize V1.drew = t13 at hdr hHeld ⊢
        replace hg := hg.below hdr
        replace hm := hm.below hdr
        replace X1 := X1.below hdr
        replace X2 := X2.below hdr
        replace hg5 := hg5.below hdr
        replace Z5 := Z5.below hdr
        replace Y0 := Y0.below hdr
        replace Y1 := Y1.below hdr
        replace hbW : Below w.heap.size w t13 := hbW.trans (hdr.mono hbW.size)
        clear hdr k00 k01 k10 k11
        refine hT 0 hHeld ?_
        refine hT 1 hHeld ?_
        refine hT 2 hHeld ?_
        refine hT 3 hHeld ?_
        refine hT 4 hHeld ?_
        refine hT 6 hHeld ?_
        refine hCall (i := 5) rfl (by kernel_rfl) (by rfl) (fun K hK => ?_)
        go_simp
        refine (heo _ hg).mono ?_
        rintro e t14 ⟨p1, n1, rfl, i1, _, hb14⟩
        replace hg := hg.below hb14
        replace hm := hm.below hb14
        replace X1 := X1.below hb14
        replace X2 := X2.below hb14
        replace hg5 := hg5.below hb14
        replace Z5 := Z5.below hb14
        replace Y0 := Y0.below hb14
        replace Y1 := Y1.below hb14
        replace hbW : Below w.heap.size w t14 := hbW.trans (hb14.mono hbW.size)
        clear hb14 
        obtain ⟨k00, k01, _⟩ := X1.two
        obtain ⟨k10, k11, _⟩ := Z5.two
        go_wp2_with fail
        refine hK.out _ _ ?_ (fun hHeld => ?_)
        · (try dsimp only)
          exact ⟨k00, k01, k10, k11⟩
        clear hK K k00 k01 k10 k11
        try simp only [Act.put, List.setIfInBounds_toArray, List.set_cons_zero, List.set_cons_succ]
        refine hCall (i := 7) rfl (by kernel_rfl) (by rfl) (fun K hK => ?_)
        go_simp
        refine (hep _ hg5).mono ?_
        rintro e t15 ⟨p2, n2, rfl, i2, _, hb15⟩
        replace hg := hg.below hb15
        replace hm := hm.below hb15
        replace X1 := X1.below hb15
        replace X2 := X2.below hb15
        replace hg5 := hg5.below hb15
        replace Z5 := Z5.below hb15
        replace Y0 := Y0.below hb15
        replace Y1 := Y1.below hb15
        replace i1 := i1.below hb15
        replace hbW : Below w.heap.size w t15 := hbW.trans (hb15.mono hbW.size)
        clear hb15 
        obtain ⟨k00, k01, _⟩ := X1.two
        obtain ⟨k10, k11, _⟩ := Z5.two
        go_wp2_with fail
        refine hK.out _ _ ?_ (fun hHeld => ?_)
        · (try dsimp only)
          exact ⟨k00, k01, k10, k11⟩
        clear hK K k00 k01 k10 k11
        try simp only [Act.put, List.setIfInBounds_toArray, List.set_cons_zero, List.set_cons_succ]
        refine hCall (i := 8) rfl (by kernel_rfl) (by rfl) (fun K hK => ?_)
        go_simp
        refine (hsi _ _ _ _ _ i1 i2).mono ?_
        rintro e t16 ⟨rfl, hb16⟩
        replace hg := hg.below hb16
        replace hm := hm.below hb16
        replace X1 := X1.below hb16
        replace X2 := X2.below hb16
        replace hg5 := hg5.below hb16
        replace Z5 := Z5.below hb16
        replace Y0 := Y0.below hb16
        replace Y1 := Y1.below hb16
        replace i1 := i1.below hb16
        replace i2 := i2.below hb16
        replace hbW : Below w.heap.size w t16 := hbW.trans (hb16.mono hbW.size)
        clear hb16 
        obtain ⟨k00, k01, _⟩ := X1.two
        obtain ⟨k10, k11, _⟩ := Z5.two
        go_wp2_with fail
        refine hK.out _ _ ?_ (fun hHeld => ?_)
        · (try dsimp only)
          exact ⟨k00, k01, k10, k11⟩
        clear hK K k00 k01 k10 k11
        try simp only [Act.put, List.setIfInBounds_toArray, List.set_cons_zero, List.set_cons_succ]
        refine hT 9 hHeld ?_
        refine hT 10 hHeld ?_
        refine wpAnyH_done (by kernel_rfl) ?_ _
        clear hHeld heo hep hsi i1 i2
        obtain ⟨m0, m1, m2, m3, _⟩ := Y0.four
        obtain ⟨y0, y1, y2, y3, _⟩ := Y1.four
        obtain ⟨x0, x1, _⟩ := X1.two
        obtain ⟨u0, v0, _⟩ := X2.two
        go_wp2_with fail
        refine (hwo _ hg hm).mono ?_
        rintro e t17 ⟨p1, n1, rfl, hr1, hb17⟩
        replace hg := hg.below hb17
        replace hm := hm.below hb17
        replace X1 := X1.below hb17
        replace X2 := X2.below hb17
        replace hg5 := hg5.below hb17
        replace Z5 := Z5.below hb17
        replace Y0 := Y0.below hb17
        replace Y1 := Y1.below hb17
        replace hbW : Below w.heap.size w t17 := hbW.trans (hb17.mono hbW.size)
        clear hb17 x0 x1 u0 v0 m0 m1 m2 m3 y0 y1 y2 y3 hwo
        obtain ⟨z0, z1, _⟩ := Z5.two
        go_wp2_with fail
        refine (hwp _ hg5 (hnil _)).mono ?_
        rintro e t18 ⟨p2, n2, rfl, hr2, hb18⟩
        replace hg := hg.below hb18
        replace hm := hm.below hb18
        replace X1 := X1.below hb18
        replace X2 := X2.below hb18
        replace hg5 := hg5.below hb18
        replace Z5 := Z5.below hb18
        replace Y0 := Y0.below hb18
        replace Y1 := Y1.below hb18
        replace hr1 := hr1.below hb18
        replace hbW : Below w.heap.size w t18 := hbW.trans (hb18.mono hbW.size)
        clear hb18 z0 z1 hwp
        obtain ⟨x0, x1, _⟩ := X1.two
        have l1 : xo.length ≤ 9223372036854775807 := Nat.le_trans hr1.le hr1.cap
        have l2 : xp.length ≤ 9223372036854775807 := Nat.le_trans hr2.le hr2.cap
        clear hr1 hr2 hg hm hg5 X1 X2 Z5 Y0 Y1
        generalize xo.length = nx at *
        generalize xp.length = ny at *
        generalize o.ps.length = np at *
        by_cases h1 : eo = 0
        · by_cases h2 : ep = 0
          · rcases Nat.eq_zero_or_pos np with h3 | h3
            · obtain ⟨b1, b2⟩ := hwB h3 h1 h2
              clear hwB
              subst h1 h2 h3
              have b3 : (nx : Int) - (ny : Int) ≤ 6 := by omega
              have b4 : -6 ≤ (nx : Int) - (ny : Int) := by omega
              go_wp2
              go_ret
              exact ⟨rfl, hbW⟩
            · subst h1 h2
              clear hwB
              have b3 : (0 : Int) < (np : Int) := by omega
              go_wp2
              go_ret
              exact ⟨rfl, hbW⟩
          · clear hwB
            subst h1
            go_wp2
            go_ret
            exact ⟨rfl, hbW⟩
        · clear hwB
          go_wp2
          go_ret
          exact ⟨rfl, hbW⟩

end Go.Proofs.Ytokcdkckomoajaa
