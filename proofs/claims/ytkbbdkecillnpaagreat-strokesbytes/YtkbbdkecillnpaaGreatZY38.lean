/-
  strokes.Bake: the walk.
-/
import Derived.Test.YtkbbdkecillnpaaGreatZY24
import Derived.Test.YtkbbdkecillnpaaGreatZY22
import Derived.Test.YtkbbdkecillnpaaGreatZY28
namespace Go.Proofs.YtkbbdkecillnpaaGreat
open Go.RowKit Go.Maps
set_option linter.unusedSimpArgs false
set_option linter.unusedVariables false

theorem erD_append (R : Rd18) (d m : List Sp) : erD R (d ++ m) = if erD R d = 0 then erD R m else erD R d := by
  unfold erD
  rw [List.map_append, List.flatten_append, nuE_append]
theorem erL_append (R : Rd18) (l m : List (List Sp)) : erL R (l ++ m) = if erL R l = 0 then erL R m else erL R l := by
  unfold erL
  rw [List.map_append, List.flatten_append, nuE_append]
theorem erD_one (R : Rd18) (x : Sp) : erD R [x] = nuE R x.ar := by unfold erD; rw [List.map_singleton, List.flatten_singleton]
theorem erL_one (R : Rd18) (d : List Sp) : erL R [d] = erD R d := by unfold erL erD; rw [List.map_singleton, List.flatten_singleton]
theorem erD_take {R : Rd18} {d : List Sp} {j : Nat} (hj : j < d.length) (h : erD R (d.take j) = 0) : erD R (d.take (j + 1)) = nuE R (d.getD j Sp.none).ar := by rw [take_snoc (d := Sp.none) hj, erD_append, if_pos h, erD_one]
theorem erL_take {R : Rd18} {l : List (List Sp)} {k : Nat} (hk : k < l.length) (h : erL R (l.take k) = 0) : erL R (l.take (k + 1)) = erD R (l.getD k []) := by rw [take_snoc (d := []) hk, erL_append, if_pos h, erL_one]
theorem erD_stop {R : Rd18} {d : List Sp} {j : Nat} (hj : j < d.length) (h : erD R (d.take j) = 0) (hn : nuE R (d.getD j Sp.none).ar ≠ 0) : erD R d = nuE R (d.getD j Sp.none).ar := by
  have e := erD_append R (d.take (j + 1)) (d.drop (j + 1))
  rw [List.take_append_drop, erD_take hj h, if_neg hn] at e
  exact e
theorem erL_stop {R : Rd18} {l : List (List Sp)} {k : Nat} (hk : k < l.length) (h : erL R (l.take k) = 0) (hn : erD R (l.getD k []) ≠ 0) : erL R l = erD R (l.getD k []) := by
  have e := erL_append R (l.take (k + 1)) (l.drop (k + 1))
  rw [List.take_append_drop, erL_take hk h, if_neg hn] at e
  exact e
def baW (R : Rd18) (d : List Sp) : List Sp := d.map (baP R)
theorem baW_take {R : Rd18} {d : List Sp} {j : Nat} (hj : j < d.length) : baW R (d.take (j + 1)) = baW R (d.take j) ++ [baP R (d.getD j Sp.none)] := by
  rw [take_snoc (d := Sp.none) hj]
  unfold baW
  rw [List.map_append]
  rfl
theorem baD_take {R : Rd18} {l : List (List Sp)} {k : Nat} (hk : k < l.length) : baD R (l.take (k + 1)) = baD R (l.take k) ++ [baW R (l.getD k [])] := by
  rw [take_snoc (d := []) hk]
  unfold baD
  rw [List.map_append]
  rfl
theorem baW_len (R : Rd18) (d : List Sp) : (baW R d).length = d.length := by unfold baW; rw [List.length_map]
theorem baD_len (R : Rd18) (l : List (List Sp)) : (baD R l).length = l.length := by unfold baD; rw [List.length_map]
theorem ba_no {fi : Int → Int → Bool} {R : Rd18} {l : List (List Sp)} (h : foD fi l = false) : baE fi R l = 1 ∧ baL fi R l = [] := by
  have e : baE fi R l = 1 := by unfold baE; rw [h]; rfl
  refine ⟨e, ?_⟩
  unfold baL
  rw [e]
  rfl
theorem ba_err {fi : Int → Int → Bool} {R : Rd18} {l : List (List Sp)} (h : foD fi l = true) {z : Int} (hz : z ≠ 0) (he : erL R l = z) : baE fi R l = z ∧ baL fi R l = [] := by
  have e : baE fi R l = z := by unfold baE; rw [h, if_pos rfl, he]
  refine ⟨e, ?_⟩
  unfold baL
  rw [e, if_neg hz]
theorem ba_yes {fi : Int → Int → Bool} {R : Rd18} {l : List (List Sp)} (h : foD fi l = true) (he : erL R l = 0) : baE fi R l = 0 ∧ baL fi R l = baD R l := by
  have e : baE fi R l = 0 := by unfold baE; rw [h, if_pos rfl, he]
  refine ⟨e, ?_⟩
  unfold baL
  rw [e, if_pos rfl]
/-- The first numbers of six cells, as a row. -/
theorem c6_ri {w : World} {g : Nat} {M : List Int} (h : Bk 60 w g (c6 M)) (hM : ∀ z ∈ M, I64 z) (hl : M.length ≤ 6) : Ri w (some ⟨g, 0, none⟩) 6 M := by
  refine ⟨hM, hl, by unfold maxLen; omega, .inr ⟨g, 0, rfl, h.lt, fun i hi => ?_⟩⟩
  have := h.cell i (by show i < 6; omega)
  rw [c6_at (by omega)] at this
  rw [Nat.zero_add]
  exact this
theorem nuL_i64 (s : Sr) (cs : List Int) (l : List (Int × Int)) : ∀ z ∈ nuL (RS s cs) l, I64 z := by
  intro z hz
  unfold nuL at hz
  obtain ⟨a, _, rfl⟩ := List.mem_map.1 hz
  have := roN_in s a.1 a.2 cs
  exact ⟨by show _ ≤ roN s a.1 a.2 cs; omega, by show roN s a.1 a.2 cs ≤ _; omega⟩
/-- A step whose slots are a row of the call's own. -/
theorem step_rep {S : Nat → Prop} {w : World} {base : Nat} {d : Int} {v : Value} {ar : List (Int × Int)} (h : Gw SlE 79 base (fun _ => False) w v ar) (hd : I64 d) (hS : ∀ k, base ≤ k → k < w.heap.size → S k) (hl : ar.length ≤ 1000) : ∃ a c, v = .slice a ar.length c ∧ SpE.rep S w [.int .i64 d, .slice a ar.length c] ⟨d, ar⟩ := by
  obtain ⟨a, c, e, hr, hlo⟩ := h.slice
  refine ⟨a, c, e, SpE_rep.2 ⟨a, c, rfl, hd, ⟨a, c, rfl, fun b o e2 _ => ?_, hr.wide (fun k h _ => h.elim), by show ar.length ≤ _; omega⟩⟩⟩
  obtain ⟨h1, h2⟩ := hlo b o e2
  exact hS b h1 h2

set_option maxHeartbeats 8000000 in
set_option maxRecDepth 100000 in
theorem bake_any (S : Nat → Prop) (a : Option Addr) (ca : Nat) (l : List (List Sp)) (ga : Option Addr) (gc : Nat) (ma : Option Addr) (mc : Nat) (s : Sr) (pa : Option Addr) (pc : Nat) (cs : List Int) (w : World) (hl : Gr SpE.row S w a ca l) (hg : Tzz w ga gc s.rg) (hm : Rii w ma mc s.rw) (hp : Ri w pa pc cs) (h40 : s.rg.length ≤ 40) (h8 : ∀ l ∈ s.rg, l.length ≤ 8) :
    Calls Tryz.prog 13 #[.slice a l.length ca, .agg #[.slice ga s.rg.length gc, .slice ma s.rw.length mc], .slice pa cs.length pc] w fun e w' => ∃ a' c', e = .returned (.tuple #[.slice a' (baL (fiS s) (RS s cs) l).length c', .int .i64 (baE (fiS s) (RS s cs) l)]) ∧ Gr SpE.row (fun k => w.heap.size ≤ k) w' a' c' (baL (fiS s) (RS s cs) l) ∧ Below w.heap.size w w' := by
  have kl := hl.lenB
  have k2 := hm.lenB
  have k3 := hg.lenB
  have k4 := hp.lenB
  obtain ⟨W, hW, X1, hbW⟩ : ∃ W, W = w.alloc (.cells #[.slice ga s.rg.length gc, .slice ma s.rw.length mc] 26) ∧ Bk 26 W w.heap.size [.slice ga s.rg.length gc, .slice ma s.rw.length mc] ∧ Below w.heap.size w W := ⟨_, rfl, Bk.new _ _ _, bl1 _⟩
  obtain ⟨p0, p1, -⟩ := X1.two
  have hfo := formD_any S a ca l ga gc ma mc s W (hl.below hbW) k2
  go_enter Tryz.func13, Tryz.ntmps13
  go_upto_region 1 with fail
  rw [← hW]
  clear hW
  cases hf : foD (fiS s) l with
  | false =>
    rw [hf] at hfo
    have HF : Hid (_) := ba_no (R := RS s cs) hf
    clear hf
    go_wp2_with fail
    refine hfo.mono ?_
    rintro e u1 ⟨rfl, hb⟩
    have hfin := hbW.trans (hb.mono hbW.size)
    clear hfo hb p0 p1
    go_wp2
    go_ret2
    exact ⟨none, 0, by rw [HF.out.1, HF.out.2]; rfl, by rw [HF.out.2]; exact Gr.nil _ _ _ _ _ (Nat.zero_le _) (fun _ => rfl), hfin⟩
  | true =>
  rw [hf] at hfo
  have HFO : Hid (foD (fiS s) l = true) := hf
  have hl20 := (foD_iff.1 hf).1
  have HDR : Hid (_) := (foD_iff.1 hf).2
  clear hf
  go_wp2_with fail
  refine hfo.mono ?_
  rintro e u1 ⟨rfl, hb⟩
  replace X1 := X1.below hb
  replace hbW := hbW.trans (hb.mono hbW.size)
  have HL : Hid (Gr SpE.row S u1 a ca l) := hl.below hbW
  have HG : Hid (Tzz u1 ga gc s.rg) := hg.below hbW
  have HM : Hid (Rii u1 ma mc s.rw) := hm.below hbW
  have HP : Hid (Ri u1 pa pc cs) := hp.below hbW
  have HX1 : Hid (Bk 26 u1 w.heap.size [.slice ga s.rg.length gc, .slice ma s.rw.length mc]) := X1
  have HBW : Hid (Below w.heap.size w u1) := hbW
  obtain ⟨w1, hmk, hI0, hb1, hs1⟩ := makeG SpE.row (fun k => u1.heap.size ≤ k) 22 52 Tryz.underlying22 info_ssD (by decide) l.length (by omega) u1
  obtain ⟨g, hgg⟩ : ∃ g, u1.heap.size = g := ⟨_, rfl⟩
  have HGG : Hid (u1.heap.size = g) := hgg
  rw [hgg] at hI0 hmk
  clear hfo hb p0 p1 hl hg hm hp X1 hbW
  go_wp2
  clear hmk hgg
  go_loopw [8, 25] (fun v i wr => ∃ (k : Nat), k ≤ l.length ∧ i = .int .i64 (k : Int) ∧ Gw SpE.row 52 g (fun k => g ≤ k) wr v (baD (RS s cs) (l.take k)) ∧ Hid (erL (RS s cs) (l.take k) = 0) ∧ Below u1.heap.size u1 wr) (fun _ i _ => l.length - (intOf i).toNat)
  case atStart => exact ⟨0, Nat.zero_le _, rfl, hI0, (by show erL _ _ = 0; rfl), hb1⟩
  case round =>
    clear hI0 hb1 hs1
    obtain ⟨k, hk, rfl, hGw, HER, hB⟩ := hrel
    obtain ⟨a6, q6, e6, hgr6, hb6⟩ := hGw.slice
    subst e6
    by_cases hkn : k < l.length
    rotate_left
    · have hkk : k = l.length := by omega
      subst hkk
      have g4 : ¬ (l.length : Int) < (l.length : Int) := by omega
      rw [List.take_length] at hgr6 HER ⊢
      have HF : Hid (_) := ba_yes HFO.out HER.out
      have HGR : Hid (Gr SpE.row (fun k => w.heap.size ≤ k) wr a6 q6 (baD (RS s cs) l)) := hgr6.wide (fun k h1 _ => by have := HBW.out.size; have := HGG.out; omega)
      have HFIN : Hid (_) := HBW.out.trans (hB.mono HBW.out.size)
      have HLB : Hid ((baD (RS s cs) l).length = l.length) := baD_len _ _
      generalize (baD (RS s cs) l).length = bn at *
      clear hGw hgr6 hb6 hkn hB
      go_wp2
      go_ret2
      exact ⟨a6, q6, by rw [HF.out.1, HF.out.2, baD_len, HLB.out]; rfl, by rw [HF.out.2]; exact HGR.out, HFIN.out⟩
    have g2 : (k : Int) < (l.length : Int) := by omega
    obtain ⟨b1, off, a1, c1, ea, hb1, c0, hd, hdl, -⟩ := HL.out.rw hB k hkn
    have HBT : Hid (_) := baD_take (R := RS s cs) hkn
    have HET : Hid (_) := erL_take (R := RS s cs) hkn HER.out
    have HES : Hid (erD (RS s cs) (l.getD k []) ≠ 0 → erL (RS s cs) l = erD (RS s cs) (l.getD k [])) := erL_stop hkn HER.out
    obtain ⟨hd60, hspf⟩ := drF_iff.1 (HDR.out k hkn)
    have HSPF : Hid (_) := hspf
    obtain ⟨d, hdd⟩ : ∃ d, l.getD k [] = d := ⟨_, rfl⟩
    rw [hdd] at c0 hd hdl HBT HET HES hd60 HSPF
    have HLL : Hid ((baD (RS s cs) (l.take k)).length ≤ 20) := by show _ ≤ 20; rw [baD_len, List.length_take]; omega
    obtain ⟨L, hL⟩ : ∃ L, baD (RS s cs) (l.take k) = L := ⟨_, rfl⟩
    rw [hL] at hGw HBT HLL ⊢
    have HOW : Hid (∀ q, (Value.slice a6 L.length q6).ownBlock = some q → g ≤ q ∧ q < wr.heap.size) := fun q e => hGw.lo e
    have HGW : Hid (Gw SpE.row 52 g (fun k => g ≤ k) wr (.slice a6 L.length q6) L) := hGw
    have HD : Hid (Gr SpE S wr a1 c1 d) := hd
    have HB : Hid (Below u1.heap.size u1 wr) := hB
    subst ea
    have i1 : (0 : Int) ≤ (k : Int) := by omega
    obtain ⟨wq, hwq⟩ : ∃ u, u = wr := ⟨_, rfl⟩
    rw [← hwq] at HD HB HGW HOW
    rw [← hwq] at c0 ⊢
    obtain ⟨w2, hmk, hI0, hb2, hs2⟩ := makeG SpE (fun k => wq.heap.size ≤ k) 52 50 Tryz.underlying52 info_stD (by decide) d.length (by omega) wq
    obtain ⟨g1, hgg1⟩ : ∃ g, wq.heap.size = g := ⟨_, rfl⟩
    have HG1 : Hid (wq.heap.size = g1) := hgg1
    rw [hgg1] at hI0 hmk
    have HGG1 : Hid (g ≤ g1) := by show g ≤ g1; have h1 := HB.out.size; have h2 := HGG.out; omega
    have hdlen := HD.out.lenB
    clear hspf hd hB hwq hdd hL hGw hgr6 hb6 HER hgg1
    go_wp2
    clear hmk c0
    go_loopw [11, 34] (fun v i wr => ∃ (j : Nat), j ≤ d.length ∧ i = .int .i64 (j : Int) ∧ Gw SpE 50 g1 (fun k => g1 ≤ k) wr v (baW (RS s cs) (d.take j)) ∧ Hid (erD (RS s cs) (d.take j) = 0) ∧ Below wq.heap.size wq wr) (fun _ i _ => d.length - (intOf i).toNat)
    case atStart => exact ⟨0, Nat.zero_le _, rfl, hI0, (by show erD _ _ = 0; rfl), hb2⟩
    case round =>
      clear hI0 hb2 hs2
      obtain ⟨j, hj, rfl, hGj, HEJ, hC⟩ := hrel
      obtain ⟨a7, c7, e7, hgr7, hb7⟩ := hGj.slice
      subst e7
      by_cases hjn : j < d.length
      rotate_left
      · have hjj : j = d.length := by omega
        subst hjj
        have g4 : ¬ (d.length : Int) < (d.length : Int) := by omega
        rw [List.take_length] at hgr7 HEJ ⊢
        have hLB : (baW (RS s cs) d).length = d.length := baW_len _ _
        obtain ⟨V9, hV9, Y9, hb9⟩ : ∃ V, V = wr.alloc (.cells #[.slice a7 (baW (RS s cs) d).length c7] 52) ∧ Bk 52 V wr.heap.size [.slice a7 (baW (RS s cs) d).length c7] ∧ Below wr.heap.size wr V := ⟨_, rfl, Bk.new _ _ _, bl1 _⟩
        have hGb := HGW.out.below (hC.trans (hb9.mono hC.size))
        have hrep : SpE.row.rep (fun k => g ≤ k ∧ (Value.slice a6 L.length q6).ownBlock ≠ some k) V9 [.slice a7 (baW (RS s cs) d).length c7] (baW (RS s cs) d) := by
          have hS : ∀ k, g1 ≤ k → g ≤ k ∧ (Value.slice a6 L.length q6).ownBlock ≠ some k := fun k h1 => ⟨Nat.le_trans HGG1.out h1, fun e => by have h2 := (HOW.out k e).2; have h3 := HG1.out; omega⟩
          refine ⟨a7, c7, rfl, fun b o e _ => hS b (hb7 b o e).1, (hgr7.below hb9).wide (fun k h1 _ => hS k h1), by rw [hLB]; omega⟩
        have hone := Gr.one (E := SpE.row) hrep Y9.lt (fun j hj => Y9.cell j hj)
        have hBb : Below u1.heap.size u1 V9 := HB.out.trans ((hC.trans (hb9.mono hC.size)).mono HB.out.size)
        have hbs : g ≤ V9.heap.size := by have := HGG.out; have := hBb.size; omega
        have hll : L.length + 1 ≤ 1000000 := by have := HLL.out; omega
        have HEK : Hid (erL (RS s cs) (l.take (k + 1)) = 0) := HET.out.trans HEJ.out
        generalize (baW (RS s cs) d).length = bn at *
        clear hrep hGj hgr7 hb7 hC hLB hjn HEJ
        go_wp2_with (at_builtin; rw [← hV9]; refine wpList_append_el (E := SpE.row) 22 52 Tryz.underlying22 info_ssD rfl (by decide) (by decide) rfl _ _ rfl g (fun k => g ≤ k) _ L rfl hGb (some ⟨wr.heap.size, 0, none⟩) 1 1 [baW (RS s cs) d] rfl rfl hone hll hbs ?_)
        intro v9 w9 hT9 hgrow _
        rw [← hV9] at hgrow
        rw [← HBT.out] at hT9
        have hB9 : Below u1.heap.size u1 w9 := hBb.grown hgrow hBb.size (fun q hq => by have := (HOW.out q hq).1; have := HGG.out; omega)
        clear hgrow hGb hone hbs hll hBb hV9 Y9 hb9
        go_wp2
        go_roundw
        case rel => exact ⟨k + 1, by omega, by go_num, hT9, HEK, hB9⟩
        case measure => simp [intOf]; omega
      have g3 : (j : Int) < (d.length : Int) := by omega
      have hB : Below u1.heap.size u1 wr := HB.out.trans (hC.mono HB.out.size)
      obtain ⟨b2, of2, a2, c2, ea2, hb2, hI, d0, d1, hsl, hsl2⟩ := HD.out.sp hC j hjn
      have HSP : Hid (_) := HSPF.out j hjn
      have HWT : Hid (_) := baW_take (R := RS s cs) hjn
      have HDT : Hid (_) := erD_take (R := RS s cs) hjn HEJ.out
      have HDS : Hid (nuE (RS s cs) (d.getD j Sp.none).ar ≠ 0 → erD (RS s cs) d = nuE (RS s cs) (d.getD j Sp.none).ar) := erD_stop hjn HEJ.out
      obtain ⟨x, hx⟩ : ∃ x, d.getD j Sp.none = x := ⟨_, rfl⟩
      rw [hx] at hI d0 d1 hsl hsl2 HSP HWT HDT HDS
      have h6 : x.ar.length ≤ 6 := by have h1 := (spF_iff.1 HSP.out).1; have h2 := arD_in x.d; omega
      have HLM : Hid ((baW (RS s cs) (d.take j)).length ≤ 60) := by show _ ≤ 60; rw [baW_len, List.length_take]; omega
      obtain ⟨M, hM⟩ : ∃ M, baW (RS s cs) (d.take j) = M := ⟨_, rfl⟩
      rw [hM] at hGj HWT HLM ⊢
      have HOJ : Hid (∀ q, (Value.slice a7 M.length c7).ownBlock = some q → g1 ≤ q ∧ q < wr.heap.size) := fun q e => hGj.lo e
      subst ea2
      have i3 : (0 : Int) ≤ (j : Int) := by omega
      obtain ⟨U, hU, XG, hbU⟩ : ∃ U, U = wr.alloc (.cells #[.int .i64 x.d, .slice a2 x.ar.length c2] 50) ∧ Bk 50 U wr.heap.size [.int .i64 x.d, .slice a2 x.ar.length c2] ∧ Below wr.heap.size wr U := ⟨_, rfl, Bk.new _ _ _, bl1 _⟩
      replace hsl := hsl.below hbU
      replace hC := hC.trans (hbU.mono hC.size)
      replace hB := hB.trans (hbU.mono hB.size)
      replace hGj := hGj.below hbU
      obtain ⟨y0, y1, -⟩ := XG.two
      have hX1 := HX1.out.below hB
      obtain ⟨x0, x1, -⟩ := hX1.two
      have hro := rounded_any S a2 c2 x.ar ga gc ma mc s pa pc cs U hsl (HG.out.below hB) (HM.out.below hB) (HP.out.below hB) h40 h8 h6
      obtain ⟨gx, hgx⟩ : ∃ n, wr.heap.size = n := ⟨_, rfl⟩
      have HGX : Hid (wr.heap.size = gx) := hgx
      have hgxl : gx < U.heap.size := by rw [← hgx]; exact XG.lt
      clear hx hM hgr7 hb7
      go_upto_region 11 with fail
      rw [← hU]
      rw [hgx] at XG y0 y1
      try rw [hgx]
      clear hU d0 d1 hbU hgx
      obtain ⟨Mn, hMn⟩ : ∃ M, ru6 (RS s cs) x.ar = M := ⟨_, rfl⟩
      obtain ⟨ze, hze⟩ : ∃ z, nuE (RS s cs) x.ar = z := ⟨_, rfl⟩
      have HMN : Hid (ru6 (RS s cs) x.ar = Mn) := hMn
      have HZE : Hid (nuE (RS s cs) x.ar = ze) := hze
      rw [hMn, hze] at hro
      obtain ⟨n0, hn0⟩ : ∃ z, Mn.getD 0 0 = z := ⟨_, rfl⟩
      obtain ⟨n1, hn1⟩ : ∃ z, Mn.getD 1 0 = z := ⟨_, rfl⟩
      obtain ⟨n2, hn2⟩ : ∃ z, Mn.getD 2 0 = z := ⟨_, rfl⟩
      obtain ⟨n3, hn3⟩ : ∃ z, Mn.getD 3 0 = z := ⟨_, rfl⟩
      obtain ⟨n4, hn4⟩ : ∃ z, Mn.getD 4 0 = z := ⟨_, rfl⟩
      obtain ⟨n5, hn5⟩ : ∃ z, Mn.getD 5 0 = z := ⟨_, rfl⟩
      have HCC : Hid (c6 Mn = [.int .i64 n0, .int .i64 n1, .int .i64 n2, .int .i64 n3, .int .i64 n4, .int .i64 n5]) := by
        show _ = _
        unfold c6
        rw [hn0, hn1, hn2, hn3, hn4, hn5]
      rw [HCC.out] at hro
      replace hro : Calls Tryz.prog 30 #[.slice a2 x.ar.length c2, .agg #[.slice ga s.rg.length gc, .slice ma s.rw.length mc], .slice pa cs.length pc] U fun e w' => e = .returned (.tuple #[.agg #[.int .i64 n0, .int .i64 n1, .int .i64 n2, .int .i64 n3, .int .i64 n4, .int .i64 n5], .int .i64 ze]) ∧ Below U.heap.size U w' := hro
      clear hn0 hn1 hn2 hn3 hn4 hn5 hMn hze
      go_wp2_with fail
      refine hro.mono ?_
      rintro e u4 ⟨rfl, hb⟩
      replace XG := XG.below hb
      replace hC := hC.trans (hb.mono hC.size)
      replace hB := hB.trans (hb.mono hB.size)
      replace hGj := hGj.below hb
      have hgx4 : gx < u4.heap.size := by have := hb.size; omega
      clear hro hb y0 y1 x0 x1 hX1 hsl hgxl
      obtain ⟨V, hV, YN, hbV⟩ : ∃ V, V = u4.alloc (.cells #[.int .i64 n0, .int .i64 n1, .int .i64 n2, .int .i64 n3, .int .i64 n4, .int .i64 n5] 60) ∧ Bk 60 V u4.heap.size [.int .i64 n0, .int .i64 n1, .int .i64 n2, .int .i64 n3, .int .i64 n4, .int .i64 n5] ∧ Below u4.heap.size u4 V := ⟨_, rfl, Bk.new _ _ _, bl1 _⟩
      replace XG := XG.below hbV
      replace hC := hC.trans (hbV.mono hC.size)
      replace hB := hB.trans (hbV.mono hB.size)
      replace hGj := hGj.below hbV
      obtain ⟨gn, hgn⟩ : ∃ n, u4.heap.size = n := ⟨_, rfl⟩
      have hgnl : gn < V.heap.size := by rw [← hgn]; exact YN.lt
      by_cases hz0 : ze = 0
      rotate_left
      · have g6 : (ze != 0) = true := bne_iff_ne.2 hz0
        have HF : Hid (_) := ba_err HFO.out hz0 (by
          have h1 := HDS.out (by rw [HZE.out]; exact hz0)
          rw [HZE.out] at h1
          have h2 := HES.out (by rw [h1]; exact hz0)
          rw [h2, h1])
        have HFIN : Hid (Below w.heap.size w V) := HBW.out.trans (hB.mono HBW.out.size)
        clear hz0 XG hC hB hGj YN hbV hgn
        go_upto_region 12 with fail
        rw [← hV]
        clear hV
        go_wp2
        go_ret2
        exact ⟨none, 0, by rw [HF.out.1, HF.out.2]; rfl, by rw [HF.out.2]; exact Gr.nil _ _ _ _ _ (Nat.zero_le _) (fun _ => rfl), HFIN.out⟩
      subst hz0
      have HMN2 : Hid (nuL (RS s cs) x.ar = Mn) := (ru6_yes HZE.out).symm.trans HMN.out
      have HLN : Hid (Mn.length = x.ar.length) := by show _ = _; rw [← HMN2.out, nuL_len]
      rw [hgn] at YN
      have HYN : Hid (Bk 60 V gn (c6 Mn)) := by show Bk _ _ _ _; rw [HCC.out]; exact YN
      have HI6 : Hid (∀ z ∈ Mn, I64 z) := by show ∀ z ∈ Mn, I64 z; rw [← HMN2.out]; exact nuL_i64 _ _ _
      have HEJ2 : Hid (erD (RS s cs) (d.take (j + 1)) = 0) := HDT.out.trans HZE.out
      clear HMN HEJ HDT HDS YN
      go_upto_region 14 with fail
      rw [← hV]
      try rw [hgn]
      clear hV hgn hbV
      have hws : V.heap.size ≤ V.heap.size := Nat.le_refl _
      -- the step that is baked
      obtain ⟨y0, y1, -⟩ := XG.two
      have m1 : (0 : Int) ≤ (x.ar.length : Int) := by omega
      have m2 : (x.ar.length : Int) ≤ 6 := by omega
      refine wp_region_held_drew (S := fun w9 => w9.cell? ⟨gx, 0, none⟩ = some (.int .i64 x.d) ∧ w9.cell? ⟨gx, 1, none⟩ = some (.slice a2 x.ar.length c2)) (by kernel_rfl) ?_ (fun hHeld => ?_)
      · (try dsimp only)
        go_keep
      have hdr : Below V.heap.size V V.drew := Below.drew1
      generalize V.drew = Z at hdr hHeld ⊢
      replace XG := XG.below hdr
      replace hC := hC.trans (hdr.mono hC.size)
      replace hB := hB.trans (hdr.mono hB.size)
      replace hGj := hGj.below hdr
      have hYZ := HYN.out.below hdr
      have hfx := fixed_any (some ⟨gn, 0, none⟩) 6 Mn Z (c6_ri hYZ HI6.out (by rw [HLN.out]; exact h6)) (by rw [HLN.out]; exact h6)
      rw [HLN.out] at hfx
      have HZQ : Hid (wq.heap.size ≤ Z.heap.size) := hC.size
      have HZX : Hid (wr.heap.size ≤ Z.heap.size) := by show _ ≤ _; have h1 := HGX.out; have h2 := XG.lt; omega
      clear hdr y0 y1 hws hYZ
      refine hT 0 hHeld ?_
      refine hT 1 hHeld ?_
      refine hT 2 hHeld ?_
      refine hT 3 hHeld ?_
      refine hT 4 hHeld ?_
      refine hT 5 hHeld ?_
      refine hT 6 hHeld ?_
      refine hCall (i := 7) rfl (by kernel_rfl) (by rfl) (fun K hK => ?_)
      go_simp
      refine hfx.mono ?_
      rintro e u5 ⟨v5, rfl, hG5, hb5⟩
      replace XG := XG.below hb5
      replace hC := hC.trans (hb5.mono hC.size)
      replace hB := hB.trans (hb5.mono hB.size)
      replace hGj := hGj.below hb5
      have hs5 := hb5.size
      clear hfx hb5
      rw [← HMN2.out, fxS_ba] at hG5
      have HLB : Hid ((baP (RS s cs) x).ar.length = x.ar.length) := by show _ = _; rw [← fxS_ba, fxS_len, nuL_len]
      have hS5 : ∀ k, Z.heap.size ≤ k → k < u5.heap.size → g1 ≤ k ∧ (Value.slice a7 M.length c7).ownBlock ≠ some k := fun k h1 _ => ⟨by have h2 := HG1.out; have h3 := HZQ.out; omega, fun e => by have h2 := (HOJ.out k e).2; have h3 := HZX.out; omega⟩
      obtain ⟨a5, c5, e5, hrep5⟩ := step_rep hG5 hI hS5 (by rw [HLB.out]; omega)
      subst e5
      obtain ⟨bn, hbn⟩ : ∃ n, (baP (RS s cs) x).ar.length = n := ⟨_, rfl⟩
      have hbn6 : bn ≤ 6 := by rw [← hbn, HLB.out]; exact h6
      rw [hbn] at hrep5 ⊢
      clear hbn hG5
      obtain ⟨V9, hV9, Y9, hb9⟩ : ∃ V, V = u5.alloc (.cells #[.int .i64 x.d, .slice a5 bn c5] 50) ∧ Bk 50 V u5.heap.size [.int .i64 x.d, .slice a5 bn c5] ∧ Below u5.heap.size u5 V := ⟨_, rfl, Bk.new _ _ _, bl1 _⟩
      have hone := Gr.one (E := SpE) (SpE.stay hrep5 hb9.size (fun k hk hl => ⟨hk, hb9.block k hl⟩)) Y9.lt (fun j hj => Y9.cell j hj)
      have hGb := hGj.below hb9
      have XG9 := XG.below hb9
      have hC9 := hC.trans (hb9.mono hC.size)
      have hs9 := hb9.size
      have hbs : g1 ≤ V9.heap.size := by have h2 := HG1.out; have h3 := hC9.size; omega
      have hll : M.length + 1 ≤ 1000000 := by have := HLM.out; omega
      go_wp2_with fail
      refine hK.out _ _ ?_ (fun hHeld => ?_)
      · (try dsimp only)
        exact ⟨XG.two.1, XG.two.2.1⟩
      clear hK K hS5 hrep5 hGj XG hC hB
      try simp only [Act.put, List.setIfInBounds_toArray, List.set_cons_zero, List.set_cons_succ]
      refine hT 8 hHeld ?_
      refine hCall (i := 9) rfl (by kernel_rfl) (by rfl) (fun K hK => ?_)
      go_simp
      rw [← hV9]
      clear hV9
      refine hK.out _ _ ?_ (fun hHeld => ?_)
      · (try dsimp only)
        exact ⟨XG9.two.1, XG9.two.2.1⟩
      clear hK K
      try simp only [Act.put, List.setIfInBounds_toArray, List.set_cons_zero, List.set_cons_succ]
      refine hCall (i := 10) rfl (by kernel_rfl) (by rfl) (fun K hK => ?_)
      refine wp_append_el (E := SpE) 52 50 Tryz.underlying52 info_stD rfl (by decide) (by decide) _ _ rfl g1 (fun k => g1 ≤ k) _ M rfl hGb ⟨u5.heap.size, 0, none⟩ 1 1 [baP (RS s cs) x] rfl rfl hone hll hbs ?_
      intro v9 w9 hT9 hgrow hwh
      rw [← HWT.out] at hT9
      have hgx9 : (Value.slice a7 M.length c7).ownBlock ≠ some gx := fun e => by have h2 := (HOJ.out gx e).2; have h3 := HGX.out; omega
      have XG10 := XG9.grown hgrow hgx9
      have hC10 : Below wq.heap.size wq w9 := hC9.grown hgrow hC9.size (fun q hq => by have h2 := (HOJ.out q hq).1; have h3 := HG1.out; omega)
      refine hK.out _ _ ?_ (fun hHeld => ?_)
      · (try dsimp only)
        exact ⟨XG10.two.1, XG10.two.2.1⟩
      clear hK K
      try simp only [Act.put, List.setIfInBounds_toArray, List.set_cons_zero, List.set_cons_succ]
      refine hT 11 hHeld ?_
      refine wpAnyH_done (by kernel_rfl) ?_ _
      clear hHeld hgrow hwh hgx9 XG10 XG9 hone hGb hC9 Y9 hb9 hbs hll
      go_wp2
      go_roundw
      case rel => exact ⟨j + 1, by omega, by go_num, hT9, HEJ2, hC10⟩
      case measure => simp [intOf]; omega

end Go.Proofs.YtkbbdkecillnpaaGreat
