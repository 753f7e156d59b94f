/-
  tuples.renumbered: the walk.
  tuples.At: the walk.
-/
import Derived.Test.YtkmcodofnckdmaaGreatZS23
import Derived.Test.YtkmcodofnckdmaaGreatZS14
set_option maxHeartbeats 8000000
set_option maxRecDepth 100000
set_option linter.unusedSimpArgs false
set_option linter.unusedVariables false
namespace Go.Proofs.YtkmcodofnckdmaaGreat
open Go.RowKit Go.Maps
theorem rg_take {α : Type} (f : Nat → α) {n k : Nat} (hk : k < n) : ((List.range n).map f).take (k + 1) = ((List.range n).map f).take k ++ [f k] := by
 rw [List.take_add_one, List.getElem?_eq_getElem (by simpa using hk)]
 simp
theorem rg_all {α : Type} (f : Nat → α) (n : Nat) : ((List.range n).map f).take n = (List.range n).map f := List.take_of_length_le (by simp)
theorem rg_lenU {α : Type} (f : Nat → α) (n : Nat) : ((List.range n).map f).length = n := by simp
theorem urenumK_any (S : Nat → Prop) (a : Option Addr) (ca : Nat) (b : Option Addr) (cb : Nat) (o : Ol) (xa : Option Addr) (xc : Nat) (nx : List Int) (ya : Option Addr) (yc : Nat) (ny : List Int) (w : World) (hc : Gr PnE.row S w a ca o.cs) (hp : Gr PaE S w b cb o.ps) (hx : Ri w xa xc nx) (hy : Ri w ya yc ny) (hlx : nx.length = cntO o) (hly : ny.length = cntO o) (hl : o.cs.flatten.length ≤ 400) (hl1 : o.cs.length ≤ 400) (hl2 : o.ps.length ≤ 400) :
    Calls Tryz.prog 120 #[.agg #[.slice a o.cs.length ca, .slice b o.ps.length cb], .slice xa nx.length xc, .slice ya ny.length yc] w fun e w' => ∃ a1 c1 a2 c2, e = .returned (.agg #[.slice a1 (reO o nx ny).cs.length c1, .slice a2 (reO o nx ny).ps.length c2]) ∧ ∃ L : List (Nat × List Pn), Gw PkE 63 (w.heap.size + 3) (fun k => w.heap.size + 3 ≤ k) w' (.slice a1 (reO o nx ny).cs.length c1) L ∧ L.map Prod.snd = (reO o nx ny).cs ∧ (L.map Prod.fst).Nodup ∧ Gw PaE 54 (w.heap.size + 3) (fun _ => False) w' (.slice a2 (reO o nx ny).ps.length c2) (reO o nx ny).ps ∧ Below w.heap.size w w' := by
 have HN1 : Hid ((reO o nx ny).cs = (List.range o.cs.length).map (reC o.cs nx ny)) := rfl
 have HN2 : Hid ((reO o nx ny).ps = (List.range o.ps.length).map (reA o.cs.flatten.length o.ps nx ny)) := rfl
 rw [HN1.out, HN2.out, rg_lenU, rg_lenU]
 obtain ⟨W, hW, X1, X6, X7, hbW⟩ : ∃ W, W = ((w.alloc (.cells #[.slice a o.cs.length ca, .slice b o.ps.length cb] 57)).alloc (.cells #[.slice none 0 0, .slice none 0 0] 57)).alloc (.cells #[.slice none 0 0, .slice none 0 0] 57) ∧ Bk 57 W w.heap.size [.slice a o.cs.length ca, .slice b o.ps.length cb] ∧ Bk 57 W (w.heap.size + 1) [.slice none 0 0, .slice none 0 0] ∧ Bk 57 W (w.heap.size + 2) [.slice none 0 0, .slice none 0 0] ∧ Below w.heap.size w W :=
  ⟨_, rfl, ((Bk.new _ _ [.slice a o.cs.length ca, .slice b o.ps.length cb]).below (al1 _)).below (al1 _), (Bk.new1 _ _ _ [.slice none 0 0, .slice none 0 0]).below (al1 _), by
   have h := Bk.new 57 ((w.alloc (.cells #[.slice a o.cs.length ca, .slice b o.ps.length cb] 57)).alloc (.cells #[.slice none 0 0, .slice none 0 0] 57)) [.slice none 0 0, .slice none 0 0]
   simpa using h, al3 _ _ _⟩
 have hWs : W.heap.size = w.heap.size + 3 := by rw [hW]; simp
 obtain ⟨p0, p1, _⟩ := X1.two
 have kx := hx.lenB
 have ky := hy.lenB
 have HC : Hid (Gr PnE.row S w a ca o.cs) := hc
 have HP : Hid (Gr PaE S w b cb o.ps) := hp
 have HX : Hid (Ri w xa xc nx) := hx
 have HY : Hid (Ri w ya yc ny) := hy
 have HBW : Hid (Below w.heap.size w W) := hbW
 have HX1 : Hid (Bk 57 W w.heap.size [.slice a o.cs.length ca, .slice b o.ps.length cb]) := X1
 have HX6 : Hid (Bk 57 W (w.heap.size + 1) [.slice none 0 0, .slice none 0 0]) := X6
 have HX7 : Hid (Bk 57 W (w.heap.size + 2) [.slice none 0 0, .slice none 0 0]) := X7
 have HLX : Hid (nx.length = o.ps.length + o.cs.flatten.length ∧ ny.length = o.ps.length + o.cs.flatten.length) := ⟨hlx, hly⟩
 have HWS : Hid (W.heap.size = w.heap.size + 3) := hWs
 obtain ⟨vs, hvs⟩ : ∃ n, W.heap.size = n := ⟨_, rfl⟩
 have HVS : Hid (W.heap.size = vs) := hvs
 have hvs3 : w.heap.size + 3 ≤ vs := by omega
 have hvs4 : vs ≤ w.heap.size + 3 := by omega
 obtain ⟨cs, ps⟩ := o
 dsimp only at *
 have HFC : Hid (ofC cs cs.length = cs.flatten.length) := ofC_all cs
 have HOL : Hid (∀ k, ofC cs k ≤ cs.flatten.length) := fun k => ofC_le cs k
 obtain ⟨N, hN⟩ : ∃ n, cs.flatten.length = n := ⟨_, rfl⟩
 rw [hN] at HFC HOL HLX hl HN2 ⊢
 obtain ⟨g7, hg7⟩ : ∃ g, w.heap.size + 1 + 1 = g := ⟨_, rfl⟩
 have hg7a : g7 ≤ w.heap.size + 2 := by omega
 have hg7b : w.heap.size + 2 ≤ g7 := by omega
 have HX7 : Hid (Bk 57 W g7 [.slice none 0 0, .slice none 0 0]) := by show Bk _ _ _ _; rw [← hg7]; exact HX7.out
 clear hc hp hx hy X1 X6 X7 hbW hlx hly hWs hvs hN
 have kc := HC.out.lenB
 have kp := HP.out.lenB
 go_enter Tryz.func120, Tryz.ntmps120
 go_upto_region 3 with fail
 rw [← hW]; clear hW hg7; go_wp2; clear p0 p1
 go_loopw [8, 19] (fun at_ i wr => ∃ (k : Nat) (pv : Value) (L : List (Nat × List Pn)), k ≤ cs.length ∧ i = .int .i64 k ∧ at_ = .int .i64 (ofC cs k : Int) ∧ Bk 57 wr g7 [pv, .slice none 0 0] ∧ Gw PkE 63 vs (fun b => vs ≤ b ∧ b < wr.heap.size) wr pv L ∧ Hid (L.map Prod.snd = ((List.range cs.length).map (reC cs nx ny)).take k ∧ (L.map Prod.fst).Nodup) ∧ Kp g7 W wr) (fun _ i _ => cs.length - (intOf i).toNat)
 case atStart => exact ⟨0, .slice none 0 0, [], Nat.zero_le _, rfl, rfl, HX7.out, Gw.nil _ _ _ _ _, ⟨rfl, List.nodup_nil⟩, Kp.refl _ _⟩
 case round =>
  obtain ⟨k, pv, L, hk, rfl, rfl, hY, hG, HLL, hKp⟩ := hrel
  have hvl : vs ≤ wr.heap.size := by rw [← HVS.out]; exact hKp.size
  have hBw : Below w.heap.size w wr := HBW.out.trans (hKp.below HBW.out.size (by omega))
  by_cases hkn : k < cs.length
  · obtain ⟨b1, o1, a1, c1, ea, hb1, hcd, hrow0⟩ := HC.out.rwAt k hkn
    subst ea
    have d0 := hcd wr hBw
    have hst := ofC_succ hkn
    have hol1 := HOL.out (k + 1)
    have HMV : Hid (_) := rg_take (reC cs nx ny) hkn
    have HRC : Hid (reC cs nx ny k = (List.range (cs.getD k []).length).map (reP cs nx ny k)) := rfl
    have HRP : Hid (∀ j, reP cs nx ny k j = ⟨nx.getD (ofC cs k + j) 0, ny.getD (ofC cs k + j) 0, ((cs.getD k []).getD j Pn.none).on⟩) := fun j => rfl
    obtain ⟨c, hc⟩ : ∃ c, cs.getD k [] = c := ⟨_, rfl⟩
    rw [hc] at d0 hrow0 hst HRC HRP; rw [HRC.out] at HMV
    have hcb : c.length ≤ 400 := by omega
    have HROW : Hid (Gr PnE S w a1 c1 c) := hrow0
    obtain ⟨ak, hak⟩ : ∃ n, ofC cs k = n := ⟨_, rfl⟩
    rw [hak] at hst HRP ⊢
    have HAK : Hid (ofC cs (k + 1) = ak + c.length) := hst
    have hol2 : ak + c.length ≤ N := by omega
    have hll : L.length + 1 ≤ 1000000 := by
     have h1 := congrArg List.length HLL.out.1
     rw [List.length_map, List.length_take, rg_lenU] at h1
     omega
    have i1 : (0 : Int) ≤ (k : Int) := by omega
    have i2 : (k : Int) < (cs.length : Int) := by omega
    have HGW : Hid (Gw PkE 63 vs (fun b => vs ≤ b ∧ b < wr.heap.size) wr pv L) := hG
    have HYY : Hid (Bk 57 wr g7 [pv, .slice none 0 0]) := hY
    have HKO : Hid (Kp g7 W wr) := hKp
    have HBO : Hid (Below w.heap.size w wr) := hBw
    obtain ⟨wo, rfl⟩ : ∃ wo, wo = wr := ⟨_, rfl⟩
    obtain ⟨i0, hi0, hz0, hz1, hz2⟩ := info_parts info_pn
    have hmk := run_make (P := Tryz.prog) wo 63 65 i0 (.agg #[.int .i64 0, .int .i64 0, .bool false]) Tryz.underlying63 hi0 hz0 .i64 .i64 0 (c.length : Int) (by omega) (by omega) (by rw [hz2]; omega) (by omega)
    rw [hz1] at hmk
    simp only [Int.toNat_zero, Int.toNat_natCast] at hmk
    obtain ⟨wm, hwm⟩ : ∃ w1, wo.alloc (.cells (madeCells (Value.agg #[.int .i64 0, .int .i64 0, .bool false]).cells (c.length * 3)) 65) = w1 := ⟨_, rfl⟩
    have hI0 : Gw PnE 65 wo.heap.size (fun _ => False) wm (.slice (some ⟨wo.heap.size, 0, none⟩) 0 c.length) (((List.range c.length).map (reP cs nx ny k)).take 0) := by
     refine Gw.made ?_
     rw [← hwm]
     have := World.ownsRow_made (base := wo.heap.size) (e := 65) (size := 3) wo (madeCells (Value.agg #[.int .i64 0, .int .i64 0, .bool false]).cells (c.length * 3)) c.length (Nat.le_refl _) (by unfold maxLen; omega) (size_madeCells _ _)
     have h2 : (wo.alloc (.cells (madeCells (Value.agg #[.int .i64 0, .int .i64 0, .bool false]).cells (c.length * 3)) 65)).ownsRow wo.heap.size 65 3 (.slice (some ⟨wo.heap.size, 0, none⟩) 0 c.length) 0 [] := by simpa using this
     exact h2
    have hB1u : Below wo.heap.size wo wm := by rw [← hwm]; exact bl1 _
    rw [hwm] at hmk; clear hwm hi0 hz0 hz1 hz2 hc hak hcd hG hY hKp hrow0 hst hol1; go_wp2; clear d0 hmk
    go_loopw [8, 11, 28] (fun at_ v i wr => ∃ r : Nat, r ≤ c.length ∧ i = .int .i64 r ∧ at_ = .int .i64 ((ak + r : Nat) : Int) ∧ Hid (∃ q, v.ownBlock = some q) ∧ Gw PnE 65 wo.heap.size (fun _ => False) wr v (((List.range c.length).map (reP cs nx ny k)).take r) ∧ Below wo.heap.size wo wr) (fun _ _ i _ => c.length - (intOf i).toNat)
    case atStart => exact ⟨0, Nat.zero_le _, rfl, rfl, ⟨_, rfl⟩, hI0, hB1u⟩
    case round =>
     clear hI0 hB1u; obtain ⟨r, hr, rfl, rfl, HOB, hV, hBo⟩ := hrel; obtain ⟨a7, c7, rfl, hgr7, hb7⟩ := hV.slice
     have hBu := HBO.out.trans (hBo.mono HBO.out.size)
     obtain ⟨at0, hat0⟩ : ∃ n, ak + r = n := ⟨_, rfl⟩
     by_cases hrn : r < c.length
     · obtain ⟨b2, o2, eb, hb2, ⟨w0, w1⟩, e0, e1, e2⟩ := HROW.out.pn hBu r hrn
       subst eb
       have HMP : Hid (_) := rg_take (reP cs nx ny k) hrn
       rw [HRP.out r, hat0] at HMP
       have HAT : Hid (ak + (r + 1) = at0 + 1) := by show _ = _; omega
       rw [hat0]
       have hax : at0 < nx.length := by have := HLX.out.1; omega
       have hay : at0 < ny.length := by have := HLX.out.2; omega
       obtain ⟨bx, ox, ex, hbx0, s0⟩ := HX.out.at hBu at0 hax
       subst ex
       obtain ⟨bz, oz, ez, hbz0, s1⟩ := HY.out.at hBu at0 hay
       subst ez
       have hzx := HX.out.i64 hax
       have hzy := HY.out.i64 hay
       generalize nx.getD at0 0 = zx at *
       generalize ny.getD at0 0 = zy at *
       generalize c.getD r Pn.none = q at *
       obtain ⟨x, y, on⟩ := q; dsimp only at w0 w1 e0 e1 e2 HMP
       have hl7 : (((List.range c.length).map (reP cs nx ny k)).take r).length + [(⟨zx, zy, on⟩ : Pn)].length ≤ 1000000 := by rw [List.length_take, rg_lenU]; simp; omega
       generalize ((List.range c.length).map (reP cs nx ny k)).take r = K1 at *
       have i3 : (0 : Int) ≤ (r : Int) := by omega
       have i4 : (r : Int) < (c.length : Int) := by omega
       have i5 : (0 : Int) ≤ (at0 : Int) := by omega
       have i6 : (at0 : Int) < (nx.length : Int) := by omega
       have i7 : (at0 : Int) < (ny.length : Int) := by omega
       obtain ⟨V, hV0, X0, hb0⟩ : ∃ V, V = wr.alloc (.cells #[.int .i64 x, .int .i64 y, .bool on] 65) ∧ Bk 65 V wr.heap.size [.int .i64 x, .int .i64 y, .bool on] ∧ Below wr.heap.size wr V := ⟨_, rfl, Bk.new _ _ _, bl1 _⟩
       obtain ⟨q0, q1, s2, _⟩ := X0.three
       have hwow := HBO.out.size
       have hbos := hBo.size
       replace s0 := (hb0.cell (p := ⟨bx, ox + at0, none⟩) (show bx < wr.heap.size by omega)).trans s0
       replace s1 := (hb0.cell (p := ⟨bz, oz + at0, none⟩) (show bz < wr.heap.size by omega)).trans s1
       have hVV0 := hV
       have hVV := hV.below hb0
       have hBZ : Below wo.heap.size wo V := hBo.trans (hb0.mono hBo.size)
       clear hat0 hV hgr7 hb7 w0 w1 hax hay
       go_upto_region 10 with fail
       rw [← hV0]; clear hV0 e0 e1 e2 q0 q1
       refine wp_region_held_drew (S := fun w9 => w9.cell? ⟨bx, ox + at0, none⟩ = some (.int .i64 zx) ∧ w9.cell? ⟨bz, oz + at0, none⟩ = some (.int .i64 zy) ∧ w9.cell? ⟨wr.heap.size, 2, none⟩ = some (.bool on)) (by kernel_rfl) ?_ (fun hHeld => ?_)
       · (try dsimp only)
         go_keep
       have hsz0 := X0.lt
       have hdr : Below V.heap.size V V.drew := Below.drew1
       generalize V.drew = Z at hdr hHeld ⊢
       have hszz := hdr.size
       have hsz : wr.heap.size < Z.heap.size := by omega
       have hbx : bx < Z.heap.size := by omega
       have hbz : bz < Z.heap.size := by omega
       replace s0 := (hdr.cell (p := ⟨bx, ox + at0, none⟩) (show bx < V.heap.size by omega)).trans s0
       replace s1 := (hdr.cell (p := ⟨bz, oz + at0, none⟩) (show bz < V.heap.size by omega)).trans s1
       replace s2 := (hdr.cell (p := ⟨wr.heap.size, 2, none⟩) hsz0).trans s2
       replace hVV := hVV.below hdr
       replace hBZ := hBZ.trans (hdr.mono hBZ.size)
       clear hdr X0 hb0; refine hT 0 hHeld ?_; refine hT 1 hHeld ?_; refine hT 2 hHeld ?_; refine hT 3 hHeld ?_; refine hT 4 hHeld ?_; refine hT 5 hHeld ?_; refine hT 6 hHeld ?_; refine hT 7 hHeld ?_; refine hT 8 hHeld ?_; refine hT 9 hHeld ?_; refine hT 10 hHeld ?_; refine hT 11 hHeld ?_
       refine hCall (i := 12) rfl (by kernel_rfl) (by rfl) (fun K hK => ?_)
       go_simp
       obtain ⟨V1, hV1, A1, hb1⟩ : ∃ U, U = Z.alloc (.cells #[.int .i64 zx, .int .i64 zy, .bool on] 65) ∧ Bk 65 U Z.heap.size [.int .i64 zx, .int .i64 zy, .bool on] ∧ Below Z.heap.size Z U := ⟨_, rfl, Bk.new _ _ _, bl1 _⟩
       rw [← hV1]; clear hV1
       replace s0 := (hb1.cell (p := ⟨bx, ox + at0, none⟩) hbx).trans s0
       replace s1 := (hb1.cell (p := ⟨bz, oz + at0, none⟩) hbz).trans s1
       replace s2 := (hb1.cell (p := ⟨wr.heap.size, 2, none⟩) hsz).trans s2
       have hVb := hVV.below hb1
       have hone : Gr PnE (fun k => False ∧ (Value.slice a7 K1.length c7).ownBlock ≠ some k) V1 (some ⟨Z.heap.size, 0, none⟩) 1 [⟨zx, zy, on⟩] := Gr.one (E := PnE) (vs := pnC ⟨zx, zy, on⟩) (PnE_rep.2 ⟨rfl, hzx, hzy⟩) A1.lt (fun j hj => A1.cell j hj)
       have hBb := hBZ.trans (hb1.mono hBZ.size)
       have hbs := hBb.size
       refine hK.out _ _ ?_ (fun hHeld => ?_)
       · (try dsimp only)
         exact ⟨s0, s1, s2⟩
       clear hK K
       try simp only [Act.put, pZ]
       refine hCall (i := 13) rfl (by kernel_rfl) (by rfl) (fun K hK => ?_)
       refine wp_append_el 63 65 Tryz.underlying63 info_pn rfl (by decide) (by decide) _ _ rfl wo.heap.size (fun _ => False) (.slice a7 K1.length c7) K1 rfl hVb ⟨Z.heap.size, 0, none⟩ 1 1 [⟨zx, zy, on⟩] rfl rfl hone hl7 hbs ?_
       intro v9 w9 hT9 hgrow how
       have hOB : ∃ q, v9.ownBlock = some q := by
        rcases how with how | how
        · obtain ⟨q, hq⟩ := HOB.out
          exact ⟨q, how.trans hq⟩
        · exact ⟨_, how⟩
       have HOB9 : Hid (∃ q, v9.ownBlock = some q) := hOB
       clear how hOB
       have hB9 : Below wo.heap.size wo w9 := hBb.grown hgrow hbs (fun k hk => (hVb.lo hk).1)
       have hne : ∀ q, q < wo.heap.size ∨ q = wr.heap.size → some q ≠ (Value.slice a7 K1.length c7).ownBlock := fun q hq e => by
        have h1 := (hVV0.lo e.symm)
        rcases hq with hq | hq <;> omega
       replace s0 := hgrow.cell s0 (hne bx (.inl (by omega)))
       replace s1 := hgrow.cell s1 (hne bz (.inl (by omega)))
       replace s2 := hgrow.cell s2 (hne wr.heap.size (.inr rfl))
       refine hK.out _ _ ?_ (fun hHeld => ?_)
       · (try dsimp only)
         exact ⟨s0, s1, s2⟩
       clear hK K
       try simp only [Act.put, pZ]
       refine hT 14 hHeld ?_
       refine wpAnyH_done (by kernel_rfl) ?_ _
       rw [← HMP.out] at hT9; clear hHeld hgrow hVb hone hbs hl7 HMP hBb s0 s1 s2 A1 hb1 hne hVV0 hVV; go_wp2
       go_roundw
       case rel => exact ⟨r + 1, by omega, by go_num, by rw [HAT.out]; go_num, HOB9, hT9, hB9⟩
       case measure => simp [intOf]; omega
     · obtain rfl : r = c.length := by omega
       rw [rg_all] at hV hgr7
       have g1 : ¬ (c.length : Int) < (c.length : Int) := by omega
       have hk1 : (((List.range c.length).map (reP cs nx ny k)).take c.length).length = ((List.range c.length).map (reP cs nx ny k)).length := by rw [rg_all]
       rw [hk1]
       have hcb2 : ((List.range c.length).map (reP cs nx ny k)).length ≤ 140737488351232 := by rw [rg_lenU]; omega
       clear hk1
       generalize (List.range c.length).map (reP cs nx ny k) = K1 at *
       obtain ⟨q7, hq7⟩ := HOB.out
       replace hq7 : (Value.slice a7 K1.length c7).ownBlock = some q7 := by cases a7 <;> exact hq7
       obtain ⟨c8, e8⟩ := hV.form hq7
       injection e8 with e8 _ e9; subst e8 e9
       have hq0 := (hV.lo hq7).1
       have hYr := HYY.out.below hBo
       obtain ⟨z0, z1, _⟩ := hYr.two
       have bp := bl1 (w := wr) (.cells #[.slice (some ⟨q7, 0, none⟩) K1.length c7] 63)
       have hG1 := (HGW.out.below hBo).below bp
       have hG2 : Gw PkE 63 vs (fun b => vs ≤ b ∧ b < (wr.alloc (.cells #[.slice (some ⟨q7, 0, none⟩) K1.length c7] 63)).heap.size) (wr.alloc (.cells #[.slice (some ⟨q7, 0, none⟩) K1.length c7] 63)) pv L := hG1.widenU (fun k h1 h2 => ⟨h1.1, h2⟩)
       have hVb := hV.below bp
       have hgrb := hgr7.below bp
       have hrep : PkE.rep (fun k => (vs ≤ k ∧ k < (wr.alloc (.cells #[.slice (some ⟨q7, 0, none⟩) K1.length c7] 63)).heap.size) ∧ pv.ownBlock ≠ some k) (wr.alloc (.cells #[.slice (some ⟨q7, 0, none⟩) K1.length c7] 63)) [.slice (some ⟨q7, 0, none⟩) K1.length c7] (q7, K1) := by
        refine PkE_of hVb ?_ hcb2
        have hq1 := (hVb.lo rfl).2
        exact ⟨⟨by omega, hq1⟩, fun e2 => hG2.ne hVb (by decide) e2 rfl⟩
       have HSD : Hid (((L ++ [(q7, K1)]).map Prod.snd = ((List.range cs.length).map (reC cs nx ny)).take (k + 1)) ∧ ((L ++ [(q7, K1)]).map Prod.fst).Nodup) := by
        refine ⟨by rw [List.map_append, HLL.out.1, HMV.out]; rfl, nodup_snoc HLL.out.2 (fun y hy => ?_)⟩
        have := (HGW.out.ids y hy).2
        show y.1 ≠ q7
        omega
       have hN := Bk.new 63 wr [.slice (some ⟨q7, 0, none⟩) K1.length c7]
       have hone := Gr.one (E := PkE) hrep hN.lt (fun jj hjj => by
        obtain rfl : jj = 0 := by have h1 : jj < 1 := hjj; omega
        exact hN.cell 0 (by simp))
       have hKb : Kp g7 W (wr.alloc (.cells #[.slice (some ⟨q7, 0, none⟩) K1.length c7] 63)) := (HKO.out.trans (Kp.of hBo)).trans (Kp.of bp)
       have hbs : vs ≤ (wr.alloc (.cells #[.slice (some ⟨q7, 0, none⟩) K1.length c7] 63)).heap.size := Nat.le_trans hvl (Nat.le_trans hBo.size bp.size)
       have hYb := hYr.below bp
       have hpg : pv.ownBlock ≠ some g7 := fun e => by have := (HGW.out.lo e).1; omega
       obtain ⟨apv, cpv, epv, _, _⟩ := hG2.slice; subst epv; clear hV hgr7 hb7 hG1 hVb hgrb hrep hN bp hYr hBo hBu hat0
       go_wp2_with (at_builtin; refine wpList_append_el 37 63 Tryz.underlying37 info_pns rfl Nat.one_pos (by decide) rfl _ _ rfl vs _ _ L rfl hG2 (some ⟨wr.heap.size, 0, none⟩) 1 1 [(q7, K1)] rfl rfl hone hll hbs ?_)
       intro v9 w9 hT9 hgrow hown
       have hK9 : Kp g7 W w9 := hKb.grown hgrow (fun k hk => by rw [HVS.out]; exact (hG2.lo hk).1)
       have hY9 := hYb.grown hgrow hpg
       have hT9 := hT9.widenU (S' := fun b => vs ≤ b ∧ b < w9.heap.size) (fun k h1 h2 => ⟨h1.1, h2⟩)
       have hv9 : v9.ownBlock ≠ some g7 := fun e => by have := (hT9.lo e).1; omega
       obtain ⟨M2, hM2⟩ : ∃ M2, L ++ [(q7, K1)] = M2 := ⟨_, rfl⟩
       rw [hM2] at hT9 HSD; clear hM2; obtain ⟨y0, y1, f0, f1⟩ := hY9.two
       have hY10 := hY9.set 0 v9
       have hT10 : Gw PkE 63 vs (fun b => vs ≤ b ∧ b < (w9.setCell ⟨g7, 0, none⟩ v9).heap.size) (w9.setCell ⟨g7, 0, none⟩ v9) v9 M2 := by
        refine hT9.stay (by simp [World.setCell]) (fun kk h1 _ h3 => ⟨⟨h1.1, by simp [World.setCell]; exact h3⟩, Below.heap_setCell _ _ _ _ (fun e => by have h4 : kk = g7 := e; have h5 : vs ≤ kk := h1.1; omega)⟩) (fun k hk => Below.heap_setCell _ _ _ _ (fun e => hv9 (by rw [hk]; exact congrArg some e)))
       have hK10 : Kp g7 W (w9.setCell ⟨g7, 0, none⟩ v9) := hK9.setCell 0 _
       obtain ⟨a9, c9, e9, _, _⟩ := hT9.slice
       have HY10 : Hid (_) := hY10
       have HT10 : Hid (_) := hT10
       have HK10 : Hid (_) := hK10
       clear hgrow hown hG2 hone hbs hll hKb hYb hpg hY9 hv9 hT9 hK9 hY10 hT10 hK10 HMV z0 z1; subst e9; go_wp2
       go_roundw
       case rel => exact ⟨k + 1, _, M2, by omega, by go_num, by rw [HAK.out]; exact congrArg (Value.int .i64) (by omega), HY10.out, HT10.out, HSD, HK10.out⟩
       case measure => simp [intOf]; omega
  · obtain rfl : k = cs.length := by omega
    have g1 : ¬ (cs.length : Int) < (cs.length : Int) := by omega
    rw [HFC.out]; obtain ⟨a5, c5, rfl, -, hb5⟩ := hG.slice
    have HLC : Hid (L.map Prod.snd = (List.range cs.length).map (reC cs nx ny) ∧ (L.map Prod.fst).Nodup) := ⟨by rw [HLL.out.1, rg_all], HLL.out.2⟩
    clear HLL
    obtain ⟨w1, rfl⟩ : ∃ x, x = wr := ⟨_, rfl⟩
    have HB5 : Hid (∀ b o, a5 = some ⟨b, o, none⟩ → vs ≤ b ∧ b < w1.heap.size) := hb5
    have HK1 : Hid (Kp g7 W w1) := hKp
    have HB1 : Hid (Below w.heap.size w w1) := hBw
    have hX1 := HX1.out.kp hKp (by omega)
    have HX61 : Hid (Bk 57 w1 (w.heap.size + 1) [.slice none 0 0, .slice none 0 0]) := HX6.out.kp hKp (by omega)
    obtain ⟨nc5, hnc5⟩ : ∃ n, L.length = n := ⟨_, rfl⟩
    have HNC5 : Hid (L.length = nc5) := hnc5
    rw [hnc5] at hY hG
    have HG5 : Hid (Gw PkE 63 vs (fun b => vs ≤ b ∧ b < w1.heap.size) w1 (.slice a5 nc5 c5) L) := hG
    have HYY : Hid (Bk 57 w1 g7 [.slice a5 nc5 c5, .slice none 0 0]) := hY
    obtain ⟨p0, p1, _⟩ := hX1.two; clear hG hb5 hY hKp hX1 hnc5; go_wp2; clear p0 p1
    go_loopw [8, 59] (fun at_ i wr => ∃ (r : Nat) (pv : Value), r ≤ ps.length ∧ i = .int .i64 r ∧ at_ = .int .i64 ((N + r : Nat) : Int) ∧ Bk 57 wr g7 [.slice a5 nc5 c5, pv] ∧ Gw PaE 54 w1.heap.size (fun _ => False) wr pv (((List.range ps.length).map (reA N ps nx ny)).take r) ∧ Kp g7 w1 wr) (fun _ i _ => ps.length - (intOf i).toNat)
    case atStart => exact ⟨0, .slice none 0 0, Nat.zero_le _, rfl, rfl, HYY.out, Gw.nil _ _ _ _ _, Kp.refl _ _⟩
    case round =>
     obtain ⟨r, pv, hr, rfl, rfl, hYc, hV, hKr⟩ := hrel; obtain ⟨a7, c7, rfl, hgr7, hb7⟩ := hV.slice
     have hws := hKr.size
     have hBu : Below w.heap.size w wr := HB1.out.trans (hKr.below HB1.out.size (by omega))
     obtain ⟨at0, hat0⟩ : ∃ n, N + r = n := ⟨_, rfl⟩
     by_cases hrn : r < ps.length
     · obtain ⟨b2, o2, eb, hb2, hpw, e0, e1, e2⟩ := HP.out.pa hBu r hrn
       subst eb
       have HMP : Hid (_) := rg_take (reA N ps nx ny) hrn
       have HRA : Hid (reA N ps nx ny r = ⟨(ps.getD r Pa.none).g, nx.getD (N + r) 0, ny.getD (N + r) 0⟩) := rfl
       rw [HRA.out, hat0] at HMP
       have HAT : Hid (N + (r + 1) = at0 + 1) := by show _ = _; omega
       rw [hat0]
       have hax : at0 < nx.length := by have := HLX.out.1; omega
       have hay : at0 < ny.length := by have := HLX.out.2; omega
       obtain ⟨bx, ox, ex, hbx0, s1⟩ := HX.out.at hBu at0 hax
       subst ex
       obtain ⟨bz, oz, ez, hbz0, s2⟩ := HY.out.at hBu at0 hay
       subst ez
       have hzx := HX.out.i64 hax
       have hzy := HY.out.i64 hay
       generalize nx.getD at0 0 = zx at *
       generalize ny.getD at0 0 = zy at *
       generalize ps.getD r Pa.none = q at *
       obtain ⟨gl, x, y⟩ := q; obtain ⟨hgi, hxi, hyi⟩ := hpw; dsimp only at e0 e1 e2 HMP hgi hxi hyi
       have hl7 : (((List.range ps.length).map (reA N ps nx ny)).take r).length + [(⟨gl, zx, zy⟩ : Pa)].length ≤ 1000000 := by rw [List.length_take, rg_lenU]; simp; omega
       generalize ((List.range ps.length).map (reA N ps nx ny)).take r = K1 at *
       have i3 : (0 : Int) ≤ (r : Int) := by omega
       have i4 : (r : Int) < (ps.length : Int) := by omega
       have i5 : (0 : Int) ≤ (at0 : Int) := by omega
       have i6 : (at0 : Int) < (nx.length : Int) := by omega
       have i7 : (at0 : Int) < (ny.length : Int) := by omega
       obtain ⟨V, hV0, X0, hb0⟩ : ∃ V, V = wr.alloc (.cells #[.int .i64 gl, .int .i64 x, .int .i64 y] 54) ∧ Bk 54 V wr.heap.size [.int .i64 gl, .int .i64 x, .int .i64 y] ∧ Below wr.heap.size wr V := ⟨_, rfl, Bk.new _ _ _, bl1 _⟩
       obtain ⟨s0, q1, q2, _⟩ := X0.three
       have hwow := HB1.out.size
       have hkw := HK1.out.size
       replace s1 := (hb0.cell (p := ⟨bx, ox + at0, none⟩) (show bx < wr.heap.size by omega)).trans s1
       replace s2 := (hb0.cell (p := ⟨bz, oz + at0, none⟩) (show bz < wr.heap.size by omega)).trans s2
       have hVV0 := hV
       have hVV := hV.below hb0
       have hKZ : Kp g7 w1 V := hKr.trans (Kp.of hb0)
       replace hYc := hYc.below hb0; clear hat0 hV hgr7 hb7 hax hay hxi hyi
       go_upto_region 18 with fail
       rw [← hV0]; clear hV0 e0 e1 e2 q1 q2
       refine wp_region_held_drew (S := fun w9 => w9.cell? ⟨wr.heap.size, 0, none⟩ = some (.int .i64 gl) ∧ w9.cell? ⟨bx, ox + at0, none⟩ = some (.int .i64 zx) ∧ w9.cell? ⟨bz, oz + at0, none⟩ = some (.int .i64 zy)) (by kernel_rfl) ?_ (fun hHeld => ?_)
       · (try dsimp only)
         go_keep
       have hsz0 := X0.lt
       have hdr : Below V.heap.size V V.drew := Below.drew1
       generalize V.drew = Z at hdr hHeld ⊢
       have hszz := hdr.size
       have hsz : wr.heap.size < Z.heap.size := by omega
       have hbx : bx < Z.heap.size := by omega
       have hbz : bz < Z.heap.size := by omega
       replace s0 := (hdr.cell (p := ⟨wr.heap.size, 0, none⟩) hsz0).trans s0
       replace s1 := (hdr.cell (p := ⟨bx, ox + at0, none⟩) (show bx < V.heap.size by omega)).trans s1
       replace s2 := (hdr.cell (p := ⟨bz, oz + at0, none⟩) (show bz < V.heap.size by omega)).trans s2
       replace hVV := hVV.below hdr; replace hYc := hYc.below hdr
       replace hKZ := hKZ.trans (Kp.of hdr)
       clear hdr X0 hb0; refine hT 0 hHeld ?_; refine hT 2 hHeld ?_; refine hT 3 hHeld ?_; refine hT 4 hHeld ?_; refine hT 5 hHeld ?_; refine hT 6 hHeld ?_; refine hT 7 hHeld ?_; refine hT 8 hHeld ?_; refine hT 9 hHeld ?_; refine hT 10 hHeld ?_; refine hT 11 hHeld ?_; refine hT 12 hHeld ?_
       refine wpAnyH_ready (rs := [1, 13]) (by kernel_rfl) (by simp) (hCons (i := 1) rfl (by rfl) (fun K hK => ?_) (hCons (i := 13) rfl (by rfl) (fun K hK => ?_) AllReadyH.nil))
       · obtain ⟨y0, y1, f0, f1⟩ := hYc.two
         go_simp
         refine hK.out _ _ ?_ (fun hHeld => ?_)
         · (try dsimp only)
           exact ⟨s0, s1, s2⟩
         clear hK K
         try simp only [Act.put, pZ]
         clear y0 y1 f0 f1
         refine hCall (i := 13) rfl (by kernel_rfl) (by rfl) (fun K hK => ?_)
         go_simp
         obtain ⟨V1, hV1, A1, hb1⟩ : ∃ U, U = Z.alloc (.cells #[.int .i64 gl, .int .i64 zx, .int .i64 zy] 54) ∧ Bk 54 U Z.heap.size [.int .i64 gl, .int .i64 zx, .int .i64 zy] ∧ Below Z.heap.size Z U := ⟨_, rfl, Bk.new _ _ _, bl1 _⟩
         rw [← hV1]; clear hV1
         replace s0 := (hb1.cell (p := ⟨wr.heap.size, 0, none⟩) hsz).trans s0
         replace s1 := (hb1.cell (p := ⟨bx, ox + at0, none⟩) hbx).trans s1
         replace s2 := (hb1.cell (p := ⟨bz, oz + at0, none⟩) hbz).trans s2
         replace hYc := hYc.below hb1
         refine hK.out _ _ ?_ (fun hHeld => ?_)
         · (try dsimp only)
           exact ⟨s0, s1, s2⟩
         clear hK K
         try simp only [Act.put, pZ]
         have hVb := hVV.below hb1
         have hone : Gr PaE (fun k => False ∧ (Value.slice a7 K1.length c7).ownBlock ≠ some k) V1 (some ⟨Z.heap.size, 0, none⟩) 1 [⟨gl, zx, zy⟩] := Gr.one (E := PaE) (vs := paC ⟨gl, zx, zy⟩) (PaE_rep.2 ⟨rfl, hgi, hzx, hzy⟩) A1.lt (fun j hj => A1.cell j hj)
         have hKb : Kp g7 w1 V1 := hKZ.trans (Kp.of hb1)
         have hbs := hKb.size
         refine hCall (i := 14) rfl (by kernel_rfl) (by rfl) (fun K hK => ?_)
         refine wp_append_el 55 54 Tryz.underlying55 info_pa rfl (by decide) (by decide) _ _ rfl w1.heap.size (fun _ => False) (.slice a7 K1.length c7) K1 rfl hVb ⟨Z.heap.size, 0, none⟩ 1 1 [⟨gl, zx, zy⟩] rfl rfl hone hl7 hbs ?_
         intro v9 w9 hT9 hgrow _
         have hne : ∀ q, q < w1.heap.size ∨ q = wr.heap.size → some q ≠ (Value.slice a7 K1.length c7).ownBlock := fun q hq e => by
          have h1 := (hVV0.lo e.symm)
          rcases hq with hq | hq <;> omega
         replace s0 := hgrow.cell s0 (hne wr.heap.size (.inr rfl))
         replace s1 := hgrow.cell s1 (hne bx (.inl (by omega)))
         replace s2 := hgrow.cell s2 (hne bz (.inl (by omega)))
         have hK9 : Kp g7 w1 w9 := hKb.grown hgrow (fun k hk => (hVb.lo hk).1)
         have hY9 := hYc.grown hgrow (fun e => hne g7 (.inl (by omega)) e.symm)
         obtain ⟨a9, c9, e9, -, -⟩ := hT9.slice
         obtain ⟨nl, hnl⟩ : ∃ n, (K1 ++ [(⟨gl, zx, zy⟩ : Pa)]).length = n := ⟨_, rfl⟩
         have HNL : Hid ((K1 ++ [(⟨gl, zx, zy⟩ : Pa)]).length = nl) := hnl
         rw [hnl] at e9; clear hnl; subst e9
         refine hK.out _ _ ?_ (fun hHeld => ?_)
         · (try dsimp only)
           exact ⟨s0, s1, s2⟩
         clear hK K
         try simp only [Act.put, pZ]
         refine hT 15 hHeld ?_
         refine hCall (i := 16) rfl (by kernel_rfl) (by rfl) (fun K hK => ?_)
         obtain ⟨y0, y1, f0, f1⟩ := hY9.two; go_simp
         have hY10 := hY9.set 1 (.slice a9 nl c9)
         have hgl9 : w9.heap.size = (w9.setCell ⟨g7, 1, none⟩ (.slice a9 nl c9)).heap.size := by simp [World.setCell]
         have hT10 : Gw PaE 54 w1.heap.size (fun _ => False) (w9.setCell ⟨g7, 1, none⟩ (.slice a9 nl c9)) (.slice a9 nl c9) (K1 ++ [⟨gl, zx, zy⟩]) := hT9.stay (by rw [← hgl9]; exact Nat.le_refl _) (fun k h => h.elim) (fun k hk => Below.heap_setCell _ _ _ _ (fun e => by have h2 := (hT9.lo hk).1; have h3 : k = g7 := e; omega))
         have hK10 : Kp g7 w1 (w9.setCell ⟨g7, 1, none⟩ (.slice a9 nl c9)) := hK9.setCell 1 _
         replace s0 := (World.cell?_of_block (w := w9) (a := ⟨wr.heap.size, 0, none⟩) (Below.heap_setCell w9 ⟨g7, 1, none⟩ (.slice a9 nl c9) wr.heap.size (by show wr.heap.size ≠ g7; omega))).trans s0
         replace s1 := (World.cell?_of_block (w := w9) (a := ⟨bx, ox + at0, none⟩) (Below.heap_setCell w9 ⟨g7, 1, none⟩ (.slice a9 nl c9) bx (by show bx ≠ g7; omega))).trans s1
         replace s2 := (World.cell?_of_block (w := w9) (a := ⟨bz, oz + at0, none⟩) (Below.heap_setCell w9 ⟨g7, 1, none⟩ (.slice a9 nl c9) bz (by show bz ≠ g7; omega))).trans s2
         clear y0 y1 f0 f1 hT9 hK9 hY9 hgl9
         generalize w9.setCell ⟨g7, 1, none⟩ (.slice a9 nl c9) = w10 at *
         refine hK.out _ _ ?_ (fun hHeld => ?_)
         · (try dsimp only)
           exact ⟨s0, s1, s2⟩
         clear hK K
         try simp only [Act.put, pZ]
         refine wpAnyH_done (by kernel_rfl) ?_ _
         rw [← HMP.out] at hT10
         have HY10 : Hid (Bk 57 w10 g7 [.slice a5 nc5 c5, .slice a9 nl c9]) := hY10
         clear hHeld hgrow hVb hone hbs hl7 HMP hKb s0 s1 s2 A1 hb1 hne hVV0 hVV hY10 hYc; go_wp2
         go_roundw
         case rel => exact ⟨r + 1, _, by omega, by go_num, by rw [HAT.out]; go_num, HY10.out, hT10, hK10⟩
         case measure => simp [intOf]; omega
       · go_simp
         obtain ⟨V1, hV1, A1, hb1⟩ : ∃ U, U = Z.alloc (.cells #[.int .i64 gl, .int .i64 zx, .int .i64 zy] 54) ∧ Bk 54 U Z.heap.size [.int .i64 gl, .int .i64 zx, .int .i64 zy] ∧ Below Z.heap.size Z U := ⟨_, rfl, Bk.new _ _ _, bl1 _⟩
         rw [← hV1]; clear hV1
         replace s0 := (hb1.cell (p := ⟨wr.heap.size, 0, none⟩) hsz).trans s0
         replace s1 := (hb1.cell (p := ⟨bx, ox + at0, none⟩) hbx).trans s1
         replace s2 := (hb1.cell (p := ⟨bz, oz + at0, none⟩) hbz).trans s2
         replace hYc := hYc.below hb1
         refine hK.out _ _ ?_ (fun hHeld => ?_)
         · (try dsimp only)
           exact ⟨s0, s1, s2⟩
         clear hK K
         try simp only [Act.put, pZ]
         refine hCall (i := 1) rfl (by kernel_rfl) (by rfl) (fun K hK => ?_)
         obtain ⟨y0, y1, f0, f1⟩ := hYc.two; go_simp
         refine hK.out _ _ ?_ (fun hHeld => ?_)
         · (try dsimp only)
           exact ⟨s0, s1, s2⟩
         clear hK K
         try simp only [Act.put, pZ]
         clear y0 y1 f0 f1
         have hVb := hVV.below hb1
         have hone : Gr PaE (fun k => False ∧ (Value.slice a7 K1.length c7).ownBlock ≠ some k) V1 (some ⟨Z.heap.size, 0, none⟩) 1 [⟨gl, zx, zy⟩] := Gr.one (E := PaE) (vs := paC ⟨gl, zx, zy⟩) (PaE_rep.2 ⟨rfl, hgi, hzx, hzy⟩) A1.lt (fun j hj => A1.cell j hj)
         have hKb : Kp g7 w1 V1 := hKZ.trans (Kp.of hb1)
         have hbs := hKb.size
         refine hCall (i := 14) rfl (by kernel_rfl) (by rfl) (fun K hK => ?_)
         refine wp_append_el 55 54 Tryz.underlying55 info_pa rfl (by decide) (by decide) _ _ rfl w1.heap.size (fun _ => False) (.slice a7 K1.length c7) K1 rfl hVb ⟨Z.heap.size, 0, none⟩ 1 1 [⟨gl, zx, zy⟩] rfl rfl hone hl7 hbs ?_
         intro v9 w9 hT9 hgrow _
         have hne : ∀ q, q < w1.heap.size ∨ q = wr.heap.size → some q ≠ (Value.slice a7 K1.length c7).ownBlock := fun q hq e => by
          have h1 := (hVV0.lo e.symm)
          rcases hq with hq | hq <;> omega
         replace s0 := hgrow.cell s0 (hne wr.heap.size (.inr rfl))
         replace s1 := hgrow.cell s1 (hne bx (.inl (by omega)))
         replace s2 := hgrow.cell s2 (hne bz (.inl (by omega)))
         have hK9 : Kp g7 w1 w9 := hKb.grown hgrow (fun k hk => (hVb.lo hk).1)
         have hY9 := hYc.grown hgrow (fun e => hne g7 (.inl (by omega)) e.symm)
         obtain ⟨a9, c9, e9, -, -⟩ := hT9.slice
         obtain ⟨nl, hnl⟩ : ∃ n, (K1 ++ [(⟨gl, zx, zy⟩ : Pa)]).length = n := ⟨_, rfl⟩
         have HNL : Hid ((K1 ++ [(⟨gl, zx, zy⟩ : Pa)]).length = nl) := hnl
         rw [hnl] at e9; clear hnl; subst e9
         refine hK.out _ _ ?_ (fun hHeld => ?_)
         · (try dsimp only)
           exact ⟨s0, s1, s2⟩
         clear hK K
         try simp only [Act.put, pZ]
         refine hT 15 hHeld ?_
         refine hCall (i := 16) rfl (by kernel_rfl) (by rfl) (fun K hK => ?_)
         obtain ⟨y0, y1, f0, f1⟩ := hY9.two; go_simp
         have hY10 := hY9.set 1 (.slice a9 nl c9)
         have hgl9 : w9.heap.size = (w9.setCell ⟨g7, 1, none⟩ (.slice a9 nl c9)).heap.size := by simp [World.setCell]
         have hT10 : Gw PaE 54 w1.heap.size (fun _ => False) (w9.setCell ⟨g7, 1, none⟩ (.slice a9 nl c9)) (.slice a9 nl c9) (K1 ++ [⟨gl, zx, zy⟩]) := hT9.stay (by rw [← hgl9]; exact Nat.le_refl _) (fun k h => h.elim) (fun k hk => Below.heap_setCell _ _ _ _ (fun e => by have h2 := (hT9.lo hk).1; have h3 : k = g7 := e; omega))
         have hK10 : Kp g7 w1 (w9.setCell ⟨g7, 1, none⟩ (.slice a9 nl c9)) := hK9.setCell 1 _
         replace s0 := (World.cell?_of_block (w := w9) (a := ⟨wr.heap.size, 0, none⟩) (Below.heap_setCell w9 ⟨g7, 1, none⟩ (.slice a9 nl c9) wr.heap.size (by show wr.heap.size ≠ g7; omega))).trans s0
         replace s1 := (World.cell?_of_block (w := w9) (a := ⟨bx, ox + at0, none⟩) (Below.heap_setCell w9 ⟨g7, 1, none⟩ (.slice a9 nl c9) bx (by show bx ≠ g7; omega))).trans s1
         replace s2 := (World.cell?_of_block (w := w9) (a := ⟨bz, oz + at0, none⟩) (Below.heap_setCell w9 ⟨g7, 1, none⟩ (.slice a9 nl c9) bz (by show bz ≠ g7; omega))).trans s2
         clear y0 y1 f0 f1 hT9 hK9 hY9 hgl9
         generalize w9.setCell ⟨g7, 1, none⟩ (.slice a9 nl c9) = w10 at *
         refine hK.out _ _ ?_ (fun hHeld => ?_)
         · (try dsimp only)
           exact ⟨s0, s1, s2⟩
         clear hK K
         try simp only [Act.put, pZ]
         refine wpAnyH_done (by kernel_rfl) ?_ _
         rw [← HMP.out] at hT10
         have HY10 : Hid (Bk 57 w10 g7 [.slice a5 nc5 c5, .slice a9 nl c9]) := hY10
         clear hHeld hgrow hVb hone hbs hl7 HMP hKb s0 s1 s2 A1 hb1 hne hVV0 hVV hY10 hYc; go_wp2
         go_roundw
         case rel => exact ⟨r + 1, _, by omega, by go_num, by rw [HAT.out]; go_num, HY10.out, hT10, hK10⟩
         case measure => simp [intOf]; omega
     · obtain rfl : r = ps.length := by omega
       have g2 : ¬ (ps.length : Int) < (ps.length : Int) := by omega
       rw [rg_all] at hV hYc
       obtain ⟨np, hnp⟩ : ∃ n, ((List.range ps.length).map (reA N ps nx ny)).length = n := ⟨_, rfl⟩
       have HNP : Hid (((List.range ps.length).map (reA N ps nx ny)).length = np) := hnp
       rw [hnp] at hYc hV; obtain ⟨y0, y1, _⟩ := hYc.two
       have hX6 := HX61.out.kp hKr (by omega)
       have hsl := hX6.lt
       obtain ⟨z0, z1, f0, f1⟩ := hX6.two
       have A := hX6.set2U (.slice a5 nc5 c5) (.slice a7 np c7)
       have hkw := HK1.out.size
       have hgc : Gw PkE 63 (w.heap.size + 3) (fun k => w.heap.size + 3 ≤ k) ((wr.setCell ⟨w.heap.size + 1, 0, none⟩ (.slice a5 nc5 c5)).setCell ⟨w.heap.size + 1, 1, none⟩ (.slice a7 np c7)) (.slice a5 nc5 c5) L := (HG5.out.stay (by rw [set2_sizeU]; exact hws) (fun k hk _ hl => ⟨by have := hk.1; omega, (set2_otherU _ _ (by have := hk.1; omega)).trans (hKr.block hl (by have := hk.1; omega))⟩) (fun k hk => (set2_otherU _ _ (by have := (HG5.out.lo hk).1; omega)).trans (hKr.block (HG5.out.lo hk).2 (by have := (HG5.out.lo hk).1; omega)))).low (by omega)
       have hgp : Gw PaE 54 (w.heap.size + 3) (fun _ => False) ((wr.setCell ⟨w.heap.size + 1, 0, none⟩ (.slice a5 nc5 c5)).setCell ⟨w.heap.size + 1, 1, none⟩ (.slice a7 np c7)) (.slice a7 np c7) ((List.range ps.length).map (reA N ps nx ny)) := (hV.stay (by rw [set2_sizeU]; exact Nat.le_refl _) (fun k hk => hk.elim) (fun k hk => set2_otherU _ _ (by have := (hV.lo hk).1; omega))).low (by omega)
       have hbU : Below w.heap.size w ((wr.setCell ⟨w.heap.size + 1, 0, none⟩ (.slice a5 nc5 c5)).setCell ⟨w.heap.size + 1, 1, none⟩ (.slice a7 np c7)) := (hBu.setCell (p := ⟨w.heap.size + 1, 0, none⟩) (by show _ ≤ w.heap.size + 1; omega) _).setCell (p := ⟨w.heap.size + 1, 1, none⟩) (by show _ ≤ w.heap.size + 1; omega) _
       have HGC : Hid (_) := hgc
       have HGP : Hid (∀ z : Nat, z = np → Gw PaE 54 (w.heap.size + 3) (fun _ => False) ((wr.setCell ⟨w.heap.size + 1, 0, none⟩ (.slice a5 nc5 c5)).setCell ⟨w.heap.size + 1, 1, none⟩ (.slice a7 np c7)) (.slice a7 z c7) ((List.range ps.length).map (reA N ps nx ny))) := fun z e => by rw [e]; exact hgp
       have HBU : Hid (_) := hbU
       have HCE : Hid (nc5 = cs.length) := by
        show _ = _
        have h1 := congrArg List.length HLC.out.1
        rw [List.length_map, rg_lenU] at h1; rw [← HNC5.out, h1]
       have HPE : Hid (np = ps.length) := by show _ = _; rw [← HNP.out, rg_lenU]
       clear hgc hgp hbU hV hgr7 hb7 hnp hat0; go_wp2
       refine bodyPost_ret (v := .agg #[.slice a5 nc5 c5, .slice a7 np c7]) (by obtain ⟨r0, r1, _⟩ := A.two; simp [results, Tryz.results120, go_sem, r0, r1]) rfl ⟨a5, c5, a7, c7, by rw [HCE.out, HPE.out], L, by rw [← HCE.out]; exact HGC.out, HLC.out.1, HLC.out.2, HGP.out ps.length HPE.out.symm, HBU.out⟩
theorem at_1 {o : Ol} {l : List Tu} {cs : List Int} (h : foT o l (cs.length : Int) = false) : atO o l cs = Ol.none ∧ atE o l cs = 1 := by
 unfold atO atE atOk
 rw [h]
 exact ⟨rfl, rfl⟩
theorem at_2 {o : Ol} {l : List Tu} {cs : List Int} (h : foT o l (cs.length : Int) = true) (hx : rnB (exL Pn.x Pa.dx Tu.dx o l cs) = false) : atO o l cs = Ol.none ∧ atE o l cs = 4 := by
 unfold atO atE atOk
 rw [h, hx]
 exact ⟨rfl, rfl⟩
theorem at_3 {o : Ol} {l : List Tu} {cs : List Int} (h : foT o l (cs.length : Int) = true) (hx : rnB (exL Pn.x Pa.dx Tu.dx o l cs) = true) (hy : rnB (exL Pn.y Pa.dy Tu.dy o l cs) = false) : atO o l cs = Ol.none ∧ atE o l cs = 4 := by
 unfold atO atE atOk
 rw [h, hx, hy]
 exact ⟨rfl, rfl⟩
theorem at_4 {o : Ol} {l : List Tu} {cs : List Int} (h : foT o l (cs.length : Int) = true) (hx : rnB (exL Pn.x Pa.dx Tu.dx o l cs) = true) (hy : rnB (exL Pn.y Pa.dy Tu.dy o l cs) = true) : atO o l cs = reO o ((exL Pn.x Pa.dx Tu.dx o l cs).map rnN) ((exL Pn.y Pa.dy Tu.dy o l cs).map rnN) ∧ atE o l cs = 0 := by
 unfold atO atE atOk
 rw [h, hx, hy]
 exact ⟨rfl, rfl⟩
theorem rn_no {qs : List Rat} (h : rnB qs = false) : rnL qs = [] ∧ rnE qs = 4 := by unfold rnL rnE; rw [h]; exact ⟨rfl, rfl⟩
theorem rn_yes {qs : List Rat} (h : rnB qs = true) : rnL qs = qs.map rnN ∧ rnE qs = 0 := by unfold rnL rnE; rw [h]; exact ⟨rfl, rfl⟩
theorem uatK_any (S : Nat → Prop) (a : Option Addr) (ca : Nat) (b : Option Addr) (cb : Nat) (o : Ol) (S2 : Nat → Prop) (la : Option Addr) (lc : Nat) (l : List Tu) (ga : Option Addr) (gc : Nat) (cs : List Int) (w : World) (hc : Gr PnE.row S w a ca o.cs) (hp : Gr PaE S w b cb o.ps) (hl : Gr TuE S2 w la lc l) (hg : Ri w ga gc cs) :
    Calls Tryz.prog 71 #[.agg #[.slice a o.cs.length ca, .slice b o.ps.length cb], .slice la l.length lc, .slice ga cs.length gc] w fun e w' => ∃ a1 c1 a2 c2, e = .returned (.tuple #[.agg #[.slice a1 (atO o l cs).cs.length c1, .slice a2 (atO o l cs).ps.length c2], .int .i64 (atE o l cs)]) ∧ ∃ L : List (Nat × List Pn), Gw PkE 63 w.heap.size (fun k => w.heap.size ≤ k) w' (.slice a1 (atO o l cs).cs.length c1) L ∧ L.map Prod.snd = (atO o l cs).cs ∧ (L.map Prod.fst).Nodup ∧ Gw PaE 54 w.heap.size (fun _ => False) w' (.slice a2 (atO o l cs).ps.length c2) (atO o l cs).ps ∧ Below w.heap.size w w' := by
 obtain ⟨W, hW, X1, X6, hbW⟩ : ∃ W, W = (w.alloc (.cells #[.slice a o.cs.length ca, .slice b o.ps.length cb] 57)).alloc (.cells #[.slice none 0 0, .slice none 0 0] 57) ∧ Bk 57 W w.heap.size [.slice a o.cs.length ca, .slice b o.ps.length cb] ∧ Bk 57 W (w.heap.size + 1) [.slice none 0 0, .slice none 0 0] ∧ Below w.heap.size w W :=
  ⟨_, rfl, (Bk.new _ _ [.slice a o.cs.length ca, .slice b o.ps.length cb]).below (al1 _), Bk.new1 _ _ _ [.slice none 0 0, .slice none 0 0], bl2 _ _⟩
 replace hc := hc.below hbW; replace hp := hp.below hbW; replace hl := hl.below hbW; replace hg := hg.below hbW; obtain ⟨p0, p1, _⟩ := X1.two
 have hex := uexact_any S a ca b cb o S2 la lc l ga gc cs W hc hp hl hg
 have HNO : Hid (∀ (E : Int) (U : World), atO o l cs = Ol.none ∧ atE o l cs = E → Bk 57 U (w.heap.size + 1) [.slice none 0 0, .slice none 0 0] → Below w.heap.size w U → ∃ a1 c1 a2 c2, (Ending.returned (.tuple #[.agg #[.slice none 0 0, .slice none 0 0], .int .i64 E])) = .returned (.tuple #[.agg #[.slice a1 (atO o l cs).cs.length c1, .slice a2 (atO o l cs).ps.length c2], .int .i64 (atE o l cs)]) ∧ ∃ L : List (Nat × List Pn), Gw PkE 63 w.heap.size (fun k => w.heap.size ≤ k) ((U.setCell ⟨w.heap.size + 1, 0, none⟩ (.slice none 0 0)).setCell ⟨w.heap.size + 1, 1, none⟩ (.slice none 0 0)) (.slice a1 (atO o l cs).cs.length c1) L ∧ L.map Prod.snd = (atO o l cs).cs ∧ (L.map Prod.fst).Nodup ∧ Gw PaE 54 w.heap.size (fun _ => False) ((U.setCell ⟨w.heap.size + 1, 0, none⟩ (.slice none 0 0)).setCell ⟨w.heap.size + 1, 1, none⟩ (.slice none 0 0)) (.slice a2 (atO o l cs).ps.length c2) (atO o l cs).ps ∧ Below w.heap.size w ((U.setCell ⟨w.heap.size + 1, 0, none⟩ (.slice none 0 0)).setCell ⟨w.heap.size + 1, 1, none⟩ (.slice none 0 0))) := by
  intro E U h hX hb
  rw [h.1, h.2]
  exact ⟨none, 0, none, 0, rfl, [], Gw.nil _ _ _ _ _, rfl, List.nodup_nil, Gw.nil _ _ _ _ _, (hb.setCell (p := ⟨w.heap.size + 1, 0, none⟩) (by show _ ≤ w.heap.size + 1; omega) _).setCell (p := ⟨w.heap.size + 1, 1, none⟩) (by show _ ≤ w.heap.size + 1; omega) _⟩
 have HGO : Hid (atO o l cs = reO o ((exL Pn.x Pa.dx Tu.dx o l cs).map rnN) ((exL Pn.y Pa.dy Tu.dy o l cs).map rnN) ∧ atE o l cs = 0 → ∀ (U : World) a1 c1 a2 c2 (L : List (Nat × List Pn)), Gw PkE 63 w.heap.size (fun k => w.heap.size ≤ k) U (.slice a1 (reO o ((exL Pn.x Pa.dx Tu.dx o l cs).map rnN) ((exL Pn.y Pa.dy Tu.dy o l cs).map rnN)).cs.length c1) L → L.map Prod.snd = (reO o ((exL Pn.x Pa.dx Tu.dx o l cs).map rnN) ((exL Pn.y Pa.dy Tu.dy o l cs).map rnN)).cs → (L.map Prod.fst).Nodup → Gw PaE 54 w.heap.size (fun _ => False) U (.slice a2 (reO o ((exL Pn.x Pa.dx Tu.dx o l cs).map rnN) ((exL Pn.y Pa.dy Tu.dy o l cs).map rnN)).ps.length c2) (reO o ((exL Pn.x Pa.dx Tu.dx o l cs).map rnN) ((exL Pn.y Pa.dy Tu.dy o l cs).map rnN)).ps → Below w.heap.size w U → ∃ a1' c1' a2' c2', (Ending.returned (.tuple #[.agg #[.slice a1 (reO o ((exL Pn.x Pa.dx Tu.dx o l cs).map rnN) ((exL Pn.y Pa.dy Tu.dy o l cs).map rnN)).cs.length c1, .slice a2 (reO o ((exL Pn.x Pa.dx Tu.dx o l cs).map rnN) ((exL Pn.y Pa.dy Tu.dy o l cs).map rnN)).ps.length c2], .int .i64 0])) = .returned (.tuple #[.agg #[.slice a1' (atO o l cs).cs.length c1', .slice a2' (atO o l cs).ps.length c2'], .int .i64 (atE o l cs)]) ∧ ∃ L' : List (Nat × List Pn), Gw PkE 63 w.heap.size (fun k => w.heap.size ≤ k) U (.slice a1' (atO o l cs).cs.length c1') L' ∧ L'.map Prod.snd = (atO o l cs).cs ∧ (L'.map Prod.fst).Nodup ∧ Gw PaE 54 w.heap.size (fun _ => False) U (.slice a2' (atO o l cs).ps.length c2') (atO o l cs).ps ∧ Below w.heap.size w U) := by
  intro h U a1 c1 a2 c2 L k1 k4 k5 k2 k3
  rw [h.1, h.2]
  exact ⟨a1, c1, a2, c2, rfl, L, k1, k4, k5, k2, k3⟩
 have HFO := fun (h : foT o l (cs.length : Int) = true) => foT_iff.1 h
 cases hfo : foT o l (cs.length : Int) with
 | false =>
  rw [exA_no hfo, exA_no hfo, exE_no hfo] at hex
  have HF : Hid (_) := at_1 hfo
  clear hfo HFO HGO
  go_enter Tryz.func71, Tryz.ntmps71
  go_upto_region 1 with fail
  rw [← hW]; clear hW
  go_wp2_with fail
  refine hex.mono ?_
  rintro e m1 ⟨a1, c1, a2, c2, rfl, hz1, hz2, hb1⟩; replace X6 := X6.below hb1
  replace hbW := hbW.trans (hb1.mono hbW.size)
  have hfin := HNO.out 1 m1 HF.out X6 hbW
  have A := X6.set2U (.slice none 0 0) (.slice none 0 0)
  obtain ⟨z0, z1, f0, f1⟩ := X6.two
  have hlt := X6.lt
  clear hb1 hex hz1 hz2 HNO HF; go_wp2
  exact bodyPost_ret (v := .tuple #[.agg #[.slice none 0 0, .slice none 0 0], .int .i64 1]) (by obtain ⟨r0, r1, _⟩ := A.two; simp [results, Tryz.results71, go_sem, r0, r1]) rfl hfin
 | true =>
 rw [exA_yes hfo, exA_yes hfo, exE_yes hfo] at hex
 obtain ⟨hF1, hF2, hF3, hF4⟩ := HFO hfo
 have hFO := foB_iff.1 hF1
 have HOL : Hid (o.cs.flatten.length ≤ 80 ∧ o.ps.length ≤ 6 ∧ o.cs.length ≤ 10) := ⟨hFO.2.2.2.2.1, hFO.2.2.1, hFO.2.1⟩
 have hcn := cnt_le hF1
 have HLX : Hid ((exL Pn.x Pa.dx Tu.dx o l cs).length = cntO o) := exL_len _ _ _ _ _ _
 have HLY : Hid ((exL Pn.y Pa.dy Tu.dy o l cs).length = cntO o) := exL_len _ _ _ _ _ _
 have HA2 : Hid (rnB (exL Pn.x Pa.dx Tu.dx o l cs) = false → _) := at_2 hfo
 have HA3 : Hid (rnB (exL Pn.x Pa.dx Tu.dx o l cs) = true → rnB (exL Pn.y Pa.dy Tu.dy o l cs) = false → _) := at_3 hfo
 have HA4 : Hid (rnB (exL Pn.x Pa.dx Tu.dx o l cs) = true → rnB (exL Pn.y Pa.dy Tu.dy o l cs) = true → _) := at_4 hfo
 clear HFO hFO hF1 hF2 hF3 hF4 hfo
 generalize exL Pn.x Pa.dx Tu.dx o l cs = EX at *
 generalize exL Pn.y Pa.dy Tu.dy o l cs = EY at *
 go_enter Tryz.func71, Tryz.ntmps71
 go_upto_region 1 with fail
 rw [← hW]; clear hW
 go_wp2_with fail
 refine hex.mono ?_
 rintro e m1 ⟨a1, c1, a2, c2, rfl, hz1, hz2, hb1⟩; replace X6 := X6.below hb1; replace X1 := X1.below hb1; replace hc := hc.below hb1; replace hp := hp.below hb1
 replace hbW := hbW.trans (hb1.mono hbW.size)
 clear hb1 hex p0 p1 hl hg
 have hr1 := urounded_any a1 c1 EX m1 hz1.1.1 (by rw [HLX.out]; omega)
 cases hbx : rnB EX with
 | false =>
  rw [(rn_no hbx).1, (rn_no hbx).2] at hr1
  have HF : Hid (_) := HA2.out hbx
  clear HA2 HA3 HA4 HGO hbx
  go_wp2_with fail
  refine hr1.mono ?_
  rintro e m2 ⟨a3, c3, rfl, hri, hb1⟩; replace X6 := X6.below hb1
  replace hbW := hbW.trans (hb1.mono hbW.size)
  have hfin := HNO.out 4 m2 HF.out X6 hbW
  have A := X6.set2U (.slice none 0 0) (.slice none 0 0)
  obtain ⟨z0, z1, f0, f1⟩ := X6.two
  have hlt := X6.lt
  clear hb1 hr1 hz1 hz2 HNO HF; go_wp2
  exact bodyPost_ret (v := .tuple #[.agg #[.slice none 0 0, .slice none 0 0], .int .i64 4]) (by obtain ⟨r0, r1, _⟩ := A.two; simp [results, Tryz.results71, go_sem, r0, r1]) rfl hfin
 | true =>
 rw [(rn_yes hbx).1, (rn_yes hbx).2] at hr1
 replace HA3 : Hid (rnB EY = false → _) := HA3.out hbx
 replace HA4 : Hid (rnB EY = true → _) := HA4.out hbx
 clear hbx HA2
 go_wp2_with fail
 refine hr1.mono ?_
 rintro e m2 ⟨a3, c3, rfl, hri, hb1⟩; replace X6 := X6.below hb1; replace X1 := X1.below hb1; replace hc := hc.below hb1; replace hp := hp.below hb1; replace hz2 := hz2.below hb1
 replace hbW := hbW.trans (hb1.mono hbW.size)
 clear hb1 hr1 hz1
 have hr1 := urounded_any a2 c2 EY m2 hz2.1.1 (by rw [HLY.out]; omega)
 cases hby : rnB EY with
 | false =>
  rw [(rn_no hby).1, (rn_no hby).2] at hr1
  have HF : Hid (_) := HA3.out hby
  clear HA3 HA4 HGO hby
  go_wp2_with fail
  refine hr1.mono ?_
  rintro e m3 ⟨a4, c4, rfl, hri2, hb1⟩; replace X6 := X6.below hb1
  replace hbW := hbW.trans (hb1.mono hbW.size)
  have hfin := HNO.out 4 m3 HF.out X6 hbW
  have A := X6.set2U (.slice none 0 0) (.slice none 0 0)
  obtain ⟨z0, z1, f0, f1⟩ := X6.two
  have hlt := X6.lt
  clear hb1 hr1 hz2 HNO HF; go_wp2
  exact bodyPost_ret (v := .tuple #[.agg #[.slice none 0 0, .slice none 0 0], .int .i64 4]) (by obtain ⟨r0, r1, _⟩ := A.two; simp [results, Tryz.results71, go_sem, r0, r1]) rfl hfin
 | true =>
 rw [(rn_yes hby).1, (rn_yes hby).2] at hr1
 have HG4 : Hid (_) := HGO.out (HA4.out hby)
 clear hby HA3 HA4 HNO HGO
 have hl1 : (EX.map rnN).length = cntO o := by rw [List.length_map]; exact HLX.out
 have hl2 : (EY.map rnN).length = cntO o := by rw [List.length_map]; exact HLY.out
 have hrn := fun a4 c4 U h1 h2 h3 h4 => urenumK_any S a ca b cb o a3 c3 (EX.map rnN) a4 c4 (EY.map rnN) U h1 h2 h3 h4 hl1 hl2 (by have := HOL.out; omega) (by have := HOL.out; omega) (by have := HOL.out; omega)
 clear hl1 hl2 HLX HLY
 generalize EX.map rnN = NX at *
 generalize EY.map rnN = NY at *
 generalize reO o NX NY = ro at *
 go_wp2_with fail
 refine hr1.mono ?_
 rintro e m3 ⟨a4, c4, rfl, hri2, hb1⟩; replace X6 := X6.below hb1; replace X1 := X1.below hb1; replace hc := hc.below hb1; replace hp := hp.below hb1; replace hri := hri.below hb1
 replace hbW := hbW.trans (hb1.mono hbW.size)
 clear hb1 hr1 hz2; obtain ⟨p0, p1, _⟩ := X1.two
 go_wp2_with fail
 refine (hrn a4 c4 _ hc hp hri hri2).mono ?_
 rintro e m4 ⟨a5, c5, a6, c6, rfl, L, hg1, HLS, HLN, hg2, hb1⟩
 replace HLS : Hid (L.map Prod.snd = ro.cs) := HLS
 replace HLN : Hid ((L.map Prod.fst).Nodup) := HLN
 have hsl := X6.lt
 replace X6 := X6.below hb1
 have hsl2 := X6.lt
 obtain ⟨z0, z1, f0, f1⟩ := X6.two
 have A := X6.set2U (.slice a5 ro.cs.length c5) (.slice a6 ro.ps.length c6)
 replace hbW := hbW.trans (hb1.mono hbW.size)
 have hU1 : Gw PkE 63 w.heap.size (fun k => w.heap.size ≤ k) ((m4.setCell ⟨w.heap.size + 1, 0, none⟩ (.slice a5 ro.cs.length c5)).setCell ⟨w.heap.size + 1, 1, none⟩ (.slice a6 ro.ps.length c6)) (.slice a5 ro.cs.length c5) L := (hg1.stay (by rw [set2_sizeU]; exact Nat.le_refl _) (fun k hk _ hl => ⟨by omega, set2_otherU _ _ (by omega)⟩) (fun k hk => set2_otherU _ _ (by have := (hg1.lo hk).1; omega))).low (by omega)
 have hU2 : Gw PaE 54 w.heap.size (fun _ => False) ((m4.setCell ⟨w.heap.size + 1, 0, none⟩ (.slice a5 ro.cs.length c5)).setCell ⟨w.heap.size + 1, 1, none⟩ (.slice a6 ro.ps.length c6)) (.slice a6 ro.ps.length c6) ro.ps := (hg2.stay (by rw [set2_sizeU]; exact Nat.le_refl _) (fun k hk => hk.elim) (fun k hk => set2_otherU _ _ (by have := (hg2.lo hk).1; omega))).low (by omega)
 have hU3 : Below w.heap.size w ((m4.setCell ⟨w.heap.size + 1, 0, none⟩ (.slice a5 ro.cs.length c5)).setCell ⟨w.heap.size + 1, 1, none⟩ (.slice a6 ro.ps.length c6)) := (hbW.setCell (p := ⟨w.heap.size + 1, 0, none⟩) (by show _ ≤ w.heap.size + 1; omega) _).setCell (p := ⟨w.heap.size + 1, 1, none⟩) (by show _ ≤ w.heap.size + 1; omega) _
 have hfin := HG4.out _ a5 c5 a6 c6 L hU1 HLS.out HLN.out hU2 hU3
 clear hU1 hU2 hU3 hg1 hg2 hb1 hrn HG4 HLS HLN hri hri2 hc hp p0 p1; go_wp2
 exact bodyPost_ret (v := .tuple #[.agg #[.slice a5 ro.cs.length c5, .slice a6 ro.ps.length c6], .int .i64 0]) (by obtain ⟨r0, r1, _⟩ := A.two; simp [results, Tryz.results71, go_sem, r0, r1]) rfl hfin
end Go.Proofs.YtkmcodofnckdmaaGreat
