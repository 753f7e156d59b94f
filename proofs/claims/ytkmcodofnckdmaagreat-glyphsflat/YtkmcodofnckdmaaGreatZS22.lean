/-
  tuples.bases: the walk.
  infer.Spread: the walk.
  A tent's part, case by case (plain mathematics).
  tents.Part: the walk.
-/
import Derived.Test.YtkmcodofnckdmaaGreatZS21
import Derived.Test.YtkmcodofnckdmaaGreatZS11
import Derived.Test.YtkmcodofnckdmaaGreatZS18
set_option maxHeartbeats 4000000
set_option maxRecDepth 100000
set_option linter.unusedSimpArgs false
set_option linter.unusedVariables false
namespace Go.Proofs.YtkmcodofnckdmaaGreat
open Go.RowKit Go.Maps
theorem Gr.pn0 {S : Nat → Prop} {w : World} {a : Option Addr} {cap : Nat} {l : List Pn} (h : Gr PnE S w a cap l) : Gr PnE (fun _ => False) w a cap l := by
 refine ⟨h.1, h.2.1, h.2.2.1, fun i hi => ?_⟩
 obtain ⟨b, off, vs, e, hb, hr, hc⟩ := h.2.2.2 i hi
 exact ⟨b, off, vs, e, hb, PnE_rep.2 (PnE_rep.1 hr), hc⟩
theorem Gr.pa0 {S : Nat → Prop} {w : World} {a : Option Addr} {cap : Nat} {l : List Pa} (h : Gr PaE S w a cap l) : Gr PaE (fun _ => False) w a cap l := by
 refine ⟨h.1, h.2.1, h.2.2.1, fun i hi => ?_⟩
 obtain ⟨b, off, vs, e, hb, hr, hc⟩ := h.2.2.2 i hi
 exact ⟨b, off, vs, e, hb, PaE_rep.2 (PaE_rep.1 hr), hc⟩
theorem Gr.kept {α : Type} {E : El α} {G : Nat → Prop} {w w' : World} {a : Option Addr} {cap : Nat} {l : List α} (h : Gr E (fun _ => False) w a cap l) (hk : Keep G w w') (hG : ∀ b o, a = some ⟨b, o, none⟩ → l ≠ [] → b < w.heap.size → G b) : Gr E (fun _ => False) w' a cap l :=
 h.stay hk.size (fun k h1 => h1.elim) (fun b o e hl hb => hk.block b (hG b o e hl hb))
def wz1 (zs : List Int) : List (List Rat) := zs.map (fun z : Int => [(z : Rat)])
theorem wz1_snoc (zs : List Int) (z : Int) : wz1 (zs ++ [z]) = wz1 zs ++ [[(z : Rat)]] := by unfold wz1; rw [List.map_append]; rfl
theorem wz1_len (zs : List Int) : (wz1 zs).length = zs.length := by unfold wz1; rw [List.length_map]
theorem map_take1 {α : Type} {L : List α} {d : α} {k : Nat} (hk : k < L.length) (f : α → Int) : (L.take (k + 1)).map f = (L.take k).map f ++ [f (L.getD k d)] := by
 rw [List.take_add_one, List.getElem?_eq_getElem hk, List.map_append]
 simp [List.getD, hk]
def Bs2 (base gx gy : Nat) (W w : World) (X Y : List (List Rat)) : Prop :=
 ∃ xa xc ya yc, Bk 230 w gx [.slice xa X.length xc] ∧ Bk 230 w gy [.slice ya Y.length yc] ∧ R22 base w (.slice xa X.length xc) (.slice ya Y.length yc) 20 X Y ∧ Keep (fun k => k < base ∧ k ≠ gx ∧ k ≠ gy) W w ∧ base ≤ w.heap.size
theorem Bs2.below {base gx gy : Nat} {W w w' : World} {X Y : List (List Rat)} (h : Bs2 base gx gy W w X Y) (hb : Below w.heap.size w w') : Bs2 base gx gy W w' X Y := by
 obtain ⟨xa, xc, ya, yc, h1, h2, h3, h4, h5⟩ := h
 exact ⟨xa, xc, ya, yc, h1.below hb, h2.below hb, h3.below hb, h4.trans (Keep.of_below hb (fun k hk => by omega)), Nat.le_trans h5 hb.size⟩
theorem Bs2.kp {base gx gy : Nat} {W w : World} {X Y : List (List Rat)} (h : Bs2 base gx gy W w X Y) : Keep (fun k => k < base ∧ k ≠ gx ∧ k ≠ gy) W w := by
 obtain ⟨xa, xc, ya, yc, h1, h2, h3, h4, h5⟩ := h
 exact h4
theorem ubs_any (base gx gy : Nat) (x y : Int) (X Y : List (List Rat)) (W w : World) (h : Bs2 base gx gy W w X Y) (hgx : gx < base) (hgy : gy < base) (hne : gx ≠ gy) (hx : I64 x) (hy : I64 y) (hl1 : X.length ≤ 1000) (hl2 : Y.length ≤ 1000) :
    Calls Tryz.prog 225 #[.int .i64 x, .int .i64 y, .pointer (some ⟨gx, 0, none⟩), .pointer (some ⟨gy, 0, none⟩)] w fun e w' => e = .returned (.tuple #[]) ∧ Bs2 base gx gy W w' (X ++ [[(x : Rat)]]) (Y ++ [[(y : Rat)]]) := by
 obtain ⟨xa, xc, ya, yc, h1, h2, h3, h4, h5⟩ := h
 refine (ubase1_any base gx gy x y xa xc ya yc X Y w h1 h2 h3 hgx hgy hne h5 hx hy hl1 hl2).mono ?_
 rintro e w' ⟨rfl, xa', xc', ya', yc', k1, k2, k3, k4, k5⟩
 exact ⟨rfl, xa', xc', ya', yc', k1, k2, k3, h4.trans k4, k5⟩
theorem ubases_any (S : Nat → Prop) (a : Option Addr) (ca : Nat) (b : Option Addr) (cb : Nat) (o : Ol) (w : World) (hc : Gr PnE.row S w a ca o.cs) (hp : Gr PaE S w b cb o.ps) (hl : o.cs.flatten.length ≤ 400) (hl2 : o.ps.length ≤ 400) :
    Calls Tryz.prog 178 #[.agg #[.slice a o.cs.length ca, .slice b o.ps.length cb]] w fun e w' => ∃ vx vy, e = .returned (.tuple #[vx, vy]) ∧ R22 w.heap.size w' vx vy 20 (wz1 (baQ Pn.x Pa.dx o)) (wz1 (baQ Pn.y Pa.dy o)) ∧ Below w.heap.size w w' := by
 obtain ⟨W, hW, X1, XX, XY, hbW⟩ : ∃ W, W = ((w.alloc (.cells #[.slice a o.cs.length ca, .slice b o.ps.length cb] 57)).alloc (.cells #[.slice none 0 0] 230)).alloc (.cells #[.slice none 0 0] 230) ∧ Bk 57 W w.heap.size [.slice a o.cs.length ca, .slice b o.ps.length cb] ∧ Bk 230 W (w.heap.size + 1) [.slice none 0 0] ∧ Bk 230 W (w.heap.size + 2) [.slice none 0 0] ∧ Below w.heap.size w W :=
  ⟨_, rfl, ((Bk.new _ _ [.slice a o.cs.length ca, .slice b o.ps.length cb]).below (al1 _)).below (al1 _), (Bk.new1 _ _ _ [.slice none 0 0]).below (al1 _), by
   have h := Bk.new 230 ((w.alloc (.cells #[.slice a o.cs.length ca, .slice b o.ps.length cb] 57)).alloc (.cells #[.slice none 0 0] 230)) [.slice none 0 0]
   simpa using h, al3 _ _ _⟩
 obtain ⟨p0, p1, _⟩ := X1.two
 have hWs := XY.lt
 have hpt := cpointsO_any S a ca (.slice b o.ps.length cb) o.cs W (hc.below hbW) (by omega) rfl
 have HPS : Hid (Gr PaE (fun _ => False) W b cb o.ps) := (hp.below hbW).pa0
 have HPB : Hid (∀ b' o', b = some ⟨b', o', none⟩ → o.ps ≠ [] → b' < w.heap.size) := fun b' o' e hne => by
  obtain ⟨b1, o1, e1, h1⟩ := hp.blk hne
  rw [e] at e1
  cases e1
  exact h1
 have HBW : Hid (Below w.heap.size w W) := hbW
 have HBX : Hid (baQ Pn.x Pa.dx o = o.cs.flatten.map Pn.x ++ o.ps.map Pa.dx) := rfl
 have HBY : Hid (baQ Pn.y Pa.dy o = o.cs.flatten.map Pn.y ++ o.ps.map Pa.dy) := rfl
 generalize baQ Pn.x Pa.dx o = bX at *
 generalize baQ Pn.y Pa.dy o = bY at *
 clear hc hp
 generalize o.cs.length = nc at *
 generalize o.cs.flatten = L at *
 generalize o.ps = ps at *
 go_enter Tryz.func178, Tryz.ntmps178
 go_upto_region 2 with fail
 rw [← hW]; clear hW
 go_wp2_with fail
 refine hpt.mono ?_
 rintro e m1 ⟨qa, qc, rfl, hgr, hloc, hb1⟩
 have HQ : Hid (Gr PnE (fun _ => False) m1 qa qc L) := hgr.pn0
 have HQL : Hid (∀ b' o', qa = some ⟨b', o', none⟩ → W.heap.size ≤ b' ∧ b' < m1.heap.size) := hloc
 have HPS1 : Hid (Gr PaE (fun _ => False) m1 b cb ps) := HPS.out.below hb1
 have HB1 : Hid (Below W.heap.size W m1) := hb1
 have hms := hb1.size
 have HX1 : Hid (Bk 57 m1 w.heap.size [.slice a nc ca, .slice b ps.length cb]) := X1.below hb1
 have HI : Hid (Bs2 m1.heap.size (w.heap.size + 1) (w.heap.size + 2) m1 m1 (wz1 ((L.take 0).map Pn.x)) (wz1 ((L.take 0).map Pn.y))) := ⟨none, 0, none, 0, XX.below hb1, XY.below hb1, R22.nil _ _ _, Keep.refl _ _, Nat.le_refl _⟩
 obtain ⟨base, hbase⟩ : ∃ n, m1.heap.size = n := ⟨_, rfl⟩
 have HBE : Hid (m1.heap.size = base) := hbase
 rw [hbase] at HI hms; clear hpt hgr hloc hb1 X1 XX XY p0 p1 HPS hbase
 have kq := HQ.out.lenB
 go_wp2
 go_loopw [15] (fun i wr => ∃ k : Nat, k ≤ L.length ∧ i = .int .i64 k ∧ Bs2 base (w.heap.size + 1) (w.heap.size + 2) m1 wr (wz1 ((L.take k).map Pn.x)) (wz1 ((L.take k).map Pn.y))) (fun i _ => L.length - (intOf i).toNat)
 case atStart => exact ⟨0, Nat.zero_le _, rfl, HI.out⟩
 case round =>
  clear HI; obtain ⟨k, hk, rfl, hS⟩ := hrel
  by_cases hkn : k < L.length
  · have hQw := HQ.out.kept hS.kp (fun b' o' e _ hb' => by have := HQL.out b' o' e; have := HBE.out; omega)
    obtain ⟨b0, off, x, y, on, ea, hb, hpn, hxi, hyi, d0, d1, d2⟩ := hQw.pnt (Below.refl _ _) k hkn
    subst ea
    have HSX : Hid (wz1 ((L.take (k + 1)).map Pn.x) = wz1 ((L.take k).map Pn.x) ++ [[(x : Rat)]]) := by show _ = _; rw [map_take1 (d := Pn.none) hkn, hpn, wz1_snoc]
    have HSY : Hid (wz1 ((L.take (k + 1)).map Pn.y) = wz1 ((L.take k).map Pn.y) ++ [[(y : Rat)]]) := by show _ = _; rw [map_take1 (d := Pn.none) hkn, hpn, wz1_snoc]
    have l1 : (wz1 ((L.take k).map Pn.x)).length ≤ 1000 := by rw [wz1_len, List.length_map, List.length_take]; omega
    have l2 : (wz1 ((L.take k).map Pn.y)).length ≤ 1000 := by rw [wz1_len, List.length_map, List.length_take]; omega
    obtain ⟨V, hV, X0, hb0⟩ : ∃ V, V = wr.alloc (.cells #[.int .i64 x, .int .i64 y, .bool on] 65) ∧ Bk 65 V wr.heap.size [.int .i64 x, .int .i64 y, .bool on] ∧ Below wr.heap.size wr V := ⟨_, rfl, Bk.new _ _ _, bl1 _⟩
    obtain ⟨q0, q1, q2, _⟩ := X0.three
    have hcl := ubs_any base (w.heap.size + 1) (w.heap.size + 2) x y _ _ m1 V (hS.below hb0) (by omega) (by omega) (by omega) hxi hyi l1 l2
    rw [← HSX.out, ← HSY.out] at hcl
    have i1 : (0 : Int) ≤ (k : Int) := by omega
    have i2 : (k : Int) < (L.length : Int) := by omega
    clear hpn l1 l2 hS hQw HSX HSY
    go_upto_region 6 with fail
    rw [← hV]; clear hV d0 d1 d2
    go_wp2_with fail
    refine hcl.mono ?_
    rintro e m2 ⟨rfl, hS2⟩; clear hcl q0 q1 q2; go_wp2
    go_roundw
    case rel => exact ⟨k + 1, by omega, by go_num, hS2⟩
    case measure => simp [intOf]; omega
  · obtain rfl : k = L.length := by omega
    have g4 : ¬ (L.length : Int) < (L.length : Int) := by omega
    have hX1 := HX1.out.kept (G := fun k => k < base ∧ k ≠ w.heap.size + 1 ∧ k ≠ w.heap.size + 2) hS.kp (by omega)
    obtain ⟨p0, p1, _⟩ := hX1.two
    have HI : Hid (Bs2 base (w.heap.size + 1) (w.heap.size + 2) m1 wr (wz1 (L.map Pn.x ++ (ps.take 0).map Pa.dx)) (wz1 (L.map Pn.y ++ (ps.take 0).map Pa.dy))) := by
     show Bs2 _ _ _ _ _ _ _
     rw [List.take_zero, List.map_nil, List.map_nil, List.append_nil, List.append_nil]; rw [List.take_length] at hS
     exact hS
    clear hS hX1; go_wp2; clear p0 p1
    go_loopw [29] (fun i wr => ∃ k : Nat, k ≤ ps.length ∧ i = .int .i64 k ∧ Bs2 base (w.heap.size + 1) (w.heap.size + 2) m1 wr (wz1 (L.map Pn.x ++ (ps.take k).map Pa.dx)) (wz1 (L.map Pn.y ++ (ps.take k).map Pa.dy))) (fun i _ => ps.length - (intOf i).toNat)
    case atStart => exact ⟨0, Nat.zero_le _, rfl, HI.out⟩
    case round =>
     clear HI; obtain ⟨k, hk, rfl, hS⟩ := hrel
     by_cases hkn : k < ps.length
     · have hQw := HPS1.out.kept hS.kp (fun b' o' e hne hb' => by have := HPB.out b' o' e hne; omega)
       obtain ⟨b0, off, ea, hb, hpw, d0, d1, d2⟩ := hQw.pa (Below.refl _ _) k hkn
       subst ea
       have HSX : Hid (wz1 (L.map Pn.x ++ (ps.take (k + 1)).map Pa.dx) = wz1 (L.map Pn.x ++ (ps.take k).map Pa.dx) ++ [[(((ps.getD k Pa.none).dx : Int) : Rat)]]) := by show _ = _; rw [map_take1 (d := Pa.none) hkn, ← List.append_assoc, wz1_snoc]
       have HSY : Hid (wz1 (L.map Pn.y ++ (ps.take (k + 1)).map Pa.dy) = wz1 (L.map Pn.y ++ (ps.take k).map Pa.dy) ++ [[(((ps.getD k Pa.none).dy : Int) : Rat)]]) := by show _ = _; rw [map_take1 (d := Pa.none) hkn, ← List.append_assoc, wz1_snoc]
       obtain ⟨pq, hpq⟩ : ∃ q, ps.getD k Pa.none = q := ⟨_, rfl⟩
       rw [hpq] at hpw d0 d1 d2 HSX HSY; obtain ⟨gl, x, y⟩ := pq; obtain ⟨hgi, hxi, hyi⟩ := hpw
       dsimp only at *
       have l1 : (wz1 (L.map Pn.x ++ (ps.take k).map Pa.dx)).length ≤ 1000 := by rw [wz1_len, List.length_append, List.length_map, List.length_map, List.length_take]; omega
       have l2 : (wz1 (L.map Pn.y ++ (ps.take k).map Pa.dy)).length ≤ 1000 := by rw [wz1_len, List.length_append, List.length_map, List.length_map, List.length_take]; omega
       obtain ⟨V, hV, X0, hb0⟩ : ∃ V, V = wr.alloc (.cells #[.int .i64 gl, .int .i64 x, .int .i64 y] 54) ∧ Bk 54 V wr.heap.size [.int .i64 gl, .int .i64 x, .int .i64 y] ∧ Below wr.heap.size wr V := ⟨_, rfl, Bk.new _ _ _, bl1 _⟩
       obtain ⟨q0, q1, q2, _⟩ := X0.three
       have hcl := ubs_any base (w.heap.size + 1) (w.heap.size + 2) x y _ _ m1 V (hS.below hb0) (by omega) (by omega) (by omega) hxi hyi l1 l2
       rw [← HSX.out, ← HSY.out] at hcl
       have i1 : (0 : Int) ≤ (k : Int) := by omega
       have i2 : (k : Int) < (ps.length : Int) := by omega
       clear hpq l1 l2 hS hQw HSX HSY
       go_upto_region 11 with fail
       rw [← hV]; clear hV d0 d1 d2
       go_wp2_with fail
       refine hcl.mono ?_
       rintro e m2 ⟨rfl, hS2⟩; clear hcl q0 q1 q2; go_wp2
       go_roundw
       case rel => exact ⟨k + 1, by omega, by go_num, hS2⟩
       case measure => simp [intOf]; omega
     · obtain rfl : k = ps.length := by omega
       have g5 : ¬ (ps.length : Int) < (ps.length : Int) := by omega
       rw [List.take_length, ← HBX.out, ← HBY.out] at hS; obtain ⟨xa, xc, ya, yc, h1, h2, h3, h4, h5⟩ := hS
       have hfin : Below w.heap.size w wr := HBW.out.trans ((HB1.out.mono HBW.out.size).trans (h4.below (B := w.heap.size) (fun k hk => by omega)))
       have hR := h3.lower (base' := w.heap.size) (by omega)
       obtain ⟨c1, _⟩ := h1.one1; obtain ⟨c2, _⟩ := h2.one1
       have HR : Hid (R22 w.heap.size wr (.slice xa (wz1 bX).length xc) (.slice ya (wz1 bY).length yc) 20 (wz1 bX) (wz1 bY)) := hR
       have HFI : Hid (Below w.heap.size w wr) := hfin
       generalize (wz1 bX).length = nx at *
       generalize (wz1 bY).length = ny at *
       clear h1 h2 h3 h4 hR hfin
       go_upto_region 13 with fail
       refine wp_region_held_drew (S := fun w9 => w9.cell? ⟨w.heap.size + 1, 0, none⟩ = some (.slice xa nx xc) ∧ w9.cell? ⟨w.heap.size + 2, 0, none⟩ = some (.slice ya ny yc)) (by kernel_rfl) ?_ (fun hHeld => ?_)
       · (try dsimp only)
         go_keep
       have hdr : Below wr.heap.size wr wr.drew := Below.drew1
       generalize wr.drew = ud at hdr hHeld ⊢
       refine hT 0 hHeld ?_; refine hT 1 hHeld ?_; refine hT 2 hHeld ?_; refine hT 3 hHeld ?_
       refine wpAnyH_done (by kernel_rfl) ?_ _
       have HR2 := HR.out.below hdr
       have HF2 := HFI.out.trans (hdr.mono HFI.out.size)
       clear hHeld c1 c2; go_wp2
       go_ret2
       exact ⟨_, _, rfl, HR2, HF2⟩
def spL (f : Pn → Int) (o : Ol) (pts told dx dy : List Int) : List Rat := if spB o pts dx dy = true then spQ f o pts told else []
def spE (o : Ol) (pts dx dy : List Int) : Int := if spB o pts dx dy = true then 0 else 1
theorem spL_no {f : Pn → Int} {o : Ol} {pts told dx dy : List Int} (h : spB o pts dx dy = false) : spL f o pts told dx dy = [] := by unfold spL; rw [h]; rfl
theorem spE_no {o : Ol} {pts dx dy : List Int} (h : spB o pts dx dy = false) : spE o pts dx dy = 1 := by unfold spE; rw [h]; rfl
theorem spL_yes {f : Pn → Int} {o : Ol} {pts told dx dy : List Int} (h : spB o pts dx dy = true) : spL f o pts told dx dy = spQ f o pts told := if_pos h
theorem spE_yes {o : Ol} {pts dx dy : List Int} (h : spB o pts dx dy = true) : spE o pts dx dy = 0 := if_pos h
theorem spB_1 {o : Ol} {pts dx dy : List Int} (h : foB o = false) : spB o pts dx dy = false := by unfold spB; rw [h]; rfl
theorem spB_2 {o : Ol} {pts dx dy : List Int} (h : risB pts (cntO o) = false) : spB o pts dx dy = false := by unfold spB; rw [h]; simp
theorem spB_3 {o : Ol} {pts dx dy : List Int} (h : ¬ dx.length = pts.length) : spB o pts dx dy = false := by unfold spB; rw [decide_eq_false h]; simp
theorem spB_4 {o : Ol} {pts dx dy : List Int} (h : ¬ dy.length = pts.length) : spB o pts dx dy = false := by unfold spB; rw [decide_eq_false h]; simp
theorem spB_5 {o : Ol} {pts dx dy : List Int} (h : dx.all fdB = false) : spB o pts dx dy = false := by unfold spB; rw [h]; simp
theorem spB_6 {o : Ol} {pts dx dy : List Int} (h : dy.all fdB = false) : spB o pts dx dy = false := by unfold spB; rw [h]; simp
theorem cspreadL_any (S : Nat → Prop) (a : Option Addr) (ca : Nat) (b : Option Addr) (cb : Nat) (o : Ol) (pa : Option Addr) (pc : Nat) (pts : List Int) (xa : Option Addr) (xc : Nat) (dx : List Int) (ya : Option Addr) (yc : Nat) (dy : List Int) (w : World) (hc : Gr PnE.row S w a ca o.cs) (hp : Gr PaE S w b cb o.ps) (hP : Ri w pa pc pts) (hX : Ri w xa xc dx) (hY : Ri w ya yc dy) (hl : o.cs.flatten.length ≤ 100000) (hl1 : o.cs.length ≤ 100000) (hl2 : o.ps.length ≤ 100000) :
    Calls Tryz.prog 179 #[.agg #[.slice a o.cs.length ca, .slice b o.ps.length cb], .slice pa pts.length pc, .slice xa dx.length xc, .slice ya dy.length yc] w fun e w' => ∃ a1 c1 a2 c2, e = .returned (.tuple #[.slice a1 (spL Pn.x o pts dx dx dy).length c1, .slice a2 (spL Pn.y o pts dy dx dy).length c2, .int .i64 (spE o pts dx dy)]) ∧ Rg w.heap.size w' a1 c1 7 (spL Pn.x o pts dx dx dy) ∧ Rg w.heap.size w' a2 c2 7 (spL Pn.y o pts dy dx dy) ∧ Below w.heap.size w w' := by
 have b1 := hP.lenB
 have b2 := hX.lenB
 have b3 := hY.lenB
 obtain ⟨W, hW, X1, hbW⟩ : ∃ W, W = w.alloc (.cells #[.slice a o.cs.length ca, .slice b o.ps.length cb] 57) ∧ Bk 57 W w.heap.size [.slice a o.cs.length ca, .slice b o.ps.length cb] ∧ Below w.heap.size w W := ⟨_, rfl, Bk.new _ _ _, bl1 _⟩
 have hcn : cntO o ≤ 200000 := by unfold cntO; omega
 replace hc := hc.below hbW; replace hp := hp.below hbW; replace hP := hP.below hbW; replace hX := hX.below hbW; replace hY := hY.below hbW; obtain ⟨p0, p1, _⟩ := X1.two
 have HNO : Hid (spB o pts dx dy = false → ∀ W', Below w.heap.size w W' → ∃ a1 c1 a2 c2, (Ending.returned (.tuple #[.slice none 0 0, .slice none 0 0, .int .i64 1])) = .returned (.tuple #[.slice a1 (spL Pn.x o pts dx dx dy).length c1, .slice a2 (spL Pn.y o pts dy dx dy).length c2, .int .i64 (spE o pts dx dy)]) ∧ Rg w.heap.size W' a1 c1 7 (spL Pn.x o pts dx dx dy) ∧ Rg w.heap.size W' a2 c2 7 (spL Pn.y o pts dy dx dy) ∧ Below w.heap.size w W') := fun h W' hb => by
  rw [spL_no h, spL_no h, spE_no h]
  exact ⟨none, 0, none, 0, rfl, Rg.nil _ _ _, Rg.nil _ _ _, hb⟩
 go_enter Tryz.func179, Tryz.ntmps179
 go_upto_region 1 with fail
 rw [← hW]; clear hW
 go_wp2_with fail
 refine (ccount_any S a ca b cb o _ hc hp hl hl2).mono ?_
 rintro e m1 ⟨rfl, hb1⟩; replace hc := hc.below hb1; replace hp := hp.below hb1; replace hP := hP.below hb1; replace hX := hX.below hb1; replace hY := hY.below hb1; replace X1 := X1.below hb1
 replace hbW := hbW.trans (hb1.mono hbW.size)
 clear hb1 p0 p1; obtain ⟨p0, p1, _⟩ := X1.two
 have hf1 := cformO_any S a ca b cb o m1 hc hp
 cases hfo : foB o with
 | false =>
  have hno := HNO.out (spB_1 hfo)
  rw [hfo] at hf1; clear hfo
  go_wp2_with fail
  refine hf1.mono ?_
  rintro e m2 ⟨rfl, hb1⟩
  have hfin := hno m2 (hbW.trans (hb1.mono hbW.size))
  clear hb1 hf1 hno; go_wp2
  exact bodyPost_ret (v := .tuple #[.slice none 0 0, .slice none 0 0, .int .i64 1]) (by simp [results, Tryz.results179, go_sem]) rfl hfin
 | true =>
 have hFO := foB_iff.1 hfo
 rw [hfo] at hf1
 go_wp2_with fail
 refine hf1.mono ?_
 rintro e m2 ⟨rfl, hb1⟩; replace hc := hc.below hb1; replace hp := hp.below hb1; replace hP := hP.below hb1; replace hX := hX.below hb1; replace hY := hY.below hb1; replace X1 := X1.below hb1
 replace hbW := hbW.trans (hb1.mono hbW.size)
 clear hb1 p0 p1; obtain ⟨p0, p1, _⟩ := X1.two; clear hf1
 have hr1 := rising_any pa pc pts (cntO o) m2 hP (by omega)
 cases hri : risB pts (cntO o) with
 | false =>
  have hfin := HNO.out (spB_2 hri) m2 hbW
  rw [hri] at hr1; clear hri
  go_wp2_with fail
  refine hr1.mono ?_
  rintro e m3 ⟨rfl, rfl⟩; clear hr1; go_wp2
  exact bodyPost_ret (v := .tuple #[.slice none 0 0, .slice none 0 0, .int .i64 1]) (by simp [results, Tryz.results179, go_sem]) rfl hfin
 | true =>
 rw [hri] at hr1
 go_wp2_with fail
 refine hr1.mono ?_
 rintro e m3 ⟨rfl, rfl⟩; clear hr1
 by_cases hx : dx.length = pts.length
 rotate_left
 · have hfin := HNO.out (spB_3 hx) m2 hbW
   have g2 : ((dx.length : Int) != (pts.length : Int)) = true := by simp; omega
   go_wp2
   exact bodyPost_ret (v := .tuple #[.slice none 0 0, .slice none 0 0, .int .i64 1]) (by simp [results, Tryz.results179, go_sem]) rfl hfin
 by_cases hy : dy.length = pts.length
 rotate_left
 · have hfin := HNO.out (spB_4 hy) m2 hbW
   have g2 : ((dy.length : Int) != (pts.length : Int)) = true := by simp; omega
   rw [hx]; go_wp2
   exact bodyPost_ret (v := .tuple #[.slice none 0 0, .slice none 0 0, .int .i64 1]) (by simp [results, Tryz.results179, go_sem]) rfl hfin
 have hq1 := ifields_any xa xc dx m2 hX
 have hq2 := ifields_any ya yc dy m2 hY
 cases hfx : dx.all fdB with
 | false =>
  have hfin := HNO.out (spB_5 hfx) m2 hbW
  rw [hfx] at hq1; rw [hx] at hq1 ⊢; rw [hy]; clear hfx
  go_wp2_with fail
  refine hq1.mono ?_
  rintro e m3 ⟨rfl, rfl⟩; go_wp2
  exact bodyPost_ret (v := .tuple #[.slice none 0 0, .slice none 0 0, .int .i64 1]) (by simp [results, Tryz.results179, go_sem]) rfl hfin
 | true =>
 cases hfy : dy.all fdB with
 | false =>
  have hfin := HNO.out (spB_6 hfy) m2 hbW
  rw [hfx] at hq1; rw [hfy] at hq2; rw [hx] at hq1 ⊢; rw [hy] at hq2 ⊢; clear hfx hfy
  go_wp2_with fail
  refine hq1.mono ?_
  rintro e m3 ⟨rfl, rfl⟩
  go_wp2_with fail
  refine hq2.mono ?_
  rintro e m3 ⟨rfl, rfl⟩; go_wp2
  exact bodyPost_ret (v := .tuple #[.slice none 0 0, .slice none 0 0, .int .i64 1]) (by simp [results, Tryz.results179, go_sem]) rfl hfin
 | true =>
 have hsp : spB o pts dx dy = true := by unfold spB; rw [hfo, hri, decide_eq_true hx, decide_eq_true hy, hfx, hfy]; rfl
 rw [hfx] at hq1; rw [hfy] at hq2
 have HE1 : Hid (spL Pn.x o pts dx dx dy = spQ Pn.x o pts dx) := spL_yes hsp
 have HE2 : Hid (spL Pn.y o pts dy dx dy = spQ Pn.y o pts dy) := spL_yes hsp
 have HE3 : Hid (spE o pts dx dy = 0) := spE_yes hsp
 have hcs : cntO o ≤ 86 := by have h1 := hFO.2.2.1; have h2 := hFO.2.2.2.2.1; unfold cntO; omega
 have hla := fun U (h1 : Ri U pa pc pts) (h2 : Ri U xa xc dx) => laidOut_any pa pc pts xa xc dx (cntO o) U h1 h2 hx hri (by omega)
 have hlb := fun U (h1 : Ri U pa pc pts) (h2 : Ri U ya yc dy) => laidOut_any pa pc pts ya yc dy (cntO o) U h1 h2 hy hri (by omega)
 have HRI : Hid (∀ k, k < pts.length → risP pts (cntO o) k) := risB_iff.1 hri
 simp only [layI_len] at hla hlb
 rw [hx] at hq1 hla ⊢; rw [hy] at hq2 hlb ⊢; clear hfx hfy hfo hri hsp HNO
 go_wp2_with fail
 refine hq1.mono ?_
 rintro e m3 ⟨rfl, rfl⟩
 go_wp2_with fail
 refine hq2.mono ?_
 rintro e m3 ⟨rfl, rfl⟩; clear hq1 hq2
 go_wp2_with fail
 refine (hla _ hP hX).mono ?_
 rintro e m3 ⟨qa, qc, rfl, hR1, hb1⟩; replace hc := hc.below hb1; replace hp := hp.below hb1; replace hP := hP.below hb1; replace hX := hX.below hb1; replace hY := hY.below hb1; replace X1 := X1.below hb1
 replace hbW := hbW.trans (hb1.mono hbW.size)
 clear hb1 p0 p1; obtain ⟨p0, p1, _⟩ := X1.two; clear hla
 go_wp2_with fail
 refine (hlb _ hP hY).mono ?_
 rintro e m4 ⟨ra, rc, rfl, hR2, hb1⟩; replace hc := hc.below hb1; replace hp := hp.below hb1; replace hP := hP.below hb1; replace hX := hX.below hb1; replace hY := hY.below hb1; replace X1 := X1.below hb1; replace hR1 := hR1.below hb1
 replace hbW := hbW.trans (hb1.mono hbW.size)
 clear hb1 p0 p1; obtain ⟨p0, p1, _⟩ := X1.two; clear hlb
 by_cases hps : 0 < o.ps.length
 · have gp : (o.ps.length : Int) > 0 := by omega
   have HQ1 : Hid (spQ Pn.x o pts dx = (layI pts dx (cntO o) pts.length).map (fun z : Int => (z : Rat))) := spQ_parts hps
   have HQ2 : Hid (spQ Pn.y o pts dy = (layI pts dy (cntO o) pts.length).map (fun z : Int => (z : Rat))) := spQ_parts hps
   have hw1 := fun U (h : Ri U qa qc (layI pts dx (cntO o) pts.length)) => wholes_any qa qc _ U h (by rw [layI_len]; omega)
   have hw2 := fun U (h : Ri U ra rc (layI pts dy (cntO o) pts.length)) => wholes_any ra rc _ U h (by rw [layI_len]; omega)
   rw [← HQ1.out, ← HE1.out, layI_len] at hw1; rw [← HQ2.out, ← HE2.out, layI_len] at hw2
   go_wp2_with fail
   refine (hw1 _ hR1).mono ?_
   rintro e m5 ⟨s1, t1, rfl, hZ1, hb1⟩
   replace hZ1 := hZ1.lower hbW.size
   replace hR2 := hR2.below hb1
   replace hbW := hbW.trans (hb1.mono hbW.size)
   clear hb1 hw1
   go_wp2_with fail
   refine (hw2 _ hR2).mono ?_
   rintro e m6 ⟨s2, t2, rfl, hZ2, hb1⟩
   replace hZ2 := hZ2.lower hbW.size
   replace hZ1 := hZ1.below hb1
   replace hbW := hbW.trans (hb1.mono hbW.size)
   clear hb1 hw2; go_wp2
   exact bodyPost_ret (v := .tuple #[.slice s1 (spL Pn.x o pts dx dx dy).length t1, .slice s2 (spL Pn.y o pts dy dx dy).length t2, .int .i64 0]) (by simp [results, Tryz.results179, go_sem]) rfl ⟨s1, t1, s2, t2, by rw [HE3.out], hZ1, hZ2, hbW⟩
 · have gp : ¬ (o.ps.length : Int) > 0 := by omega
   have hco : cntO o = o.cs.flatten.length := by unfold cntO; omega
   have HQ1 : Hid (spQ Pn.x o pts dx = conQ Pn.x o.cs (layI pts dx (cntO o) pts.length) (tchI pts (cntO o) pts.length) o.cs.length) := spQ_cons hps
   have HQ2 : Hid (spQ Pn.y o pts dy = conQ Pn.y o.cs (layI pts dy (cntO o) pts.length) (tchI pts (cntO o) pts.length) o.cs.length) := spQ_cons hps
   obtain ⟨n, hnn⟩ : ∃ n, cntO o = n := ⟨_, rfl⟩
   rw [hnn] at HQ1 HQ2 HRI hR1 hR2 hco hcs hcn ⊢
   have HX1 : Hid (Bk 57 m4 w.heap.size [.slice a o.cs.length ca, .slice b o.ps.length cb]) := X1
   have HP : Hid (Ri m4 pa pc pts) := hP
   have HC : Hid (Gr PnE.row S m4 a ca o.cs) := hc
   have HR1 : Hid (Ri m4 qa qc (layI pts dx n pts.length)) := hR1
   have HR2 : Hid (Ri m4 ra rc (layI pts dy n pts.length)) := hR2
   have HBW : Hid (Below w.heap.size w m4) := hbW
   have HFO : Hid ((∀ c ∈ o.cs, 0 < c.length) ∧ o.cs.flatten.length ≤ 80) := ⟨hFO.2.2.2.1, hFO.2.2.2.2.1⟩
   have HCO : Hid (n = o.cs.flatten.length) := hco
   clear hnn hco hP hc hR1 hR2 hbW hX hY hp hFO hx hy
   obtain ⟨i0, hi0, hz0, hz1, hz2⟩ := info_parts infoA_bool
   have hmk := run_make (P := Tryz.prog) m4 238 4 i0 (.bool false) Tryz.underlying238 hi0 hz0 .i64 .i64 (n : Int) (n : Int) (by omega) (by omega) (by rw [hz2]; omega) (by omega)
   rw [hz1] at hmk
   simp only [Int.toNat_natCast, Nat.mul_one] at hmk
   have hI0 : Gw El.bool 4 m4.heap.size (fun _ => False) (m4.alloc (.cells (madeCells #[.bool false] n) 4)) (.slice (some ⟨m4.heap.size, 0, none⟩) n n) (tchI pts n 0) := Gw.mk1 m4 n false (.bool false) rfl rfl (fun S w => rfl) (by omega)
   have hB0 : Below m4.heap.size m4 (m4.alloc (.cells (madeCells #[.bool false] n) 4)) := bl1 _
   replace hmk : (Instr.makeSlice 238 (.int .i64 (n : Int)) (.int .i64 (n : Int))).run Tryz.prog m4 = .ok (.slice (some ⟨m4.heap.size, 0, none⟩) n n) (m4.alloc (.cells (madeCells #[.bool false] n) 4)) := hmk
   generalize m4.alloc (.cells (madeCells #[.bool false] n) 4) = w1 at *
   clear hi0 hz0 hz1 hz2 X1; go_wp2; clear p0 p1
   go_loopw [73] (fun i wr => ∃ k : Nat, k ≤ pts.length ∧ i = .int .i64 k ∧ Gw El.bool 4 m4.heap.size (fun _ => False) wr (.slice (some ⟨m4.heap.size, 0, none⟩) n n) (tchI pts n k) ∧ Below m4.heap.size m4 wr) (fun i _ => pts.length - (intOf i).toNat)
   case atStart => exact ⟨0, Nat.zero_le _, rfl, hI0, hB0⟩
   case round =>
    clear hI0 hB0 hmk; obtain ⟨k, hk, rfl, hG, hB⟩ := hrel
    by_cases hkn : k < pts.length
    · obtain ⟨b0, off, ea, hb, d0⟩ := HP.out.at hB k hkn
      subst ea
      have hpn := risP_nonneg k (fun j hj => HRI.out j (by omega))
      have HS : Hid (tchI pts n (k + 1) = (tchI pts n k).set (pts.getD k 0).toNat true) := rfl
      obtain ⟨p, hpp⟩ : ∃ p : Nat, pts.getD k 0 = (p : Int) := ⟨(pts.getD k 0).toNat, by omega⟩
      rw [hpp] at d0 hpn HS; rw [Int.toNat_natCast] at HS
      have hne : tchI pts n k ≠ [] := fun e => by have := tchI_len pts n k; rw [e] at this; simp at this; omega
      obtain ⟨g, cap, e5, h5, h6, h7, hfz, hrd, hset⟩ := hG.own hne
      injection e5 with e5 e6 e7; injection e5 with e5; injection e5 with e5; subst e5
      have hfp := hfz p
      have hsw := hset p 0 (.bool true) true (by rw [tchI_len]; omega) Nat.one_pos (fun S' vs hv => by rw [show vs = _ from hv]; rfl)
      rw [show p * El.bool.sz + 0 = p from Nat.mul_one p, ← HS.out] at hsw
      obtain ⟨vs, hrx, hcx⟩ := hrd p (by rw [tchI_len]; omega)
      have hc0 := hcx 0 Nat.one_pos
      rw [show vs = _ from hrx, show p * El.bool.sz + 0 = p from Nat.mul_one p] at hc0
      have hBs : Below m4.heap.size m4 (wr.setCell ⟨m4.heap.size, p, none⟩ (.bool true)) := hB.setCell (p := ⟨m4.heap.size, p, none⟩) (Nat.le_refl _) _
      have i1 : (0 : Int) ≤ (k : Int) := by omega
      have i2 : (k : Int) < (pts.length : Int) := by omega
      have i3 : (0 : Int) ≤ (p : Int) := by omega
      have i4 : (p : Int) < (n : Int) := by omega
      have HSW : Hid (Gw El.bool 4 m4.heap.size (fun _ => False) (wr.setCell ⟨m4.heap.size, p, none⟩ (.bool true)) (.slice (some ⟨m4.heap.size, 0, none⟩) n n) (tchI pts n (k + 1))) := hsw
      have HBS : Hid (Below m4.heap.size m4 (wr.setCell ⟨m4.heap.size, p, none⟩ (.bool true))) := hBs
      clear hset hfz hrd hsw hBs hpp hcx hrx hG hne e6 e7 h7; go_wp2
      go_roundw
      case rel => exact ⟨k + 1, by omega, by go_num, HSW.out, HBS.out⟩
      case measure => simp [intOf]; omega
    · obtain rfl : k = pts.length := by omega
      have g1 : ¬ (pts.length : Int) < (pts.length : Int) := by omega
      obtain ⟨a9, c9, e9, hg9, -⟩ := hG.slice
      have HLL : Hid ((tchI pts n pts.length).length = n) := tchI_len _ _ _
      rw [HLL.out] at e9; injection e9 with e1 e2 e3; subst e1 e3
      have hTT : Rl wr (some ⟨m4.heap.size, 0, none⟩) n (tchI pts n pts.length) := Rl.of hg9
      have hX1 := HX1.out.below hB
      obtain ⟨p0, p1, _⟩ := hX1.two
      have hno := numbersOf_any S a ca (.slice b o.ps.length cb) o.cs wr (HC.out.below hB) (by omega) rfl
      rw [← HCO.out] at hno; clear hg9 hG
      go_wp2_with fail
      refine hno.mono ?_
      rintro e m5 ⟨na, nc, ya', yc', rfl, hN1, hN2, hb1⟩; replace hTT := hTT.below hb1; replace hX1 := hX1.below hb1
      replace hB := hB.trans (hb1.mono hB.size)
      clear hb1 hno p0 p1; obtain ⟨p0, p1, _⟩ := hX1.two
      have hen := cends_any S a ca (.slice b o.ps.length cb) o.cs m5 (HC.out.below hB) (by omega) hl1 rfl
      rw [endF_len] at hen
      go_wp2_with fail
      refine hen.mono ?_
      rintro e m6 ⟨ea, ec, rfl, hE, -, hb1⟩; replace hTT := hTT.below hb1; replace hN1 := hN1.below hb1; replace hN2 := hN2.below hb1
      replace hB := hB.trans (hb1.mono hB.size)
      clear hb1 hen p0 p1 hX1
      have hby1 := byContours_any Pn.x o.cs ea ec na nc (some ⟨m4.heap.size, 0, none⟩) n (tchI pts n pts.length) qa qc (layI pts dx n pts.length) m6 hE hN1 hTT (HR1.out.below hB) HFO.out.1 HFO.out.2 (by rw [tchI_len]; exact HCO.out) (by rw [layI_len]; exact HCO.out)
      have hby2 := fun U (hb : Below m6.heap.size m6 U) => byContours_any Pn.y o.cs ea ec ya' yc' (some ⟨m4.heap.size, 0, none⟩) n (tchI pts n pts.length) ra rc (layI pts dy n pts.length) U (hE.below hb) (hN2.below hb) (hTT.below hb) ((HR2.out.below hB).below hb) HFO.out.1 HFO.out.2 (by rw [tchI_len]; exact HCO.out) (by rw [layI_len]; exact HCO.out)
      rw [← HQ1.out, ← HE1.out, ← HCO.out] at hby1; rw [← HQ2.out, ← HE2.out, ← HCO.out] at hby2
      have hBF := HBW.out.trans (hB.mono HBW.out.size)
      clear hE hN1 hN2 hTT
      go_wp2_with fail
      refine hby1.mono ?_
      rintro e m7 ⟨s1, t1, rfl, hZ1, hb1⟩
      replace hZ1 := hZ1.lower hBF.size
      clear hby1
      go_wp2_with fail
      refine (hby2 _ hb1).mono ?_
      rintro e m8 ⟨s2, t2, rfl, hZ2, hb2⟩
      replace hZ2 := hZ2.lower (Nat.le_trans hBF.size hb1.size)
      replace hZ1 := hZ1.below hb2
      have hBG := (hBF.trans (hb1.mono hBF.size)).trans (hb2.mono (Nat.le_trans hBF.size hb1.size))
      clear hby2 hb1 hb2; go_wp2
      exact bodyPost_ret (v := .tuple #[.slice s1 (spL Pn.x o pts dx dx dy).length t1, .slice s2 (spL Pn.y o pts dy dx dy).length t2, .int .i64 0]) (by simp [results, Tryz.results179, go_sem]) rfl ⟨s1, t1, s2, t2, by rw [HE3.out], hZ1, hZ2, hBG⟩
theorem paQ_one {t : Te} {c : Int} (h1 : tfB t = true) (h2 : crd c = true) (h : t.pk = 0 ∨ c = t.pk) : ((1 : Int) : Rat) = paQ t c := by
 rw [paQ_yes h1 h2, if_pos h]
 rfl
theorem paQ_off {t : Te} {c : Int} (h1 : tfB t = true) (h2 : crd c = true) (h : ¬ (t.pk = 0 ∨ c = t.pk)) (h3 : c ≤ t.st ∨ t.en ≤ c) : ((0 : Int) : Rat) = paQ t c := by
 rw [paQ_yes h1 h2, if_neg h, if_pos h3]
 rfl
theorem paQ_up {t : Te} {c : Int} (h1 : tfB t = true) (h2 : crd c = true) (h : ¬ (t.pk = 0 ∨ c = t.pk)) (h3 : ¬ (c ≤ t.st ∨ t.en ≤ c)) (h4 : c < t.pk) : ((c - t.st : Int) : Rat) / ((t.pk - t.st : Int) : Rat) = paQ t c := by
 rw [paQ_yes h1 h2, if_neg h, if_neg h3, if_pos h4]
theorem paQ_down {t : Te} {c : Int} (h1 : tfB t = true) (h2 : crd c = true) (h : ¬ (t.pk = 0 ∨ c = t.pk)) (h3 : ¬ (c ≤ t.st ∨ t.en ≤ c)) (h4 : ¬ c < t.pk) : ((t.en - c : Int) : Rat) / ((t.en - t.pk : Int) : Rat) = paQ t c := by
 rw [paQ_yes h1 h2, if_neg h, if_neg h3, if_neg h4]
theorem cpart_any (t : Te) (c : Int) (w : World) (hc : I64 c) :
    Calls Tryz.prog 210 #[.agg #[.int .i64 t.st, .int .i64 t.pk, .int .i64 t.en], .int .i64 c] w fun e w' => ∃ v', e = .returned v' ∧ Fr w' v' 2 (paQ t c) ∧ Below w.heap.size w w' := by
 have hfo := fun U => cformT_any t U
 obtain ⟨W, hW, X1, B1, hbW⟩ := boxes2 146 125 w (.int .i64 t.st) (.int .i64 t.pk) (.int .i64 t.en) (.bool false) (.slice none 0 0) (.slice none 0 0)
 cases hf : tfB t with
 | false =>
  have HP : Hid (((0 : Int) : Rat) = paQ t c) := (paQ_no (fun h => by rw [hf] at h; cases h.1)).symm
  simp only [hf] at hfo
  clear hf; obtain ⟨st, pk, en⟩ := t
  dsimp only at *
  go_enter Tryz.func210, Tryz.ntmps210
  go_wp2_with fail
  rw [← hW]; clear hW
  refine (hfo _).mono ?_
  rintro e u1 ⟨rfl, hb1⟩; replace X1 := X1.below hb1; replace B1 := B1.below hb1
  replace hbW := hbW.trans (hb1.mono hbW.size)
  clear hb1 hfo; obtain ⟨p0, p1, p2, _⟩ := X1.cells
  go_wp2_with fail
  refine (whole_any 0 _ (by decide) (by decide)).mono ?_
  rintro e u3 ⟨v3, rfl, hF3, hb3⟩; replace B1 := B1.below hb3
  replace hbW := hbW.trans (hb3.mono hbW.size)
  rw [HP.out] at hF3; clear hb3 X1; obtain ⟨n3, xs, ys, ⟨a3, c3, b3, d3, rfl, hx3, hy3⟩, f1, f2, f3, f4⟩ := hF3; obtain ⟨q1, q2, q3, q4, q5, q6⟩ := B1.cells
  have hs := B1.lt
  go_wp2
  refine ret3 (v := .agg #[.bool n3, .slice a3 xs.length c3, .slice b3 ys.length d3]) B1 rfl (fun U hU => by obtain ⟨r1, r2, r3, _⟩ := hU.cells; simp [results, Tryz.results210, go_sem, r1, r2, r3]) (fun U hU hK => ⟨_, rfl, ⟨_, _, _, ⟨_, _, _, _, rfl, hK _ _ _ hx3, hK _ _ _ hy3⟩, f1, f2, f3, f4⟩, hU _ _ hbW (by omega)⟩)
 | true =>
  have hbd := tfB_iff.1 hf
  unfold TfT at hbd
  simp only [hf] at hfo
  cases hcc : crd c with
  | false =>
   have HP : Hid (((0 : Int) : Rat) = paQ t c) := (paQ_no (fun h => by rw [hcc] at h; cases h.2)).symm
   clear hf hbd; obtain ⟨st, pk, en⟩ := t
   dsimp only at *
   go_enter Tryz.func210, Tryz.ntmps210
   go_wp2_with fail
   rw [← hW]; clear hW
   refine (hfo _).mono ?_
   rintro e u1 ⟨rfl, hb1⟩; replace X1 := X1.below hb1; replace B1 := B1.below hb1
   replace hbW := hbW.trans (hb1.mono hbW.size)
   clear hb1 hfo; obtain ⟨p0, p1, p2, _⟩ := X1.cells
   go_wp2_with fail
   refine (coord_any c _).mono ?_
   rintro e u2 ⟨rfl, rfl⟩; rw [hcc]; clear hcc
   go_wp2_with fail
   refine (whole_any 0 _ (by decide) (by decide)).mono ?_
   rintro e u3 ⟨v3, rfl, hF3, hb3⟩; replace B1 := B1.below hb3
   replace hbW := hbW.trans (hb3.mono hbW.size)
   rw [HP.out] at hF3; clear hb3 X1; obtain ⟨n3, xs, ys, ⟨a3, c3, b3, d3, rfl, hx3, hy3⟩, f1, f2, f3, f4⟩ := hF3; obtain ⟨q1, q2, q3, q4, q5, q6⟩ := B1.cells
   have hs := B1.lt
   go_wp2
   refine ret3 (v := .agg #[.bool n3, .slice a3 xs.length c3, .slice b3 ys.length d3]) B1 rfl (fun U hU => by obtain ⟨r1, r2, r3, _⟩ := hU.cells; simp [results, Tryz.results210, go_sem, r1, r2, r3]) (fun U hU hK => ⟨_, rfl, ⟨_, _, _, ⟨_, _, _, _, rfl, hK _ _ _ hx3, hK _ _ _ hy3⟩, f1, f2, f3, f4⟩, hU _ _ hbW (by omega)⟩)
  | true =>
   have hcd := crdT.1 hcc
   by_cases h1 : t.pk = 0
   · have HP : Hid (((1 : Int) : Rat) = paQ t c) := paQ_one hf hcc (.inl h1)
     have g1 : (t.pk == 0) = true := by simp [h1]
     clear hf hbd hcd h1; obtain ⟨st, pk, en⟩ := t
     dsimp only at *
     go_enter Tryz.func210, Tryz.ntmps210
     go_wp2_with fail
     rw [← hW]; clear hW
     refine (hfo _).mono ?_
     rintro e u1 ⟨rfl, hb1⟩; replace X1 := X1.below hb1; replace B1 := B1.below hb1
     replace hbW := hbW.trans (hb1.mono hbW.size)
     clear hb1 hfo; obtain ⟨p0, p1, p2, _⟩ := X1.cells
     go_wp2_with fail
     refine (coord_any c _).mono ?_
     rintro e u2 ⟨rfl, rfl⟩; rw [hcc]; clear hcc
     go_wp2_with fail
     refine (whole_any 1 _ (by decide) (by decide)).mono ?_
     rintro e u3 ⟨v3, rfl, hF3, hb3⟩; replace B1 := B1.below hb3
     replace hbW := hbW.trans (hb3.mono hbW.size)
     rw [HP.out] at hF3; clear hb3 X1; obtain ⟨n3, xs, ys, ⟨a3, c3, b3, d3, rfl, hx3, hy3⟩, f1, f2, f3, f4⟩ := hF3; obtain ⟨q1, q2, q3, q4, q5, q6⟩ := B1.cells
     have hs := B1.lt
     go_wp2
     refine ret3 (v := .agg #[.bool n3, .slice a3 xs.length c3, .slice b3 ys.length d3]) B1 rfl (fun U hU => by obtain ⟨r1, r2, r3, _⟩ := hU.cells; simp [results, Tryz.results210, go_sem, r1, r2, r3]) (fun U hU hK => ⟨_, rfl, ⟨_, _, _, ⟨_, _, _, _, rfl, hK _ _ _ hx3, hK _ _ _ hy3⟩, f1, f2, f3, f4⟩, hU _ _ hbW (by omega)⟩)
   · by_cases h2 : c = t.pk
     · have HP : Hid (((1 : Int) : Rat) = paQ t c) := paQ_one hf hcc (.inr h2)
       have g1 : (t.pk == 0) = false := by simp [h1]
       have g2 : (c == t.pk) = true := by simp [h2]
       clear h1 h2 hf hbd hcd; obtain ⟨st, pk, en⟩ := t
       dsimp only at *
       go_enter Tryz.func210, Tryz.ntmps210
       go_wp2_with fail
       rw [← hW]; clear hW
       refine (hfo _).mono ?_
       rintro e u1 ⟨rfl, hb1⟩; replace X1 := X1.below hb1; replace B1 := B1.below hb1
       replace hbW := hbW.trans (hb1.mono hbW.size)
       clear hb1 hfo; obtain ⟨p0, p1, p2, _⟩ := X1.cells
       go_wp2_with fail
       refine (coord_any c _).mono ?_
       rintro e u2 ⟨rfl, rfl⟩; rw [hcc]; clear hcc
       go_wp2_with fail
       refine (whole_any 1 _ (by decide) (by decide)).mono ?_
       rintro e u3 ⟨v3, rfl, hF3, hb3⟩; replace B1 := B1.below hb3
       replace hbW := hbW.trans (hb3.mono hbW.size)
       rw [HP.out] at hF3; clear hb3 X1; obtain ⟨n3, xs, ys, ⟨a3, c3, b3, d3, rfl, hx3, hy3⟩, f1, f2, f3, f4⟩ := hF3; obtain ⟨q1, q2, q3, q4, q5, q6⟩ := B1.cells
       have hs := B1.lt
       go_wp2
       refine ret3 (v := .agg #[.bool n3, .slice a3 xs.length c3, .slice b3 ys.length d3]) B1 rfl (fun U hU => by obtain ⟨r1, r2, r3, _⟩ := hU.cells; simp [results, Tryz.results210, go_sem, r1, r2, r3]) (fun U hU hK => ⟨_, rfl, ⟨_, _, _, ⟨_, _, _, _, rfl, hK _ _ _ hx3, hK _ _ _ hy3⟩, f1, f2, f3, f4⟩, hU _ _ hbW (by omega)⟩)
     · have h12 : ¬ (t.pk = 0 ∨ c = t.pk) := by omega
       by_cases h3 : c ≤ t.st
       · have HP : Hid (((0 : Int) : Rat) = paQ t c) := paQ_off hf hcc h12 (.inl h3)
         have g1 : (t.pk == 0) = false := by simp [h1]
         have g2 : (c == t.pk) = false := by simp [h2]
         have g3 : decide (c ≤ t.st) = true := decide_eq_true h3
         clear h1 h2 hf hbd hcd h12; obtain ⟨st, pk, en⟩ := t
         dsimp only at *
         go_enter Tryz.func210, Tryz.ntmps210
         go_wp2_with fail
         rw [← hW]; clear hW
         refine (hfo _).mono ?_
         rintro e u1 ⟨rfl, hb1⟩; replace X1 := X1.below hb1; replace B1 := B1.below hb1
         replace hbW := hbW.trans (hb1.mono hbW.size)
         clear hb1 hfo; obtain ⟨p0, p1, p2, _⟩ := X1.cells
         go_wp2_with fail
         refine (coord_any c _).mono ?_
         rintro e u2 ⟨rfl, rfl⟩; rw [hcc]; clear hcc
         go_wp2_with fail
         refine (whole_any 0 _ (by decide) (by decide)).mono ?_
         rintro e u3 ⟨v3, rfl, hF3, hb3⟩; replace B1 := B1.below hb3
         replace hbW := hbW.trans (hb3.mono hbW.size)
         rw [HP.out] at hF3; clear hb3 X1; obtain ⟨n3, xs, ys, ⟨a3, c3, b3, d3, rfl, hx3, hy3⟩, f1, f2, f3, f4⟩ := hF3; obtain ⟨q1, q2, q3, q4, q5, q6⟩ := B1.cells
         have hs := B1.lt
         go_wp2
         refine ret3 (v := .agg #[.bool n3, .slice a3 xs.length c3, .slice b3 ys.length d3]) B1 rfl (fun U hU => by obtain ⟨r1, r2, r3, _⟩ := hU.cells; simp [results, Tryz.results210, go_sem, r1, r2, r3]) (fun U hU hK => ⟨_, rfl, ⟨_, _, _, ⟨_, _, _, _, rfl, hK _ _ _ hx3, hK _ _ _ hy3⟩, f1, f2, f3, f4⟩, hU _ _ hbW (by omega)⟩)
       · by_cases h4 : t.en ≤ c
         · have HP : Hid (((0 : Int) : Rat) = paQ t c) := paQ_off hf hcc h12 (.inr h4)
           have g1 : (t.pk == 0) = false := by simp [h1]
           have g2 : (c == t.pk) = false := by simp [h2]
           have g3 : decide (c ≤ t.st) = false := decide_eq_false h3
           have g4 : decide (t.en ≤ c) = true := decide_eq_true h4
           clear h1 h2 hf hbd hcd h12; obtain ⟨st, pk, en⟩ := t
           dsimp only at *
           go_enter Tryz.func210, Tryz.ntmps210
           go_wp2_with fail
           rw [← hW]; clear hW
           refine (hfo _).mono ?_
           rintro e u1 ⟨rfl, hb1⟩; replace X1 := X1.below hb1; replace B1 := B1.below hb1
           replace hbW := hbW.trans (hb1.mono hbW.size)
           clear hb1 hfo; obtain ⟨p0, p1, p2, _⟩ := X1.cells
           go_wp2_with fail
           refine (coord_any c _).mono ?_
           rintro e u2 ⟨rfl, rfl⟩; rw [hcc]; clear hcc
           go_wp2_with fail
           refine (whole_any 0 _ (by decide) (by decide)).mono ?_
           rintro e u3 ⟨v3, rfl, hF3, hb3⟩; replace B1 := B1.below hb3
           replace hbW := hbW.trans (hb3.mono hbW.size)
           rw [HP.out] at hF3; clear hb3 X1; obtain ⟨n3, xs, ys, ⟨a3, c3, b3, d3, rfl, hx3, hy3⟩, f1, f2, f3, f4⟩ := hF3; obtain ⟨q1, q2, q3, q4, q5, q6⟩ := B1.cells
           have hs := B1.lt
           go_wp2
           refine ret3 (v := .agg #[.bool n3, .slice a3 xs.length c3, .slice b3 ys.length d3]) B1 rfl (fun U hU => by obtain ⟨r1, r2, r3, _⟩ := hU.cells; simp [results, Tryz.results210, go_sem, r1, r2, r3]) (fun U hU hK => ⟨_, rfl, ⟨_, _, _, ⟨_, _, _, _, rfl, hK _ _ _ hx3, hK _ _ _ hy3⟩, f1, f2, f3, f4⟩, hU _ _ hbW (by omega)⟩)
         · have h34 : ¬ (c ≤ t.st ∨ t.en ≤ c) := by omega
           by_cases h5 : c < t.pk
           · have HP : Hid (((c - t.st : Int) : Rat) / ((t.pk - t.st : Int) : Rat) = paQ t c) := paQ_up hf hcc h12 h34 h5
             have g1 : (t.pk == 0) = false := by simp [h1]
             have g2 : (c == t.pk) = false := by simp [h2]
             have g3 : decide (c ≤ t.st) = false := decide_eq_false h3
             have g4 : decide (t.en ≤ c) = false := decide_eq_false h4
             clear hf h12 h34
             have k1 : IntKind.i64.wrap (c - t.st) = c - t.st := wrapi64 (by omega) (by omega)
             have k2 : IntKind.i64.wrap (t.pk - t.st) = t.pk - t.st := wrapi64 (by omega) (by omega)
             have hm := fun U => make_any (c - t.st) (t.pk - t.st) U (by omega) (by omega) (by omega) (by omega)
             clear h1 h2 hbd hcd; obtain ⟨st, pk, en⟩ := t
             dsimp only at *
             go_enter Tryz.func210, Tryz.ntmps210
             go_wp2_with fail
             rw [← hW]; clear hW
             refine (hfo _).mono ?_
             rintro e u1 ⟨rfl, hb1⟩; replace X1 := X1.below hb1; replace B1 := B1.below hb1
             replace hbW := hbW.trans (hb1.mono hbW.size)
             clear hb1 hfo; obtain ⟨p0, p1, p2, _⟩ := X1.cells
             go_wp2_with fail
             refine (coord_any c _).mono ?_
             rintro e u2 ⟨rfl, rfl⟩; rw [hcc]; clear hcc
             go_wp2_with fail
             refine (hm _).mono ?_
             rintro e u3 ⟨v3, rfl, hF3, hb3⟩; replace B1 := B1.below hb3
             replace hbW := hbW.trans (hb3.mono hbW.size)
             rw [HP.out] at hF3; clear hb3 X1; obtain ⟨n3, xs, ys, ⟨a3, c3, b3, d3, rfl, hx3, hy3⟩, f1, f2, f3, f4⟩ := hF3; obtain ⟨q1, q2, q3, q4, q5, q6⟩ := B1.cells
             have hs := B1.lt
             go_wp2
             refine ret3 (v := .agg #[.bool n3, .slice a3 xs.length c3, .slice b3 ys.length d3]) B1 rfl (fun U hU => by obtain ⟨r1, r2, r3, _⟩ := hU.cells; simp [results, Tryz.results210, go_sem, r1, r2, r3]) (fun U hU hK => ⟨_, rfl, ⟨_, _, _, ⟨_, _, _, _, rfl, hK _ _ _ hx3, hK _ _ _ hy3⟩, f1, f2, f3, f4⟩, hU _ _ hbW (by omega)⟩)
           · have HP : Hid (((t.en - c : Int) : Rat) / ((t.en - t.pk : Int) : Rat) = paQ t c) := paQ_down hf hcc h12 h34 h5
             have g1 : (t.pk == 0) = false := by simp [h1]
             have g2 : (c == t.pk) = false := by simp [h2]
             have g3 : decide (c ≤ t.st) = false := decide_eq_false h3
             have g4 : decide (t.en ≤ c) = false := decide_eq_false h4
             clear hf h12 h34
             have k1 : IntKind.i64.wrap (t.en - c) = t.en - c := wrapi64 (by omega) (by omega)
             have k2 : IntKind.i64.wrap (t.en - t.pk) = t.en - t.pk := wrapi64 (by omega) (by omega)
             have hm := fun U => make_any (t.en - c) (t.en - t.pk) U (by omega) (by omega) (by omega) (by omega)
             clear h1 h2 hbd hcd; obtain ⟨st, pk, en⟩ := t
             dsimp only at *
             go_enter Tryz.func210, Tryz.ntmps210
             go_wp2_with fail
             rw [← hW]; clear hW
             refine (hfo _).mono ?_
             rintro e u1 ⟨rfl, hb1⟩; replace X1 := X1.below hb1; replace B1 := B1.below hb1
             replace hbW := hbW.trans (hb1.mono hbW.size)
             clear hb1 hfo; obtain ⟨p0, p1, p2, _⟩ := X1.cells
             go_wp2_with fail
             refine (coord_any c _).mono ?_
             rintro e u2 ⟨rfl, rfl⟩; rw [hcc]; clear hcc
             go_wp2_with fail
             refine (hm _).mono ?_
             rintro e u3 ⟨v3, rfl, hF3, hb3⟩; replace B1 := B1.below hb3
             replace hbW := hbW.trans (hb3.mono hbW.size)
             rw [HP.out] at hF3; clear hb3 X1; obtain ⟨n3, xs, ys, ⟨a3, c3, b3, d3, rfl, hx3, hy3⟩, f1, f2, f3, f4⟩ := hF3; obtain ⟨q1, q2, q3, q4, q5, q6⟩ := B1.cells
             have hs := B1.lt
             go_wp2
             refine ret3 (v := .agg #[.bool n3, .slice a3 xs.length c3, .slice b3 ys.length d3]) B1 rfl (fun U hU => by obtain ⟨r1, r2, r3, _⟩ := hU.cells; simp [results, Tryz.results210, go_sem, r1, r2, r3]) (fun U hU hK => ⟨_, rfl, ⟨_, _, _, ⟨_, _, _, _, rfl, hK _ _ _ hx3, hK _ _ _ hy3⟩, f1, f2, f3, f4⟩, hU _ _ hbW (by omega)⟩)
end Go.Proofs.YtkmcodofnckdmaaGreat
