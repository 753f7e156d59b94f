/-
  bytes.Equal: the walk.
  tuples.Read: the walk.
  foundryref04.Same of any two: the walk.
  foundryref14.ints, foundryref14.Same, of two alike: the walks.
  foundryref03.Coordinate: the walk.
-/
import Derived.Test.YtngmcghmniakeaaGreatZY11
import Derived.Laws.Cover1
import Derived.Test.YtngmcghmniakeaaGreatZY30
import Derived.Test.YtngmcghmniakeaaGreatZY6
set_option maxHeartbeats 8000000
set_option maxRecDepth 100000
set_option linter.unusedSimpArgs false
set_option linter.unusedVariables false
namespace Go.Proofs.YtngmcghmniakeaaGreat
open Go.RowKit Go.Maps
theorem teq_no {a b : ByteArray} (h : a ≠ b) : (a.toList == b.toList) = false := beq_eq_false_iff_ne.2 (fun e => h (toList_inj e))
theorem Rb.strA {w : World} {a : Option Addr} {cap : Nat} {xs : List Nat} (h : Rb w a cap xs) :
    (convert 44 9 (.slice a xs.length cap)).run Tryz.prog w = .ok (.string (str8 xs)) w := by
 by_cases hx : xs = []
 · subst hx
   have e : (convert 44 9 (.slice a 0 cap)).run Tryz.prog w = .ok (.string ByteArray.empty) w := by
    rw [run_convert_bytes_string w 44 9 5 _ 0 cap Tryz.underlying44 Tryz.underlying5 Tryz.underlying9]
    cases a <;> simp [Conv.bytesToString, loadCells, loadCellsFrom]
   exact e
 · exact h.str hx
theorem str8_inj {xs ys : List Nat} (hx : Byt xs) (hy : Byt ys) (e : str8 xs = str8 ys) : xs = ys := by
 rw [← sb_str8 hx, e, sb_str8 hy]
theorem equal_any (a b : Option Addr) (ca cb : Nat) (xs ys : List Nat) (w : World) (ha : Rb w a ca xs) (hb : Rb w b cb ys) :
    Calls Tryz.prog 51 #[.slice a xs.length ca, .slice b ys.length cb] w fun e w' => e = .returned (.bool (decide (xs = ys))) ∧ w = w' := by
 have h1 := ha.strA
 have h2 := hb.strA
 by_cases he : xs = ys
 · have hd := decide_eq_true he
   have hq : (str8 xs).toList == (str8 ys).toList := by rw [he]; simp
   have HD : Hid (decide (xs = ys) = true) := hd
   clear hd he
   go_enter Tryz.func51, Tryz.ntmps51
   go_wp2
   go_ret
   exact ⟨rt_bool (by rw [HD.out]), rfl⟩
 · have hd := decide_eq_false he
   have hq := teq_no (fun e => he (str8_inj ha.lim hb.lim e))
   have HD : Hid (decide (xs = ys) = false) := hd
   clear hd he
   go_enter Tryz.func51, Tryz.ntmps51
   go_wp2
   go_ret
   exact ⟨rt_bool (by rw [HD.out]), rfl⟩
theorem info_tuB : (Tryz.prog.info? 60).map (fun i => (i.zero, i.size, i.bytes)) = some (some (.agg #[.slice none 0 0, .bool false, .slice none 0 0, .slice none 0 0, .slice none 0 0]), 5, 104) := by kernel_rfl
theorem nmV_room {xs : List Nat} (h : 0 < nmV xs 0 2) : 2 ≤ xs.length := by
 unfold nmV at h
 cases hi : inB xs.length 0 2 with
 | false => rw [show inB xs.length 0 ((2 : Nat) : Int) = false from hi] at h; simp at h
 | true => simp [inB] at hi; omega
theorem Gw.kpS {α : Type} {E : El α} {t u : TypeId} {base g n : Nat} {w w' : World} {v : Value} {l : List α} {cs : List Value} (h : Gw E t base (fun k => n ≤ k) w v l) (hb : Bk u w g cs) (ht : u ≠ t) (hg : g < n) (hk : Kp g w w') : Gw E t base (fun k => n ≤ k) w' v l := by
 refine h.stay hk.size (fun k h1 _ h2 => ⟨h1, hk.block h2 (by omega)⟩) (fun k hv => hk.block (h.lo hv).2 (fun e => ?_))
 obtain ⟨cur, k1⟩ := h.ty hv
 rw [e, hb] at k1
 simp at k1
 exact ht k1.2
theorem rdK_succ {b : List Nat} {ax cnt k : Nat} {l : List Tu} {q : Nat} (h : rdK b ax cnt k = some (l, q)) {t : Tu} {q2 : Nat} (ht : rdTu b ax cnt q = some (t, q2)) : rdK b ax cnt (k + 1) = some (l ++ [t], q2) := by
 rw [rdK, h, Option.bind_some]
 dsimp only
 rw [ht]
 rfl
theorem rdK_stop {b : List Nat} {ax cnt k : Nat} {l : List Tu} {q : Nat} (h : rdK b ax cnt k = some (l, q)) (ht : rdTu b ax cnt q = none) : rdK b ax cnt (k + 1) = none := by
 rw [rdK, h, Option.bind_some]
 dsimp only
 rw [ht]
 rfl
theorem uread_any (ba : Option Addr) (bc : Nat) (xs : List Nat) (S : Nat → Prop) (a : Option Addr) (ca : Nat) (b : Option Addr) (cb : Nat) (o : Ol) (ax : Int) (w : World) (hx : Rb w ba bc xs) (hc : Gr PnE.row S w a ca o.cs) (hp : Gr PaE S w b cb o.ps) (hi : I64 ax) (hxl : xs.length ≤ 100000) :
    Calls Tryz.prog 17 #[.slice ba xs.length bc, .agg #[.slice a o.cs.length ca, .slice b o.ps.length cb], .int .i64 ax] w fun e w' => ∃ a' c', e = .returned (.tuple #[.slice a' (rdTL xs o ax).length c', .int .i64 (rdTE xs o ax)]) ∧ Gr TuE (fun _ => True) w' a' c' (rdTL xs o ax) ∧ Below w.heap.size w w' := by
 have kc := hc.lenB
 have kp := hp.lenB
 have hpc := hx.le
 have hpm := hx.cap
 unfold maxLen at hpm
 obtain ⟨W, hW, X1, hbW⟩ : ∃ W, W = w.alloc (.cells #[.slice a o.cs.length ca, .slice b o.ps.length cb] 25) ∧ Bk 25 W w.heap.size [.slice a o.cs.length ca, .slice b o.ps.length cb] ∧ Below w.heap.size w W := ⟨_, rfl, Bk.new _ _ _, bl1 _⟩
 replace hc := hc.below hbW; replace hp := hp.below hbW; replace hx := hx.below hbW
 have hu := u16_any ba bc xs 0 W hx ⟨by decide, by decide⟩
 have hnl := nmV_lt hx.lim 0 2
 have HNP : Hid (0 < nmV xs 0 2 → 2 ≤ xs.length) := nmV_room
 have HNO0 : Hid (rdTOk xs o ax = false → rdTL xs o ax = [] ∧ rdTE xs o ax = 2) := rdT_no
 have HB3 : Hid (∀ k, rdK xs ax.toNat (cntO o) k = none → k ≤ nmV xs 0 2 → rdTOk xs o ax = false) := fun k h1 h2 => rdT_bad3 h1 h2
 have HB2 : Hid (¬ nmV xs 0 2 ≤ 40 → rdTOk xs o ax = false) := rdT_bad2
 have HB4 : Hid (∀ l p, rdK xs ax.toNat (cntO o) (nmV xs 0 2) = some (l, p) → (foT o l ax = false ∨ tuBt l ≠ xs) → rdTOk xs o ax = false) := fun l p h1 h2 => rdT_bad4 h1 h2
 have HGD : Hid (∀ l p, rdK xs ax.toNat (cntO o) (nmV xs 0 2) = some (l, p) → foT o l ax = true → tuBt l = xs → rdTL xs o ax = l ∧ rdTE xs o ax = 0) := fun l p h1 h2 h3 => rdT_good h1 h2 h3
 obtain ⟨n, hn⟩ : ∃ n, nmV xs 0 2 = n := ⟨_, rfl⟩
 generalize inB xs.length 0 2 = qb at hu
 rw [hn] at hu hnl HNP HB3 HB2 HB4 HGD
 have hn6 : n < 65536 := hnl
 clear hnl hn
 have hf1 : Calls Tryz.prog 21 #[.agg #[.slice a o.cs.length ca, .slice b o.ps.length cb], .slice none 0 0, .int .i64 ax] W fun e w' => e = .returned (.bool (foT o [] ax)) ∧ Below W.heap.size W w' := cformU_any S a ca b cb o (fun _ => True) none 0 [] ax W hc hp (Gr.nil _ _ _ _ _ (Nat.zero_le _) (fun _ => rfl)) hi
 obtain ⟨p0, p1, _⟩ := X1.two
 go_enter Tryz.func17, Tryz.ntmps17
 go_upto_region 1 with fail
 rw [← hW]; clear hW
 go_wp2_with fail
 refine hu.mono ?_
 rintro e u0 ⟨rfl, rfl⟩; clear hu
 cases hfo : foT o [] ax with
 | false =>
  rw [hfo] at hf1
  have HNO : Hid (_) := HNO0.out (rdT_bad1 hfo)
  clear hfo hc hp hx HB2 HB3 HB4 HGD HNP
  go_wp2_with fail
  refine hf1.mono ?_
  rintro e m2 ⟨rfl, hb1⟩
  have hfin := hbW.trans (hb1.mono hbW.size)
  clear hb1 hf1; go_wp2
  go_ret2
  exact ⟨none, 0, by rw [HNO.out.1, HNO.out.2]; rfl, by rw [HNO.out.1]; exact Gr.nil _ _ _ _ _ (Nat.zero_le _) (fun _ => rfl), hfin⟩
 | true =>
 rw [hfo] at hf1
 obtain ⟨hF1, hF2, -, -⟩ := foT_iff.1 hfo
 have hcn := cnt_le hF1
 have hfl := (foB_iff.1 hF1).2.2.2.2.1
 have hfp := (foB_iff.1 hF1).2.2.1
 clear hfo hF1
 go_wp2_with fail
 refine hf1.mono ?_
 rintro e m2 ⟨rfl, hb1⟩; replace hc := hc.below hb1; replace hp := hp.below hb1; replace hx := hx.below hb1; replace X1 := X1.below hb1
 replace hbW := hbW.trans (hb1.mono hbW.size)
 clear hb1 hf1 p0 p1
 by_cases hn4 : n ≤ 40
 rotate_left
 · have g1 : (40 : Int) < (n : Int) := by omega
   have HNO : Hid (_) := HNO0.out (HB2.out hn4)
   clear hc hp hx HB2 HB3 HB4 HGD HNP X1; go_wp2
   go_ret2
   exact ⟨none, 0, by rw [HNO.out.1, HNO.out.2]; rfl, by rw [HNO.out.1]; exact Gr.nil _ _ _ _ _ (Nat.zero_le _) (fun _ => rfl), hbW⟩
 have g1 : ¬ (40 : Int) < (n : Int) := by omega
 obtain ⟨A, rfl⟩ : ∃ A : Nat, ax = (A : Int) := ⟨ax.toNat, by omega⟩
 rw [Int.toNat_natCast] at HB3 HB4 HGD
 obtain ⟨N, hN⟩ : ∃ N, cntO o = N := ⟨_, rfl⟩
 have HN : Hid (cntO o = N) := hN
 rw [hN] at HB3 HB4 HGD hcn; clear hN
 obtain ⟨V, hV, XS, hbV⟩ : ∃ V, V = m2.alloc (.cells #[.slice ba xs.length bc, .int .i64 2] 106) ∧ Bk 106 V m2.heap.size [.slice ba xs.length bc, .int .i64 2] ∧ Below m2.heap.size m2 V := ⟨_, rfl, Bk.new _ _ _, bl1 _⟩
 have hS0 : Sc 106 V m2.heap.size ba bc xs 2 := ⟨XS, hx.below hbV, fun b o e hne => Nat.ne_of_lt (hx.blk hne e)⟩
 have HX1 : Hid (Bk 25 m2 w.heap.size [.slice a o.cs.length ca, .slice b o.ps.length cb]) := X1
 have HC : Hid (Gr PnE.row S m2 a ca o.cs) := hc
 have HP : Hid (Gr PaE S m2 b cb o.ps) := hp
 have HX : Hid (Rb m2 ba bc xs) := hx
 have HBW : Hid (Below w.heap.size w m2) := hbW
 have HVS : Hid (V.heap.size = m2.heap.size + 1) := by show _ = _; rw [hV]; simp
 obtain ⟨g, hg⟩ : ∃ g, m2.heap.size = g := ⟨_, rfl⟩
 have HG : Hid (m2.heap.size = g) := hg
 have hB0 : Below m2.heap.size m2 V := hbV
 go_upto_region 5 with fail
 rw [← hV]; rw [hg] at hS0 HVS; clear hV XS hbV X1 hc hp hx hbW hg; go_wp2
 go_loopw [11, 33] (fun v i wr => ∃ (k : Nat) (tl : List Tu) (q : Nat), k ≤ n ∧ i = .int .i64 k ∧ rdK xs A N k = some (tl, q) ∧ (0 < n → q ≤ xs.length) ∧ Sc 106 wr g ba bc xs q ∧ Gw TuE 60 (g + 1) (fun k => g + 1 ≤ k) wr v tl ∧ g + 1 ≤ wr.heap.size ∧ Below m2.heap.size m2 wr) (fun _ i _ => n - (intOf i).toNat)
 case atStart => exact ⟨0, [], 2, Nat.zero_le _, rfl, rfl, HNP.out, hS0, Gw.nil _ _ _ _ _, by rw [HVS.out]; exact Nat.le_refl _, hB0⟩
 case round =>
  clear hS0 hB0; obtain ⟨k, tl, q, hk, rfl, hrk, hqx, hS, hGw, hgs, hB⟩ := hrel
  have hX1 := HX1.out.below hB
  have hlk := rdK_len hrk
  by_cases hkn : k < n
  · have hqx2 := hqx (by omega)
    have hcc := ccount_any S a ca b cb o wr (HC.out.below hB) (HP.out.below hB) (by omega) (by omega)
    rw [HN.out] at hcc; obtain ⟨p0, p1, _⟩ := hX1.two
    have g2 : (k : Int) < (n : Int) := by omega
    obtain ⟨a6, c6, rfl, -, -⟩ := hGw.slice; rw [hlk] at hGw ⊢
    go_wp2_with fail
    refine hcc.mono ?_
    rintro e u1 ⟨rfl, hb1⟩; replace hS := hS.below hb1; replace hGw := hGw.below hb1
    replace hB := hB.trans (hb1.mono hB.size)
    replace hgs := Nat.le_trans hgs hb1.size
    clear hcc hb1 p0 p1 hX1
    have htu := utuple_any g ba bc xs q A N u1 hS hqx2 hxl (by omega) (by omega)
    go_wp2_with fail
    refine htu.mono ?_
    rintro e u2 ⟨hta, hk2⟩
    have hs2 := hk2.size
    have hOW : ∀ q, (Value.slice a6 k c6).ownBlock = some q → g + 1 ≤ q ∧ q < u1.heap.size := fun q e => hGw.lo e
    replace hGw := hGw.kpS hS.bk (by decide) (by omega) hk2
    replace hB := hB.trans (hk2.below hB.size (by rw [HG.out]; exact Nat.le_refl _))
    cases hrd : rdTu xs A N q with
    | none =>
     rw [hrd] at hta; obtain ⟨ra, rn, rc, bb, p2, pn, p3, xa, xn, xc, ya, yn, yc, rfl⟩ := hta
     have HNO : Hid (_) := HNO0.out (HB3.out (k + 1) (rdK_stop hrk hrd) hkn)
     have hBf : Below m2.heap.size m2 (u2.alloc (.cells #[.slice ra rn rc, .bool bb, .slice p2 pn p3, .slice xa xn xc, .slice ya yn yc] 60)) := hB.trans ((bl1 _).mono hB.size)
     have HFIN : Hid (_) := HBW.out.trans (hBf.mono HBW.out.size)
     clear hrd hrk hGw hS htu hk2 hB HB2 HB3 HB4 HGD hBf; go_wp2
     go_ret2
     exact ⟨none, 0, by rw [HNO.out.1, HNO.out.2]; rfl, by rw [HNO.out.1]; exact Gr.nil _ _ _ _ _ (Nat.zero_le _) (fun _ => rfl), HFIN.out⟩
    | some r =>
     obtain ⟨t, q2⟩ := r; rw [hrd] at hta; obtain ⟨ra, rc, p2, p3, xa, xc, ya, yc, rfl, hTC, hS2, hq2⟩ := hta
     have HRK : Hid (rdK xs A N (k + 1) = some (tl ++ [t], q2)) := rdK_succ hrk hrd
     have HOW : Hid (∀ q, (Value.slice a6 k c6).ownBlock = some q → g + 1 ≤ q ∧ q < u1.heap.size) := fun q e => hOW q e
     obtain ⟨l1, l2, l3, l4⟩ := hTC.len
     obtain ⟨U, hU, XU, hbU⟩ : ∃ U, U = u2.alloc (.cells #[.slice ra t.rg.length rc, .bool t.al, .slice p2 t.pts.length p3, .slice xa t.dx.length xc, .slice ya t.dy.length yc] 60) ∧ Bk 60 U u2.heap.size [.slice ra t.rg.length rc, .bool t.al, .slice p2 t.pts.length p3, .slice xa t.dx.length xc, .slice ya t.dy.length yc] ∧ Below u2.heap.size u2 U := ⟨_, rfl, Bk.new _ _ _, bl1 _⟩
     clear hrd hrk hS htu hk2 hOW
     go_upto_region 9 with fail
     rw [← hU]; clear hU; replace hS2 := hS2.below hbU; replace hGw := hGw.below hbU; replace hTC := hTC.below hbU
     replace hB := hB.trans (hbU.mono hB.size)
     have hs3 := hbU.size
     clear hbU
     obtain ⟨V9, hV9, Y9, hb9⟩ : ∃ V, V = U.alloc (.cells #[.slice ra t.rg.length rc, .bool t.al, .slice p2 t.pts.length p3, .slice xa t.dx.length xc, .slice ya t.dy.length yc] 60) ∧ Bk 60 V U.heap.size [.slice ra t.rg.length rc, .bool t.al, .slice p2 t.pts.length p3, .slice xa t.dx.length xc, .slice ya t.dy.length yc] ∧ Below U.heap.size U V := ⟨_, rfl, Bk.new _ _ _, bl1 _⟩
     obtain ⟨y0, y1, y2, y3, y4, -⟩ := XU.five
     have hGb := hGw.below hb9
     have hrep : TuE.rep (fun q => g + 1 ≤ q ∧ (Value.slice a6 k c6).ownBlock ≠ some q) V9 [.slice ra t.rg.length rc, .bool t.al, .slice p2 t.pts.length p3, .slice xa t.dx.length xc, .slice ya t.dy.length yc] t := TuE.stay (TuE_rep.2 ⟨ra, rc, p2, p3, xa, xc, ya, yc, rfl, hTC.below hb9⟩) (Nat.le_refl _) (fun q h1 _ => ⟨⟨by omega, fun e => by have := (HOW.out q e).2; omega⟩, rfl⟩)
     have hone := Gr.one (E := TuE) hrep Y9.lt (fun j hj => Y9.cell j hj)
     have hBb : Below m2.heap.size m2 V9 := hB.trans (hb9.mono hB.size)
     have hs9 := hb9.size
     have hbs : g + 1 ≤ V9.heap.size := by omega
     have hS9 := hS2.below hb9
     have hll : tl.length + 1 ≤ 1000000 := by omega
     clear hrep hGw hTC hS2 hB
     go_wp2_with (at_builtin; rw [← hV9]; refine wpList_append_el 26 60 Tryz.underlying26 info_tuB rfl (by decide) (by decide) rfl _ _ rfl (g + 1) (fun k => g + 1 ≤ k) _ tl rfl hGb (some ⟨U.heap.size, 0, none⟩) 1 1 [t] rfl rfl hone hll hbs ?_)
     intro v9 w9 hT9 hgrow _
     rw [← hV9] at hgrow
     have hB9 : Below m2.heap.size m2 w9 := hBb.grown hgrow hBb.size (fun q hq => by have := (HOW.out q hq).1; have := HG.out; omega)
     have hS10 := hS9.grown hgrow (fun e => by have := (HOW.out g e).1; omega) (fun b o e hne e2 => by have := (HOW.out b e2).1; have := HX.out.blk hne e; have := HG.out; omega)
     have hs10 : g + 1 ≤ w9.heap.size := Nat.le_trans hbs hgrow.size
     clear hgrow hGb hone hbs hll hBb hV9 Y9 y0 y1 y2 y3 y4 XU hb9 hS9; go_wp2
     go_roundw
     case rel => exact ⟨k + 1, tl ++ [t], q2, by omega, by go_num, HRK.out, fun _ => hq2, hS10, hT9, hs10, hB9⟩
     case measure => simp [intOf]; omega
  · obtain rfl : k = n := by omega
    have g4 : ¬ (k : Int) < (k : Int) := by omega
    obtain ⟨a6, c6, rfl, hgr, -⟩ := hGw.slice
    have hwr := uwrite_any S a ca b cb o _ a6 c6 tl (A : Int) wr (HC.out.below hB) (HP.out.below hB) hgr hi
    obtain ⟨p0, p1, _⟩ := hX1.two
    have HRK : Hid (rdK xs A N k = some (tl, q)) := hrk
    have hBw := HBW.out.trans (hB.mono HBW.out.size)
    have hrx := HX.out.below hB
    clear hGw hS hrk hlk hqx hX1
    cases hfo : foT o tl (A : Int) with
    | false =>
     have HNO : Hid (_) := HNO0.out (HB4.out tl q HRK.out (.inl hfo))
     rw [(wrT_no hfo).1, (wrT_no hfo).2] at hwr
     clear hfo HB2 HB3 HB4 HGD HRK hgr
     go_wp2_with fail
     refine hwr.mono ?_
     rintro e u1 ⟨a1, c1, rfl, hr1, hb1⟩
     have hfin := hBw.trans (hb1.mono hBw.size)
     clear hwr hb1 hr1; go_wp2
     go_ret2
     exact ⟨none, 0, by rw [HNO.out.1, HNO.out.2]; rfl, by rw [HNO.out.1]; exact Gr.nil _ _ _ _ _ (Nat.zero_le _) (fun _ => rfl), hfin⟩
    | true =>
     have HFO : Hid (foT o tl (A : Int) = true) := hfo
     rw [(wrT_yes hfo).1, (wrT_yes hfo).2] at hwr
     clear hfo
     go_wp2_with fail
     refine hwr.mono ?_
     rintro e u1 ⟨a1, c1, rfl, hr1, hb1⟩
     have hfin := hBw.trans (hb1.mono hBw.size)
     have heq := equal_any a1 ba c1 bc (tuBt tl) xs u1 hr1 (hrx.below hb1)
     replace hgr := (hgr.below hb1).wide (S' := fun _ => True) (fun _ _ _ => trivial)
     have hl1 := hr1.le
     clear hwr hb1 p0 p1
     by_cases he : tuBt tl = xs
     · have HG2 : Hid (_) := HGD.out tl q HRK.out HFO.out he
       rw [decide_eq_true he] at heq; clear he HB2 HB3 HB4 HGD HNO0 HRK hr1
       generalize tuBt tl = tb at *
       go_wp2_with fail
       refine heq.mono ?_
       rintro e u2 ⟨rfl, rfl⟩; clear heq; go_wp2
       go_ret2
       exact ⟨a6, c6, by rw [HG2.out.1, HG2.out.2]; rfl, by rw [HG2.out.1]; exact hgr, hfin⟩
     · have HNO : Hid (_) := HNO0.out (HB4.out tl q HRK.out (.inr he))
       rw [decide_eq_false he] at heq; clear he HB2 HB3 HB4 HGD HNO0 HRK hr1
       generalize tuBt tl = tb at *
       go_wp2_with fail
       refine heq.mono ?_
       rintro e u2 ⟨rfl, rfl⟩; clear heq; go_wp2
       go_ret2
       exact ⟨none, 0, by rw [HNO.out.1, HNO.out.2]; rfl, by rw [HNO.out.1]; exact Gr.nil _ _ _ _ _ (Nat.zero_le _) (fun _ => rfl), hfin⟩
theorem list_diff {xs ys : List Nat} (hl : xs.length = ys.length) (h : ∀ k, k < xs.length → xs.getD k 0 = ys.getD k 0) : xs = ys := by
 apply List.ext_getElem hl
 intro i h1 h2
 have := h i h1
 simpa [List.getD, h1, h2] using this
theorem same8g_any (a b : Option Addr) (ca cb : Nat) (xs ys : List Nat) (w : World) (ha : Rb w a ca xs) (hb : Rb w b cb ys) :
    Calls Tryz.prog 19 #[.slice a xs.length ca, .slice b ys.length cb] w fun e w' => e = .returned (.bool (decide (xs = ys))) ∧ Below w.heap.size w w' := by
 by_cases hl : xs.length = ys.length
 rotate_left
 · have hne : ((xs.length : Int) != (ys.length : Int)) = true := by simp; omega
   have hd : decide (xs = ys) = false := decide_eq_false (fun e => hl (by rw [e]))
   rw [hd]
   go_enter Tryz.func19, Tryz.ntmps19
   go_wp2
   go_ret
   exact ⟨rfl, Below.refl _ _⟩
 have k1 := ha.le
 have k2 := ha.cap
 unfold maxLen at k2
 have fa := ha.fm
 have fb := hb.fm
 clear ha hb
 have HL : Hid (xs.length = ys.length) := hl
 have hne : ((xs.length : Int) != (ys.length : Int)) = false := by simp; omega
 obtain ⟨ly, hly⟩ : ∃ ly, ys.length = ly := ⟨_, rfl⟩
 rw [hly] at hl hne ⊢
 have HLY : Hid (ys.length = ly) := hly
 subst hl; clear hly
 have HD : Hid (∀ B : Bool, decide (xs = ys) = B → decide (xs = ys) = B) := fun _ h => h
 generalize hD : decide (xs = ys) = D at *
 have HDD : Hid (decide (xs = ys) = D) := hD
 clear hD HD
 go_enter Tryz.func19, Tryz.ntmps19
 go_wp2
 go_loopw [5] (fun i wr => ∃ k : Nat, k ≤ xs.length ∧ i = .int .i64 k ∧ (∀ j, j < k → xs.getD j 0 = ys.getD j 0) ∧ Below w.heap.size w wr) (fun i _ => xs.length - (intOf i).toNat)
 case atStart => exact ⟨0, Nat.zero_le _, rfl, fun j hj => by omega, Below.refl _ _⟩
 case round =>
  obtain ⟨k, hk, rfl, hall, hnx⟩ := hrel
  have HALL : Hid (∀ j, j < k → xs.getD j 0 = ys.getD j 0) := hall
  clear hall
  by_cases hkn : k < xs.length
  · obtain ⟨b1, o1, rfl, _, c1⟩ := fa.at hnx k hkn
    obtain ⟨b2, o2, rfl, _, c2⟩ := fb.at hnx k (by rw [HLY.out]; exact hkn)
    obtain ⟨x, hx⟩ : ∃ x, xs.getD k 0 = x := ⟨_, rfl⟩
    obtain ⟨y, hy⟩ : ∃ y, ys.getD k 0 = y := ⟨_, rfl⟩
    rw [hx] at c1; rw [hy] at c2
    have HX : Hid (xs.getD k 0 = x) := hx
    have HY : Hid (ys.getD k 0 = y) := hy
    clear hx hy
    have i1 : (0 : Int) ≤ (k : Int) := by omega
    have i2 : (k : Int) < (xs.length : Int) := by omega
    by_cases hxy : x = y
    · subst hxy
      have hxx : ((x : Int) != (x : Int)) = false := by simp
      go_wp2_with fail
      go_quiet (fail)
      go_wp2
      go_roundw
      case rel =>
       refine ⟨k + 1, by omega, by go_num, fun j hj => ?_, below_drewN hnx _⟩
       rcases Nat.lt_or_ge j k with h1 | h1
       · exact HALL.out j h1
       · rw [show j = k by omega, HX.out, HY.out]
      case measure => simp [intOf]; omega
    · have hxx : ((x : Int) != (y : Int)) = true := by simp; omega
      have hDf : D = false := by
       rw [← HDD.out]
       refine decide_eq_false (fun e => ?_)
       have h1 := HX.out
       rw [e, HY.out] at h1
       exact hxy h1.symm
      clear hxy
      go_wp2_with fail
      go_quiet (fail)
      go_wp2
      go_ret
      exact ⟨rt_bool (by rw [hDf]), below_drewN hnx _⟩
  · obtain rfl : k = xs.length := by omega
    have hDt : D = true := by
     rw [← HDD.out]
     exact decide_eq_true (list_diff (by rw [HLY.out]) HALL.out)
    go_wp2
    go_ret
    exact ⟨rt_bool (by rw [hDt]), hnx⟩
theorem below_set5 {B b : Nat} {w u : World} (h : Below B w u) (hb : B ≤ b) (y0 y1 y2 y3 y4 : Value) : Below B w (((((u.setCell ⟨b, 0, none⟩ y0).setCell ⟨b, 1, none⟩ y1).setCell ⟨b, 2, none⟩ y2).setCell ⟨b, 3, none⟩ y3).setCell ⟨b, 4, none⟩ y4) := ((((h.setCell (p := ⟨b, 0, none⟩) hb _).setCell (p := ⟨b, 1, none⟩) hb _).setCell (p := ⟨b, 2, none⟩) hb _).setCell (p := ⟨b, 3, none⟩) hb _).setCell (p := ⟨b, 4, none⟩) hb _
theorem sints_any (a : Option Addr) (ca : Nat) (b : Option Addr) (cb : Nat) (l : List Int) (w : World) (ha : Ri w a ca l) (hb : Ri w b cb l) :
    Calls Tryz.prog 55 #[.slice a l.length ca, .slice b l.length cb] w fun e w' => e = .returned (.bool true) ∧ Below w.heap.size w w' := by
 have k1 := ha.lenB
 have g1 : ((l.length : Int) != (l.length : Int)) = false := by simp
 go_enter Tryz.func55, Tryz.ntmps55
 go_wp2; clear g1
 go_loopw [5] (fun i wr => ∃ k : Nat, k ≤ l.length ∧ i = .int .i64 k ∧ Below w.heap.size w wr) (fun i _ => l.length - (intOf i).toNat)
 case atStart => exact ⟨0, Nat.zero_le _, rfl, Below.refl _ _⟩
 case round =>
  obtain ⟨k, hk, rfl, hnx⟩ := hrel
  by_cases hkn : k < l.length
  · obtain ⟨b1, o1, ea, _, d1⟩ := ha.at hnx k hkn
    obtain ⟨b2, o2, eb, _, d2⟩ := hb.at hnx k hkn
    generalize l.getD k 0 = z at *
    have i1 : (0 : Int) ≤ (k : Int) := by omega
    have i2 : (k : Int) < (l.length : Int) := by omega
    subst ea eb
    go_wp2_with fail
    go_quiet (fail)
    go_wp2
    go_roundw
    case rel => exact ⟨k + 1, by omega, by go_num, below_drewN hnx _⟩
    case measure => simp [intOf]; omega
  · have g1 : ¬ (k : Int) < (l.length : Int) := by omega
    go_wp2
    go_ret
    exact ⟨rfl, hnx⟩
theorem ssameU_any (S S2 : Nat → Prop) (a : Option Addr) (ca : Nat) (b : Option Addr) (cb : Nat) (l : List Tu) (w : World) (ha : Gr TuE S w a ca l) (hb : Gr TuE S2 w b cb l) :
    Calls Tryz.prog 20 #[.slice a l.length ca, .slice b l.length cb] w fun e w' => e = .returned (.bool true) ∧ Below w.heap.size w w' := by
 have k1 := ha.lenB
 have g1 : ((l.length : Int) != (l.length : Int)) = false := by simp
 obtain ⟨W, hW⟩ : ∃ W, W = w := ⟨_, rfl⟩
 rw [← hW] at ha hb ⊢; clear hW
 go_enter Tryz.func20, Tryz.ntmps20
 go_wp2; clear g1
 go_loopw [5] (fun i wr => ∃ k : Nat, k ≤ l.length ∧ i = .int .i64 k ∧ Below W.heap.size W wr) (fun i _ => l.length - (intOf i).toNat)
 case atStart => exact ⟨0, Nat.zero_le _, rfl, Below.refl _ _⟩
 case round =>
  obtain ⟨k, hk, rfl, hB⟩ := hrel
  by_cases hkn : k < l.length
  · obtain ⟨b1, o1, ra, rc, pa, pc, xa, xc, ya, yc, ea, hl1, ht1, c0, c1, c2, c3, c4⟩ := ha.tu (Below.refl _ _) k hkn
    obtain ⟨b2, o2, ra', rc', pa', pc', xa', xc', ya', yc', eb, hl2, ht2, d0, d1, d2, d3, d4⟩ := hb.tu (Below.refl _ _) k hkn
    obtain ⟨t, htt⟩ : ∃ t, l.getD k Tu.none = t := ⟨_, rfl⟩
    rw [htt] at ht1 ht2 c0 c1 c2 c3 c4 d0 d1 d2 d3 d4; clear htt; obtain ⟨n1, n2, n3, n4⟩ := ht1.len
    have HT1 : Hid (∀ U, Below W.heap.size W U → TuC S U ra rc pa pc xa xc ya yc t) := fun U hU => ht1.below hU
    have HT2 : Hid (∀ U, Below W.heap.size W U → TuC S2 U ra' rc' pa' pc' xa' xc' ya' yc' t) := fun U hU => ht2.below hU
    have HTEN : Hid (∀ u, Below W.heap.size W u → u.cell? ⟨b1, o1 + k * 5, none⟩ = some (.slice ra t.rg.length rc) ∧ u.cell? ⟨b1, o1 + k * 5 + 1, none⟩ = some (.bool t.al) ∧ u.cell? ⟨b1, o1 + k * 5 + 2, none⟩ = some (.slice pa t.pts.length pc) ∧ u.cell? ⟨b1, o1 + k * 5 + 3, none⟩ = some (.slice xa t.dx.length xc) ∧ u.cell? ⟨b1, o1 + k * 5 + 4, none⟩ = some (.slice ya t.dy.length yc) ∧ u.cell? ⟨b2, o2 + k * 5, none⟩ = some (.slice ra' t.rg.length rc') ∧ u.cell? ⟨b2, o2 + k * 5 + 1, none⟩ = some (.bool t.al) ∧ u.cell? ⟨b2, o2 + k * 5 + 2, none⟩ = some (.slice pa' t.pts.length pc') ∧ u.cell? ⟨b2, o2 + k * 5 + 3, none⟩ = some (.slice xa' t.dx.length xc') ∧ u.cell? ⟨b2, o2 + k * 5 + 4, none⟩ = some (.slice ya' t.dy.length yc')) := fun u hU => ⟨(hU.cell (p := ⟨b1, o1 + k * 5, none⟩) hl1).trans c0, (hU.cell (p := ⟨b1, o1 + k * 5 + 1, none⟩) hl1).trans c1, (hU.cell (p := ⟨b1, o1 + k * 5 + 2, none⟩) hl1).trans c2, (hU.cell (p := ⟨b1, o1 + k * 5 + 3, none⟩) hl1).trans c3, (hU.cell (p := ⟨b1, o1 + k * 5 + 4, none⟩) hl1).trans c4, (hU.cell (p := ⟨b2, o2 + k * 5, none⟩) hl2).trans d0, (hU.cell (p := ⟨b2, o2 + k * 5 + 1, none⟩) hl2).trans d1, (hU.cell (p := ⟨b2, o2 + k * 5 + 2, none⟩) hl2).trans d2, (hU.cell (p := ⟨b2, o2 + k * 5 + 3, none⟩) hl2).trans d3, (hU.cell (p := ⟨b2, o2 + k * 5 + 4, none⟩) hl2).trans d4⟩
    have i1 : (0 : Int) ≤ (k : Int) := by omega
    have i2 : (k : Int) < (l.length : Int) := by omega
    subst ea eb; clear ht1 ht2 c0 c1 c2 c3 c4 d0 d1 d2 d3 d4
    go_upto_region 6 with fail
    have hTN := HTEN.out wr hB
    refine wp_region_held_drew (S := (fun u => u.cell? ⟨b1, o1 + k * 5, none⟩ = some (.slice ra t.rg.length rc) ∧ u.cell? ⟨b1, o1 + k * 5 + 1, none⟩ = some (.bool t.al) ∧ u.cell? ⟨b1, o1 + k * 5 + 2, none⟩ = some (.slice pa t.pts.length pc) ∧ u.cell? ⟨b1, o1 + k * 5 + 3, none⟩ = some (.slice xa t.dx.length xc) ∧ u.cell? ⟨b1, o1 + k * 5 + 4, none⟩ = some (.slice ya t.dy.length yc) ∧ u.cell? ⟨b2, o2 + k * 5, none⟩ = some (.slice ra' t.rg.length rc') ∧ u.cell? ⟨b2, o2 + k * 5 + 1, none⟩ = some (.bool t.al) ∧ u.cell? ⟨b2, o2 + k * 5 + 2, none⟩ = some (.slice pa' t.pts.length pc') ∧ u.cell? ⟨b2, o2 + k * 5 + 3, none⟩ = some (.slice xa' t.dx.length xc') ∧ u.cell? ⟨b2, o2 + k * 5 + 4, none⟩ = some (.slice ya' t.dy.length yc'))) (by kernel_rfl) ?_ (fun hHeld => ?_)
    · (try dsimp only)
      exact HTEN.out _ (hB.trans (Below.drew1.mono hB.size))
    have hdr : Below wr.heap.size wr wr.drew := Below.drew1
    generalize wr.drew = ud at hdr hHeld ⊢
    replace hB := hB.trans (hdr.mono hB.size)
    clear hdr hTN; refine hT 0 hHeld ?_; refine hT 1 hHeld ?_; refine hT 2 hHeld ?_; refine hT 3 hHeld ?_; refine hT 4 hHeld ?_; refine hT 5 hHeld ?_; refine hT 6 hHeld ?_; refine hT 7 hHeld ?_
    refine wpAnyH_ready (rs := [8, 9]) (by kernel_rfl) (by simp) (hCons (i := 8) rfl (by rfl) (fun K hK => ?_) (hCons (i := 9) rfl (by rfl) (fun K hK => ?_) AllReadyH.nil))
    · go_simp
      obtain ⟨U1, hU, X6, hbA⟩ : ∃ V, V = ud.alloc (.cells #[.slice none 0 0, .bool false, .slice none 0 0, .slice none 0 0, .slice none 0 0] 60) ∧ Bk 60 V ud.heap.size [.slice none 0 0, .bool false, .slice none 0 0, .slice none 0 0, .slice none 0 0] ∧ Below ud.heap.size ud V := ⟨_, rfl, Bk.new _ _ _, bl1 _⟩
      rw [← hU]
      have hge6 : W.heap.size ≤ ud.heap.size := hB.size
      replace hB := hB.trans (hbA.mono hB.size)
      clear hU hbA
      generalize ud.heap.size = g6 at *
      refine hK.out _ _ ?_ (fun hHeld => ?_)
      · (try dsimp only)
        exact HTEN.out _ hB
      clear hK K
      try simp only [Act.put, pZ]
      refine hCall (i := 9) rfl (by kernel_rfl) (by rfl) (fun K hK => ?_)
      go_simp
      obtain ⟨U2, hU, X7, hbA⟩ : ∃ V, V = U1.alloc (.cells #[.slice none 0 0, .bool false, .slice none 0 0, .slice none 0 0, .slice none 0 0] 60) ∧ Bk 60 V U1.heap.size [.slice none 0 0, .bool false, .slice none 0 0, .slice none 0 0, .slice none 0 0] ∧ Below U1.heap.size U1 V := ⟨_, rfl, Bk.new _ _ _, bl1 _⟩
      rw [← hU]
      have hne : U1.heap.size ≠ g6 := by have := X6.lt; omega
      replace X6 := X6.below hbA
      have hge7 : W.heap.size ≤ U1.heap.size := hB.size
      replace hB := hB.trans (hbA.mono hB.size)
      clear hU hbA
      generalize U1.heap.size = g7 at *
      refine hK.out _ _ ?_ (fun hHeld => ?_)
      · (try dsimp only)
        exact HTEN.out _ hB
      clear hK K
      try simp only [Act.put, pZ]
      have hge : W.heap.size ≤ g6 ∧ W.heap.size ≤ g7 := ⟨hge6, hge7⟩
      refine hCall (i := 10) rfl (by kernel_rfl) (by rfl) (fun K hK => ?_)
      obtain ⟨y0, y1, y2, y3, y4, f0, f1, f2, f3, f4⟩ := X6.five; go_simp
      replace X6 := X6.set5U (.slice ra t.rg.length rc) (.bool t.al) (.slice pa t.pts.length pc) (.slice xa t.dx.length xc) (.slice ya t.dy.length yc)
      replace X7 := X7.other5 (b := g6) (hne) (.slice ra t.rg.length rc) (.bool t.al) (.slice pa t.pts.length pc) (.slice xa t.dx.length xc) (.slice ya t.dy.length yc)
      replace hB := below_set5 (b := g6) hB hge.1 (.slice ra t.rg.length rc) (.bool t.al) (.slice pa t.pts.length pc) (.slice xa t.dx.length xc) (.slice ya t.dy.length yc)
      clear y0 y1 y2 y3 y4 f0 f1 f2 f3 f4
      generalize (((((U2.setCell ⟨g6, 0, none⟩ (.slice ra t.rg.length rc)).setCell ⟨g6, 1, none⟩ (.bool t.al)).setCell ⟨g6, 2, none⟩ (.slice pa t.pts.length pc)).setCell ⟨g6, 3, none⟩ (.slice xa t.dx.length xc)).setCell ⟨g6, 4, none⟩ (.slice ya t.dy.length yc)) = U3 at *
      refine hK.out _ _ ?_ (fun hHeld => ?_)
      · (try dsimp only)
        exact HTEN.out _ hB
      clear hK K
      try simp only [Act.put, pZ]
      refine hCall (i := 11) rfl (by kernel_rfl) (by rfl) (fun K hK => ?_)
      obtain ⟨y0, y1, y2, y3, y4, f0, f1, f2, f3, f4⟩ := X7.five; go_simp
      replace X7 := X7.set5U (.slice ra' t.rg.length rc') (.bool t.al) (.slice pa' t.pts.length pc') (.slice xa' t.dx.length xc') (.slice ya' t.dy.length yc')
      replace X6 := X6.other5 (b := g7) (fun e => hne e.symm) (.slice ra' t.rg.length rc') (.bool t.al) (.slice pa' t.pts.length pc') (.slice xa' t.dx.length xc') (.slice ya' t.dy.length yc')
      replace hB := below_set5 (b := g7) hB hge.2 (.slice ra' t.rg.length rc') (.bool t.al) (.slice pa' t.pts.length pc') (.slice xa' t.dx.length xc') (.slice ya' t.dy.length yc')
      clear y0 y1 y2 y3 y4 f0 f1 f2 f3 f4
      generalize (((((U3.setCell ⟨g7, 0, none⟩ (.slice ra' t.rg.length rc')).setCell ⟨g7, 1, none⟩ (.bool t.al)).setCell ⟨g7, 2, none⟩ (.slice pa' t.pts.length pc')).setCell ⟨g7, 3, none⟩ (.slice xa' t.dx.length xc')).setCell ⟨g7, 4, none⟩ (.slice ya' t.dy.length yc')) = U4 at *
      refine hK.out _ _ ?_ (fun hHeld => ?_)
      · (try dsimp only)
        exact HTEN.out _ hB
      clear hK K
      try simp only [Act.put, pZ]
      refine wpAnyH_done (by kernel_rfl) ?_ _
      clear hHeld hne
      have h1 := sints_any pa pc pa' pc' t.pts U4 (HT1.out U4 hB).pts (HT2.out U4 hB).pts
      have h2 := fun U hU => sints_any xa xc xa' xc' t.dx U (HT1.out U hU).dx (HT2.out U hU).dx
      have h3 := fun U hU => sints_any ya yc ya' yc' t.dy U (HT1.out U hU).dy (HT2.out U hU).dy
      have gl : ((t.rg.length : Int) != (t.rg.length : Int)) = false := by simp
      have gb : (t.al != t.al) = false := by simp
      obtain ⟨y0, y1, y2, y3, y4, -⟩ := X6.five; obtain ⟨z0, z1, z2, z3, z4, -⟩ := X7.five
      go_wp2_with fail
      refine h1.mono ?_
      rintro e v1 ⟨rfl, hb⟩; replace X6 := X6.below hb; replace X7 := X7.below hb
      replace hB := hB.trans (hb.mono hB.size)
      clear h1 hb y0 y1 y2 y3 y4 z0 z1 z2 z3 z4; obtain ⟨y0, y1, y2, y3, y4, -⟩ := X6.five; obtain ⟨z0, z1, z2, z3, z4, -⟩ := X7.five
      go_wp2_with fail
      refine (h2 v1 hB).mono ?_
      rintro e v2 ⟨rfl, hb⟩; replace X6 := X6.below hb; replace X7 := X7.below hb
      replace hB := hB.trans (hb.mono hB.size)
      clear h2 hb y0 y1 y2 y3 y4 z0 z1 z2 z3 z4; obtain ⟨y0, y1, y2, y3, y4, -⟩ := X6.five; obtain ⟨z0, z1, z2, z3, z4, -⟩ := X7.five
      go_wp2_with fail
      refine (h3 v2 hB).mono ?_
      rintro e v3 ⟨rfl, hb⟩; replace X6 := X6.below hb; replace X7 := X7.below hb
      replace hB := hB.trans (hb.mono hB.size)
      clear h3 hb y0 y1 y2 y3 y4 z0 z1 z2 z3 z4; obtain ⟨y0, y1, y2, y3, y4, -⟩ := X6.five; obtain ⟨z0, z1, z2, z3, z4, -⟩ := X7.five
      have HX6 : Hid (Bk 60 v3 g6 [.slice ra t.rg.length rc, .bool t.al, .slice pa t.pts.length pc, .slice xa t.dx.length xc, .slice ya t.dy.length yc]) := X6
      have HX7 : Hid (Bk 60 v3 g7 [.slice ra' t.rg.length rc', .bool t.al, .slice pa' t.pts.length pc', .slice xa' t.dx.length xc', .slice ya' t.dy.length yc']) := X7
      have HP1 : Hid (Tz v3 ra rc t.rg) := (HT1.out v3 hB).tz
      have HP2 : Hid (Tz v3 ra' rc' t.rg) := (HT2.out v3 hB).tz
      have HBV : Hid (Below W.heap.size W v3) := hB
      clear X6 X7 hB; go_wp2; clear y0 y1 y2 y3 y4 z0 z1 z2 z3 z4 gl gb
      go_loopw [8] (fun i wr2 => ∃ j : Nat, j ≤ t.rg.length ∧ i = .int .i64 j ∧ Below v3.heap.size v3 wr2) (fun i _ => t.rg.length - (intOf i).toNat)
      case atStart => exact ⟨0, Nat.zero_le _, rfl, Below.refl _ _⟩
      case round =>
       obtain ⟨j, hj, rfl, hny⟩ := hrel
       obtain ⟨y0, -⟩ := (HX6.out.below hny).five
       obtain ⟨z0, -⟩ := (HX7.out.below hny).five
       by_cases hjn : j < t.rg.length
       · obtain ⟨b3, o3, ec, _, m0, m1, m2⟩ := HP1.out.at hny j hjn
         obtain ⟨b4, o4, ed, _, d0, d1, d2⟩ := HP2.out.at hny j hjn
         generalize t.rg.getD j Te.none = te at *
         obtain ⟨x, y, z⟩ := te; dsimp only at m0 m1 m2 d0 d1 d2; subst ec ed
         have i3 : (0 : Int) ≤ (j : Int) := by omega
         have i4 : (j : Int) < (t.rg.length : Int) := by omega
         go_wp2_with fail
         go_quiet (fail)
         go_wp2
         go_roundw
         case rel => exact ⟨j + 1, by omega, by go_num, below_drewN hny _⟩
         case measure => simp [intOf]; omega
       · have g1 : ¬ (j : Int) < (t.rg.length : Int) := by omega
         have hBf : Below W.heap.size W wr := HBV.out.trans (hny.mono HBV.out.size)
         go_wp2
         go_roundw
         case rel => exact ⟨k + 1, by omega, by go_num, hBf⟩
         case measure => simp [intOf]; omega
    · go_simp
      obtain ⟨U1, hU, X7, hbA⟩ : ∃ V, V = ud.alloc (.cells #[.slice none 0 0, .bool false, .slice none 0 0, .slice none 0 0, .slice none 0 0] 60) ∧ Bk 60 V ud.heap.size [.slice none 0 0, .bool false, .slice none 0 0, .slice none 0 0, .slice none 0 0] ∧ Below ud.heap.size ud V := ⟨_, rfl, Bk.new _ _ _, bl1 _⟩
      rw [← hU]
      have hge7 : W.heap.size ≤ ud.heap.size := hB.size
      replace hB := hB.trans (hbA.mono hB.size)
      clear hU hbA
      generalize ud.heap.size = g7 at *
      refine hK.out _ _ ?_ (fun hHeld => ?_)
      · (try dsimp only)
        exact HTEN.out _ hB
      clear hK K
      try simp only [Act.put, pZ]
      refine hCall (i := 8) rfl (by kernel_rfl) (by rfl) (fun K hK => ?_)
      go_simp
      obtain ⟨U2, hU, X6, hbA⟩ : ∃ V, V = U1.alloc (.cells #[.slice none 0 0, .bool false, .slice none 0 0, .slice none 0 0, .slice none 0 0] 60) ∧ Bk 60 V U1.heap.size [.slice none 0 0, .bool false, .slice none 0 0, .slice none 0 0, .slice none 0 0] ∧ Below U1.heap.size U1 V := ⟨_, rfl, Bk.new _ _ _, bl1 _⟩
      rw [← hU]
      have hne : U1.heap.size ≠ g7 := by have := X7.lt; omega
      replace X7 := X7.below hbA
      have hge6 : W.heap.size ≤ U1.heap.size := hB.size
      replace hB := hB.trans (hbA.mono hB.size)
      clear hU hbA
      generalize U1.heap.size = g6 at *
      refine hK.out _ _ ?_ (fun hHeld => ?_)
      · (try dsimp only)
        exact HTEN.out _ hB
      clear hK K
      try simp only [Act.put, pZ]
      have hge : W.heap.size ≤ g6 ∧ W.heap.size ≤ g7 := ⟨hge6, hge7⟩
      refine hCall (i := 10) rfl (by kernel_rfl) (by rfl) (fun K hK => ?_)
      obtain ⟨y0, y1, y2, y3, y4, f0, f1, f2, f3, f4⟩ := X6.five; go_simp
      replace X6 := X6.set5U (.slice ra t.rg.length rc) (.bool t.al) (.slice pa t.pts.length pc) (.slice xa t.dx.length xc) (.slice ya t.dy.length yc)
      replace X7 := X7.other5 (b := g6) (fun e => hne e.symm) (.slice ra t.rg.length rc) (.bool t.al) (.slice pa t.pts.length pc) (.slice xa t.dx.length xc) (.slice ya t.dy.length yc)
      replace hB := below_set5 (b := g6) hB hge.1 (.slice ra t.rg.length rc) (.bool t.al) (.slice pa t.pts.length pc) (.slice xa t.dx.length xc) (.slice ya t.dy.length yc)
      clear y0 y1 y2 y3 y4 f0 f1 f2 f3 f4
      generalize (((((U2.setCell ⟨g6, 0, none⟩ (.slice ra t.rg.length rc)).setCell ⟨g6, 1, none⟩ (.bool t.al)).setCell ⟨g6, 2, none⟩ (.slice pa t.pts.length pc)).setCell ⟨g6, 3, none⟩ (.slice xa t.dx.length xc)).setCell ⟨g6, 4, none⟩ (.slice ya t.dy.length yc)) = U3 at *
      refine hK.out _ _ ?_ (fun hHeld => ?_)
      · (try dsimp only)
        exact HTEN.out _ hB
      clear hK K
      try simp only [Act.put, pZ]
      refine hCall (i := 11) rfl (by kernel_rfl) (by rfl) (fun K hK => ?_)
      obtain ⟨y0, y1, y2, y3, y4, f0, f1, f2, f3, f4⟩ := X7.five; go_simp
      replace X7 := X7.set5U (.slice ra' t.rg.length rc') (.bool t.al) (.slice pa' t.pts.length pc') (.slice xa' t.dx.length xc') (.slice ya' t.dy.length yc')
      replace X6 := X6.other5 (b := g7) (hne) (.slice ra' t.rg.length rc') (.bool t.al) (.slice pa' t.pts.length pc') (.slice xa' t.dx.length xc') (.slice ya' t.dy.length yc')
      replace hB := below_set5 (b := g7) hB hge.2 (.slice ra' t.rg.length rc') (.bool t.al) (.slice pa' t.pts.length pc') (.slice xa' t.dx.length xc') (.slice ya' t.dy.length yc')
      clear y0 y1 y2 y3 y4 f0 f1 f2 f3 f4
      generalize (((((U3.setCell ⟨g7, 0, none⟩ (.slice ra' t.rg.length rc')).setCell ⟨g7, 1, none⟩ (.bool t.al)).setCell ⟨g7, 2, none⟩ (.slice pa' t.pts.length pc')).setCell ⟨g7, 3, none⟩ (.slice xa' t.dx.length xc')).setCell ⟨g7, 4, none⟩ (.slice ya' t.dy.length yc')) = U4 at *
      refine hK.out _ _ ?_ (fun hHeld => ?_)
      · (try dsimp only)
        exact HTEN.out _ hB
      clear hK K
      try simp only [Act.put, pZ]
      refine wpAnyH_done (by kernel_rfl) ?_ _
      clear hHeld hne
      have h1 := sints_any pa pc pa' pc' t.pts U4 (HT1.out U4 hB).pts (HT2.out U4 hB).pts
      have h2 := fun U hU => sints_any xa xc xa' xc' t.dx U (HT1.out U hU).dx (HT2.out U hU).dx
      have h3 := fun U hU => sints_any ya yc ya' yc' t.dy U (HT1.out U hU).dy (HT2.out U hU).dy
      have gl : ((t.rg.length : Int) != (t.rg.length : Int)) = false := by simp
      have gb : (t.al != t.al) = false := by simp
      obtain ⟨y0, y1, y2, y3, y4, -⟩ := X6.five; obtain ⟨z0, z1, z2, z3, z4, -⟩ := X7.five
      go_wp2_with fail
      refine h1.mono ?_
      rintro e v1 ⟨rfl, hb⟩; replace X6 := X6.below hb; replace X7 := X7.below hb
      replace hB := hB.trans (hb.mono hB.size)
      clear h1 hb y0 y1 y2 y3 y4 z0 z1 z2 z3 z4; obtain ⟨y0, y1, y2, y3, y4, -⟩ := X6.five; obtain ⟨z0, z1, z2, z3, z4, -⟩ := X7.five
      go_wp2_with fail
      refine (h2 v1 hB).mono ?_
      rintro e v2 ⟨rfl, hb⟩; replace X6 := X6.below hb; replace X7 := X7.below hb
      replace hB := hB.trans (hb.mono hB.size)
      clear h2 hb y0 y1 y2 y3 y4 z0 z1 z2 z3 z4; obtain ⟨y0, y1, y2, y3, y4, -⟩ := X6.five; obtain ⟨z0, z1, z2, z3, z4, -⟩ := X7.five
      go_wp2_with fail
      refine (h3 v2 hB).mono ?_
      rintro e v3 ⟨rfl, hb⟩; replace X6 := X6.below hb; replace X7 := X7.below hb
      replace hB := hB.trans (hb.mono hB.size)
      clear h3 hb y0 y1 y2 y3 y4 z0 z1 z2 z3 z4; obtain ⟨y0, y1, y2, y3, y4, -⟩ := X6.five; obtain ⟨z0, z1, z2, z3, z4, -⟩ := X7.five
      have HX6 : Hid (Bk 60 v3 g6 [.slice ra t.rg.length rc, .bool t.al, .slice pa t.pts.length pc, .slice xa t.dx.length xc, .slice ya t.dy.length yc]) := X6
      have HX7 : Hid (Bk 60 v3 g7 [.slice ra' t.rg.length rc', .bool t.al, .slice pa' t.pts.length pc', .slice xa' t.dx.length xc', .slice ya' t.dy.length yc']) := X7
      have HP1 : Hid (Tz v3 ra rc t.rg) := (HT1.out v3 hB).tz
      have HP2 : Hid (Tz v3 ra' rc' t.rg) := (HT2.out v3 hB).tz
      have HBV : Hid (Below W.heap.size W v3) := hB
      clear X6 X7 hB; go_wp2; clear y0 y1 y2 y3 y4 z0 z1 z2 z3 z4 gl gb
      go_loopw [8] (fun i wr2 => ∃ j : Nat, j ≤ t.rg.length ∧ i = .int .i64 j ∧ Below v3.heap.size v3 wr2) (fun i _ => t.rg.length - (intOf i).toNat)
      case atStart => exact ⟨0, Nat.zero_le _, rfl, Below.refl _ _⟩
      case round =>
       obtain ⟨j, hj, rfl, hny⟩ := hrel
       obtain ⟨y0, -⟩ := (HX6.out.below hny).five
       obtain ⟨z0, -⟩ := (HX7.out.below hny).five
       by_cases hjn : j < t.rg.length
       · obtain ⟨b3, o3, ec, _, m0, m1, m2⟩ := HP1.out.at hny j hjn
         obtain ⟨b4, o4, ed, _, d0, d1, d2⟩ := HP2.out.at hny j hjn
         generalize t.rg.getD j Te.none = te at *
         obtain ⟨x, y, z⟩ := te; dsimp only at m0 m1 m2 d0 d1 d2; subst ec ed
         have i3 : (0 : Int) ≤ (j : Int) := by omega
         have i4 : (j : Int) < (t.rg.length : Int) := by omega
         go_wp2_with fail
         go_quiet (fail)
         go_wp2
         go_roundw
         case rel => exact ⟨j + 1, by omega, by go_num, below_drewN hny _⟩
         case measure => simp [intOf]; omega
       · have g1 : ¬ (j : Int) < (t.rg.length : Int) := by omega
         have hBf : Below W.heap.size W wr := HBV.out.trans (hny.mono HBV.out.size)
         go_wp2
         go_roundw
         case rel => exact ⟨k + 1, by omega, by go_num, hBf⟩
         case measure => simp [intOf]; omega
  · have g1 : ¬ (k : Int) < (l.length : Int) := by omega
    go_wp2
    go_ret
    exact ⟨rfl, hB⟩
open Classical
theorem scoord_any (z : Int) (w : World) : Calls Tryz.prog 127 #[.int .i64 z] w fun e w' => e = .returned (.bool (crd z)) ∧ w = w' := by
 by_cases h1 : -16384 ≤ z
 · go_enter Tryz.func127, Tryz.ntmps127
   go_wp2
   go_ret
   exact ⟨ret_bool (by simp [crd, h1]), rfl⟩
 · go_enter Tryz.func127, Tryz.ntmps127
   go_wp2
   go_ret
   exact ⟨ret_bool (by simp [crd]; omega), rfl⟩
end Go.Proofs.YtngmcghmniakeaaGreat
