/-
  foundryref12.Read: the walk. (Written by mk_oy6.py.)
-/
import Derived.Test.YtdojgkejpfdaeaaZ14
import Derived.Test.YtdojgkejpfdaeaaZ21
namespace Go.Proofs.Ytdojgkejpfdaeaa
open Go.RowKit Go.Maps
set_option linter.unusedSimpArgs false
set_option linter.unusedVariables false

theorem rdO_O (b : List Nat) : rdOE b = (if (decide (wrOE (candO b) = 0) && decide (wrOB (candO b) = b)) = true then 0 else 2) ∧ rdOL b = (if (decide (wrOE (candO b) = 0) && decide (wrOB (candO b) = b)) = true then candO b else Ol.none) := ⟨rfl, rfl⟩

set_option maxHeartbeats 4000000 in
set_option maxRecDepth 100000 in
theorem sreadO_any (pa : Option Addr) (pc : Nat) (xs : List Nat) (w : World) (h : Rb w pa pc xs) (hxl : xs.length ≤ 4000) :
    Calls Try.prog 9 #[.slice pa xs.length pc] w fun e w' => ∃ a ca b cb, e = .returned (.tuple #[.agg #[.slice a (rdOL xs).cs.length ca, .slice b (rdOL xs).ps.length cb], .int .i64 (rdOE xs)]) ∧ Gr PnE.row (fun _ => True) w' a ca (rdOL xs).cs ∧ Gr PaE (fun _ => True) w' b cb (rdOL xs).ps ∧ Below w.heap.size w w' := by
  have hle := h.le
  have hcm := h.cap
  unfold maxLen at hcm
  have HB : Hid (∀ b o, pa = some ⟨b, o, none⟩ → xs ≠ [] → b < w.heap.size) := fun b o e hne => by
    rcases h.2.2.2.2 with h0 | ⟨b', o', e', hb', _⟩
    · exact absurd h0 hne
    · rw [e] at e'
      cases e'
      exact hb'
  obtain ⟨W, hW, X1, X2, hbW⟩ : ∃ W, W = (w.alloc (.cells #[.slice none 0 0, .slice none 0 0] 25)).alloc (.cells #[.slice pa xs.length pc, .int .i64 0] 66) ∧ Bk 25 W w.heap.size [.slice none 0 0, .slice none 0 0] ∧ Bk 66 W (w.heap.size + 1) [.slice pa xs.length pc, .int .i64 0] ∧ Below w.heap.size w W := ⟨_, rfl, (Bk.new _ _ _).below (bl1 _), Bk.new1 _ _ _ _, bl2 _ _⟩
  have hWs : W.heap.size = w.heap.size + 2 := by rw [hW]; simp
  have hrb := h.below hbW
  have hS : Sc 66 W (w.heap.size + 1) pa pc xs 0 := ⟨X2, hrb, fun b o e hne => by have := HB.out b o e hne; omega⟩
  have hu := si16R_any (w.heap.size + 1) pa pc xs 0 W hS (by omega)
  have hn := sx16_le (hd2_lt (hS.rb.lim.drop 0))
  rw [List.drop_zero] at hu hn
  have HRE : Hid (_) := (rdO_O xs).1
  have HRL : Hid (_) := (rdO_O xs).2
  have HFL : Hid (_) := candO_le xs
  have HCO : Hid (candO xs = if sx16 (hd2 xs) = -1 then ⟨[], psR ((xs.drop 2).drop 2) (min (hd2 (xs.drop 2)) 7)⟩ else if sx16 (hd2 xs) ≤ 10 then candC (sx16 (hd2 xs)).toNat (xs.drop 2) else Ol.none) := rfl
  obtain ⟨n, hn0⟩ : ∃ n, sx16 (hd2 xs) = n := ⟨_, rfl⟩
  rw [hn0] at hu hn HCO
  generalize rdOE xs = re at *
  generalize rdOL xs = rl at *
  generalize candO xs = o at *
  have HRB : Hid (Rb w pa pc xs) := h
  have HWS : Hid (W.heap.size = w.heap.size + 2) := hWs
  clear h hrb hS X2 hWs hn0 hxl
  go_enter Try.func9, Try.ntmps9
  go_wp2_with fail
  rw [← hW]
  clear hW
  refine hu.mono ?_
  rintro e y1 ⟨rfl, hS1, hK1⟩
  have hWs := HWS.out
  have hB1 : Below w.heap.size w y1 := hbW.trans (hK1.below (by omega) (by omega))
  replace X1 := X1.kp hK1 (by omega)
  have hsy := hK1.size
  clear hu
  obtain ⟨V, hV, Y1, hbV⟩ : ∃ V, V = y1.alloc (.cells #[.slice none 0 0, .slice none 0 0] 25) ∧ Bk 25 V y1.heap.size [.slice none 0 0, .slice none 0 0] ∧ Below y1.heap.size y1 V := ⟨_, rfl, Bk.new _ _ _, bl1 _⟩
  have HX1 : Hid (Bk 25 V w.heap.size [.slice none 0 0, .slice none 0 0]) := X1.below hbV
  have HY1 : Hid (Bk 25 V y1.heap.size [.slice none 0 0, .slice none 0 0]) := Y1
  have HSV : Hid (Sc 66 V (w.heap.size + 1) pa pc xs 2) := hS1.below hbV
  have HBV : Hid (Below w.heap.size w V) := hB1.trans (hbV.mono hB1.size)
  have HSZ : Hid (w.heap.size + 2 ≤ y1.heap.size ∧ y1.heap.size < V.heap.size) := ⟨by omega, Y1.lt⟩
  obtain ⟨x0, x1, f0, f1⟩ := Y1.two
  clear X1 Y1 hS1 hK1 hB1 hbV hbW hWs hsy
  go_upto_if 18 with fail
  rw [← hV]
  clear hV
  go_cut [] from 7 (fun wx => ∃ (a1 : Option Addr) (c1 : Nat) (b1 : Option Addr) (d1 : Nat), Bk 25 wx y1.heap.size [.slice a1 o.cs.length c1, .slice b1 o.ps.length d1] ∧ Bk 25 wx w.heap.size [.slice none 0 0, .slice none 0 0] ∧ Gr PnE.row (fun k => w.heap.size < k) wx a1 c1 o.cs ∧ Gr PaE (fun _ => False) wx b1 d1 o.ps ∧ (∀ c o, a1 = some ⟨c, o, none⟩ → w.heap.size < c) ∧ (∀ c o, b1 = some ⟨c, o, none⟩ → w.heap.size < c) ∧ Below w.heap.size w wx)
  case first =>
    clear HRE HRL HFL HRB
    by_cases h1 : n = -1
    · have HC : Hid (o = ⟨[], psR (xs.drop 4) (min (hd2 (xs.drop 2)) 7)⟩) := by show _ = _; rw [HCO.out, if_pos h1, List.drop_drop]
      have g1 : (n == -1) = true := by simp [h1]
      have hu2 := su16R_any (w.heap.size + 1) pa pc xs 2 V HSV.out (by omega)
      obtain ⟨z, hz⟩ : ∃ z, hd2 (xs.drop 2) = z := ⟨_, rfl⟩
      have hlt := hd2_lt (HSV.out.rb.lim.drop 2)
      rw [hz] at hu2 HC hlt
      obtain ⟨m, hm⟩ : ∃ m, min z 7 = m := ⟨_, rfl⟩
      rw [hm] at HC
      have HM : Hid (min z 7 = m) := hm
      have hm7 : m ≤ 7 := by omega
      clear h1 HCO hz hm
      go_wp2_with fail
      refine hu2.mono ?_
      rintro e y2 ⟨rfl, hS2, hK2⟩
      have HS2 : Hid (Sc 66 y2 (w.heap.size + 1) pa pc xs 4) := hS2
      have hsV := HSZ.out
      have HB2 : Hid (Below w.heap.size w y2) := HBV.out.trans (hK2.below HBV.out.size (by omega))
      have HX2 : Hid (Bk 25 y2 w.heap.size [.slice none 0 0, .slice none 0 0]) := HX1.out.kp hK2 (by omega)
      have HY2 : Hid (Bk 25 y2 y1.heap.size [.slice none 0 0, .slice none 0 0]) := HY1.out.kp hK2 (by omega)
      have HZ2 : Hid (V.heap.size ≤ y2.heap.size) := hK2.size
      clear hu2 hS2 hK2 HSV HBV HX1 HY1 x0 x1 f0 f1 hsV
      go_wp2_with fail
      go_loopw [8] (fun i wr => ∃ (k : Nat) (v : Value), k ≤ m ∧ i = .int .i64 k ∧ Gw PaE 59 V.heap.size (fun _ => False) wr v (psR (xs.drop 4) k) ∧ Bk 25 wr y1.heap.size [.slice none 0 0, v] ∧ Bk 25 wr w.heap.size [.slice none 0 0, .slice none 0 0] ∧ Sc 66 wr (w.heap.size + 1) pa pc xs (4 + 6 * k) ∧ Below w.heap.size w wr ∧ V.heap.size ≤ wr.heap.size) (fun i _ => m - (intOf i).toNat)
      case atStart => exact ⟨0, .slice none 0 0, Nat.zero_le _, rfl, Gw.nil _ _ _ _ _, HY2.out, HX2.out, HS2.out, HB2.out, HZ2.out⟩
      case round =>
        clear HS2 HB2 HX2 HY2 HZ2
        obtain ⟨k, v, hk, rfl, hG, hY, hX, hS, hBW, hVs⟩ := hrel
        obtain ⟨a3, c3, rfl, hgr, hbk⟩ := hG.slice
        by_cases hkm : k < m
        rotate_left
        · obtain rfl : k = m := by omega
          have HB3 : Hid (∀ b o, a3 = some ⟨b, o, none⟩ → w.heap.size < b) := fun b o e => by have := (hbk b o e).1; have := HSZ.out; omega
          have HGR : Hid (Gr PaE (fun _ => False) wr a3 c3 (psR (xs.drop 4) k)) := hgr
          have HY : Hid (Bk 25 wr y1.heap.size [.slice none 0 0, .slice a3 (psR (xs.drop 4) k).length c3]) := hY
          clear hgr hbk hG hY hS
          by_cases hkz : k < z
          · have gA : (k : Int) < (z : Int) := by omega
            have gB : ¬ (k : Int) ≤ 6 := by have := HM.out; omega
            clear hkz
            go_wp2_with fail
            go_meet
            exact ⟨none, 0, a3, c3, by rw [HC.out]; exact HY.out, hX, by rw [HC.out]; exact Gr.nil _ _ _ _ _ (Nat.zero_le _) (fun _ => rfl), by rw [HC.out]; exact HGR.out, (fun c o e => by cases e), HB3.out, hBW⟩
          · have gA : ¬ (k : Int) < (z : Int) := by omega
            clear hkz
            go_wp2_with fail
            go_meet
            exact ⟨none, 0, a3, c3, by rw [HC.out]; exact HY.out, hX, by rw [HC.out]; exact Gr.nil _ _ _ _ _ (Nat.zero_le _) (fun _ => rfl), by rw [HC.out]; exact HGR.out, (fun c o e => by cases e), HB3.out, hBW⟩
        have gA : decide ((k : Int) < (z : Int)) = true := decide_eq_true (by have := HM.out; omega)
        have gC : k < z := by have := HM.out; omega
        have gD : k ≤ 6 := by omega
        have gB : decide ((k : Int) ≤ 6) = true := decide_eq_true (by omega)
        have HPS : Hid (psR (xs.drop 4) (k + 1) = psR (xs.drop 4) k ++ [⟨(hd2 (xs.drop (4 + 6 * k)) : Int), sx16 (hd2 (xs.drop (4 + 6 * k + 2))), sx16 (hd2 (xs.drop (4 + 6 * k + 2 + 2)))⟩]) := by
          show _ = _
          rw [psR_succ, List.drop_drop]
          unfold paR
          rw [List.drop_drop, List.drop_drop]
        have hll : (psR (xs.drop 4) k).length + 1 ≤ 1000000 := by rw [psR_len]; omega
        have hy1 := hd2_lt (hS.rb.lim.drop (4 + 6 * k))
        have hy2 := sx16_le (hd2_lt (hS.rb.lim.drop (4 + 6 * k + 2)))
        have hy3 := sx16_le (hd2_lt (hS.rb.lim.drop (4 + 6 * k + 2 + 2)))
        have hu1 := su16R_any (w.heap.size + 1) pa pc xs (4 + 6 * k) wr hS (by omega)
        obtain ⟨gl, hgl⟩ : ∃ z, hd2 (xs.drop (4 + 6 * k)) = z := ⟨_, rfl⟩
        rw [hgl] at hu1 HPS hy1
        have HG : Hid (Gw PaE 59 V.heap.size (fun _ => False) wr (.slice a3 (psR (xs.drop 4) k).length c3) (psR (xs.drop 4) k)) := hG
        have HY : Hid (Bk 25 wr y1.heap.size [.slice none 0 0, .slice a3 (psR (xs.drop 4) k).length c3]) := hY
        have HX : Hid (Bk 25 wr w.heap.size [.slice none 0 0, .slice none 0 0]) := hX
        have HSB : Hid (Sc 66 wr (w.heap.size + 1) pa pc xs (4 + 6 * k)) := hS
        have HBW : Hid (Below w.heap.size w wr) := hBW
        have HVS : Hid (V.heap.size ≤ wr.heap.size) := hVs
        clear hgl hgr hbk hG hY hX hS hBW hVs
        generalize psR (xs.drop 4) k = L at *
        go_wp2_with fail
        refine hu1.mono ?_
        rintro e v1 ⟨rfl, hS1, hK1⟩
        clear hu1
        obtain ⟨U1, hU1, P1, hb1⟩ : ∃ U1, U1 = v1.alloc (.cells #[.int .i64 (gl : Int), .int .i64 0, .int .i64 0] 59) ∧ Bk 59 U1 v1.heap.size [.int .i64 (gl : Int), .int .i64 0, .int .i64 0] ∧ Below v1.heap.size v1 U1 := ⟨_, rfl, Bk.new _ _ _, bl1 _⟩
        have hKa := hK1.trans (Kp.of hb1)
        have hs1 := hK1.size
        have HPL : Hid (wr.heap.size ≤ v1.heap.size) := hs1
        replace hS1 := hS1.below hb1
        clear hK1 hb1 hs1
        have hu2 := si16R_any (w.heap.size + 1) pa pc xs (4 + 6 * k + 2) U1 hS1 (by omega)
        obtain ⟨dx, hdx⟩ : ∃ z, sx16 (hd2 (xs.drop (4 + 6 * k + 2))) = z := ⟨_, rfl⟩
        rw [hdx] at hu2 HPS hy2
        clear hdx
        go_wp2_with fail
        rw [← hU1]
        clear hU1
        refine hu2.mono ?_
        rintro e v2 ⟨rfl, hS2, hK2⟩
        have hne1 : v1.heap.size ≠ w.heap.size + 1 := by have := HPL.out; have := HVS.out; have := HSZ.out; omega
        have P2 := P1.kp hK2 hne1
        replace hKa := (hKa.trans hK2).other (b := v1.heap.size) 1 (.int .i64 dx) HPL.out
        have P3 := P2.set 1 (.int .i64 dx)
        have hS3 := hS2.other (b := v1.heap.size) 1 (.int .i64 dx) (fun e => hne1 e.symm) (fun c o e hne e2 => by have := HB.out c o e hne; have := HPL.out; have := HVS.out; have := HSZ.out; omega)
        obtain ⟨p0, p1, p2, q0, q1, q2⟩ := P2.three
        clear hu2 hS2 hK2 P1 P2 hS1
        obtain ⟨U2, hU2⟩ : ∃ U2, U2 = v2.setCell ⟨v1.heap.size, 1, none⟩ (.int .i64 dx) := ⟨_, rfl⟩
        rw [← hU2] at hKa P3 hS3
        have hu3 := si16R_any (w.heap.size + 1) pa pc xs (4 + 6 * k + 2 + 2) U2 hS3 (by omega)
        obtain ⟨dy, hdy⟩ : ∃ z, sx16 (hd2 (xs.drop (4 + 6 * k + 2 + 2))) = z := ⟨_, rfl⟩
        rw [hdy] at hu3 HPS hy3
        clear hdy
        go_wp2_with fail
        rw [← hU2]
        clear hU2 p0 p1 p2 q0 q1 q2
        refine hu3.mono ?_
        rintro e v3 ⟨rfl, hS4, hK3⟩
        have P4 := P3.kp hK3 hne1
        replace hKa := (hKa.trans hK3).other (b := v1.heap.size) 2 (.int .i64 dy) HPL.out
        have P5 := P4.set 2 (.int .i64 dy)
        have hS5 := hS4.other (b := v1.heap.size) 2 (.int .i64 dy) (fun e => hne1 e.symm) (fun c o e hne e2 => by have := HB.out c o e hne; have := HPL.out; have := HVS.out; have := HSZ.out; omega)
        obtain ⟨p0, p1, p2, q0, q1, q2⟩ := P4.three
        clear hu3 hS4 hK3 P3 P4 hS3
        obtain ⟨U3, hU3⟩ : ∃ U3, U3 = v3.setCell ⟨v1.heap.size, 2, none⟩ (.int .i64 dy) := ⟨_, rfl⟩
        rw [← hU3] at hKa P5 hS5
        go_upto_region 12 with fail
        rw [← hU3]
        clear hU3 p0 p1 p2 q0 q1 q2
        have hP6 : Bk 59 U3 v1.heap.size [.int .i64 (gl : Int), .int .i64 dx, .int .i64 dy] := P5
        obtain ⟨p0, p1, p2, q0, q1, q2⟩ := hP6.three
        have hG3 := HG.out.kp HSB.out.bk (by decide) hKa
        have hsz0 := HSZ.out
        have hY3 := HY.out.kp hKa (by omega)
        have hX3 := HX.out.kp hKa (by omega)
        obtain ⟨s0, s1, t0, t1⟩ := hY3.two
        have hBU : Below w.heap.size w U3 := HBW.out.trans (hKa.below HBW.out.size (by omega))
        have hsU : V.heap.size ≤ U3.heap.size := Nat.le_trans HVS.out hKa.size
        clear hP6 P5 hKa HG HY HX HSB HBW hsz0
        have hI1 : I64 (gl : Int) := ⟨by omega, by omega⟩
        have hI2 : I64 dx := ⟨by omega, by omega⟩
        have hI3 : I64 dy := ⟨by omega, by omega⟩
        have bp := bl1 (w := U3) (.cells #[.int .i64 (gl : Int), .int .i64 dx, .int .i64 dy] 59)
        have hGb := hG3.below bp
        have hSb := hS5.below bp
        have hYb := hY3.below bp
        have hXb := hX3.below bp
        have hBb : Below w.heap.size w (U3.alloc (.cells #[.int .i64 (gl : Int), .int .i64 dx, .int .i64 dy] 59)) := hBU.trans (bp.mono hBU.size)
        have hone : Gr PaE (fun k => False ∧ (Value.slice a3 L.length c3).ownBlock ≠ some k) (U3.alloc (.cells #[.int .i64 (gl : Int), .int .i64 dx, .int .i64 dy] 59)) (some ⟨U3.heap.size, 0, none⟩) 1 [⟨(gl : Int), dx, dy⟩] := Gr.one_new (E := PaE) (paC ⟨(gl : Int), dx, dy⟩) 59 (PaE_rep.2 ⟨rfl, hI1, hI2, hI3⟩)
        have hbs : V.heap.size ≤ (U3.alloc (.cells #[.int .i64 (gl : Int), .int .i64 dx, .int .i64 dy] 59)).heap.size := Nat.le_trans hsU bp.size
        clear bp hG3 hS5 hX3 hY3 hBU hsU
        go_wp2_with (at_builtin; refine wpList_append_el 23 59 Try.underlying23 info_pa rfl (by decide) (by decide) rfl _ _ rfl V.heap.size (fun _ => False) _ L rfl hGb (some ⟨U3.heap.size, 0, none⟩) 1 1 [⟨(gl : Int), dx, dy⟩] rfl rfl hone hll hbs ?_)
        intro v9 w9 hT9 hgrow _
        rw [← HPS.out] at hT9
        obtain ⟨a14, c14, e14, -, -⟩ := hT9.slice
        generalize (psR (xs.drop 4) (k + 1)).length = n14 at e14
        subst e14
        have hlo : ∀ j, (Value.slice a3 L.length c3).ownBlock = some j → w.heap.size + 2 ≤ j ∧ y1.heap.size < j := fun j e => by have := (hGb.lo e).1; have := HSZ.out; omega
        have hS9 := hSb.grown hgrow (fun e => by have := hlo _ e; omega) (fun b o e hne e2 => by have := hlo _ e2; have := HB.out b o e hne; omega)
        have hY9 := hYb.grown hgrow (fun e => by have := hlo _ e; omega)
        have hX9 := hXb.grown hgrow (fun e => by have := hlo _ e; omega)
        have hB9 : Below w.heap.size w w9 := hBb.grown hgrow hBb.size (fun j hj => by have := hlo j hj; omega)
        have hs9 : V.heap.size ≤ w9.heap.size := Nat.le_trans hbs hgrow.size
        have hv9 : (Value.slice a14 n14 c14).ownBlock ≠ some y1.heap.size := fun e => by have := (hT9.lo e).1; have := HSZ.out; omega
        clear hgrow hGb hSb hone hbs hll HPS hYb hXb hBb hlo p0 p1 p2 q0 q1 q2 s0 s1 t0 t1
        obtain ⟨s0, s1, t0, t1⟩ := hY9.two
        have HT : Hid (Gw PaE 59 V.heap.size (fun _ => False) (w9.setCell ⟨y1.heap.size, 1, none⟩ (.slice a14 n14 c14)) (.slice a14 n14 c14) (psR (xs.drop 4) (k + 1))) := hT9.stay (by simp [World.setCell]) (fun k h1 => h1.elim) (fun k hk => Below.heap_setCell _ _ _ _ (fun e => hv9 (by rw [hk]; exact congrArg some e)))
        have HYT : Hid (Bk 25 (w9.setCell ⟨y1.heap.size, 1, none⟩ (.slice a14 n14 c14)) y1.heap.size [.slice none 0 0, (.slice a14 n14 c14)]) := hY9.set 1 (.slice a14 n14 c14)
        have HXT : Hid (Bk 25 (w9.setCell ⟨y1.heap.size, 1, none⟩ (.slice a14 n14 c14)) w.heap.size [.slice none 0 0, .slice none 0 0]) := hX9.other 1 (.slice a14 n14 c14) (by have := HSZ.out; omega)
        have HST : Hid (Sc 66 (w9.setCell ⟨y1.heap.size, 1, none⟩ (.slice a14 n14 c14)) (w.heap.size + 1) pa pc xs (4 + 6 * k + 2 + 2 + 2)) := hS9.other (b := y1.heap.size) 1 (.slice a14 n14 c14) (by have := HSZ.out; omega) (fun c o e hne e2 => by have := HB.out c o e hne; have := HSZ.out; omega)
        have HBT : Hid (Below w.heap.size w (w9.setCell ⟨y1.heap.size, 1, none⟩ (.slice a14 n14 c14))) := hB9.setCell (p := ⟨y1.heap.size, 1, none⟩) (by have := HSZ.out; show w.heap.size ≤ y1.heap.size; omega) _
        have HZT : Hid (V.heap.size ≤ (w9.setCell ⟨y1.heap.size, 1, none⟩ (.slice a14 n14 c14)).heap.size) := by show _ ≤ _; simpa [World.setCell] using hs9
        clear hT9 hS9 hY9 hX9 hB9 hs9 hv9
        go_wp2
        go_roundw
        case rel => exact ⟨k + 1, (.slice a14 n14 c14), by omega, by go_num, HT.out, HYT.out, HXT.out, by rw [show 4 + 6 * (k + 1) = 4 + 6 * k + 2 + 2 + 2 by omega]; exact HST.out, HBT.out, HZT.out⟩
        case measure => simp [intOf]; omega
    · have g1 : (n == -1) = false := by simp [h1]
      by_cases h2 : n ≤ 10
      rotate_left
      · have HC : Hid (o = Ol.none) := by show _ = _; rw [HCO.out, if_neg h1, if_neg h2]
        clear h1 HCO
        go_wp2_with fail
        go_meet
        exact ⟨none, 0, none, 0, by rw [HC.out]; exact HY1.out, HX1.out, by rw [HC.out]; exact Gr.nil _ _ _ _ _ (Nat.zero_le _) (fun _ => rfl), by rw [HC.out]; exact Gr.nil _ _ _ _ _ (Nat.zero_le _) (fun _ => rfl), (fun c o e => by cases e), (fun c o e => by cases e), HBV.out⟩
      have HC : Hid (o = candC n.toNat (xs.drop 2)) := by show _ = _; rw [HCO.out, if_neg h1, if_pos h2]
      have HP : Hid (o.ps = []) := by show _ = _; rw [HC.out]; unfold candC; split <;> rfl
      have hco := scontR_any n (w.heap.size + 1) pa pc xs 2 V HSV.out (by omega) h2 (by omega) (fun b o e hne => Nat.lt_of_lt_of_le (HB.out b o e hne) HBV.out.size)
      rw [← HC.out] at hco
      clear h1 HCO HC
      go_wp2_with fail
      refine hco.mono ?_
      rintro e u2 ⟨a2, c2, rfl, hgr, hbk, hK2⟩
      clear hco
      have hsz := HSZ.out
      have hY2 := HY1.out.kp hK2 (by omega)
      have hX2 := HX1.out.kp hK2 (by omega)
      have hB2 : Below w.heap.size w u2 := HBV.out.trans (hK2.below HBV.out.size (by omega))
      obtain ⟨U, hU⟩ : ∃ U, U = (u2.setCell ⟨y1.heap.size, 0, none⟩ (.slice a2 o.cs.length c2)).setCell ⟨y1.heap.size, 1, none⟩ (.slice none 0 0) := ⟨_, rfl⟩
      have A : Bk 25 ((u2.setCell ⟨y1.heap.size, 0, none⟩ (.slice a2 o.cs.length c2)).setCell ⟨y1.heap.size, 1, none⟩ (.slice none 0 0)) y1.heap.size [.slice a2 o.cs.length c2, .slice none o.ps.length 0] := by rw [HP.out]; exact hY2.set2 (.slice a2 o.cs.length c2) (.slice none 0 0)
      have B := (hX2.other 0 (.slice a2 o.cs.length c2) (b := y1.heap.size) (by omega)).other 1 (.slice none 0 0) (b := y1.heap.size) (by omega)
      have hbU : Below w.heap.size w ((u2.setCell ⟨y1.heap.size, 0, none⟩ (.slice a2 o.cs.length c2)).setCell ⟨y1.heap.size, 1, none⟩ (.slice none 0 0)) := (hB2.setCell (p := ⟨y1.heap.size, 0, none⟩) (by show w.heap.size ≤ y1.heap.size; omega) _).setCell (p := ⟨y1.heap.size, 1, none⟩) (by show w.heap.size ≤ y1.heap.size; omega) _
      have hgU : Gr PnE.row (fun k => w.heap.size < k) ((u2.setCell ⟨y1.heap.size, 0, none⟩ (.slice a2 o.cs.length c2)).setCell ⟨y1.heap.size, 1, none⟩ (.slice none 0 0)) a2 c2 o.cs := hgr.stay (by rw [set2_size]; exact Nat.le_refl _) (fun k hk _ => ⟨by omega, set2_other _ _ (by omega)⟩) (fun b o e _ _ => set2_other _ _ (by have := hbk b o e; omega))
      have HBK : Hid (∀ c o, a2 = some ⟨c, o, none⟩ → w.heap.size < c) := fun c o e => by have := hbk c o e; omega
      rw [← hU] at A B hbU hgU
      obtain ⟨s0, s1, t0, t1⟩ := hY2.two
      clear hgr hbk hK2 hX2 hY2 hB2 x0 x1 f0 f1 hsz
      go_wp2_with fail
      rw [← hU]
      clear hU
      go_meet
      exact ⟨a2, c2, none, 0, A, B, hgU, by rw [HP.out]; exact Gr.nil _ _ _ _ _ (Nat.zero_le _) (fun _ => rfl), HBK.out, (fun c o e => by cases e), hbU⟩
  case rest =>
    obtain ⟨a1, c1, b1, d1, Y1, X1, hgc, hgp, hba, hbb, hB1⟩ := hcut
    clear x0 x1 f0 f1 HX1 HY1 HSV HBV HCO hn
    have HBA : Hid (∀ c o, a1 = some ⟨c, o, none⟩ → w.heap.size < c) := hba
    have HBB : Hid (∀ c o, b1 = some ⟨c, o, none⟩ → w.heap.size < c) := hbb
    have hwr := swriteO_any _ a1 c1 b1 d1 o wc hgc hgp.anyA (Nat.le_trans HFL.out (by decide))
    have kc := hgc.lenB
    have kp := hgp.lenB
    obtain ⟨y0, y1', _, _⟩ := Y1.two
    go_wp2_with fail
    refine hwr.mono ?_
    rintro e u2 ⟨a2, c2, rfl, hr2, hb2⟩
    clear y0 y1'
    replace X1 := X1.below hb2
    replace Y1 := Y1.below hb2
    replace hgc := hgc.below hb2
    replace hgp := hgp.below hb2
    replace hB1 : Below w.heap.size w u2 := hB1.trans (hb2.mono hB1.size)
    clear hwr hb2
    have heq := same8g_any pa a2 pc c2 xs (wrOB o) u2 (HRB.out.below hB1) hr2
    have hOK : wrOE o = 0 ∨ wrOE o ≠ 0 := by omega
    rcases hOK with h0 | h0
    rotate_left
    · have HE : Hid (re = 2 ∧ rl = Ol.none) := by rw [decide_eq_false h0, Bool.false_and] at HRE HRL; exact ⟨HRE.out, HRL.out⟩
      have g1 : (wrOE o != 0) = true := bne_iff_ne.2 h0
      clear h0 heq HRE HRL
      generalize wrOB o = ob at *
      generalize wrOE o = oe at *
      obtain ⟨x0, x1, f0, f1⟩ := X1.two
      obtain ⟨U, hU⟩ : ∃ U, U = (u2.setCell ⟨w.heap.size, 0, none⟩ (.slice none 0 0)).setCell ⟨w.heap.size, 1, none⟩ (.slice none 0 0) := ⟨_, rfl⟩
      have A := X1.set2 (.slice none 0 0) (.slice none 0 0)
      have hbU : Below w.heap.size w ((u2.setCell ⟨w.heap.size, 0, none⟩ (.slice none 0 0)).setCell ⟨w.heap.size, 1, none⟩ (.slice none 0 0)) := (hB1.setCell (p := ⟨w.heap.size, 0, none⟩) (Nat.le_refl _) _).setCell (p := ⟨w.heap.size, 1, none⟩) (Nat.le_refl _) _
      rw [← hU] at A hbU
      clear hgc hgp hba hbb hB1
      go_wp2
      rw [← hU]
      clear hU
      (try simp only [Exit.inBlock, Exit.then])
      refine bodyPost_ret (v := .tuple #[.agg #[.slice none 0 0, .slice none 0 0], .int .i64 2]) (by obtain ⟨r0, r1, _⟩ := A.two; simp [results, Try.results9, go_sem, r0, r1]) rfl ⟨none, 0, none, 0, by rw [HE.out.1, HE.out.2]; rfl, by rw [HE.out.2]; exact Gr.nil _ _ _ _ _ (Nat.zero_le _) (fun _ => rfl), by rw [HE.out.2]; exact Gr.nil _ _ _ _ _ (Nat.zero_le _) (fun _ => rfl), hbU⟩
    have g1 : (wrOE o != 0) = false := by rw [h0]; rfl
    by_cases h1 : xs = wrOB o
    rotate_left
    · have HE : Hid (re = 2 ∧ rl = Ol.none) := by rw [decide_eq_false (p := wrOB o = xs) (fun e => h1 e.symm), Bool.and_false] at HRE HRL; exact ⟨HRE.out, HRL.out⟩
      rw [decide_eq_false h1] at heq
      clear h0 h1 HRE HRL
      generalize wrOB o = ob at *
      generalize wrOE o = oe at *
      go_wp2_with fail
      refine heq.mono ?_
      rintro e u3 ⟨rfl, hb3⟩
      clear heq
      replace X1 := X1.below hb3
      replace hB1 : Below w.heap.size w u3 := hB1.trans (hb3.mono hB1.size)
      obtain ⟨x0, x1, f0, f1⟩ := X1.two
      obtain ⟨U, hU⟩ : ∃ U, U = (u3.setCell ⟨w.heap.size, 0, none⟩ (.slice none 0 0)).setCell ⟨w.heap.size, 1, none⟩ (.slice none 0 0) := ⟨_, rfl⟩
      have A := X1.set2 (.slice none 0 0) (.slice none 0 0)
      have hbU : Below w.heap.size w ((u3.setCell ⟨w.heap.size, 0, none⟩ (.slice none 0 0)).setCell ⟨w.heap.size, 1, none⟩ (.slice none 0 0)) := (hB1.setCell (p := ⟨w.heap.size, 0, none⟩) (Nat.le_refl _) _).setCell (p := ⟨w.heap.size, 1, none⟩) (Nat.le_refl _) _
      rw [← hU] at A hbU
      clear hgc hgp hba hbb hB1
      go_wp2
      rw [← hU]
      clear hU
      (try simp only [Exit.inBlock, Exit.then])
      refine bodyPost_ret (v := .tuple #[.agg #[.slice none 0 0, .slice none 0 0], .int .i64 2]) (by obtain ⟨r0, r1, _⟩ := A.two; simp [results, Try.results9, go_sem, r0, r1]) rfl ⟨none, 0, none, 0, by rw [HE.out.1, HE.out.2]; rfl, by rw [HE.out.2]; exact Gr.nil _ _ _ _ _ (Nat.zero_le _) (fun _ => rfl), by rw [HE.out.2]; exact Gr.nil _ _ _ _ _ (Nat.zero_le _) (fun _ => rfl), hbU⟩
    have HE : Hid (re = 0 ∧ rl = o) := by rw [decide_eq_true h0, decide_eq_true h1.symm, Bool.and_self] at HRE HRL; exact ⟨HRE.out, HRL.out⟩
    rw [decide_eq_true h1] at heq
    clear h0 h1 HRE HRL
    generalize wrOB o = ob at *
    generalize wrOE o = oe at *
    go_wp2_with fail
    refine heq.mono ?_
    rintro e u3 ⟨rfl, hb3⟩
    clear heq
    replace X1 := X1.below hb3
    replace Y1 := Y1.below hb3
    replace hgc := hgc.below hb3
    replace hgp := hgp.below hb3
    replace hB1 : Below w.heap.size w u3 := hB1.trans (hb3.mono hB1.size)
    obtain ⟨x0, x1, f0, f1⟩ := X1.two
    obtain ⟨y0, y1', _, _⟩ := Y1.two
    obtain ⟨U, hU⟩ : ∃ U, U = (u3.setCell ⟨w.heap.size, 0, none⟩ (.slice a1 o.cs.length c1)).setCell ⟨w.heap.size, 1, none⟩ (.slice b1 o.ps.length d1) := ⟨_, rfl⟩
    have A := X1.set2 (.slice a1 o.cs.length c1) (.slice b1 o.ps.length d1)
    have hbU : Below w.heap.size w ((u3.setCell ⟨w.heap.size, 0, none⟩ (.slice a1 o.cs.length c1)).setCell ⟨w.heap.size, 1, none⟩ (.slice b1 o.ps.length d1)) := (hB1.setCell (p := ⟨w.heap.size, 0, none⟩) (Nat.le_refl _) _).setCell (p := ⟨w.heap.size, 1, none⟩) (Nat.le_refl _) _
    have hgcU : Gr PnE.row (fun _ => True) ((u3.setCell ⟨w.heap.size, 0, none⟩ (.slice a1 o.cs.length c1)).setCell ⟨w.heap.size, 1, none⟩ (.slice b1 o.ps.length d1)) a1 c1 o.cs := hgc.stay (by rw [set2_size]; exact Nat.le_refl _) (fun k hk _ => ⟨trivial, set2_other _ _ (by omega)⟩) (fun b o e _ _ => set2_other _ _ (by have := hba b o e; omega))
    have hgpU : Gr PaE (fun _ => True) ((u3.setCell ⟨w.heap.size, 0, none⟩ (.slice a1 o.cs.length c1)).setCell ⟨w.heap.size, 1, none⟩ (.slice b1 o.ps.length d1)) b1 d1 o.ps := hgp.stay (by rw [set2_size]; exact Nat.le_refl _) (fun k hk => hk.elim) (fun b o e _ _ => set2_other _ _ (by have := hbb b o e; omega))
    rw [← hU] at A hbU hgcU hgpU
    clear hgc hgp hba hbb hB1
    go_wp2
    rw [← hU]
    clear hU
    (try simp only [Exit.inBlock, Exit.then])
    refine bodyPost_ret (v := .tuple #[.agg #[.slice a1 o.cs.length c1, .slice b1 o.ps.length d1], .int .i64 0]) (by obtain ⟨r0, r1, _⟩ := A.two; simp [results, Try.results9, go_sem, r0, r1]) rfl ⟨a1, c1, b1, d1, by rw [HE.out.1, HE.out.2], by rw [HE.out.2]; exact hgcU, by rw [HE.out.2]; exact hgpU, hbU⟩

theorem outlineBytes_any (S : Nat → Prop) (a : Option Addr) (ca : Nat) (b : Option Addr) (cb : Nat) (o : Ol) (pa : Option Addr) (pc : Nat) (xs : List Nat) (w : World) (hg : Gr PnE.row S w a ca o.cs) (hm : Gr PaE S w b cb o.ps) (hr : Rb w pa pc xs) :
    Calls Try.prog 3 #[.agg #[.slice a o.cs.length ca, .slice b o.ps.length cb], .slice pa xs.length pc] w fun e w' => e = .returned (.bool true) ∧ Below w.heap.size w w' :=
  outlineBytes_of sreadO_any S a ca b cb o pa pc xs w hg hm hr

end Go.Proofs.Ytdojgkejpfdaeaa
