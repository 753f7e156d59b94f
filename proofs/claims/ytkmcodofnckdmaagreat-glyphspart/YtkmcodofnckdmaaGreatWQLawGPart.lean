/-
  foundrylaw15: the walk of a law.
-/
import Derived.Test.YtkmcodofnckdmaaGreatZQ31
import Derived.Test.YtkmcodofnckdmaaGreatZQ32
set_option maxHeartbeats 8000000
set_option maxRecDepth 100000
set_option linter.unusedSimpArgs false
set_option linter.unusedVariables false
namespace Go.Proofs.YtkmcodofnckdmaaGreat
open Go.RowKit Go.Maps
theorem glyphsPart_any (S : Nat → Prop) (a : Option Addr) (ca : Nat) (l : List Gl) (ga : Option Addr) (gc : Nat) (ma : Option Addr) (mc : Nat) (s : Sr) (ax : Int) (g : Int) (bx by' : Int) (w : World) (hl : Gr GlE S w a ca l) (hg : Tzz w ga gc s.rg) (hm : Rii w ma mc s.rw) (hi : I64 ax) (hgb : -9223372036854775808 ≤ g ∧ g ≤ 9223372036854775807) (hbx : -128 ≤ bx ∧ bx < 128) (hby : -128 ≤ by' ∧ by' < 128) :
    Calls Tryz.prog 6 #[.agg #[.slice a l.length ca, .slice ga s.rg.length gc, .slice ma s.rw.length mc, .int .i64 ax], .int .i64 g, .agg #[.int .i8 bx, .int .i8 by']] w fun e w' => e = .returned (.bool true) ∧ Below w.heap.size w w' := by
 have kl := hl.lenB
 have kg := hg.lenB
 have km := hm.lenB
 obtain ⟨W, hW, X1, X2, hbW⟩ : ∃ W, W = (w.alloc (.cells #[.slice a l.length ca, .slice ga s.rg.length gc, .slice ma s.rw.length mc, .int .i64 ax] 28)).alloc (.cells #[.int .i8 bx, .int .i8 by'] 52) ∧ Bk 28 W w.heap.size [.slice a l.length ca, .slice ga s.rg.length gc, .slice ma s.rw.length mc, .int .i64 ax] ∧ Bk 52 W (w.heap.size + 1) [.int .i8 bx, .int .i8 by'] ∧ Below w.heap.size w W := ⟨_, rfl, (Bk.new _ _ [.slice a l.length ca, .slice ga s.rg.length gc, .slice ma s.rw.length mc, .int .i64 ax]).below (bl1 _), Bk.new1 _ _ _ [.int .i8 bx, .int .i8 by'], bl2 _ _⟩
 replace hl := hl.below hbW; replace hg := hg.below hbW; replace hm := hm.below hbW
 have hgi : I64 g := ⟨hgb.1, hgb.2⟩
 go_enter Tryz.func6, Tryz.ntmps6
 go_upto_region 1 with fail
 rw [← hW]; clear hW
 go_wp2_with fail
 refine (awake15_any _).mono ?_
 rintro e y1 ⟨rfl, hb1⟩; replace hl := hl.below hb1; replace hg := hg.below hb1; replace hm := hm.below hb1; replace X1 := X1.below hb1
 replace hbW := hbW.trans (hb1.mono hbW.size)
 replace X2 := X2.below hb1; obtain ⟨p0, p1, p2, p3, -⟩ := X1.four; clear hb1
 go_wp2_with fail
 refine (few15_any S a ca l ga gc ma mc s ax none 0 0 _ hl hg hm (by decide)).mono ?_
 rintro e y2 ⟨⟨q, rfl, HQ⟩, hb1⟩
 replace HQ : Hid (q = true → FewG l ∧ s.rg.length ≤ 20 ∧ (∀ l ∈ s.rg, l.length ≤ 8) ∧ 0 ≤ 20) := HQ
 clear p0 p1 p2 p3; replace hl := hl.below hb1; replace hg := hg.below hb1; replace hm := hm.below hb1; replace X1 := X1.below hb1
 replace hbW := hbW.trans (hb1.mono hbW.size)
 replace X2 := X2.below hb1; obtain ⟨p0, p1, p2, p3, -⟩ := X1.four; clear hb1
 cases q with
 | false =>
  go_wp2_with fail
  refine (awake15_any _).mono ?_
  rintro e uz ⟨rfl, hbz⟩
  have hfin := hbW.trans (hbz.mono hbW.size)
  clear hbz; go_wp2
  go_ret
  exact ⟨rfl, hfin⟩
 | true =>
 have HFW : Hid (FewG l) := (HQ.out rfl).1
 clear HQ hg hm
 have hsm := small15_any S a ca l (.slice ga s.rg.length gc) (.slice ma s.rw.length mc) ax g _ hl HFW.out hgi rfl rfl
 by_cases hsz : szG l g ≤ 600
 rotate_left
 · rw [decide_eq_false hsz] at hsm
   clear hsz
   go_wp2_with fail
   refine hsm.mono ?_
   rintro e y4 ⟨rfl, hb1⟩
   replace hbW := hbW.trans (hb1.mono hbW.size)
   clear hsm hb1 p0 p1 p2 p3
   go_wp2_with fail
   refine (awake15_any _).mono ?_
   rintro e uz ⟨rfl, hbz⟩
   have hfin := hbW.trans (hbz.mono hbW.size)
   clear hbz; go_wp2
   go_ret
   exact ⟨rfl, hfin⟩
 rw [decide_eq_true hsz] at hsm
 have HSZ : Hid (szG l g ≤ 600) := hsz
 clear hsz
 go_wp2_with fail
 refine hsm.mono ?_
 rintro e y3 ⟨rfl, hb1⟩; clear hsm p0 p1 p2 p3; replace hl := hl.below hb1; replace X1 := X1.below hb1; replace X2 := X2.below hb1
 replace hbW := hbW.trans (hb1.mono hbW.size)
 obtain ⟨p0, p1, p2, p3, -⟩ := X1.four
 obtain ⟨B, hBe⟩ : ∃ b, y3.heap.size = b := ⟨_, rfl⟩
 have HBE : Hid (y3.heap.size = B) := hBe
 have hsrc : Gr GlE (fun k => True ∧ (Value.slice none 0 0).ownBlock ≠ some k) y3 a ca l := hl.wide (fun k _ _ => ⟨trivial, fun e => by cases e⟩)
 have hll : ([] : List Gl).length + l.length ≤ 1000000 := by have := HFW.out.1; simp; omega
 have hbs : B ≤ y3.heap.size := by omega
 have HL3 : Hid (Gr GlE S y3 a ca l) := hl
 have HX13 : Hid (Bk 28 y3 w.heap.size [.slice a l.length ca, .slice ga s.rg.length gc, .slice ma s.rw.length mc, .int .i64 ax]) := X1
 have HX23 : Hid (Bk 52 y3 (w.heap.size + 1) [.int .i8 bx, .int .i8 by']) := X2
 have HB3 : Hid (Below w.heap.size w y3) := hbW
 clear hb1 hBe
 go_wp2_with (at_builtin; refine wpList_append_el 22 62 Tryz.underlying22 info_gl rfl (by decide) (by decide) rfl _ _ rfl B (fun _ => True) _ [] rfl (Gw.nil _ _ _ _ _) a ca _ l rfl rfl hsrc hll hbs ?_)
 intro v4 y4 hG4 hgrow _
 have hB4 : Below B y3 y4 := (show Below B y3 y3 from Below.refl _ _).grown hgrow hbs (fun k hk => by cases hk)
 have hB4' : Below y3.heap.size y3 y4 := by rw [HBE.out]; exact hB4
 clear hgrow hsrc hll hbs hB4 p0 p1 p2 p3; obtain ⟨a4, c4, rfl, -, -⟩ := hG4.slice
 have HLO4 : Hid (∀ q, (Value.slice a4 l.length c4).ownBlock = some q → B ≤ q ∧ q < y4.heap.size) := fun q e => hG4.lo e
 replace X1 := X1.below hB4'
 replace X2 := X2.below hB4'
 replace hl := hl.below hB4'
 replace hbW := hbW.trans (hB4'.mono hbW.size)
 obtain ⟨p0, p1, p2, p3, -⟩ := X1.four; obtain ⟨q0, q1, -⟩ := X2.two
 obtain ⟨U1, hU1, Y1, b1⟩ : ∃ V, V = y4.alloc (.cells #[.int .i64 g, .int .i64 bx, .int .i64 by'] 54) ∧ Bk 54 V y4.heap.size [.int .i64 g, .int .i64 bx, .int .i64 by'] ∧ Below y4.heap.size y4 V := ⟨_, rfl, Bk.new _ _ _, bl1 _⟩
 obtain ⟨U2, hU2, Y2, b2⟩ : ∃ V, V = U1.alloc (.cells #[.slice none 0 0, .slice (some ⟨y4.heap.size, 0, none⟩) 1 1, .slice none 0 0, .int .i64 0, .int .i64 0, .bool false] 62) ∧ Bk 62 V U1.heap.size [.slice none 0 0, .slice (some ⟨y4.heap.size, 0, none⟩) 1 1, .slice none 0 0, .int .i64 0, .int .i64 0, .bool false] ∧ Below U1.heap.size U1 V := ⟨_, rfl, Bk.new _ _ _, bl1 _⟩
 have s1 : y4.heap.size + 1 = U1.heap.size := by rw [hU1]; simp
 have HS1 : Hid (y4.heap.size + 1 = U1.heap.size) := s1
 have hG5 := (hG4.below b1).below b2
 have Y1' := Y1.below b2
 have hrep := gP_rep (S := fun q => True ∧ (Value.slice a4 l.length c4).ownBlock ≠ some q) (pa_one Y1' hgi ⟨by omega, by omega⟩ ⟨by omega, by omega⟩) (fun b o e _ => by cases e; exact ⟨trivial, fun e => by have := (HLO4.out _ e).2; omega⟩) (by show 1 ≤ 1000; omega)
 have hone := Gr.one (E := GlE) hrep Y2.lt (fun j hj => Y2.cell j hj)
 have hb12 : Below y4.heap.size y4 U2 := b1.trans (b2.mono b1.size)
 have hbs : B ≤ U2.heap.size := by have h1 := hb12.size; have h2 := hB4'.size; have h3 := HBE.out; omega
 have hll : l.length + 1 ≤ 1000000 := by have := HFW.out.1; omega
 have HU1 : Hid (_ = _) := hU1
 have HU2 : Hid (_ = _) := hU2
 have hwx : IntKind.i64.wrap bx = bx := wrapi64 (by omega) (by omega)
 have hwy : IntKind.i64.wrap by' = by' := wrapi64 (by omega) (by omega)
 clear Y1 Y1' Y2 hrep s1 hU1 hU2 hG4 b1 b2
 go_wp2_with (at_builtin; rw [← HU1.out]; try rw [HS1.out]
              rw [← HU2.out]; refine wpList_append_el 22 62 Tryz.underlying22 info_gl rfl (by decide) (by decide) rfl _ _ rfl B (fun _ => True) _ l rfl hG5 (some ⟨U1.heap.size, 0, none⟩) 1 1 [gP [⟨g, bx, by'⟩]] rfl rfl hone hll hbs ?_)
 intro v6 y6 hG6 hgrow _
 have hB6 : Below y4.heap.size y4 y6 ∨ True := .inr trivial
 clear hB6
 have hB6 : Below B y3 y6 := by
  have e : (World.alloc (World.alloc y4 (.cells #[.int .i64 g, .int .i64 bx, .int .i64 by'] 54)) (.cells #[.slice none 0 0, .slice (some ⟨y4.heap.size, 0, none⟩) 1 1, .slice none 0 0, .int .i64 0, .int .i64 0, .bool false] 62)) = U2 := by rw [← HU1.out, ← HU2.out]
  try rw [e] at hgrow
  have hB2 : Below B y3 U2 := (show Below B y3 y4 from by rw [← HBE.out]; exact hB4').trans (hb12.mono (by have h2 := hB4'.size; have h3 := HBE.out; omega))
  exact hB2.grown hgrow hbs (fun q hq => (HLO4.out q hq).1)
 replace hB6 : Below y3.heap.size y3 y6 := by rw [HBE.out]; exact hB6
 clear hgrow hG5 hone hbs hll HU1 HU2 HS1 p0 p1 p2 p3 q0 q1 hb12 X1 X2 hl hbW hB4'; obtain ⟨a6, c6, rfl, -, -⟩ := hG6.slice
 have hgr6 := hG6.gr
 have HL6 : Hid (Gr GlE (fun _ => True) y6 a6 c6 (l ++ [gP [⟨g, bx, by'⟩]])) := hgr6
 have HPS : Hid (∀ x ∈ l ++ [gP [⟨g, bx, by'⟩]], x.o.ps.length ≤ 12) := fun x hx => by
  rcases List.mem_append.1 hx with hx | hx
  · exact HFW.out.ps x hx
  · rw [List.mem_singleton.1 hx]; show 1 ≤ 12; omega
 have HNO : Hid (dpG l g < 0 ∨ 6 ≤ dpG l g → dpG (l ++ [gP [⟨g, bx, by'⟩]]) (l.length : Int) = -1) := part_no
 have HYE : Hid (∀ d, dq l 6 g = some d → d < 6 → _) := fun d h1 h2 => part_yes (bx := bx) (by' := by') h1 h2 HSZ.out HFW.out.n hbx hby
 have HLN : Hid ((l ++ [gP [⟨g, bx, by'⟩]]).length = l.length + 1) := by show _ = _; rw [List.length_append]; rfl
 generalize l ++ [gP [⟨g, bx, by'⟩]] = LN at *
 rw [HLN.out]
 have X1 := HX13.out.below hB6
 have X2 := HX23.out.below hB6
 have HB6 : Hid (Below y3.heap.size y3 y6) := hB6
 have hbW := HB3.out.trans (hB6.mono HB3.out.size)
 have hni : I64 (l.length : Int) := ⟨by omega, by omega⟩
 have hd0 := gdepth_any S a ca l g _ (HL3.out.below hB6) HFW.out.ps hgi
 have hln := HFW.out.1
 obtain ⟨p0, p1, p2, p3, -⟩ := X1.four; clear hG6 hgr6 hB6 HLO4
 go_wp2_with fail
 refine hd0.mono ?_
 rintro e y7 ⟨rfl, hb1⟩; replace X1 := X1.below hb1; replace X2 := X2.below hb1
 replace hbW := hbW.trans (hb1.mono hbW.size)
 have HL7 := HL6.out.below hb1
 have HB7 : Hid (Below y3.heap.size y3 y7) := HB6.out.trans (hb1.mono HB6.out.size)
 clear hd0 p0 p1 p2 p3 hb1
 have hdn := gdepth_any (fun _ => True) a6 c6 LN (l.length : Int) y7 HL7 HPS.out hni
 rw [HLN.out] at hdn
 cases hdq : dq l 6 g with
 | none =>
  rw [dpG_none hdq] at HNO
  rw [HNO.out (.inl (by decide))] at hdn
  rw [dpG_none hdq]; clear hdq HYE
  go_wp2_with fail
  refine hdn.mono ?_
  rintro e y8 ⟨rfl, hb1⟩
  replace hbW := hbW.trans (hb1.mono hbW.size)
  clear hdn hb1; go_wp2
  go_ret
  exact ⟨rfl, hbW⟩
 | some d =>
 have hd6 := dq_le hdq
 rw [dpG_some hdq] at HNO; rw [dpG_some hdq]
 by_cases hd5 : d < 6
 rotate_left
 · rw [HNO.out (.inr (by omega))] at hdn
   have g1 : decide ((d : Int) < 0) = false := decide_eq_false (by omega)
   have g2 : decide ((6 : Int) ≤ (d : Int)) = true := decide_eq_true (by omega)
   have g3 : (6 : Int) ≤ (d : Int) := by omega
   clear hdq HYE
   go_wp2_with fail
   refine hdn.mono ?_
   rintro e y8 ⟨rfl, hb1⟩
   replace hbW := hbW.trans (hb1.mono hbW.size)
   clear hdn hb1; go_wp2
   go_ret
   exact ⟨rfl, hbW⟩
 obtain ⟨z1, z2, ⟨z3, z4⟩, z5, z6⟩ := HYE.out d hdq hd5
 have HZ12 : Hid (dpG LN (l.length : Int) = (d : Int) + 1 ∧ szG LN (l.length : Int) = szG l g) := ⟨z1, z2⟩
 have HFB : Hid (FlB 1000000000 (flG l [] 6 g).1) := (flG_bound 6 g).le (by omega)
 have HFN : Hid ((flG l [] 6 g).1.length ≤ 600 ∧ (flG l [] 6 g).1.flatten.length ≤ 600) := by
  have h1 := flG_size (l := l) (cs := []) (n := 6) (g := g)
  have h2 := szG_some hdq
  have h3 := HSZ.out
  show _ ∧ _
  omega
 have g1 : decide ((d : Int) < 0) = false := decide_eq_false (by omega)
 have g2 : decide ((6 : Int) ≤ (d : Int)) = false := decide_eq_false (by omega)
 have hat1 := gat_any (fun _ => True) a6 c6 LN g none 0 [] y7 HL7 HPS.out (Ri.nil0 _) hgi
 have hat2 := fun U (hU : Below y7.heap.size y7 U) => gat_any (fun _ => True) a6 c6 LN (l.length : Int) none 0 [] U (HL7.below hU) HPS.out (Ri.nil0 _) hni
 rw [HLN.out, z3, z4] at hat1; rw [HLN.out, z5] at hat2
 have HL7' : Hid (Gr GlE (fun _ => True) y7 a6 c6 LN) := HL7
 clear hdq HYE HNO hdn z1 z2 z3 z4 z5 HL7
 generalize flG l [] 6 g = fr at *
 obtain ⟨C, E⟩ := fr
 dsimp only at *
 go_wp2_with fail
 refine hat1.mono ?_
 rintro e y8 ⟨a8, c8, rfl, L, hGL, hLs, hLn, hb8⟩
 have HLS : Hid (L.map Prod.snd = C ∧ (L.map Prod.fst).Nodup) := ⟨hLs, hLn⟩
 clear hat1 hLs hLn
 replace hat2 := hat2 y8 hb8
 go_wp2_with fail
 refine hat2.mono ?_
 rintro e y9 ⟨a9, c9, rfl, M, hGM, hMs, -, hb9⟩; clear hat2
 have hb89 := hb8.trans (hb9.mono hb8.size)
 replace hbW := hbW.trans (hb89.mono hbW.size)
 by_cases hE : E = 0
 rotate_left
 · have g3 : (E != 0) = true := bne_iff_ne.2 hE
   have g4 : (E == 0) = false := by simpa using hE
   clear hGL hGM hMs HFB HFN z6 hE
   generalize glC LN (l.length : Int) [] = GN at *
   go_wp2
   go_ret
   exact ⟨rfl, hbW⟩
 have hmv := z6 hE
 rw [hmv] at hGM hMs; rw [hmv, hE]; clear hE z6 hmv
 have hG0 := hGL.below hb9
 have hrb := hGM.rows
 rw [hMs] at hrb
 have hgb := hrb.gr
 have hblk : ∀ b o, a9 = some ⟨b, o, none⟩ → y8.heap.size ≤ b ∧ b < y9.heap.size := fun b o e => hGM.lo (by rw [e]; rfl)
 obtain ⟨BA, hBA⟩ : ∃ b, y7.heap.size = b := ⟨_, rfl⟩
 obtain ⟨Y8, hY8⟩ : ∃ b, y8.heap.size = b := ⟨_, rfl⟩
 have HIDS : Hid (∀ q ∈ L.map Prod.fst, BA ≤ q ∧ q < Y8) := fun q hq => by
  obtain ⟨x, hx, rfl⟩ := List.mem_map.1 hq
  have h1 := hGL.ids x hx
  have h2 : y7.heap.size ≤ x.1 := h1.1
  have h3 := h1.2
  omega
 have hlt2 : w.heap.size + 1 < BA := by have := X2.lt; omega
 have HX29 : Hid (Bk 52 y9 (w.heap.size + 1) [.int .i8 bx, .int .i8 by']) := X2.below hb89
 have HX19 : Hid (Bk 28 y9 w.heap.size [.slice a l.length ca, .slice ga s.rg.length gc, .slice ma s.rw.length mc, .int .i64 ax]) := X1.below hb89
 rw [hBA] at hG0; rw [hY8] at hgb hblk
 have HGB : Hid (Gr PnE.row (fun k => Y8 ≤ k) y9 a9 c9 (mvC bx by' C)) := hgb
 have HBK : Hid (∀ b o, a9 = some ⟨b, o, none⟩ → Y8 ≤ b ∧ b < y9.heap.size) := hblk
 have HBA : Hid (y7.heap.size = BA ∧ y8.heap.size = Y8) := ⟨hBA, hY8⟩
 have HY9 : Hid (Below y7.heap.size y7 y9) := hb89
 have HBW9 : Hid (Below w.heap.size w y9) := hbW
 have HNd0 : Hid ((L.map Prod.fst).Nodup) := HLS.out.2
 have HMN : Hid ((mvC bx by' C).length = C.length) := mvC_len _ _ _
 have HI0 : Hid (L.map Prod.snd = fg C.length (fun j => (C.getD j []).map (mvQ bx by')) (fun j => C.getD j []) 0) := by show _ = _; rw [HLS.out.1, fg_zero C []]
 have hCn := HFN.out.1
 have hy79 : BA ≤ y9.heap.size := by have := hb89.size; omega
 obtain ⟨IDS, hIDS⟩ : ∃ x, L.map Prod.fst = x := ⟨_, rfl⟩
 rw [hIDS] at HIDS HNd0
 have HI1 : Hid (L.map Prod.fst = IDS ∧ L.map Prod.snd = fg C.length (fun j => (C.getD j []).map (mvQ bx by')) (fun j => C.getD j []) 0) := ⟨hIDS, HI0.out⟩
 rw [HMN.out]; clear hGL hGM hMs hrb hgb hblk hBA hY8 X1 X2 hb8 hb9 hb89 hbW HLS HI0 hIDS; go_wp2
 go_loopw [14] (fun s wr => ∃ (i : Nat) (L' : List (Nat × List Pn)), i ≤ C.length ∧ s = .int .i64 i ∧ Gw PkE 63 BA (fun k => BA ≤ k) wr (.slice a8 C.length c8) L' ∧ Hid (L'.map Prod.fst = IDS ∧ L'.map Prod.snd = fg C.length (fun j => (C.getD j []).map (mvQ bx by')) (fun j => C.getD j []) i) ∧ Keep (fun k => k < BA ∨ (Y8 ≤ k ∧ k < y9.heap.size)) y9 wr) (fun s _ => C.length - (intOf s).toNat)
 case atStart => exact ⟨0, L, Nat.zero_le _, rfl, hG0, HI1, Keep.refl _ _⟩
 case round =>
  clear hG0 HI1; obtain ⟨i, L', hi, rfl, hG, HLI, hKp⟩ := hrel
  have HLn : Hid (L'.length = C.length) := by
   have h1 := congrArg List.length HLI.out.2
   rw [List.length_map, fg_len] at h1
   exact h1
  by_cases hin : i < C.length
  · obtain ⟨c, hc⟩ : ∃ c, C.getD i [] = c := ⟨_, rfl⟩
    have HC : Hid (C.getD i [] = c) := hc
    have hcn : c.length ≤ 600 := by
     have h1 := flat_take_succ hin
     have h2 := flat_take_le C (i + 1)
     have h3 := HFN.out.2
     rw [hc] at h1
     omega
    have HFP : Hid (∀ k, k < c.length → (-1000000000 ≤ (c.getD k Pn.none).x ∧ (c.getD k Pn.none).x ≤ 1000000000) ∧ -1000000000 ≤ (c.getD k Pn.none).y ∧ (c.getD k Pn.none).y ≤ 1000000000) := fun k hk => HFB.out c (by rw [← hc]; exact getL_mem' hin) _ (get_mem hk)
    obtain ⟨gv, cv, cq0, ev, -⟩ := hG.inK (i := i) (by rw [HLn.out]; exact hin) (q := (L'.getD i (0, [])).1) (c := (L'.getD i (0, [])).2) rfl
    injection ev with ev1 ev2 ev3; clear ev2 ev3; subst ev1
    have HM0 : Hid (L'.map Prod.fst = IDS ∧ L'.map Prod.snd = (fg C.length (fun j => (C.getD j []).map (mvQ bx by')) (fun j => C.getD j []) i).set i (fg c.length (fun j => mvQ bx by' (c.getD j Pn.none)) (fun j => c.getD j Pn.none) 0)) := by
     refine ⟨HLI.out.1, ?_⟩
     rw [fg_zero c Pn.none, HLI.out.2]
     refine List.ext_getElem (by simp) (fun j h1 h2 => ?_)
     by_cases hj : j = i
     · subst hj
       have h3 := fg_get (f := fun j => (C.getD j []).map (mvQ bx by')) (h := fun j => C.getD j []) (i := j) (n := C.length) [] hin
       rw [if_neg (by omega), List.getD_eq_getElem?_getD, List.getElem?_eq_getElem (by rw [fg_len]; exact hin), Option.getD_some] at h3
       rw [h3, List.getElem_set_self]
       exact hc
     · rw [List.getElem_set_ne (fun e => hj e.symm)]
    have i0 : (i : Int) < (C.length : Int) := by omega
    have i00 : (0 : Int) ≤ (i : Int) := by omega
    clear hc HLI; go_wp2
    go_loopw [15] (fun s wr => ∃ (k : Nat) (L2 : List (Nat × List Pn)), k ≤ c.length ∧ s = .int .i64 k ∧ Gw PkE 63 BA (fun k => BA ≤ k) wr (.slice (some ⟨gv, 0, none⟩) C.length c8) L2 ∧ Hid (L2.map Prod.fst = IDS ∧ L2.map Prod.snd = (fg C.length (fun j => (C.getD j []).map (mvQ bx by')) (fun j => C.getD j []) i).set i (fg c.length (fun j => mvQ bx by' (c.getD j Pn.none)) (fun j => c.getD j Pn.none) k)) ∧ Keep (fun k => k < BA ∨ (Y8 ≤ k ∧ k < y9.heap.size)) y9 wr) (fun s _ => c.length - (intOf s).toNat)
    case atStart => exact ⟨0, L', Nat.zero_le _, rfl, hG, HM0, hKp⟩
    case round =>
     clear hG HM0 hKp HLn; obtain ⟨k, L2, hk, rfl, hG, HM, hKp⟩ := hrel
     have HLn : Hid (L2.length = C.length) := by
      have h1 := congrArg List.length HM.out.2
      rw [List.length_map, List.length_set, fg_len] at h1
      exact h1
     have HNd : Hid ((L2.map Prod.fst).Nodup) := by show List.Nodup _; rw [HM.out.1]; exact HNd0.out
     obtain ⟨⟨q, ck⟩, hqc⟩ : ∃ y, L2.getD i (0, []) = y := ⟨_, rfl⟩
     have hck : ck = fg c.length (fun j => mvQ bx by' (c.getD j Pn.none)) (fun j => c.getD j Pn.none) k := by
      have h1 := getD_snd (L := L2) (i := i) (by rw [HLn.out]; exact hin)
      rw [HM.out.2, getD_set_self (by rw [fg_len]; exact hin), hqc] at h1
      exact h1.symm
     have hqI := HIDS.out q (by
      rw [← HM.out.1]
      refine List.mem_map.2 ⟨(q, ck), ?_, rfl⟩
      rw [← hqc]
      exact get_mem (by rw [HLn.out]; exact hin))
     obtain ⟨cn, hcn0⟩ : ∃ n, c.length = n := ⟨_, rfl⟩
     have HCN : Hid (c.length = cn) := hcn0
     have HCL : Hid (ck.length = cn) := by show _ = _; rw [hck, fg_len]; exact hcn0
     have hcb : cn ≤ 600 := by omega
     by_cases hkn : k < c.length
     · have HGK0 : Hid (ck.getD k Pn.none = c.getD k Pn.none) := by show _ = _; rw [hck, fg_get _ hkn, if_neg (by omega)]
       have hpb := HFP.out k hkn
       have HCK : Hid (ck.set k (mvQ bx by' (c.getD k Pn.none)) = fg c.length (fun j => mvQ bx by' (c.getD j Pn.none)) (fun j => c.getD j Pn.none) (k + 1)) := by show _ = _; rw [hck]; exact fg_set _ rfl
       obtain ⟨⟨x, y, on⟩, hpt⟩ : ∃ p, c.getD k Pn.none = p := ⟨_, rfl⟩
       rw [hpt] at HGK0 hpb HCK; dsimp only at hpb; obtain ⟨⟨hp1, hp2⟩, hp3, hp4⟩ := hpb
       have HGK : Hid (ck.getD k Pn.none = ⟨x, y, on⟩) := HGK0.out
       have HMQ : Hid (mvQ bx by' ⟨x, y, on⟩ = ⟨x + bx, y + by', on⟩) := rfl
       rw [HMQ.out] at HCK
       have hkn' : k < cn := by omega
       have i3 : (0 : Int) ≤ (k : Int) := by omega
       have i4 : (k : Int) < (cn : Int) := by omega
       have hqa := hqI.1
       have hqb := hqI.2
       clear hck hcn0 hpt HGK0 HMQ hcn
       have hX2r := (Keep.block hKp (w.heap.size + 1) (.inl hlt2)).trans HX29.out
       obtain ⟨q0, q1, -⟩ := Bk.two (t := 52) hX2r
       have hbyl : w.heap.size + 1 < wr.heap.size := Bk.lt (t := 52) hX2r
       obtain ⟨gv', cv', cq, ev, hgvl, r0, hI, hSq, hqg⟩ := hG.inK (i := i) (by rw [HLn.out]; exact hin) hqc
       injection ev with ev1 ev2 ev3; clear ev2 ev3
       cases ev1
       obtain ⟨hql, hpw, e0, e1, ff⟩ := hI.ptK (k := k) (by rw [HCL.out]; exact hkn')
       rw [HGK.out] at e0 e1 hpw; rw [HCL.out] at r0
       have hwx : IntKind.i64.wrap bx = bx := wrapi64 (by omega) (by omega)
       have hwy : IntKind.i64.wrap by' = by' := wrapi64 (by omega) (by omega)
       have hwv : IntKind.i64.wrap (x + bx) = x + bx := wrapi64 (by omega) (by omega)
       go_upto_region 20 with fail
       refine wp_region_held_drew (S := fun w9 => w9.cell? ⟨gv, i, none⟩ = some (.slice (some ⟨q, 0, none⟩) cn cq) ∧ w9.cell? ⟨w.heap.size + 1, 0, none⟩ = some (.int .i8 bx)) (by kernel_rfl) ?_ (fun hHeld => ?_)
       · (try dsimp only)
         go_keep
       have hdr : Below wr.heap.size wr wr.drew := Below.drew1
       generalize wr.drew = Z20 at hdr hHeld ⊢
       replace r0 := (hdr.cell (p := ⟨gv, i, none⟩) hgvl).trans r0
       replace q0 := (hdr.cell (p := ⟨w.heap.size + 1, 0, none⟩) hbyl).trans q0
       replace e0 := (hdr.cell (p := ⟨q, k * 3, none⟩) hql).trans e0
       replace hG := hG.below hdr
       have hks := Keep.size hKp
       replace hKp := Keep.trans hKp (Keep.of_below hdr (fun k hk => by have hk2 : k < BA ∨ (Y8 ≤ k ∧ k < y9.heap.size) := hk; omega))
       obtain ⟨gv', cv', cq', ev, -, -, hI', -, -⟩ := hG.inK (i := i) (by rw [HLn.out]; exact hin) hqc
       have ff := (hI'.ptK (k := k) (by rw [HCL.out]; exact hkn')).2.2.2.2 (k * 3)
       clear hdr ev hI' hI hpw; refine hT 0 hHeld ?_; refine hT 1 hHeld ?_; refine hT 2 hHeld ?_; refine hT 3 hHeld ?_; refine hT 4 hHeld ?_; refine hT 5 hHeld ?_; refine hT 6 hHeld ?_; refine hT 8 hHeld ?_; refine hT 9 hHeld ?_; refine hT 10 hHeld ?_
       refine hCall (i := 7) rfl (by kernel_rfl) (by rfl) (fun K hK => ?_)
       go_simp
       refine hK.out _ _ ?_ (fun hHeld => ?_)
       · (try dsimp only)
         exact ⟨r0, q0⟩
       clear hK K
       try simp only [Act.put, pZ]
       refine hT 11 hHeld ?_; refine hT 12 hHeld ?_; refine hT 13 hHeld ?_
       refine hCall (i := 14) rfl (by kernel_rfl) (by rfl) (fun K hK => ?_)
       go_simp
       try rw [hwx]
       try rw [hwv]
       have hP := hG.putK HNd.out (i := i) (by rw [HLn.out]; exact hin) (k := k) (j := 0) (x := .int .i64 (x + bx)) (p := ⟨x + bx, y, on⟩) (by rw [hqc]; show k < List.length _; rw [HCL.out]; exact hkn') (by decide) (by rw [hqc]; dsimp only; rw [HGK.out]; rfl) ⟨⟨by dsimp only; omega, by dsimp only; omega⟩, ⟨by dsimp only; omega, by dsimp only; omega⟩⟩
       rw [hqc] at hP; dsimp only at hP; rw [Nat.add_zero] at hP
       have hr1 : (Z20.setCell ⟨q, k * 3, none⟩ (.int .i64 (x + bx))).cell? ⟨gv, i, none⟩ = some (.slice (some ⟨q, 0, none⟩) cn cq) := (World.cell?_of_block (w := Z20) (a := ⟨gv, i, none⟩) (Below.heap_setCell Z20 ⟨q, k * 3, none⟩ (.int .i64 (x + bx)) gv (by show gv ≠ q; exact fun e => hqg e.symm))).trans r0
       have hr2 : (Z20.setCell ⟨q, k * 3, none⟩ (.int .i64 (x + bx))).cell? ⟨w.heap.size + 1, 0, none⟩ = some (.int .i8 bx) := (World.cell?_of_block (w := Z20) (a := ⟨w.heap.size + 1, 0, none⟩) (Below.heap_setCell Z20 ⟨q, k * 3, none⟩ (.int .i64 (x + bx)) (w.heap.size + 1) (by show w.heap.size + 1 ≠ q; omega))).trans q0
       replace hKp := Keep.setCell hKp (p := ⟨q, k * 3, none⟩) (fun hk => by have h9 : q < BA ∨ (Y8 ≤ q ∧ q < y9.heap.size) := hk; omega) (.int .i64 (x + bx))
       refine hK.out _ _ ?_ (fun hHeld => ?_)
       · (try dsimp only)
         exact ⟨hr1, hr2⟩
       clear hK K
       try simp only [Act.put, pZ]
       refine wpAnyH_done (by kernel_rfl) ?_ _
       generalize Z20.setCell ⟨q, k * 3, none⟩ (.int .i64 (x + bx)) = w20 at *
       clear hHeld hr1 hr2 r0 q0 q1 e0 e1 ff hG hX2r hwx hwy hwv hgvl hbyl hql hqg hSq hks
       have hqc2 : (L2.set i (q, ck.set k ⟨x + bx, y, on⟩)).getD i (0, []) = (q, ck.set k ⟨x + bx, y, on⟩) := getD_set_self (by rw [HLn.out]; exact hin)
       have HLn1 : Hid ((L2.set i (q, ck.set k ⟨x + bx, y, on⟩)).length = C.length) := by show _ = _; rw [List.length_set]; exact HLn.out
       have HF1 : Hid ((L2.set i (q, ck.set k ⟨x + bx, y, on⟩)).map Prod.fst = IDS) := by
        have h := set_fst (L := L2) (i := i) (c := ck.set k ⟨x + bx, y, on⟩) (by rw [HLn.out]; exact hin)
        rw [hqc] at h
        show _ = _
        rw [h]
        exact HM.out.1
       have HS1 : Hid ((L2.set i (q, ck.set k ⟨x + bx, y, on⟩)).map Prod.snd = (L2.map Prod.snd).set i (ck.set k ⟨x + bx, y, on⟩)) := by show _ = _; rw [List.map_set]
       have HNd1 : Hid (((L2.set i (q, ck.set k ⟨x + bx, y, on⟩)).map Prod.fst).Nodup) := by show List.Nodup _; rw [HF1.out]; exact HNd0.out
       have HGK1 : Hid ((ck.set k ⟨x + bx, y, on⟩).getD k Pn.none = ⟨x + bx, y, on⟩) := getD_set_self (by rw [HCL.out]; exact hkn')
       have HCL1 : Hid ((ck.set k ⟨x + bx, y, on⟩).length = cn) := by show _ = _; rw [List.length_set]; exact HCL.out
       have HCS : Hid ((ck.set k ⟨x + bx, y, on⟩).set k ⟨x + bx, y + by', on⟩ = ck.set k ⟨x + bx, y + by', on⟩) := by show _ = _; rw [List.set_set]
       clear HCL
       have HCL : Hid ((ck.set k ⟨x + bx, y, on⟩).length = cn) := HCL1.out
       generalize ck.set k ⟨x + bx, y, on⟩ = ck1 at *
       generalize L2.set i (q, ck1) = L3 at *
       replace hqc := hqc2
       clear hqc2
       have hG := hP
       clear hP
       have hX2r := (Keep.block hKp (w.heap.size + 1) (.inl hlt2)).trans HX29.out
       obtain ⟨q0, q1, -⟩ := Bk.two (t := 52) hX2r
       have hbyl : w.heap.size + 1 < w20.heap.size := Bk.lt (t := 52) hX2r
       obtain ⟨gv', cv', cq, ev, hgvl, r0, hI, hSq, hqg⟩ := hG.inK (i := i) (by rw [HLn1.out]; exact hin) hqc
       injection ev with ev1 ev2 ev3; clear ev2 ev3
       cases ev1
       obtain ⟨hql, hpw, e0, e1, ff⟩ := hI.ptK (k := k) (by rw [HCL.out]; exact hkn')
       rw [HGK1.out] at e0 e1 hpw; rw [HCL.out] at r0
       have hwx : IntKind.i64.wrap bx = bx := wrapi64 (by omega) (by omega)
       have hwy : IntKind.i64.wrap by' = by' := wrapi64 (by omega) (by omega)
       have hwv : IntKind.i64.wrap (y + by') = y + by' := wrapi64 (by omega) (by omega)
       go_upto_region 21 with fail
       refine wp_region_held_drew (S := fun w9 => w9.cell? ⟨gv, i, none⟩ = some (.slice (some ⟨q, 0, none⟩) cn cq) ∧ w9.cell? ⟨w.heap.size + 1, 1, none⟩ = some (.int .i8 by')) (by kernel_rfl) ?_ (fun hHeld => ?_)
       · (try dsimp only)
         go_keep
       have hdr : Below w20.heap.size w20 w20.drew := Below.drew1
       generalize w20.drew = Z21 at hdr hHeld ⊢
       replace r0 := (hdr.cell (p := ⟨gv, i, none⟩) hgvl).trans r0
       replace q1 := (hdr.cell (p := ⟨w.heap.size + 1, 1, none⟩) hbyl).trans q1
       replace e1 := (hdr.cell (p := ⟨q, k * 3 + 1, none⟩) hql).trans e1
       replace hG := hG.below hdr
       have hks := Keep.size hKp
       replace hKp := Keep.trans hKp (Keep.of_below hdr (fun k hk => by have hk2 : k < BA ∨ (Y8 ≤ k ∧ k < y9.heap.size) := hk; omega))
       obtain ⟨gv', cv', cq', ev, -, -, hI', -, -⟩ := hG.inK (i := i) (by rw [HLn1.out]; exact hin) hqc
       have ff := (hI'.ptK (k := k) (by rw [HCL.out]; exact hkn')).2.2.2.2 (k * 3 + 1)
       clear hdr ev hI' hI hpw; refine hT 0 hHeld ?_; refine hT 1 hHeld ?_; refine hT 2 hHeld ?_; refine hT 3 hHeld ?_; refine hT 4 hHeld ?_; refine hT 5 hHeld ?_; refine hT 6 hHeld ?_; refine hT 8 hHeld ?_; refine hT 9 hHeld ?_; refine hT 10 hHeld ?_
       refine hCall (i := 7) rfl (by kernel_rfl) (by rfl) (fun K hK => ?_)
       go_simp
       refine hK.out _ _ ?_ (fun hHeld => ?_)
       · (try dsimp only)
         exact ⟨r0, q1⟩
       clear hK K
       try simp only [Act.put, pZ]
       refine hT 11 hHeld ?_; refine hT 12 hHeld ?_; refine hT 13 hHeld ?_
       refine hCall (i := 14) rfl (by kernel_rfl) (by rfl) (fun K hK => ?_)
       go_simp
       try rw [hwy]
       try rw [hwv]
       have hP := hG.putK HNd1.out (i := i) (by rw [HLn1.out]; exact hin) (k := k) (j := 1) (x := .int .i64 (y + by')) (p := ⟨x + bx, y + by', on⟩) (by rw [hqc]; show k < List.length _; rw [HCL.out]; exact hkn') (by decide) (by rw [hqc]; dsimp only; rw [HGK1.out]; rfl) ⟨⟨by dsimp only; omega, by dsimp only; omega⟩, ⟨by dsimp only; omega, by dsimp only; omega⟩⟩
       rw [hqc] at hP; dsimp only at hP
       skip
       have hr1 : (Z21.setCell ⟨q, k * 3 + 1, none⟩ (.int .i64 (y + by'))).cell? ⟨gv, i, none⟩ = some (.slice (some ⟨q, 0, none⟩) cn cq) := (World.cell?_of_block (w := Z21) (a := ⟨gv, i, none⟩) (Below.heap_setCell Z21 ⟨q, k * 3 + 1, none⟩ (.int .i64 (y + by')) gv (by show gv ≠ q; exact fun e => hqg e.symm))).trans r0
       have hr2 : (Z21.setCell ⟨q, k * 3 + 1, none⟩ (.int .i64 (y + by'))).cell? ⟨w.heap.size + 1, 1, none⟩ = some (.int .i8 by') := (World.cell?_of_block (w := Z21) (a := ⟨w.heap.size + 1, 1, none⟩) (Below.heap_setCell Z21 ⟨q, k * 3 + 1, none⟩ (.int .i64 (y + by')) (w.heap.size + 1) (by show w.heap.size + 1 ≠ q; omega))).trans q1
       replace hKp := Keep.setCell hKp (p := ⟨q, k * 3 + 1, none⟩) (fun hk => by have h9 : q < BA ∨ (Y8 ≤ q ∧ q < y9.heap.size) := hk; omega) (.int .i64 (y + by'))
       refine hK.out _ _ ?_ (fun hHeld => ?_)
       · (try dsimp only)
         exact ⟨hr1, hr2⟩
       clear hK K
       try simp only [Act.put, pZ]
       refine wpAnyH_done (by kernel_rfl) ?_ _
       generalize Z21.setCell ⟨q, k * 3 + 1, none⟩ (.int .i64 (y + by')) = w21 at *
       clear hHeld hr1 hr2 r0 q0 q1 e0 e1 ff hG hX2r hwx hwy hwv hgvl hbyl hql hqg hSq hks
       have HF2 : Hid ((L3.set i (q, ck1.set k ⟨x + bx, y + by', on⟩)).map Prod.fst = IDS ∧ (L3.set i (q, ck1.set k ⟨x + bx, y + by', on⟩)).map Prod.snd = (fg C.length (fun j => (C.getD j []).map (mvQ bx by')) (fun j => C.getD j []) i).set i (fg c.length (fun j => mvQ bx by' (c.getD j Pn.none)) (fun j => c.getD j Pn.none) (k + 1))) := by
        constructor
        · have h := set_fst (L := L3) (i := i) (c := ck1.set k ⟨x + bx, y + by', on⟩) (by rw [HLn1.out]; exact hin)
          rw [hqc] at h; rw [h]
          exact HF1.out
        · rw [List.map_set, HS1.out, HM.out.2, List.set_set, List.set_set, HCS.out, HCK.out]
       generalize L3.set i (q, ck1.set k ⟨x + bx, y + by', on⟩) = L4 at *
       clear HF1 HS1 HNd1 HGK1 HCL1 HCS HCL hqc HCK HGK; go_wp2
       go_roundw
       case rel => exact ⟨k + 1, L4, by omega, by go_num, hP, HF2, hKp⟩
       case measure => simp [intOf]; omega
     · have HE : Hid (L2.map Prod.fst = IDS ∧ L2.map Prod.snd = fg C.length (fun j => (C.getD j []).map (mvQ bx by')) (fun j => C.getD j []) (i + 1)) := by
         refine ⟨HM.out.1, ?_⟩
         rw [HM.out.2, show k = c.length by omega, fg_all c Pn.none (mvQ bx by'), fg_set _ (by rw [HC.out])]
       obtain ⟨gv', cv', cq, ev, hgvl, r0, -, -, -⟩ := hG.inK (i := i) (by rw [HLn.out]; exact hin) hqc
       injection ev with ev1 ev2 ev3; clear ev2 ev3
       cases ev1
       rw [HCL.out] at r0
       have g4 : ¬ (k : Int) < (cn : Int) := by omega
       clear hck HM hcn0 hgvl; go_wp2
       go_roundw
       case rel => exact ⟨i + 1, L2, by omega, by go_num, hG, HE, hKp⟩
       case measure => simp [intOf]; omega
  · have ei : i = C.length := by omega
    have g4 : ¬ (i : Int) < (C.length : Int) := by omega
    have HRW : Hid (L'.map Prod.snd = mvC bx by' C) := by
     show _ = _
     rw [HLI.out.2, ei]
     exact fg_all C [] (fun c => c.map (mvQ bx by')) _
    have hga := hG.rows
    rw [HRW.out] at hga
    replace hga := hga.gr
    have hgb : Gr PnE.row (fun k => Y8 ≤ k) wr a9 c9 (mvC bx by' C) := HGB.out.stay (Keep.size hKp) (fun k hk hl => ⟨hk, Keep.block hKp k (.inr ⟨hk, hl⟩)⟩) (fun b o e _ hb => Keep.block hKp b (.inr ⟨(HBK.out b o e).1, hb⟩))
    have hkb : Below y7.heap.size y9 wr := by rw [HBA.out.1]; exact Keep.below hKp (fun k hk => .inl hk)
    have hB1 : Below y7.heap.size y7 wr := HY9.out.trans hkb
    have hLN := HL7'.out.below hB1
    have hLl := HL3.out.below (HB7.out.trans (hB1.mono HB7.out.size))
    have hwb : Below w.heap.size w wr := HBW9.out.trans (hkb.mono (by have := HBA.out.1; omega))
    have hX := (Keep.block hKp w.heap.size (.inl (by omega))).trans HX19.out
    obtain ⟨p0, -, -, -, -⟩ := Bk.four (t := 28) hX
    have hxl : w.heap.size < wr.heap.size := Bk.lt (t := 28) hX
    have hp := fun U (hU : Below wr.heap.size wr U) => (hU.cell (p := ⟨w.heap.size, 0, none⟩) hxl).trans p0
    have hsc := fun U (hU : Below wr.heap.size wr U) => ssameC_any _ _ a8 c8 a9 c9 (mvC bx by' C) U (hga.below hU) (hgb.below hU)
    have hdp := fun U (hU : Below wr.heap.size wr U) => gdepth_any (fun _ => True) a6 c6 LN (l.length : Int) U (hLN.below hU) HPS.out hni
    have hsn := fun U (hU : Below wr.heap.size wr U) => gsize_any (fun _ => True) a6 c6 LN (l.length : Int) U (hLN.below hU) HPS.out hni
    have hsl := fun U (hU : Below wr.heap.size wr U) => gsize_any S a ca l g U (hLl.below hU) HFW.out.ps hgi
    rw [HMN.out] at hsc; rw [HLN.out, HZ12.out.1] at hdp; rw [HLN.out, HZ12.out.2] at hsn
    have hszb := HSZ.out
    generalize szG l g = sz at *
    have hwd : IntKind.i64.wrap ((d : Int) + 1) = (d : Int) + 1 := wrapi64 (by omega) (by omega)
    have hbe : ((d : Int) + 1 == (d : Int) + 1) = true := by simp
    have hbs : ((sz : Int) == (sz : Int)) = true := by simp
    clear ei HLI hG hga hgb hkb hB1 hLN hLl hX HRW HLn hKp HZ12 HFB HFN HNd0 HIDS HGB HBK HL7' HL3
    go_upto_region 22 with fail
    refine wp_region_held_drew (S := fun w9 => w9.cell? ⟨w.heap.size, 0, none⟩ = some (.slice a l.length ca)) (by kernel_rfl) ?_ (fun hHeld => ?_)
    · (try dsimp only)
      go_keep
    have hdr : Below wr.heap.size wr wr.drew := Below.drew1
    generalize wr.drew = Z at hdr hHeld ⊢
    clear p0; refine hT 0 hHeld ?_; refine hT 1 hHeld ?_
    refine hCall (i := 2) rfl (by kernel_rfl) (by rfl) (fun K hK => ?_)
    go_simp
    refine (hsc _ hdr).mono ?_
    rintro e z1 ⟨rfl, hb1⟩
    replace hdr := hdr.trans (hb1.mono hdr.size)
    clear hb1 hsc
    go_wp2_with fail
    refine hK.out _ _ ?_ (fun hHeld => ?_)
    · (try dsimp only)
      exact hp _ hdr
    clear hK K
    try simp only [Act.put, pZ]
    refine hT 3 hHeld ?_; refine hT 4 hHeld ?_; refine hT 5 hHeld ?_; refine hT 7 hHeld ?_; refine hT 8 hHeld ?_
    try rw [hwd]
    refine hCall (i := 6) rfl (by kernel_rfl) (by rfl) (fun K hK => ?_)
    go_simp
    refine (hdp _ hdr).mono ?_
    rintro e z2 ⟨rfl, hb1⟩
    replace hdr := hdr.trans (hb1.mono hdr.size)
    clear hb1 hdp
    go_wp2_with fail
    refine hK.out _ _ ?_ (fun hHeld => ?_)
    · (try dsimp only)
      exact hp _ hdr
    clear hK K
    try simp only [Act.put, pZ]
    refine hT 9 hHeld ?_
    try rw [hwd]
    try rw [hbe]
    refine hT 10 hHeld ?_; refine hT 11 hHeld ?_; refine hT 12 hHeld ?_; refine hT 13 hHeld ?_; refine hT 15 hHeld ?_; refine hT 16 hHeld ?_; refine hT 17 hHeld ?_
    refine hCall (i := 14) rfl (by kernel_rfl) (by rfl) (fun K hK => ?_)
    go_simp
    refine (hsn _ hdr).mono ?_
    rintro e z3 ⟨rfl, hb1⟩
    replace hdr := hdr.trans (hb1.mono hdr.size)
    clear hb1 hsn
    go_wp2_with fail
    refine hK.out _ _ ?_ (fun hHeld => ?_)
    · (try dsimp only)
      exact hp _ hdr
    clear hK K
    try simp only [Act.put, pZ]
    refine hCall (i := 18) rfl (by kernel_rfl) (by rfl) (fun K hK => ?_)
    go_simp
    refine (hsl _ hdr).mono ?_
    rintro e z4 ⟨rfl, hb1⟩
    replace hdr := hdr.trans (hb1.mono hdr.size)
    clear hb1 hsl
    go_wp2_with fail
    refine hK.out _ _ ?_ (fun hHeld => ?_)
    · (try dsimp only)
      exact hp _ hdr
    clear hK K
    try simp only [Act.put, pZ]
    refine hT 19 hHeld ?_
    try rw [hbs]
    refine hT 20 hHeld ?_; refine hT 21 hHeld ?_
    refine wpAnyH_done (by kernel_rfl) ?_ _
    have hfin := hwb.trans (hdr.mono hwb.size)
    clear hHeld hp; go_wp2
    go_ret
    exact ⟨rfl, hfin⟩
end Go.Proofs.YtkmcodofnckdmaaGreat
