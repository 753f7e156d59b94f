/-
  (*foundryref18.pen).one: the walk (written by mk_dr3.py).
-/
import Derived.Test.YtkbbdkecillnpaaGreatZD34
import Derived.Test.YtkbbdkecillnpaaGreatZD25
namespace Go.Proofs.YtkbbdkecillnpaaGreat
open Go.RowKit Go.Maps
set_option linter.unusedSimpArgs false
set_option linter.unusedVariables false

/-- The reference's pen. -/
def RenB (c : Cx) (B : Nat) (w : World) (p : Pe) (v : Value) : Prop :=
  Bk 66 w B (rC (.slice c.a c.l.length c.ca) (.slice c.ga c.s.rg.length c.gc) (.slice c.ma c.s.rw.length c.mc) (.slice c.pa c.cs.length c.pc) p.x p.y (p.st : Int) v p.er)
/-- What a step comes to. -/
structure OneP (c : Cx) (B : Nat) (q : Pe) (e : Ending) (w w' : World) : Prop where
  e : e = .returned (.tuple #[])
  ok : q.er = 0 → OkP q
  pen : ∃ v, RenB c B w' q v ∧ Co (B + 1) w' v q.out
  be : Below B w w'
def AllC (S : Nat → Prop) (c : Cx) (B : Nat) (w0 : World) (n : Nat) : Prop :=
  ∀ (k : Nat) (a1 : Option Addr) (c1 : Nat) (p : Pe) (v : Value) (w : World), k < c.l.length → Gr SpE S w0 a1 c1 (c.l.getD k []) → OkP p → RenB c B w p v → Co (B + 1) w v p.out → Below B w0 w →
    Calls Tryz.prog 26 #[.pointer (some ⟨B, 0, none⟩), .slice a1 (c.l.getD k []).length c1, .int .i64 (10 - (n : Int))] w fun e w' => OneP c B (drN (RS c.s c.cs) c.l n (c.l.getD k []) p) e w w'
theorem Co.kpQ {base B : Nat} {w w' : World} {v : Value} {o : List (List Pn)} (h : Co base w v o) (hB : B < base) (hk : Kp B w w') : Co base w' v o := h.stay hk.size (fun k h1 h2 => hk.block h2 (by omega))
theorem last_putQ {out : List (List Pn)} {q : Pn} {n : Nat} (h : (out.getD (out.length - 1) []).length ≤ n) : ((putL out q).getD ((putL out q).length - 1) []).length ≤ n + 1 := by
  rw [putL_len]
  unfold putL
  by_cases hk : out.length - 1 < out.length
  · have e : (out.set (out.length - 1) (out.getD (out.length - 1) [] ++ [q])).getD (out.length - 1) [] = out.getD (out.length - 1) [] ++ [q] := by simp [List.getD, hk]
    rw [e, List.length_append, List.length_singleton]
    omega
  · have e : out = [] := List.length_eq_zero_iff.1 (by omega)
    subst e
    exact Nat.zero_le _
theorem Io.stayQ {base : Nat} {w w' : World} {u : Value} {zs : List Int} (hi : Io base w u zs) (hk : ∀ g, u.ownBlock = some g → w'.heap[g]? = w.heap[g]?) : Io base w' u zs := by
  obtain ⟨h1, h3⟩ := hi
  refine ⟨h1, h3.1, ?_⟩
  rcases h3.2 with h0 | ⟨g, cap', cur, k1, k2, k3, k4⟩
  · exact .inl h0
  · exact .inr ⟨g, cap', cur, k1, k2, (hk g (by rw [k1]; rfl)).trans k3, k4⟩
theorem putL_neQ {out : List (List Pn)} (q : Pn) (h : out ≠ []) : putL out q ≠ [] := fun e => h (List.length_eq_zero_iff.1 (by rw [← putL_len out q, e]; rfl))
/-- Two numbers of a row. -/
theorem Io.two {base : Nat} {w : World} {a : Option Addr} {c n : Nat} {L : List Int} (h : Io base w (.slice a n c) L) (hn : n = L.length) {i j : Nat} (hi : i < L.length) (hj : j < L.length) : ∃ b off, a = some ⟨b, off, none⟩ ∧ w.cell? ⟨b, off + i, none⟩ = some (.int .i64 (L.getD i 0)) ∧ w.cell? ⟨b, off + j, none⟩ = some (.int .i64 (L.getD j 0)) ∧ b < w.heap.size ∧ base ≤ b := by
  subst hn
  obtain ⟨a', c', e, hr, hlo⟩ := h.loQ
  injection e with e1 e2 e3
  subst e1 e3
  obtain ⟨b, off, ea, hb, h1⟩ := hr.at (Below.refl _ _) i hi
  obtain ⟨b2, off2, eb, hb2, h2⟩ := hr.at (Below.refl _ _) j hj
  rw [ea] at eb
  cases eb
  exact ⟨b, off, ea, h1, h2, hb, hlo b off ea⟩

set_option maxHeartbeats 8000000 in
set_option maxRecDepth 100000 in
theorem soneD_any (S : Nat → Prop) (a : Option Addr) (ca : Nat) (l : List (List Sp)) (ga : Option Addr) (gc : Nat) (ma : Option Addr) (mc : Nat) (s : Sr) (pa : Option Addr) (pc : Nat) (cs : List Int) (w0 : World) (hl : Gr SpE.row S w0 a ca l) (hg : Tzz w0 ga gc s.rg) (hm : Rii w0 ma mc s.rw) (hp : Ri w0 pa pc cs) (h40 : s.rg.length ≤ 40) (h8 : ∀ l ∈ s.rg, l.length ≤ 8) (n : Nat) (hn : n ≤ 10) (hsub : n ≠ 0 → AllC S ⟨a, ca, l, ga, gc, ma, mc, s, pa, pc, cs⟩ w0.heap.size w0 (n - 1)) (x : Sp) (p : Pe) (v : Value) (xa : Option Addr) (xc : Nat) (w : World) (hx : Gr SlE S w0 xa xc x.ar) (hxd : I64 x.d) (hsp : spF (fiS s) l.length x = true) (hok : OkP p) (hP : RenB ⟨a, ca, l, ga, gc, ma, mc, s, pa, pc, cs⟩ w0.heap.size w p v) (hC : Co (w0.heap.size + 1) w v p.out) (hB : Below w0.heap.size w0 w) :
    Calls Tryz.prog 44 #[.pointer (some ⟨w0.heap.size, 0, none⟩), .agg #[.int .i64 x.d, .slice xa x.ar.length xc], .int .i64 (10 - (n : Int))] w fun e w' => OneP ⟨a, ca, l, ga, gc, ma, mc, s, pa, pc, cs⟩ w0.heap.size (drS (RS s cs) l n (sbN (RS s cs) l n) x p) e w w' := by
  have kl := hl.lenB
  have kx := hx.lenB
  obtain ⟨s1, s2, s3⟩ := spF_iff.1 hsp
  have had := arD_in x.d
  have h6 : x.ar.length ≤ 6 := by omega
  have hst := hok.st
  have HOK : Hid (OkP p) := hok
  have her0 := hok.er
  obtain ⟨B, hBe⟩ : ∃ B, w0.heap.size = B := ⟨_, rfl⟩
  have HBE : Hid (w0.heap.size = B) := hBe
  rw [hBe] at hP hC hB ⊢
  have HS : Hid (n ≠ 0 → AllC S ⟨a, ca, l, ga, gc, ma, mc, s, pa, pc, cs⟩ B w0 (n - 1)) := by rw [hBe] at hsub; exact hsub
  obtain ⟨z, hz⟩ : ∃ z, (10 : Int) - (n : Int) = z := ⟨_, rfl⟩
  have HZ : Hid ((10 : Int) - (n : Int) = z) := hz
  rw [hz]
  have hz1 : 0 ≤ z := by omega
  have hz2 : z ≤ 10 := by omega
  replace hP : Bk 66 w B (rC (.slice a l.length ca) (.slice ga s.rg.length gc) (.slice ma s.rw.length mc) (.slice pa cs.length pc) p.x p.y (p.st : Int) v p.er) := hP
  rw [her0] at hP
  have HVG0 : Hid (∀ q, v.ownBlock = some q → B + 1 ≤ q ∧ q < w.heap.size) := fun q hq => hC.loQ hq
  obtain ⟨W, hW, X1, hbW⟩ : ∃ W, W = w.alloc (.cells #[.int .i64 x.d, .slice xa x.ar.length xc] 50) ∧ Bk 50 W w.heap.size [.int .i64 x.d, .slice xa x.ar.length xc] ∧ Below w.heap.size w W := ⟨_, rfl, Bk.new _ _ _, bl1 _⟩
  obtain ⟨gs, hgs⟩ : ∃ g, w.heap.size = g := ⟨_, rfl⟩
  have hBl : B < gs := by rw [← hgs]; exact hP.lt
  rw [hgs] at X1
  have hBW : Below B w W := hbW.mono (by omega)
  replace hP := hP.below hbW
  replace hC := hC.below hbW
  have hB0W : Below B w0 W := hB.trans hBW
  have t6 : W.cell? ⟨B, 6, none⟩ = some (.int .i64 (p.st : Int)) := hP.cell 6 (by show 6 < 9; omega)
  have t8 : W.cell? ⟨B, 8, none⟩ = some (.int .i64 0) := hP.cell 8 (by show 8 < 9; omega)
  have f6 := hP.fz 6
  have f8 := hP.fz 8
  clear hsub hBe hz hbW hok hB
  go_enter Tryz.func44, Tryz.ntmps44
  go_upto_region 1 with fail
  rw [← hW]
  try rw [hgs]
  clear hW
  by_cases h400 : 400 ≤ p.st
  · have g4 : decide ((400 : Int) ≤ (p.st : Int)) = true := decide_eq_true (by omega)
    have g5 : (400 : Int) ≤ (p.st : Int) := by omega
    have HF : Hid (drS (RS s cs) l n (sbN (RS s cs) l n) x p = { p with er := 3 }) := drS_long h400
    have HPF : Hid (RenB ⟨a, ca, l, ga, gc, ma, mc, s, pa, pc, cs⟩ B (W.setCell ⟨B, 8, none⟩ (.int .i64 3)) { p with er := 3 } v) := hP.set 8 _
    have HCF : Hid (Co (B + 1) (W.setCell ⟨B, 8, none⟩ (.int .i64 3)) v p.out) := hC.set (Nat.lt_succ_self _)
    have HBF : Hid (Below B w (W.setCell ⟨B, 8, none⟩ (.int .i64 3))) := hBW.setCell (p := ⟨B, 8, none⟩) (Nat.le_refl _) _
    clear hP hC hBW hB0W g4
    go_wp2
    (try simp only [Exit.inBlock, Exit.then])
    refine bodyPost_ret (results_none rfl _ _ _) rfl ?_
    rw [HF.out]
    exact ⟨rfl, fun h => absurd h (by show ¬ (3 : Int) = 0; decide), ⟨v, HPF.out, HCF.out⟩, HBF.out⟩
  have g4 : decide ((400 : Int) ≤ (p.st : Int)) = false := decide_eq_false (by omega)
  have g4n : ¬ (400 : Int) ≤ (p.st : Int) := by omega
  have g5 : IntKind.i64.wrap ((p.st : Int) + 1) = (p.st : Int) + 1 := wrapi64 (by omega) (by omega)
  obtain ⟨U, hU, hP2, hC2, X2, hB2, hB02⟩ : ∃ U, U = W.setCell ⟨B, 6, none⟩ (.int .i64 ((p.st : Int) + 1)) ∧ Bk 66 U B (rC (.slice a l.length ca) (.slice ga s.rg.length gc) (.slice ma s.rw.length mc) (.slice pa cs.length pc) p.x p.y ((p.st : Int) + 1) v 0) ∧ Co (B + 1) U v p.out ∧ Bk 50 U gs [.int .i64 x.d, .slice xa x.ar.length xc] ∧ Below B w U ∧ Below B w0 U :=
    ⟨_, rfl, hP.set 6 _, hC.set (Nat.lt_succ_self _), X1.other 6 _ (by omega), hBW.setCell (p := ⟨B, 6, none⟩) (Nat.le_refl _) _, hB0W.setCell (p := ⟨B, 6, none⟩) (Nat.le_refl _) _⟩
  go_upto_region 4 with fail
  rw [← hU]
  clear hU t6 t8 f6 f8 hP hC X1 hBW hB0W g4 g4n g5
  obtain ⟨q0, q1, -⟩ := X2.two
  have hnu := snum0_any S B w0 ga gc ma mc s pa pc cs (.slice a l.length ca) p.x p.y ((p.st : Int) + 1) v x.d xa xc x.ar U hx hg hm hp HBE.out hB02 hP2 h40 h8 h6
  have hUl : B < U.heap.size := hP2.lt
  have hUs : gs < U.heap.size := X2.lt
  go_wp2_with fail
  refine hnu.mono ?_
  rintro e u2 ⟨L, na, nc, rfl, hIo, HL, hL6, hP, hK3⟩
  have hC := hC2.kpQ (Nat.lt_succ_self _) hK3
  have X3 := X2.kp hK3 (by omega)
  have hBc : Below B w u2 := hB2.trans (hK3.below (Nat.le_of_lt hUl) (Nat.le_refl _))
  have hB0c : Below B w0 u2 := hB02.trans (hK3.below (Nat.le_of_lt hUl) (Nat.le_refl _))
  clear hnu q0 q1 hP2 hC2 X2 hB2 hB02 hK3
  have t8 : u2.cell? ⟨B, 8, none⟩ = some (.int .i64 (nuE (RS s cs) x.ar)) := hP.cell 8 (by show 8 < 9; omega)
  by_cases hne : nuE (RS s cs) x.ar = 0
  rotate_left
  · have g6 : (nuE (RS s cs) x.ar != 0) = true := bne_iff_ne.2 hne
    have HF : Hid (drS (RS s cs) l n (sbN (RS s cs) l n) x p = { p with st := p.st + 1, er := nuE (RS s cs) x.ar }) := drS_err h400 hne
    have HPF : Hid (RenB ⟨a, ca, l, ga, gc, ma, mc, s, pa, pc, cs⟩ B u2 { p with st := p.st + 1, er := nuE (RS s cs) x.ar } v) := hP
    have HNE : Hid (¬ nuE (RS s cs) x.ar = 0) := hne
    generalize nuE (RS s cs) x.ar = ze at *
    clear hP hne
    go_wp2
    (try simp only [Exit.inBlock, Exit.then])
    refine bodyPost_ret (results_none rfl _ _ _) rfl ?_
    rw [HF.out]
    exact ⟨rfl, fun h => absurd h HNE.out, ⟨v, HPF.out, hC⟩, hBc⟩
  have HDS : Hid (drS (RS s cs) l n (sbN (RS s cs) l n) x p = drT (RS s cs) l n (sbN (RS s cs) l n) x { p with st := p.st + 1 }) := drS_on h400 hne
  have HLN := HL.out hne
  subst HLN
  rw [hne] at hP t8
  have HO : OkS { p with st := p.st + 1 } := HOK.out.begin (by omega)
  have hF6 := F6_nuL s cs x.ar
  have hNl : (nuL (RS s cs) x.ar).length = x.ar.length := nuL_len _ _
  have HE0 : Hid (x.d = 4 → (nuL (RS s cs) x.ar).getD 0 0 = (x.ar.getD 0 (0, 0)).1) := fun h4 => by
    obtain ⟨t1, t2, t3⟩ := s3 h4
    have hl1 : 0 < x.ar.length := by rw [h4] at s1; have : arD 4 = 1 := rfl; omega
    have t4 := s2 0 hl1
    rw [t1] at t4
    have e : (nuL (RS s cs) x.ar).getD 0 0 = roN s (x.ar.getD 0 (0, 0)).1 (x.ar.getD 0 (0, 0)).2 cs := getD_mapS (fun a : Int × Int => (RS s cs).ro a.1 a.2) (e := (0, 0)) (e' := 0) hl1
    rw [e, t1]
    exact (ro_none18 t4).1
  obtain ⟨N, hN⟩ : ∃ N, nuL (RS s cs) x.ar = N := ⟨_, rfl⟩
  have HN : Hid (nuL (RS s cs) x.ar = N) := hN
  rw [hN] at hIo hF6 hNl HE0 ⊢
  have f0 := hF6 0 (by omega)
  have f1 := hF6 1 (by omega)
  have f2 := hF6 2 (by omega)
  have f3 := hF6 3 (by omega)
  have f4 := hF6 4 (by omega)
  have f5 := hF6 5 (by omega)
  have hok2 := HO.ok
  have hlast : (p.out.getD (p.out.length - 1) []).length ≤ 1200 := Nat.le_trans hok2.last (by show 3 * (p.st + 1 - 1) ≤ 1200; omega)
  have hol : p.out.length ≤ 400 := Nat.le_trans HO.ol (by show p.st + 1 - 1 ≤ 400; omega)
  have hx1 : -50000000 ≤ p.x := by have h := hok2.1.1; have h3 : (({ p with st := p.st + 1 } : Pe)).x = p.x := rfl; rw [h3] at h; have h4 : (({ p with st := p.st + 1 } : Pe)).st = p.st + 1 := rfl; rw [h4] at h; omega
  have hx2 : p.x ≤ 50000000 := by have h := hok2.1.2; have h3 : (({ p with st := p.st + 1 } : Pe)).x = p.x := rfl; rw [h3] at h; have h4 : (({ p with st := p.st + 1 } : Pe)).st = p.st + 1 := rfl; rw [h4] at h; omega
  have hy1 : -50000000 ≤ p.y := by have h := hok2.2.1.1; have h3 : (({ p with st := p.st + 1 } : Pe)).y = p.y := rfl; rw [h3] at h; have h4 : (({ p with st := p.st + 1 } : Pe)).st = p.st + 1 := rfl; rw [h4] at h; omega
  have hy2 : p.y ≤ 50000000 := by have h := hok2.2.1.2; have h3 : (({ p with st := p.st + 1 } : Pe)).y = p.y := rfl; rw [h3] at h; have h4 : (({ p with st := p.st + 1 } : Pe)).st = p.st + 1 := rfl; rw [h4] at h; omega
  have HO2 : Hid (OkS { p with st := p.st + 1 }) := HO
  have HDN : Hid (∀ {q : Pe}, drT (RS s cs) l n (sbN (RS s cs) l n) x { p with st := p.st + 1 } = q → drS (RS s cs) l n (sbN (RS s cs) l n) x p = q) := fun h => HDS.out.trans h
  clear hN hne HL hL6 hF6 hok2 HO HDS
  by_cases h4 : x.d = 4
  · rw [h4] at X3
    obtain ⟨q0, q1, -⟩ := X3.two
    have hl1 : x.ar.length = 1 := by rw [h4] at s1; have : arD 4 = 1 := rfl; omega
    rcases Nat.eq_zero_or_pos n with h0 | h0
    · subst h0
      obtain rfl : z = 10 := by have := HZ.out; omega
      have HF : Hid (_) := HDN.out (drT_deep (R := RS s cs) (l := l) (sub := sbN (RS s cs) l 0) (p := { p with st := p.st + 1 }) h4)
      have f8 := hP.fz 8
      have HPF : Hid (RenB ⟨a, ca, l, ga, gc, ma, mc, s, pa, pc, cs⟩ B (u2.setCell ⟨B, 8, none⟩ (.int .i64 6)) { p with st := p.st + 1, er := 6 } v) := hP.set 8 _
      have HCF : Hid (Co (B + 1) (u2.setCell ⟨B, 8, none⟩ (.int .i64 6)) v p.out) := hC.set (Nat.lt_succ_self _)
      have HBF : Hid (Below B w (u2.setCell ⟨B, 8, none⟩ (.int .i64 6))) := hBc.setCell (p := ⟨B, 8, none⟩) (Nat.le_refl _) _
      clear hP hC hBc hB0c hIo
      go_wp2
      (try simp only [Exit.inBlock, Exit.then])
      refine bodyPost_ret (results_none rfl _ _ _) rfl ?_
      rw [HF.out]
      exact ⟨rfl, fun h => absurd h (by show ¬ (6 : Int) = 0; decide), ⟨v, HPF.out, HCF.out⟩, HBF.out⟩
    · obtain ⟨t1, t2, t3⟩ := s3 h4
      have e0 := HE0.out h4
      obtain ⟨k, hk⟩ : ∃ k : Nat, (x.ar.getD 0 (0, 0)).1 = (k : Int) := ⟨(x.ar.getD 0 (0, 0)).1.toNat, by omega⟩
      rw [hk] at e0 t2 t3
      obtain ⟨m, rfl⟩ : ∃ m, n = m + 1 := ⟨n - 1, by omega⟩
      have hkl : k < l.length := by omega
      obtain ⟨b1, off, a1, c1, ea, hb1, c0, hd, -, -⟩ := hl.rw (Below.refl _ _) k hkl
      have hD := HS.out (by omega)
      rw [Nat.add_sub_cancel] at hD
      have hokp : OkP { p with st := p.st + 1 } := ⟨HO2.out.st, HO2.out.ok.mono (by show 3 * (p.st + 1 - 1) ≤ 3 * (p.st + 1); omega), Nat.le_trans HO2.out.ol (by show p.st + 1 - 1 ≤ p.st + 1; omega), HO2.out.er⟩
      have hall := fun U (h1 : RenB ⟨a, ca, l, ga, gc, ma, mc, s, pa, pc, cs⟩ B U { p with st := p.st + 1 } v) (h2 : Co (B + 1) U v p.out) (h3 : Below B w0 U) => hD k a1 c1 { p with st := p.st + 1 } v U hkl hd hokp h1 h2 h3
      have HF : Hid (_) := HDN.out (drT_sub (R := RS s cs) (l := l) (sub := sbN (RS s cs) l (m + 1)) (p := { p with st := p.st + 1 }) h4 (by omega))
      rw [HN.out, e0, Int.toNat_natCast] at HF
      dsimp only at hall
      obtain ⟨d, hdd⟩ : ∃ d, l.getD k [] = d := ⟨_, rfl⟩
      rw [hdd] at c0 HF
      simp only [hdd] at hall
      replace c0 := (hB0c.cell (p := ⟨b1, off + k, none⟩) (by show b1 < B; have := HBE.out; omega)).trans c0
      have kd : d.length ≤ 9223372036854775807 := by rw [← hdd]; exact hd.lenB
      have hzz : z + 1 = 10 - (m : Int) := by have := HZ.out; omega
      have hw : IntKind.i64.wrap (z + 1) = z + 1 := wrapi64 (by omega) (by omega)
      rw [← hzz] at hall
      have g7 : decide ((10 : Int) ≤ z) = false := decide_eq_false (by have := HZ.out; omega)
      have g7n : ¬ (10 : Int) ≤ z := by have := HZ.out; omega
      have hN1 : N.length = 1 := by omega
      rw [hN1] at hIo ⊢
      obtain ⟨nb, no, ena, n0, -, hnb, hnlo⟩ := hIo.two hN1.symm (i := 0) (j := 0) (by omega) (by omega)
      rw [e0, Nat.add_zero] at n0
      subst ea ena
      have i1 : (0 : Int) ≤ (k : Int) := by omega
      have i2 : (k : Int) < (l.length : Int) := by omega
      have p0 : u2.cell? ⟨B, 0, none⟩ = some (.slice (some ⟨b1, off, none⟩) l.length ca) := hP.cell 0 (by show 0 < 9; omega)
      have hb1B : b1 < B := by have := HBE.out; omega
      clear hdd hd e0 hk t1 hD hzz hIo s1 s2 s3 HE0
      go_upto_region 10 with fail
      refine wp_region_held_drew (S := fun w9 => w9.cell? ⟨B, 0, none⟩ = some (.slice (some ⟨b1, off, none⟩) l.length ca) ∧ w9.cell? ⟨b1, off + k, none⟩ = some (.slice a1 d.length c1)) (by kernel_rfl) ?_ (fun hHeld => ?_)
      · (try dsimp only)
        go_keep
      have hdr : Below u2.heap.size u2 u2.drew := Below.drew1
      generalize u2.drew = Z at hdr hHeld ⊢
      have hBl2 : B < u2.heap.size := hP.lt
      have hc := hall Z (by show Bk _ _ _ (rC _ _ _ _ _ _ _ _ p.er); rw [her0]; exact hP.below hdr) (hC.below hdr) (hB0c.trans (hdr.mono (Nat.le_of_lt hBl2)))
      have hBz := hBc.trans (hdr.mono (Nat.le_of_lt hBl2))
      have hnz := (hdr.cell (p := ⟨nb, no, none⟩) hnb).trans n0
      clear hall p0 c0 n0 hdr hP hC hB0c hBc
      refine hT 0 hHeld ?_
      refine hT 1 hHeld ?_
      refine hT 2 hHeld ?_
      refine hT 3 hHeld ?_
      refine hT 4 hHeld ?_
      refine hT 5 hHeld ?_
      refine hT 6 hHeld ?_
      refine hT 10 hHeld ?_
      refine hT 11 hHeld ?_
      refine hCall (i := 7) rfl (by kernel_rfl) (by rfl) (fun K hK => ?_)
      go_simp
      refine hK.out _ _ ?_ (fun hHeld => ?_)
      · (try dsimp only)
        exact hHeld
      clear hK K
      try simp only [Act.put, List.setIfInBounds_toArray, List.set_cons_zero, List.set_cons_succ]
      refine hT 8 hHeld ?_
      refine hT 9 hHeld ?_
      refine hCall (i := 12) rfl (by kernel_rfl) (by rfl) (fun K hK => ?_)
      go_simp
      refine hc.mono ?_
      rintro e u9 ⟨rfl, ok9, ⟨v9, hp9, hc9⟩, be9⟩
      have HR : Hid (OneP ⟨some ⟨b1, off, none⟩, ca, l, ga, gc, ma, mc, s, pa, pc, cs⟩ B (drN (RS s cs) l m d { p with st := p.st + 1 }) (.returned (.tuple #[])) w u9) := OneP.mk rfl ok9 ⟨v9, hp9, hc9⟩ (hBz.trans be9)
      have hu0 : u9.cell? ⟨B, 0, none⟩ = some (.slice (some ⟨b1, off, none⟩) l.length ca) := Bk.cell hp9 0 (by show 0 < 9; omega)
      have hu1 := (be9.cell (p := ⟨b1, off + k, none⟩) hb1B).trans hHeld.2
      clear hc hBz ok9 be9 hp9 hc9
      go_wp2_with fail
      refine hK.out _ _ ?_ (fun hHeld => ?_)
      · (try dsimp only)
        exact ⟨hu0, hu1⟩
      clear hK K
      try simp only [Act.put, List.setIfInBounds_toArray, List.set_cons_zero, List.set_cons_succ]
      refine wpAnyH_done (by kernel_rfl) ?_ _
      clear hHeld hu0 hu1
      go_wp2
      (try simp only [Exit.inBlock, Exit.then])
      refine bodyPost_ret (results_none rfl _ _ _) rfl ?_
      rw [HF.out]
      exact HR.out
  by_cases h1 : x.d = 1
  · rw [h1] at X3
    obtain ⟨q0, q1, -⟩ := X3.two
    have hl1 : x.ar.length = 2 := by rw [h1] at s1; have : arD 1 = 2 := rfl; omega
    have hN1 : N.length = 2 := by omega
    have HF : Hid (_) := HDN.out (drT_go (R := RS s cs) (l := l) (n := n) (sub := sbN (RS s cs) l n) (p := { p with st := p.st + 1 }) h1)
    rw [HN.out] at HF
    rw [hN1] at hIo ⊢
    obtain ⟨nb, no, ena, n0, n1, hnb, hnlo⟩ := hIo.two hN1.symm (i := 0) (j := 1) (by omega) (by omega)
    subst ena
    rw [Nat.add_zero] at n0
    have HTW : Hid (∀ T, Io U.heap.size T (.slice (some ⟨nb, no, none⟩) 2 nc) N → T.cell? ⟨nb, no, none⟩ = some (.int .i64 (N.getD 0 0)) ∧ T.cell? ⟨nb, no + 1, none⟩ = some (.int .i64 (N.getD 1 0)) ∧ nb < T.heap.size) := fun T hT => by
      obtain ⟨b8, o8, e8, m0, m1, hm, -⟩ := hT.two hN1.symm (i := 0) (j := 1) (by omega) (by omega)
      cases e8
      exact ⟨m0, m1, hm⟩
    generalize N.getD 0 0 = v0 at *
    generalize N.getD 1 0 = v1 at *
    clear hN1
    have hnB : nb ≠ B := by omega
    have HVG : Hid (∀ q, v.ownBlock = some q → B + 1 ≤ q ∧ q < gs) := fun q hq => by have h := HVG0.out q hq; rw [hgs] at h; exact h
    obtain ⟨a9, c9, e9, -, -⟩ := hC.slice
    subst e9
    have hv0 : u2.cell? ⟨B, 7, none⟩ = some (.slice a9 p.out.length c9) := hP.cell 7 (by show 7 < 9; omega)
    obtain ⟨V, hV, Y9, hbv⟩ : ∃ V, V = u2.alloc (.cells #[.slice none 0 0] 55) ∧ Bk 55 V u2.heap.size [.slice none 0 0] ∧ Below u2.heap.size u2 V := ⟨_, rfl, Bk.new _ _ _, bl1 _⟩
    have hws : gs < u2.heap.size := X3.lt
    have hvs := hbv.size
    have y90 := Y9.cell 0 (by simp)
    have hCV := hC.below hbv
    have hPV := hP.below hbv
    have hXV := X3.below hbv
    have hIV := hIo.below hbv
    have hBV := hBc.trans (hbv.mono (by omega))
    have hst9 : (Value.slice a9 p.out.length c9).ownBlock ≠ some gs := fun e => by have := (HVG.out gs e).2; omega
    have hnb9 : (Value.slice a9 p.out.length c9).ownBlock ≠ some B := fun e => by have := (HVG.out B e).1; omega
    have hnn9 := hCV.neI hIV nb rfl
    have hkV : p.out.length + 1 ≤ 1000000 := by omega
    have hbV : B + 1 ≤ V.heap.size := by omega
    clear hP hC hIo hBc
    go_wp2_with (at_builtin; rw [← hV]; refine wpList_append_co rfl _ _ rfl (B + 1) _ p.out rfl hCV u2.heap.size rfl Y9.lt y90 hkV hbV ?_)
    intro v9 w9 hT9 hgrow hlo9
    rw [← hV] at hgrow
    obtain ⟨va, vc, e9, -, -⟩ := hT9.slice
    subst e9
    obtain ⟨on, hon⟩ : ∃ on, p.out ++ [[]] = on := ⟨_, rfl⟩
    have hne : on ≠ [] := fun e => by rw [e] at hon; simp at hon
    have hcl : (on.getD (on.length - 1) []).length ≤ 50000 := by rw [← hon, last_new]; exact Nat.zero_le _
    rw [hon] at hT9 HF ⊢
    have HOG : Hid (OkP (toP { p with st := p.st + 1, out := on } v0 v1 true)) := by
      have h := HO2.out.go f0 f1
      rw [show (({ p with st := p.st + 1 } : Pe)).out = p.out from rfl, hon] at h
      exact h
    have hP9 := hPV.grown hgrow hnb9
    have hX9 := hXV.grown hgrow hst9
    have hI9 : Io U.heap.size w9 (.slice (some ⟨nb, no, none⟩) 2 nc) N := hIV.stayQ (fun g hg => hgrow.block g (hIV.growQ hg).2 (fun e => hCV.neI hIV g hg e.symm))
    have hB9 : Below B w w9 := hBV.grown hgrow (by omega) (fun q hq => by have := (HVG.out q hq).1; omega)
    have hol9 : (on.length : Int) ≤ 9223372036854775807 := by rw [← hon, List.length_append, List.length_singleton]; omega
    have holp : 0 < on.length := List.length_pos_iff.2 hne
    have f7 := hP9.fz 7
    have hv9 : w9.cell? ⟨B, 7, none⟩ = some (.slice a9 p.out.length c9) := hP9.cell 7 (by show 7 < 9; omega)
    have hC9 := hT9
    obtain ⟨U9, hU9, hP, hC, hX, hBc, hI⟩ : ∃ U9, U9 = w9.setCell ⟨B, 7, none⟩ (.slice va on.length vc) ∧ Bk 66 U9 B (rC (.slice a l.length ca) (.slice ga s.rg.length gc) (.slice ma s.rw.length mc) (.slice pa cs.length pc) p.x p.y ((p.st : Int) + 1) (.slice va on.length vc) 0) ∧ Co (B + 1) U9 (.slice va on.length vc) on ∧ Bk 50 U9 gs [.int .i64 1, .slice xa x.ar.length xc] ∧ Below B w U9 ∧ Io U.heap.size U9 (.slice (some ⟨nb, no, none⟩) 2 nc) N :=
      ⟨_, rfl, hP9.set 7 _, hT9.set (Nat.lt_succ_self _), hX9.other 7 _ (by omega), hB9.setCell (p := ⟨B, 7, none⟩) (Nat.le_refl _) _, hI9.kpQ (by omega) ((Kp.refl B w9).setCell 7 _)⟩
    have hnv := hC.neI hI nb rfl
    have HVG : Hid (∀ q, (Value.slice va on.length vc).ownBlock = some q → B + 1 ≤ q) := fun q hq => (hC.loQ hq).1
    clear hon hT9 hgrow hlo9 hPV hCV hXV hBV hst9 hnb9 hnn9 hP9 hX9 hB9 hv0 q0 q1 hbv Y9 y90 hV hI9 hIV hC9
    obtain ⟨q0, q1, -⟩ := hX.two
    clear n0 n1 hnb
    obtain ⟨n0, n1, hnb⟩ := HTW.out _ hI
    clear hI
    have t7 : U9.cell? ⟨B, 7, none⟩ = some (.slice va on.length vc) := hP.cell 7 (by show 7 < 9; omega)
    have g8 : ((on.length : Int) == 0) = false := beq_eq_false_iff_ne.2 (by omega)
    go_upto_region 13 with fail
    rw [← hU9]
    clear hU9 hv9 f7
    go_upto_region 19 with fail
    refine wp_region_held_drew (S := fun w9 => w9.cell? ⟨nb, no, none⟩ = some (.int .i64 v0) ∧ w9.cell? ⟨nb, no + 1, none⟩ = some (.int .i64 v1)) (by kernel_rfl) ?_ (fun hHeld => ?_)
    · (try dsimp only)
      go_keep
    have hdr : Below U9.heap.size U9 U9.drew := Below.drew1
    generalize U9.drew = Z0 at hdr hHeld ⊢
    have hBl0 : B < U9.heap.size := hP.lt
    have hto := sto_any B _ _ _ _ (p.x) (p.y) ((p.st : Int) + 1) _ 0 (on) v0 v1 true Z0 (hP.below hdr) (hC.below hdr) hne (by omega) (by omega) (by omega) (by omega) f0.1 f0.2 f1.1 f1.2 (by omega)
    replace hBc := hBc.trans (hdr.mono (Nat.le_of_lt hBl0))
    have hnbZ : nb < Z0.heap.size := Nat.lt_of_lt_of_le hnb hdr.size
    clear hdr n0 n1 hP hC
    refine hT 0 hHeld ?_
    refine hT 1 hHeld ?_
    refine hT 2 hHeld ?_
    refine hT 3 hHeld ?_
    refine hT 4 hHeld ?_
    refine hT 5 hHeld ?_
    refine hT 6 hHeld ?_
    refine hCall (i := 7) rfl (by kernel_rfl) (by rfl) (fun K hK => ?_)
    go_simp
    refine (hto).mono ?_
    rintro e m9 ⟨rfl, hP, hC, hk⟩
    go_wp2_with fail
    refine hK.out _ _ ?_ (fun hHeld => ?_)
    · (try dsimp only)
      exact ⟨(Keep.cell hk (p := ⟨nb, no, none⟩) ⟨hnbZ, hnB, hnv⟩).trans hHeld.1, (Keep.cell hk (p := ⟨nb, no + 1, none⟩) ⟨hnbZ, hnB, hnv⟩).trans hHeld.2⟩
    clear hK K
    try simp only [Act.put, List.setIfInBounds_toArray, List.set_cons_zero, List.set_cons_succ]
    refine wpAnyH_done (by kernel_rfl) ?_ _
    replace hBc := hBc.trans (hk.below (by omega) (fun q hq => by have := HVG.out q hq; omega))
    have hnb : nb < m9.heap.size := Nat.lt_of_lt_of_le hnbZ (Keep.size hk)
    clear hHeld hto hk
    go_wp2
    (try simp only [Exit.inBlock, Exit.then])
    refine bodyPost_end (results_none rfl _ _ _) rfl ?_
    rw [HF.out]
    exact ⟨rfl, fun _ => HOG.out, ⟨_, by show Bk _ _ _ (rC _ _ _ _ _ _ _ _ p.er); rw [her0]; exact hP, hC⟩, hBc⟩
  by_cases hout : p.out = []
  · have hd23 : x.d = 2 ∨ x.d = 3 := by omega
    have HF : Hid (_) := HDN.out (drT_none (R := RS s cs) (l := l) (n := n) (sub := sbN (RS s cs) l n) (p := { p with st := p.st + 1 }) hd23 hout)
    have HOE : Hid (p.out = []) := hout
    rw [hout] at hC
    obtain ⟨a9, c9, e9, -, -⟩ := hC.slice
    subst e9
    have hv0 : u2.cell? ⟨B, 7, none⟩ = some (.slice a9 0 c9) := hP.cell 7 (by show 7 < 9; omega)
    have f8 := hP.fz 8
    have HPF : Hid (RenB ⟨a, ca, l, ga, gc, ma, mc, s, pa, pc, cs⟩ B (u2.setCell ⟨B, 8, none⟩ (.int .i64 1)) { p with st := p.st + 1, er := 1 } (.slice a9 0 c9)) := hP.set 8 _
    have HCF : Hid (Co (B + 1) (u2.setCell ⟨B, 8, none⟩ (.int .i64 1)) (.slice a9 0 c9) p.out) := by show Co _ _ _ _; rw [hout]; exact hC.set (Nat.lt_succ_self _)
    have HBF : Hid (Below B w (u2.setCell ⟨B, 8, none⟩ (.int .i64 1))) := hBc.setCell (p := ⟨B, 8, none⟩) (Nat.le_refl _) _
    clear hP hC hBc hB0c hIo hout
    rcases hd23 with h2 | h2
    all_goals
      rw [h2] at X3
      obtain ⟨q0, q1, -⟩ := X3.two
      go_wp2
      (try simp only [Exit.inBlock, Exit.then])
      refine bodyPost_ret (results_none rfl _ _ _) rfl ?_
      rw [HF.out]
      exact ⟨rfl, fun h => absurd h (by show ¬ (1 : Int) = 0; decide), ⟨_, HPF.out, HCF.out⟩, HBF.out⟩
  have holp : 0 < p.out.length := List.length_pos_iff.2 hout
  have HVG : Hid (∀ q, v.ownBlock = some q → B + 1 ≤ q) := fun q hq => (HVG0.out q hq).1
  obtain ⟨a9, c9, e9, -, -⟩ := hC.slice
  subst e9
  have t7 : u2.cell? ⟨B, 7, none⟩ = some (.slice a9 p.out.length c9) := hP.cell 7 (by show 7 < 9; omega)
  have g8 : ((p.out.length : Int) == 0) = false := beq_eq_false_iff_ne.2 (by omega)
  have hol9 : (p.out.length : Int) ≤ 9223372036854775807 := by omega
  by_cases h2 : x.d = 2
  · rw [h2] at X3
    obtain ⟨q0, q1, -⟩ := X3.two
    have hl1 : x.ar.length = 2 := by rw [h2] at s1; have : arD 2 = 2 := rfl; omega
    have hN1 : N.length = 2 := by omega
    have HF : Hid (_) := HDN.out (drT_line (R := RS s cs) (l := l) (n := n) (sub := sbN (RS s cs) l n) (p := { p with st := p.st + 1 }) h2 hout)
    have HOG : Hid (_) := HO2.out.line f0 f1
    rw [HN.out] at HF
    rw [hN1] at hIo ⊢
    obtain ⟨nb, no, ena, n0, n1, hnb, hnlo⟩ := hIo.two hN1.symm (i := 0) (j := 1) (by omega) (by omega)
    subst ena
    rw [Nat.add_zero] at n0
    have hnB : nb ≠ B := by omega
    have hnv := hC.neI hIo nb rfl
    generalize N.getD 0 0 = v0 at *
    generalize N.getD 1 0 = v1 at *
    clear hIo hN1
    go_upto_region 19 with fail
    refine wp_region_held_drew (S := fun w9 => w9.cell? ⟨nb, no, none⟩ = some (.int .i64 v0) ∧ w9.cell? ⟨nb, no + 1, none⟩ = some (.int .i64 v1)) (by kernel_rfl) ?_ (fun hHeld => ?_)
    · (try dsimp only)
      go_keep
    have hdr : Below u2.heap.size u2 u2.drew := Below.drew1
    generalize u2.drew = Z0 at hdr hHeld ⊢
    have hBl0 : B < u2.heap.size := hP.lt
    have hto := sto_any B _ _ _ _ (p.x) (p.y) ((p.st : Int) + 1) _ 0 (p.out) v0 v1 true Z0 (hP.below hdr) (hC.below hdr) hout (by omega) (by omega) (by omega) (by omega) f0.1 f0.2 f1.1 f1.2 (by omega)
    replace hBc := hBc.trans (hdr.mono (Nat.le_of_lt hBl0))
    have hnbZ : nb < Z0.heap.size := Nat.lt_of_lt_of_le hnb hdr.size
    clear hdr n0 n1 hP hC
    refine hT 0 hHeld ?_
    refine hT 1 hHeld ?_
    refine hT 2 hHeld ?_
    refine hT 3 hHeld ?_
    refine hT 4 hHeld ?_
    refine hT 5 hHeld ?_
    refine hT 6 hHeld ?_
    refine hCall (i := 7) rfl (by kernel_rfl) (by rfl) (fun K hK => ?_)
    go_simp
    refine (hto).mono ?_
    rintro e m9 ⟨rfl, hP, hC, hk⟩
    go_wp2_with fail
    refine hK.out _ _ ?_ (fun hHeld => ?_)
    · (try dsimp only)
      exact ⟨(Keep.cell hk (p := ⟨nb, no, none⟩) ⟨hnbZ, hnB, hnv⟩).trans hHeld.1, (Keep.cell hk (p := ⟨nb, no + 1, none⟩) ⟨hnbZ, hnB, hnv⟩).trans hHeld.2⟩
    clear hK K
    try simp only [Act.put, List.setIfInBounds_toArray, List.set_cons_zero, List.set_cons_succ]
    refine wpAnyH_done (by kernel_rfl) ?_ _
    replace hBc := hBc.trans (hk.below (by omega) (fun q hq => by have := HVG.out q hq; omega))
    have hnb : nb < m9.heap.size := Nat.lt_of_lt_of_le hnbZ (Keep.size hk)
    clear hHeld hto hk
    go_wp2
    (try simp only [Exit.inBlock, Exit.then])
    refine bodyPost_end (results_none rfl _ _ _) rfl ?_
    rw [HF.out]
    exact ⟨rfl, fun _ => HOG.out, ⟨_, by show Bk _ _ _ (rC _ _ _ _ _ _ _ _ p.er); rw [her0]; exact hP, hC⟩, hBc⟩
  have h3 : x.d = 3 := by omega
  rw [h3] at X3
  obtain ⟨q0, q1, -⟩ := X3.two
  have hl1 : x.ar.length = 6 := by rw [h3] at s1; have : arD 3 = 6 := rfl; omega
  have hN1 : N.length = 6 := by omega
  have HF : Hid (_) := HDN.out (drT_curve (R := RS s cs) (l := l) (n := n) (sub := sbN (RS s cs) l n) (p := { p with st := p.st + 1 }) h3 hout)
  have HOG : Hid (_) := HO2.out.curve f0 f1 f2 f3 f4 f5
  rw [HN.out] at HF
  rw [hN1] at hIo ⊢
  obtain ⟨nb, no, ena, n0, n1, hnb, hnlo⟩ := hIo.two hN1.symm (i := 0) (j := 1) (by omega) (by omega)
  obtain ⟨nb2, no2, ena2, n2, n3, -, -⟩ := hIo.two hN1.symm (i := 2) (j := 3) (by omega) (by omega)
  obtain ⟨nb3, no3, ena3, n4, n5, -, -⟩ := hIo.two hN1.symm (i := 4) (j := 5) (by omega) (by omega)
  rw [ena] at ena2 ena3
  cases ena2
  cases ena3
  subst ena
  rw [Nat.add_zero] at n0
  have hnB : nb ≠ B := by omega
  have hnv := hC.neI hIo nb rfl
  generalize N.getD 0 0 = v0 at *
  generalize N.getD 1 0 = v1 at *
  generalize N.getD 2 0 = v2 at *
  generalize N.getD 3 0 = v3 at *
  generalize N.getD 4 0 = v4 at *
  generalize N.getD 5 0 = v5 at *
  clear hIo hN1
  go_upto_region 16 with fail
  refine wp_region_held_drew (S := fun w9 => w9.cell? ⟨nb, no, none⟩ = some (.int .i64 v0) ∧ w9.cell? ⟨nb, no + 1, none⟩ = some (.int .i64 v1)) (by kernel_rfl) ?_ (fun hHeld => ?_)
  · (try dsimp only)
    go_keep
  have hdr : Below u2.heap.size u2 u2.drew := Below.drew1
  generalize u2.drew = Z0 at hdr hHeld ⊢
  have hBl0 : B < u2.heap.size := hP.lt
  have hto := sto_any B _ _ _ _ (p.x) (p.y) ((p.st : Int) + 1) _ 0 (p.out) v0 v1 false Z0 (hP.below hdr) (hC.below hdr) hout (by omega) (by omega) (by omega) (by omega) f0.1 f0.2 f1.1 f1.2 (by omega)
  replace hBc := hBc.trans (hdr.mono (Nat.le_of_lt hBl0))
  have hnbZ : nb < Z0.heap.size := Nat.lt_of_lt_of_le hnb hdr.size
  replace n2 := (hdr.cell (p := ⟨nb, no + 2, none⟩) hnb).trans n2
  replace n3 := (hdr.cell (p := ⟨nb, no + 3, none⟩) hnb).trans n3
  replace n4 := (hdr.cell (p := ⟨nb, no + 4, none⟩) hnb).trans n4
  replace n5 := (hdr.cell (p := ⟨nb, no + 5, none⟩) hnb).trans n5
  clear hdr n0 n1 hP hC
  refine hT 0 hHeld ?_
  refine hT 1 hHeld ?_
  refine hT 2 hHeld ?_
  refine hT 3 hHeld ?_
  refine hT 4 hHeld ?_
  refine hT 5 hHeld ?_
  refine hT 6 hHeld ?_
  refine hCall (i := 7) rfl (by kernel_rfl) (by rfl) (fun K hK => ?_)
  go_simp
  refine (hto).mono ?_
  rintro e y1 ⟨rfl, hP, hC, hk⟩
  go_wp2_with fail
  refine hK.out _ _ ?_ (fun hHeld => ?_)
  · (try dsimp only)
    exact ⟨(Keep.cell hk (p := ⟨nb, no, none⟩) ⟨hnbZ, hnB, hnv⟩).trans hHeld.1, (Keep.cell hk (p := ⟨nb, no + 1, none⟩) ⟨hnbZ, hnB, hnv⟩).trans hHeld.2⟩
  clear hK K
  try simp only [Act.put, List.setIfInBounds_toArray, List.set_cons_zero, List.set_cons_succ]
  refine wpAnyH_done (by kernel_rfl) ?_ _
  replace hBc := hBc.trans (hk.below (by omega) (fun q hq => by have := HVG.out q hq; omega))
  replace n2 := (Keep.cell hk (p := ⟨nb, no + 2, none⟩) ⟨hnbZ, hnB, hnv⟩).trans n2
  replace n3 := (Keep.cell hk (p := ⟨nb, no + 3, none⟩) ⟨hnbZ, hnB, hnv⟩).trans n3
  replace n4 := (Keep.cell hk (p := ⟨nb, no + 4, none⟩) ⟨hnbZ, hnB, hnv⟩).trans n4
  replace n5 := (Keep.cell hk (p := ⟨nb, no + 5, none⟩) ⟨hnbZ, hnB, hnv⟩).trans n5
  have hnb : nb < y1.heap.size := Nat.lt_of_lt_of_le hnbZ (Keep.size hk)
  clear hHeld hto hk
  have hlast1 := last_putQ (q := ⟨p.x + v0, p.y + v1, false⟩) hlast
  have hout1 := putL_neQ ⟨p.x + v0, p.y + v1, false⟩ hout
  go_upto_region 17 with fail
  refine wp_region_held_drew (S := fun w9 => w9.cell? ⟨nb, no + 2, none⟩ = some (.int .i64 v2) ∧ w9.cell? ⟨nb, no + 3, none⟩ = some (.int .i64 v3)) (by kernel_rfl) ?_ (fun hHeld => ?_)
  · (try dsimp only)
    go_keep
  have hdr : Below y1.heap.size y1 y1.drew := Below.drew1
  generalize y1.drew = Z2 at hdr hHeld ⊢
  have hBl2 : B < y1.heap.size := hP.lt
  have hto := sto_any B _ _ _ _ (p.x + v0) (p.y + v1) ((p.st : Int) + 1) _ 0 (putL p.out ⟨p.x + v0, p.y + v1, false⟩) v2 v3 false Z2 (hP.below hdr) (hC.below hdr) hout1 (by omega) (by omega) (by omega) (by omega) f2.1 f2.2 f3.1 f3.2 (by omega)
  replace hBc := hBc.trans (hdr.mono (Nat.le_of_lt hBl2))
  have hnbZ : nb < Z2.heap.size := Nat.lt_of_lt_of_le hnb hdr.size
  replace n4 := (hdr.cell (p := ⟨nb, no + 4, none⟩) hnb).trans n4
  replace n5 := (hdr.cell (p := ⟨nb, no + 5, none⟩) hnb).trans n5
  clear hdr n2 n3 hP hC
  refine hT 0 hHeld ?_
  refine hT 1 hHeld ?_
  refine hT 2 hHeld ?_
  refine hT 3 hHeld ?_
  refine hT 4 hHeld ?_
  refine hT 5 hHeld ?_
  refine hT 6 hHeld ?_
  refine hCall (i := 7) rfl (by kernel_rfl) (by rfl) (fun K hK => ?_)
  go_simp
  refine (hto).mono ?_
  rintro e y2 ⟨rfl, hP, hC, hk⟩
  go_wp2_with fail
  refine hK.out _ _ ?_ (fun hHeld => ?_)
  · (try dsimp only)
    exact ⟨(Keep.cell hk (p := ⟨nb, no + 2, none⟩) ⟨hnbZ, hnB, hnv⟩).trans hHeld.1, (Keep.cell hk (p := ⟨nb, no + 3, none⟩) ⟨hnbZ, hnB, hnv⟩).trans hHeld.2⟩
  clear hK K
  try simp only [Act.put, List.setIfInBounds_toArray, List.set_cons_zero, List.set_cons_succ]
  refine wpAnyH_done (by kernel_rfl) ?_ _
  replace hBc := hBc.trans (hk.below (by omega) (fun q hq => by have := HVG.out q hq; omega))
  replace n4 := (Keep.cell hk (p := ⟨nb, no + 4, none⟩) ⟨hnbZ, hnB, hnv⟩).trans n4
  replace n5 := (Keep.cell hk (p := ⟨nb, no + 5, none⟩) ⟨hnbZ, hnB, hnv⟩).trans n5
  have hnb : nb < y2.heap.size := Nat.lt_of_lt_of_le hnbZ (Keep.size hk)
  clear hHeld hto hk
  have hlast2 := last_putQ (q := ⟨p.x + v0 + v2, p.y + v1 + v3, false⟩) hlast1
  have hout2 := putL_neQ ⟨p.x + v0 + v2, p.y + v1 + v3, false⟩ hout1
  go_upto_region 18 with fail
  refine wp_region_held_drew (S := fun w9 => w9.cell? ⟨nb, no + 4, none⟩ = some (.int .i64 v4) ∧ w9.cell? ⟨nb, no + 5, none⟩ = some (.int .i64 v5)) (by kernel_rfl) ?_ (fun hHeld => ?_)
  · (try dsimp only)
    go_keep
  have hdr : Below y2.heap.size y2 y2.drew := Below.drew1
  generalize y2.drew = Z4 at hdr hHeld ⊢
  have hBl4 : B < y2.heap.size := hP.lt
  have hto := sto_any B _ _ _ _ (p.x + v0 + v2) (p.y + v1 + v3) ((p.st : Int) + 1) _ 0 (putL (putL p.out ⟨p.x + v0, p.y + v1, false⟩) ⟨p.x + v0 + v2, p.y + v1 + v3, false⟩) v4 v5 true Z4 (hP.below hdr) (hC.below hdr) hout2 (by omega) (by omega) (by omega) (by omega) f4.1 f4.2 f5.1 f5.2 (by omega)
  replace hBc := hBc.trans (hdr.mono (Nat.le_of_lt hBl4))
  have hnbZ : nb < Z4.heap.size := Nat.lt_of_lt_of_le hnb hdr.size
  clear hdr n4 n5 hP hC
  refine hT 0 hHeld ?_
  refine hT 1 hHeld ?_
  refine hT 2 hHeld ?_
  refine hT 3 hHeld ?_
  refine hT 4 hHeld ?_
  refine hT 5 hHeld ?_
  refine hT 6 hHeld ?_
  refine hCall (i := 7) rfl (by kernel_rfl) (by rfl) (fun K hK => ?_)
  go_simp
  refine (hto).mono ?_
  rintro e y3 ⟨rfl, hP, hC, hk⟩
  go_wp2_with fail
  refine hK.out _ _ ?_ (fun hHeld => ?_)
  · (try dsimp only)
    exact ⟨(Keep.cell hk (p := ⟨nb, no + 4, none⟩) ⟨hnbZ, hnB, hnv⟩).trans hHeld.1, (Keep.cell hk (p := ⟨nb, no + 5, none⟩) ⟨hnbZ, hnB, hnv⟩).trans hHeld.2⟩
  clear hK K
  try simp only [Act.put, List.setIfInBounds_toArray, List.set_cons_zero, List.set_cons_succ]
  refine wpAnyH_done (by kernel_rfl) ?_ _
  replace hBc := hBc.trans (hk.below (by omega) (fun q hq => by have := HVG.out q hq; omega))
  have hnb : nb < y3.heap.size := Nat.lt_of_lt_of_le hnbZ (Keep.size hk)
  clear hHeld hto hk
  go_wp2
  (try simp only [Exit.inBlock, Exit.then])
  refine bodyPost_ret (results_none rfl _ _ _) rfl ?_
  rw [HF.out]
  exact ⟨rfl, fun _ => HOG.out, ⟨_, by show Bk _ _ _ (rC _ _ _ _ _ _ _ _ p.er); rw [her0]; exact hP, hC⟩, hBc⟩

end Go.Proofs.YtkbbdkecillnpaaGreat
