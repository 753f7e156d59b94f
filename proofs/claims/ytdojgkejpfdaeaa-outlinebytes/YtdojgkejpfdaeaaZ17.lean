/-
  outline.Write: the walk.
  foundryref12.Few, Points, Ends: the walks.
  foundrylaw12.awake: the walk.
  bytes.Equal: the walk.
-/
import Derived.Test.YtdojgkejpfdaeaaZ15
import Derived.Test.YtdojgkejpfdaeaaZ16
import Derived.Test.YtdojgkejpfdaeaaZ13
import Derived.Test.YtdojgkejpfdaeaaZ4
import Derived.Test.YtdojgkejpfdaeaaZ5
import Derived.Laws.Cover1
namespace Go.Proofs.Ytdojgkejpfdaeaa
open Go.RowKit Go.Maps
set_option linter.unusedSimpArgs false
set_option linter.unusedVariables false

theorem Pc.wide' {w w' : World} {B : Nat} {G : Nat → Prop} {s : St} (h : Pc w B G s) (hb : Below w.heap.size w w') : ∃ G' : Nat → Prop, Pc w' B G' s ∧ (∀ k, G k → G' k) ∧ (∀ k, w.heap.size ≤ k → k < w'.heap.size → G' k) :=
  ⟨_, h.wider hb, fun k hk => .inl hk, fun k h1 h2 => .inr ⟨h1, h2⟩⟩
theorem diB_eq (l : List Pn) : diB l = ((stX l).all fdB && (stY l).all fdB) := by
  unfold diB stX stY
  rw [List.all_map, List.all_map]
  induction difs 0 0 l with
  | nil => rfl
  | cons t r ih =>
    simp only [List.all_cons, ih, Function.comp]
    generalize fdB t.1 = a
    generalize fdB t.2.1 = b
    generalize r.all _ = c
    generalize r.all _ = d
    cases a <;> cases b <;> cases c <;> cases d <;> rfl
theorem coB_eq (cs : List (List Pn)) : coB cs = [] ++ be2 (cs.length : Int) ++ (endF 0 cs).flatMap be2 ++ rl (flL cs.flatten) ++ (stX cs.flatten).flatMap axB ++ (stY cs.flatten).flatMap axB := by
  unfold coB stX stY
  rw [List.flatMap_map, List.flatMap_map]
  simp only [List.append_assoc, List.nil_append]
theorem flL_O (l : List Pn) : ∀ x ∈ flL l, FlO x := by
  intro x hx
  unfold flL at hx
  obtain ⟨t, _, rfl⟩ := List.mem_map.1 hx
  obtain ⟨b1, b2, _⟩ := flg_bits t
  exact ⟨by omega, by omega, by rw [Int.toNat_natCast]; exact b2⟩
theorem all_fd {l : List Int} (h : l.all fdB = true) : ∀ x ∈ l, -32768 ≤ x ∧ x ≤ 32767 := fun x hx => fdB_iff.1 (List.all_eq_true.1 h x hx)

set_option maxHeartbeats 2000000 in
set_option maxRecDepth 100000 in
theorem cwriteO_any (S : Nat → Prop) (a : Option Addr) (ca : Nat) (b : Option Addr) (cb : Nat) (o : Ol) (w : World) (hc : Gr PnE.row S w a ca o.cs) (hp : Gr PaE S w b cb o.ps) :
    Calls Try.prog 6 #[.agg #[.slice a o.cs.length ca, .slice b o.ps.length cb]] w fun e w' => ∃ a' c', e = .returned (.tuple #[.slice a' (wrOB o).length c', .int .i64 (wrOE o)]) ∧ Rb w' a' c' (wrOB o) ∧ Below w.heap.size w w' := by
  have k1 := hc.lenB
  have k2 := hp.lenB
  obtain ⟨W, hW, X1, hbW⟩ : ∃ W, W = w.alloc (.cells #[.slice a o.cs.length ca, .slice b o.ps.length cb] 25) ∧ Bk 25 W w.heap.size [.slice a o.cs.length ca, .slice b o.ps.length cb] ∧ Below w.heap.size w W := ⟨_, rfl, Bk.new _ _ _, bl1 _⟩
  have HC : Hid (Gr PnE.row S w a ca o.cs) := hc
  have HP : Hid (Gr PaE S w b cb o.ps) := hp
  have hfo := cformO_any S a ca b cb o W (hc.below hbW) (hp.below hbW)
  obtain ⟨x0, x1, _⟩ := X1.two
  clear hc hp
  cases hf : foB o with
  | false =>
    have HE : Hid (wrOE o = 1 ∧ wrOB o = []) := ⟨by simp [wrOE, hf], by simp [wrOB, hf]⟩
    rw [hf] at hfo
    clear hf X1
    go_enter Try.func6, Try.ntmps6
    go_wp2_with fail
    rw [← hW]
    clear hW
    refine hfo.mono ?_
    rintro e u1 ⟨rfl, hb1⟩
    replace hbW : Below w.heap.size w u1 := hbW.trans (hb1.mono hbW.size)
    clear hfo x0 x1
    go_wp2
    go_ret2
    exact ⟨none, 0, by rw [HE.out.1, HE.out.2]; rfl, by rw [HE.out.2]; exact Rb.nil _ _ _ (Nat.zero_le _) (fun _ => rfl), hbW⟩
  | true =>
  obtain ⟨f1, f2, f3, f4, f5, f6, f7⟩ := foB_iff.1 hf
  rw [hf] at hfo
  go_enter Try.func6, Try.ntmps6
  go_wp2_with fail
  rw [← hW]
  clear hW
  refine hfo.mono ?_
  rintro e u1 ⟨rfl, hb1⟩
  replace hbW : Below w.heap.size w u1 := hbW.trans (hb1.mono hbW.size)
  replace X1 := X1.below hb1
  clear hfo x0 x1 hb1
  have hgs : w.heap.size < u1.heap.size := X1.lt
  obtain ⟨V, hV, hPg, hbV⟩ : ∃ V, V = u1.alloc (.cells #[.slice none 0 0, .int .i64 0, .map none, .bool false] 43) ∧ Pc V u1.heap.size (· < u1.heap.size) ⟨[], [], false⟩ ∧ Below u1.heap.size u1 V := ⟨_, rfl, pc_newA u1 _ (fun _ h => h), bl1 _⟩
  obtain ⟨y0, y1, _⟩ := X1.two
  replace X1 := X1.below hbV
  replace hbW : Below w.heap.size w V := hbW.trans (hbV.mono hbW.size)
  obtain ⟨x0, x1, _⟩ := X1.two
  by_cases hps : 0 < o.ps.length
  · have HE : Hid (wrOE o = 0 ∧ wrOB o = paB o.ps) := by
      constructor
      · simp [wrOE, hf, show ¬ o.ps.length = 0 by omega]
      · simp [wrOB, hf, show ¬ o.ps.length = 0 by omega]
    have g1 : (0 : Int) < (o.ps.length : Int) := by omega
    have hpp := cputParts_any S u1.heap.size (· < u1.heap.size) b cb o.ps V hPg (HP.out.below hbW) (fun b' o' e hne => by
      obtain ⟨b2, o2, e2, h2⟩ := HP.out.blk hne
      rw [e] at e2
      cases e2
      exact Nat.lt_trans h2 hgs) f7 f3
    have hpl := (byt_paB o.ps).2
    clear hf f1 f2 f4 f5 f6 f7 X1 hPg
    go_wp2_with fail
    rw [← hV]
    clear hV
    refine hpp.mono ?_
    rintro e u2 ⟨rfl, hP2, hK2⟩
    replace hbW : Below w.heap.size w u2 := hbW.trans (hK2.below (fun k hk => Nat.lt_trans hk hgs))
    clear hpp hK2 x0 x1 y0 y1
    have hal := all_any u1.heap.size _ _ u2 hP2 (by show (paB o.ps).length ≤ _; omega)
    rw [all_B, all_E, ← HE.out.2] at hal
    clear hP2
    go_wp2_with fail
    refine hal.mono ?_
    rintro e u4 ⟨a4, c4, rfl, hrw, hb4⟩
    clear hal
    replace hbW : Below w.heap.size w u4 := hbW.trans (hb4.mono hbW.size)
    go_wp2
    go_ret2
    exact ⟨a4, c4, by rw [HE.out.1]; rfl, Rw.rd hrw, hbW⟩
  have hps0 : o.ps.length = 0 := by omega
  have g1 : ¬ (0 : Int) < (o.ps.length : Int) := by omega
  have HNO : Hid (diB o.cs.flatten = false → wrOE o = 4 ∧ wrOB o = []) := fun hd => ⟨by simp [wrOE, hf, hps0, hd], by simp [wrOB, hf, hps0, hd]⟩
  have HYE : Hid (diB o.cs.flatten = true → wrOE o = 0 ∧ wrOB o = coB o.cs) := fun hd => ⟨by simp [wrOE, hf, hps0, hd], by simp [wrOB, hf, hps0, hd]⟩
  have HDI : Hid (_) := diB_eq o.cs.flatten
  have HCO : Hid (_) := coB_eq o.cs
  have hco := (byt_coB o.cs).2
  have HEN : Hid (∀ x ∈ endF 0 o.cs, -32768 ≤ x ∧ x ≤ 65535) := fun x hx => by have := endF_le o.cs 0 (Int.le_refl _) f4 x hx; omega
  have hel : (endF 0 o.cs).length ≤ 10 := by rw [endF_len]; exact f2
  have HPF : Hid (∀ k, k < o.cs.flatten.length → PnF (o.cs.flatten.getD k Pn.none)) := fun k hk => f6 _ (get_mem hk)
  have hpt := cpointsO_any S a ca (.slice b o.ps.length cb) o.cs V (HC.out.below hbW) (by omega) rfl
  have hends := fun U (h : Below w.heap.size w U) => cends_any S a ca (.slice b o.ps.length cb) o.cs U (HC.out.below h) (by omega) (by omega) rfl
  clear f1 f3 f4 f6 f7 hps hf hps0
  have hflo := flL_O o.cs.flatten
  have HFLO : Hid (∀ x ∈ flL o.cs.flatten, FlO x) := hflo
  have hfll : (flL o.cs.flatten).length ≤ 80 := by rw [flL_len]; exact f5
  have hxl : (stX o.cs.flatten).length ≤ 80 := by rw [stX_len]; exact f5
  have hyl : (stY o.cs.flatten).length ≤ 80 := by rw [stY_len]; exact f5
  rw [HCO.out] at hco
  clear hflo
  generalize o.cs.flatten = L at *
  generalize endF 0 o.cs = E at *
  go_wp2_with fail
  rw [← hV]
  clear hV
  refine hpt.mono ?_
  rintro e u2 ⟨a2, c2, rfl, hg2, hbk2, hb2⟩
  obtain ⟨G2, hP2, hG2a, hG2b⟩ := hPg.wide' hb2
  replace hbW : Below w.heap.size w u2 := hbW.trans (hb2.mono hbW.size)
  replace X1 := X1.below hb2
  have hV2 := hb2.size
  have hG2w : ∀ k, k < u1.heap.size → G2 k := fun k hk => hG2a k hk
  have hG2p : ∀ b o, a2 = some ⟨b, o, none⟩ → G2 b := fun b o e => hG2b b (hbk2 b o e).1 (hbk2 b o e).2
  clear hpt hb2 x0 x1 y0 y1 hPg hbV hbk2 hG2a hG2b
  have hst := csteps_any _ a2 c2 L u2 hg2 (by omega) HPF.out
  go_wp2_with fail
  refine hst.mono ?_
  rintro e u3 ⟨a3, c3, a4, c4, rfl, hr3, hr4, hbk3, hbk4, hb3⟩
  obtain ⟨G3, hP3, hG3a, hG3b⟩ := hP2.wide' hb3
  replace hbW : Below w.heap.size w u3 := hbW.trans (hb3.mono hbW.size)
  replace X1 := X1.below hb3
  replace hg2 := hg2.below hb3
  have hG3w : ∀ k, k < u1.heap.size → G3 k := fun k hk => hG3a k (hG2w k hk)
  have hG3p : ∀ b o, a2 = some ⟨b, o, none⟩ → G3 b := fun b o e => hG3a b (hG2p b o e)
  have hG3x : ∀ b o, a3 = some ⟨b, o, none⟩ → G3 b := fun b o e => hG3b b (hbk3 b o e).1 (hbk3 b o e).2
  have hG3y : ∀ b o, a4 = some ⟨b, o, none⟩ → G3 b := fun b o e => hG3b b (hbk4 b o e).1 (hbk4 b o e).2
  clear hst hb3 hP2 hG2w hG2p hG3a hG3b hbk3 hbk4
  have hfx := cfields_any a3 c3 (stX L) u3 hr3
  have hfy := cfields_any a4 c4 (stY L) u3 hr4
  cases hdx : (stX L).all fdB with
  | false =>
    have HE : Hid (wrOE o = 4 ∧ wrOB o = []) := HNO.out (by rw [HDI.out, hdx, Bool.false_and])
    rw [hdx] at hfx
    clear hdx hfy HNO HYE HDI HCO HEN HPF hends
    go_wp2_with fail
    refine hfx.mono ?_
    rintro e v ⟨rfl, rfl⟩
    clear hfx
    go_wp2
    go_ret2
    exact ⟨none, 0, by rw [HE.out.1, HE.out.2]; rfl, by rw [HE.out.2]; exact Rb.nil _ _ _ (Nat.zero_le _) (fun _ => rfl), hbW⟩
  | true =>
  have HFX : Hid (_) := all_fd hdx
  cases hdy : (stY L).all fdB with
  | false =>
    have HE : Hid (wrOE o = 4 ∧ wrOB o = []) := HNO.out (by rw [HDI.out, hdy, Bool.and_false])
    rw [hdx] at hfx
    rw [hdy] at hfy
    clear hdx hdy HNO HYE HDI HCO HEN HPF hends HFX
    go_wp2_with fail
    refine hfx.mono ?_
    rintro e v ⟨rfl, rfl⟩
    clear hfx
    go_wp2_with fail
    refine hfy.mono ?_
    rintro e v ⟨rfl, rfl⟩
    clear hfy
    go_wp2
    go_ret2
    exact ⟨none, 0, by rw [HE.out.1, HE.out.2]; rfl, by rw [HE.out.2]; exact Rb.nil _ _ _ (Nat.zero_le _) (fun _ => rfl), hbW⟩
  | true =>
  have HE0 : Hid (wrOE o = 0 ∧ wrOB o = coB o.cs) := HYE.out (by rw [HDI.out, hdx, hdy]; rfl)
  have HE : Hid (wrOE o = 0 ∧ wrOB o = [] ++ be2 (o.cs.length : Int) ++ E.flatMap be2 ++ rl (flL L) ++ (stX L).flatMap axB ++ (stY L).flatMap axB) := ⟨HE0.out.1, by rw [HE0.out.2, HCO.out]⟩
  have HFY : Hid (_) := all_fd hdy
  rw [hdx] at hfx
  rw [hdy] at hfy
  clear hdx hdy HNO HYE HDI HCO HPF HE0
  go_wp2_with fail
  refine hfx.mono ?_
  rintro e v ⟨rfl, rfl⟩
  clear hfx
  go_wp2_with fail
  refine hfy.mono ?_
  rintro e v ⟨rfl, rfl⟩
  clear hfy
  obtain ⟨x0, x1, _⟩ := X1.two
  have hp4 := put16_any u1.heap.size G3 _ (o.cs.length : Int) u3 hP3 ⟨by omega, by omega⟩ (by show 0 + 4 ≤ 1048576; decide)
  rw [put16A (by omega) (by omega)] at hp4
  obtain ⟨y1, hy1⟩ : ∃ y, ([] : List Nat) ++ be2 (o.cs.length : Int) = y := ⟨_, rfl⟩
  have hyl1 : y1.length ≤ 2 := by rw [← hy1]; exact Nat.le_refl _
  rw [hy1] at hp4 HE hco
  clear hP3 hy1
  go_wp2_with fail
  refine hp4.mono ?_
  rintro e u4 ⟨rfl, hP4, hK4⟩
  have hbk4 : Below u1.heap.size u3 u4 := hK4.below hG3w
  replace hbW : Below w.heap.size w u4 := hbW.trans (hbk4.mono (Nat.le_of_lt hgs))
  replace X1 := X1.kept hK4 (hG3w _ hgs)
  replace hg2 := hg2.keptP hK4 (fun b o e _ => hG3p b o e)
  replace hr3 := hr3.kept hK4 hG3x
  replace hr4 := hr4.kept hK4 hG3y
  clear hp4 x0 x1 hK4 hbk4
  obtain ⟨x0, x1, _⟩ := X1.two
  replace hends := hends u4 hbW
  go_wp2_with fail
  refine hends.mono ?_
  rintro e u5 ⟨a5, c5, rfl, hr5, hbk5, hb5⟩
  obtain ⟨G5, hP5, hG5a, hG5b⟩ := hP4.wide' hb5
  replace hbW : Below w.heap.size w u5 := hbW.trans (hb5.mono hbW.size)
  replace hg2 := hg2.below hb5
  replace hr3 := hr3.below hb5
  replace hr4 := hr4.below hb5
  have hG5w : ∀ k, k < u1.heap.size → G5 k := fun k hk => hG5a k (hG3w k hk)
  have hG5p : ∀ b o, a2 = some ⟨b, o, none⟩ → G5 b := fun b o e => hG5a b (hG3p b o e)
  have hG5x : ∀ b o, a3 = some ⟨b, o, none⟩ → G5 b := fun b o e => hG5a b (hG3x b o e)
  have hG5y : ∀ b o, a4 = some ⟨b, o, none⟩ → G5 b := fun b o e => hG5a b (hG3y b o e)
  have hG5e : ∀ b o, a5 = some ⟨b, o, none⟩ → G5 b := fun b o e => hG5b b (hbk5 b o e).1 (hbk5 b o e).2
  have HR5 : Hid (Ri u5 a5 c5 E) := hr5
  have HP5 : Hid (Pc u5 u1.heap.size G5 ⟨y1, [], false⟩) := hP5
  have HG2 : Hid (Gr PnE (fun _ => True) u5 a2 c2 L) := hg2
  have HR3 : Hid (Ri u5 a3 c3 (stX L)) := hr3
  have HR4 : Hid (Ri u5 a4 c4 (stY L)) := hr4
  have HBW : Hid (Below w.heap.size w u5) := hbW
  have HW5 : Hid ((∀ k, k < u1.heap.size → G5 k) ∧ (∀ b o, a2 = some ⟨b, o, none⟩ → G5 b) ∧ (∀ b o, a3 = some ⟨b, o, none⟩ → G5 b) ∧ (∀ b o, a4 = some ⟨b, o, none⟩ → G5 b) ∧ (∀ b o, a5 = some ⟨b, o, none⟩ → G5 b)) := ⟨hG5w, hG5p, hG5x, hG5y, hG5e⟩
  clear hends hb5 hP4 hG3w hG3p hG3x hG3y hG5a hG5b hbk5 X1 x0 x1 hr5 hP5 hg2 hr3 hr4 hbW hG5w hG5p hG5x hG5y hG5e
  go_wp2
  go_loopw [50] (fun i wr => ∃ k : Nat, k ≤ E.length ∧ i = .int .i64 k ∧ Pc wr u1.heap.size G5 ⟨y1 ++ (E.take k).flatMap be2, [], false⟩ ∧ Keep G5 u5 wr) (fun i _ => E.length - (intOf i).toNat)
  case atStart => exact ⟨0, Nat.zero_le _, rfl, by simpa using HP5.out, Keep.refl _ _⟩
  case round =>
    clear HP5
    obtain ⟨k, hk, rfl, hP, hK⟩ := hrel
    by_cases hkn : k < E.length
    · obtain ⟨b5, off5, ea, hb5, d0⟩ := (HR5.out.kept hK HW5.out.2.2.2.2).get k hkn
      have hx := HEN.out _ (getD_mem hkn)
      obtain ⟨x, hx0⟩ : ∃ x, E.getD k 0 = x := ⟨_, rfl⟩
      have HS : Hid (_) := flat_take (f := be2) hkn hx0
      have hle : ((E.take k).flatMap be2).length ≤ 2 * E.length := take_len2 (fun x => by simp [be2]) E k
      rw [hx0] at d0 hx
      subst ea
      clear hx0
      obtain ⟨zs, hzs⟩ : ∃ zs, (E.take k).flatMap be2 = zs := ⟨_, rfl⟩
      rw [hzs] at HS hle hP
      have HT : Hid (y1 ++ zs ++ be2 x = y1 ++ (E.take (k + 1)).flatMap be2) := by show _ = _; rw [HS.out, List.append_assoc]
      clear hzs HS
      have hp := put16_any u1.heap.size G5 _ x wr hP ⟨by omega, by omega⟩ (by show (y1 ++ zs).length + 4 ≤ _; rw [List.length_append]; omega)
      rw [put16A hx.1 hx.2, HT.out] at hp
      have i1 : (0 : Int) ≤ (k : Int) := by omega
      have i2 : (k : Int) < (E.length : Int) := by omega
      clear hP hx HT
      go_wp2_with fail
      refine hp.mono ?_
      rintro e v1 ⟨rfl, hP, hK1⟩
      replace hK := hK.trans hK1
      clear hp hK1
      go_wp2
      go_roundw
      case rel => exact ⟨k + 1, by omega, by go_num, hP, hK⟩
      case measure => simp [intOf]; omega
    · obtain rfl : k = E.length := by omega
      rw [List.take_length] at hP
      obtain ⟨y2, hy2⟩ : ∃ y, y1 ++ E.flatMap be2 = y := ⟨_, rfl⟩
      have hyl2 : y2.length ≤ 22 := by
        rw [← hy2, List.length_append]
        have := flat_len (f := be2) (fun x => by simp [be2]) E
        omega
      rw [hy2] at hP HE hco
      have g2 : ¬ (E.length : Int) < (E.length : Int) := by omega
      have hg2 := HG2.out.keptP hK (fun b o e _ => HW5.out.2.1 b o e)
      have hr3 := HR3.out.kept hK HW5.out.2.2.1
      have hr4 := HR4.out.kept hK HW5.out.2.2.2.1
      have hbW : Below w.heap.size w wr := HBW.out.trans (hK.below (fun k hk => HW5.out.1 k (Nat.lt_trans hk hgs)))
      clear hy2 HR5 HG2 HR3 HR4 hK HBW HEN hkn hk
      have hfl := cflags_any _ a2 c2 a3 c3 a4 c4 L wr hg2 hr3 hr4 (by omega)
      go_wp2_with fail
      refine hfl.mono ?_
      rintro e u6 ⟨a6, c6, rfl, hr6, hbk6, hb6⟩
      obtain ⟨G6, hP6, hG6a, hG6b⟩ := hP.wide' hb6
      replace hbW : Below w.heap.size w u6 := hbW.trans (hb6.mono hbW.size)
      replace hr3 := hr3.below hb6
      replace hr4 := hr4.below hb6
      have hG6w : ∀ k, k < u1.heap.size → G6 k := fun k hk => hG6a k (HW5.out.1 k hk)
      have hG6x : ∀ b o, a3 = some ⟨b, o, none⟩ → G6 b := fun b o e => hG6a b (HW5.out.2.2.1 b o e)
      have hG6y : ∀ b o, a4 = some ⟨b, o, none⟩ → G6 b := fun b o e => hG6a b (HW5.out.2.2.2.1 b o e)
      have hG6f : ∀ b o, a6 = some ⟨b, o, none⟩ → G6 b := fun b o e => hG6b b (hbk6 b o e).1 (hbk6 b o e).2
      clear hfl hP hg2 hb6 hG6a hG6b hbk6 HW5
      have hco3 : (y2 ++ rl (flL L)).length ≤ 20000 := by simp only [List.length_append] at hco ⊢; omega
      have hpf := cputFlags_any u1.heap.size G6 y2 a6 c6 (flL L) u6 hP6 hr6 hG6f HFLO.out hco3 (by omega)
      obtain ⟨y3, hy3⟩ : ∃ y, y2 ++ rl (flL L) = y := ⟨_, rfl⟩
      rw [hy3] at hpf HE hco hco3
      clear hP6 hr6 hG6f hy3 hyl2
      go_wp2_with fail
      refine hpf.mono ?_
      rintro e u7 ⟨rfl, hP7, hK7⟩
      replace hbW : Below w.heap.size w u7 := hbW.trans (hK7.below (fun k hk => hG6w k (Nat.lt_trans hk hgs)))
      replace hr3 := hr3.kept hK7 hG6x
      replace hr4 := hr4.kept hK7 hG6y
      clear hpf hK7
      have hps1 := cputSteps_any u1.heap.size G6 y3 a3 c3 (stX L) u7 hP7 hr3 hG6x HFX.out (by omega)
      obtain ⟨y4, hy4⟩ : ∃ y, y3 ++ (stX L).flatMap axB = y := ⟨_, rfl⟩
      have hyl4 : y4.length ≤ 20400 := by
        rw [← hy4, List.length_append]
        have := flat_len axB_len (stX L)
        omega
      rw [hy4] at hps1 HE hco
      clear hP7 hy4
      go_wp2_with fail
      refine hps1.mono ?_
      rintro e u8 ⟨rfl, hP8, hK8⟩
      replace hbW : Below w.heap.size w u8 := hbW.trans (hK8.below (fun k hk => hG6w k (Nat.lt_trans hk hgs)))
      replace hr4 := hr4.kept hK8 hG6y
      clear hps1 hK8 hr3
      have hps2 := cputSteps_any u1.heap.size G6 y4 a4 c4 (stY L) u8 hP8 hr4 hG6y HFY.out (by omega)
      rw [← HE.out.2] at hps2 hco
      clear hP8
      go_wp2_with fail
      refine hps2.mono ?_
      rintro e u9 ⟨rfl, hP9, hK9⟩
      replace hbW : Below w.heap.size w u9 := hbW.trans (hK9.below (fun k hk => hG6w k (Nat.lt_trans hk hgs)))
      clear hps2 hK9 hr4
      have hal := all_any u1.heap.size _ _ u9 hP9 (by show (wrOB o).length ≤ _; omega)
      rw [all_B, all_E] at hal
      clear hP9
      go_wp2_with fail
      refine hal.mono ?_
      rintro e t4 ⟨a9, c9, rfl, hrw, hb9⟩
      clear hal
      replace hbW : Below w.heap.size w t4 := hbW.trans (hb9.mono hbW.size)
      go_wp2
      go_ret2
      exact ⟨a9, c9, by rw [HE.out.1]; rfl, Rw.rd hrw, hbW⟩

end Go.Proofs.Ytdojgkejpfdaeaa

namespace Go.Proofs.Ytdojgkejpfdaeaa
open Go.RowKit Go.Maps
set_option linter.unusedSimpArgs false
set_option linter.unusedVariables false

/-- How many numbers are counted. -/
def totO (cs : List (List Pn)) : Nat := cs.length + cs.flatten.length
def fewB (o : Ol) : Bool := decide (totO o.cs ≤ 1000) && decide (o.ps.length ≤ 100)
theorem totO_take {cs : List (List Pn)} {k : Nat} (hk : k < cs.length) : totO (cs.take (k + 1)) = totO (cs.take k) + (1 + (cs.getD k []).length) := by
  unfold totO
  rw [flat_take_succ hk, List.length_take, List.length_take]
  omega
theorem totO_le (cs : List (List Pn)) (k : Nat) : totO (cs.take k) ≤ totO cs := by
  unfold totO
  have := flat_take_le cs k
  rw [List.length_take]
  omega
theorem fewB_of {o : Ol} (h : fewB o = true) : o.cs.length ≤ 1000 ∧ o.cs.flatten.length ≤ 1000 ∧ o.ps.length ≤ 100 := by
  unfold fewB totO at h
  rw [Bool.and_eq_true, decide_eq_true_iff, decide_eq_true_iff] at h
  omega

set_option maxHeartbeats 2000000 in
set_option maxRecDepth 100000 in
theorem sfewO_any (S : Nat → Prop) (a : Option Addr) (ca : Nat) (b : Option Addr) (cb : Nat) (o : Ol) (w : World) (hc : Gr PnE.row S w a ca o.cs) (hp : Gr PaE S w b cb o.ps) :
    Calls Try.prog 5 #[.agg #[.slice a o.cs.length ca, .slice b o.ps.length cb]] w fun e w' => e = .returned (.bool (fewB o)) ∧ Below w.heap.size w w' := by
  have k1 := hc.lenB
  have k2 := hp.lenB
  obtain ⟨W, hW, X1, hbW⟩ : ∃ W, W = w.alloc (.cells #[.slice a o.cs.length ca, .slice b o.ps.length cb] 25) ∧ Bk 25 W w.heap.size [.slice a o.cs.length ca, .slice b o.ps.length cb] ∧ Below w.heap.size w W := ⟨_, rfl, Bk.new _ _ _, bl1 _⟩
  obtain ⟨x0, x1, _⟩ := X1.two
  have HC : Hid (Gr PnE.row S W a ca o.cs) := hc.below hbW
  have HF : Hid (fewB o = (decide (totO o.cs ≤ 1000) && decide (o.ps.length ≤ 100))) := rfl
  clear hc hp X1
  generalize fewB o = fb at *
  go_enter Try.func5, Try.ntmps5
  go_wp2
  rw [← hW]
  clear hW
  go_loopw [3, 4] (fun nv i wr => ∃ k n : Nat, k ≤ o.cs.length ∧ i = .int .i64 k ∧ nv = .int .i64 (n : Int) ∧ n = totO (o.cs.take k) ∧ n ≤ 140737488361232 ∧ W = wr) (fun _ i _ => o.cs.length - (intOf i).toNat)
  case atStart => exact ⟨0, 0, Nat.zero_le _, rfl, rfl, rfl, by omega, rfl⟩
  case round =>
    obtain ⟨k, n, hk, rfl, rfl, hn, hnb, rfl⟩ := hrel
    have HN : Hid (n = totO (o.cs.take k)) := hn
    clear hn
    by_cases hgo : k < o.cs.length ∧ n ≤ 1000
    · obtain ⟨hkn, hn1⟩ := hgo
      obtain ⟨b1, off, a1, c1, ea, hb, d0, hrow, hlb, _⟩ := HC.out.rw (Below.refl _ _) k hkn
      subst ea
      have hst := totO_take hkn
      rw [← HN.out] at hst
      obtain ⟨c, hcc⟩ : ∃ c, o.cs.getD k [] = c := ⟨_, rfl⟩
      rw [hcc] at d0 hst hlb
      have HN2 : Hid (n + (1 + c.length) = totO (o.cs.take (k + 1))) := hst.symm
      have g1 : decide (k < o.cs.length) = true := decide_eq_true hkn
      have g2 : decide ((n : Int) ≤ 1000) = true := decide_eq_true (by omega)
      have i1 : (0 : Int) ≤ (k : Int) := by omega
      have i2 : (k : Int) < (o.cs.length : Int) := by omega
      clear hst hcc hrow HN
      go_wp2
      go_roundw
      case rel => exact ⟨k + 1, n + (1 + c.length), by omega, by go_num, by go_num, HN2.out, by omega, trivial⟩
      case measure => simp [intOf]; omega
    · have hle := totO_le o.cs k
      have HFF : Hid (fb = (decide ((n : Int) ≤ 1000) && decide ((o.ps.length : Int) ≤ 100))) := by
        show _ = _
        rw [HF.out]
        have h1 : decide (totO o.cs ≤ 1000) = decide ((n : Int) ≤ 1000) := by
          rw [decide_eq_decide]
          by_cases hkk : k < o.cs.length
          · rw [← HN.out] at hle
            omega
          · have : o.cs.take k = o.cs := List.take_of_length_le (by omega)
            have h2 := HN.out
            rw [this] at h2
            omega
        have h2 : decide (o.ps.length ≤ 100) = decide ((o.ps.length : Int) ≤ 100) := by
          rw [decide_eq_decide]
          omega
        rw [h1, h2]
      clear HN hle
      by_cases hkn : k < o.cs.length
      · have g1 : decide (k < o.cs.length) = true := decide_eq_true hkn
        have g2 : decide ((n : Int) ≤ 1000) = false := decide_eq_false (by omega)
        rw [g2, Bool.false_and] at HFF
        go_wp2
        go_ret
        exact ⟨rt_bool HFF.out.symm, hbW⟩
      · have g1 : decide (k < o.cs.length) = false := decide_eq_false hkn
        by_cases hn1 : n ≤ 1000
        · have g2 : decide ((n : Int) ≤ 1000) = true := decide_eq_true (by omega)
          rw [g2, Bool.true_and] at HFF
          go_wp2
          go_ret
          exact ⟨rt_bool HFF.out.symm, hbW⟩
        · have g2 : decide ((n : Int) ≤ 1000) = false := decide_eq_false (by omega)
          rw [g2, Bool.false_and] at HFF
          go_wp2
          go_ret
          exact ⟨rt_bool HFF.out.symm, hbW⟩

set_option maxHeartbeats 2000000 in
set_option maxRecDepth 100000 in
theorem spointsO_any (S : Nat → Prop) (a : Option Addr) (ca : Nat) (vb : Value) (cs : List (List Pn)) (w : World) (h : Gr PnE.row S w a ca cs) (hl : cs.flatten.length ≤ 100000) (hv : vb.cells = #[vb]) :
    Calls Try.prog 33 #[.agg #[.slice a cs.length ca, vb]] w fun e w' => ∃ a' c', e = .returned (.slice a' cs.flatten.length c') ∧ Gr PnE (fun _ => True) w' a' c' cs.flatten ∧ (∀ b o, a' = some ⟨b, o, none⟩ → w.heap.size ≤ b ∧ b < w'.heap.size) ∧ Below w.heap.size w w' := by
  have k2 := h.lenB
  obtain ⟨W, hW, X1, hbW⟩ : ∃ W, W = w.alloc (.cells #[.slice a cs.length ca, vb] 25) ∧ Bk 25 W w.heap.size [.slice a cs.length ca, vb] ∧ Below w.heap.size w W := ⟨_, rfl, Bk.new _ _ _, bl1 _⟩
  have HH : Hid (Gr PnE.row S w a ca cs) := h
  have HX : Hid (Bk 25 W w.heap.size [.slice a cs.length ca, vb]) := X1
  have HB0 : Hid (Below w.heap.size w W) := hbW
  have HGL : Hid (w.heap.size < W.heap.size) := X1.lt
  clear h X1 hbW
  go_enter Try.func33, Try.ntmps33
  go_wp2
  rw [← hW]
  clear hW
  go_loopw [3, 4] (fun v i wr => ∃ k : Nat, k ≤ cs.length ∧ i = .int .i64 k ∧ Gw PnE 38 W.heap.size (fun _ => True) wr v ((cs.take k).flatten) ∧ Below W.heap.size W wr) (fun _ i _ => cs.length - (intOf i).toNat)
  case atStart => exact ⟨0, Nat.zero_le _, rfl, Gw.nil _ _ _ _ _, Below.refl _ _⟩
  case round =>
    obtain ⟨k, hk, rfl, hT, hB⟩ := hrel
    obtain ⟨a2, c2, rfl, hgr, hblk⟩ := hT.slice
    have HT : Hid (Gw PnE 38 W.heap.size (fun _ => True) wr (.slice a2 ((cs.take k).flatten).length c2) ((cs.take k).flatten)) := hT
    obtain ⟨x0, x1, _⟩ := (HX.out.below hB).two
    have hBw : Below w.heap.size w wr := HB0.out.trans (hB.mono HB0.out.size)
    clear hT
    by_cases hkn : k < cs.length
    · obtain ⟨b, off, a1, c1, ea, hb, d0, hrow, hlb, _⟩ := HH.out.rw hBw k hkn
      subst ea
      have hst := flat_take_succ hkn
      have hle := flat_take_le cs (k + 1)
      obtain ⟨c, hc⟩ : ∃ c, cs.getD k [] = c := ⟨_, rfl⟩
      have HS : Hid (_) := flat_take_snoc hkn hc
      rw [hc] at d0 hst hlb hrow
      have hll : ((cs.take k).flatten).length + c.length ≤ 1000000 := by omega
      have i1 : (0 : Int) ≤ (k : Int) := by omega
      have i2 : (k : Int) < (cs.length : Int) := by omega
      have hbs : W.heap.size ≤ wr.heap.size := hB.size
      clear hc hst hle hlb hgr hblk
      generalize (cs.take k).flatten = L at *
      go_wp2_with (at_builtin; refine wpList_append_el 39 38 Try.underlying39 info_pn rfl (by decide) (by decide) rfl _ _ rfl W.heap.size (fun _ => True) _ L rfl HT.out a1 c1 _ c rfl rfl hrow.anyP hll hbs ?_)
      intro v9 w9 hT9 hgrow _
      have hB9 : Below W.heap.size W w9 := hB.grown hgrow hbs (fun k hk => (HT.out.lo hk).1)
      rw [← HS.out] at hT9
      clear hgrow hbs hll HS
      go_wp2
      go_roundw
      case rel => exact ⟨k + 1, by omega, by go_num, hT9, hB9⟩
      case measure => simp [intOf]; omega
    · obtain rfl : k = cs.length := by omega
      rw [List.take_length] at HT hgr ⊢
      have HB2 : Hid (∀ b o, a2 = some ⟨b, o, none⟩ → w.heap.size ≤ b ∧ b < wr.heap.size) := fun b o e => ⟨Nat.le_trans (Nat.le_of_lt HGL.out) (hblk b o e).1, (hblk b o e).2⟩
      have g4 : ¬ (cs.length : Int) < (cs.length : Int) := by omega
      clear hblk
      go_wp2
      go_ret
      exact ⟨a2, c2, rfl, hgr, HB2.out, hBw⟩

set_option maxHeartbeats 2000000 in
set_option maxRecDepth 100000 in
theorem sendsO_any (S : Nat → Prop) (a : Option Addr) (ca : Nat) (vb : Value) (cs : List (List Pn)) (w : World) (h : Gr PnE.row S w a ca cs) (hl : cs.flatten.length ≤ 100000) (hn : cs.length ≤ 100000) (hv : vb.cells = #[vb]) :
    Calls Try.prog 42 #[.agg #[.slice a cs.length ca, vb]] w fun e w' => ∃ a' c', e = .returned (.slice a' (endF 0 cs).length c') ∧ Ri w' a' c' (endF 0 cs) ∧ (∀ b o, a' = some ⟨b, o, none⟩ → w.heap.size ≤ b ∧ b < w'.heap.size) ∧ Below w.heap.size w w' := by
  obtain ⟨W, hW, X1, hbW⟩ : ∃ W, W = w.alloc (.cells #[.slice a cs.length ca, vb] 25) ∧ Bk 25 W w.heap.size [.slice a cs.length ca, vb] ∧ Below w.heap.size w W := ⟨_, rfl, Bk.new _ _ _, bl1 _⟩
  have HH : Hid (Gr PnE.row S w a ca cs) := h
  have HX : Hid (Bk 25 W w.heap.size [.slice a cs.length ca, vb]) := X1
  have HB0 : Hid (Below w.heap.size w W) := hbW
  have HGL : Hid (w.heap.size < W.heap.size) := X1.lt
  clear h X1 hbW
  go_enter Try.func42, Try.ntmps42
  go_wp2
  rw [← hW]
  clear hW
  go_loopw [3, 4, 5] (fun v la i wr => ∃ k m : Nat, k ≤ cs.length ∧ i = .int .i64 k ∧ la = .int .i64 (m : Int) ∧ m = ((cs.take k).flatten).length ∧ Io W.heap.size wr v (endF 0 (cs.take k)) ∧ Below W.heap.size W wr) (fun _ _ i _ => cs.length - (intOf i).toNat)
  case atStart => exact ⟨0, 0, Nat.zero_le _, rfl, rfl, rfl, Io.nil _ _, Below.refl _ _⟩
  case round =>
    obtain ⟨k, m, hk, rfl, rfl, hm, hT, hB⟩ := hrel
    obtain ⟨a2, c2, rfl, hts⟩ := hT.slice
    have hlen : (endF 0 (cs.take k)).length = k := by rw [endF_len, List.length_take]; omega
    have HM : Hid (m = ((cs.take k).flatten).length) := hm
    have HT : Hid (Io W.heap.size wr (.slice a2 (endF 0 (cs.take k)).length c2) (endF 0 (cs.take k))) := hT
    have hll : (endF 0 (cs.take k)).length + 1 ≤ 1000000 := by omega
    obtain ⟨x0, x1, _⟩ := (HX.out.below hB).two
    have hBw : Below w.heap.size w wr := HB0.out.trans (hB.mono HB0.out.size)
    clear hm hT hlen
    by_cases hkn : k < cs.length
    · obtain ⟨b, off, a1, c1, ea, hb, d0, hrow, hlb, _⟩ := HH.out.rw hBw k hkn
      subst ea
      have hst := flat_take_succ hkn
      have hle := flat_take_le cs (k + 1)
      rw [← HM.out] at hst
      obtain ⟨c, hc⟩ : ∃ c, cs.getD k [] = c := ⟨_, rfl⟩
      have HS : Hid (_) := endF_take hkn hc
      rw [← HM.out] at HS
      rw [hc] at d0 hst hlb
      have HM2 : Hid (m + c.length = ((cs.take (k + 1)).flatten).length) := hst.symm
      have hmc : m + c.length ≤ 100000 := by omega
      have i1 : (0 : Int) ≤ (k : Int) := by omega
      have i2 : (k : Int) < (cs.length : Int) := by omega
      obtain ⟨y, hy⟩ : ∃ y, (m : Int) + (c.length : Int) - 1 = y := ⟨_, rfl⟩
      rw [hy] at HS
      have hyi : I64 y := ⟨by omega, by omega⟩
      have hyb : -9223372036854775808 ≤ y ∧ y ≤ 9223372036854775807 := hyi
      have hT5 := HT.out.below (bl1 (.cells #[.int .i64 y] 3))
      have hN := heap_alloc_new wr (.cells #[.int .i64 y] 3)
      have n0 := cell_of_row _ wr.heap.size 0 _ _ (0, 0) hN
      have hbs : W.heap.size ≤ (wr.alloc (.cells #[.int .i64 y] 3)).heap.size := Nat.le_trans hB.size (bl1 _).size
      clear hc hst hle hrow HM hlb hN hts
      generalize endF 0 (cs.take k) = L at *
      go_wp2_with (at_builtin; refine wpList_append_int rfl _ _ rfl W.heap.size _ L rfl hT5 wr.heap.size y rfl n0 hyi hll hbs ?_)
      intro v' w9 hT9 hgrow
      have hB9 : Below W.heap.size W w9 := (hB.alloc hB.size _).grown hgrow hbs (fun k hk => HT.out.lo hk)
      rw [← HS.out] at hT9
      clear hgrow hT5 n0 hbs hll HS
      go_wp2
      go_roundw
      case rel => exact ⟨k + 1, m + c.length, by omega, by go_num, by go_num, HM2.out, hT9, hB9⟩
      case measure => simp [intOf]; omega
    · obtain rfl : k = cs.length := by omega
      rw [List.take_length] at HT hts ⊢
      have HB2 : Hid (∀ b o, a2 = some ⟨b, o, none⟩ → w.heap.size ≤ b ∧ b < wr.heap.size) := fun b o e => by
        subst e
        have := World.ownsRow.lt HT.out.2 b rfl
        exact ⟨Nat.le_trans (Nat.le_of_lt HGL.out) this.1, this.2⟩
      have g4 : ¬ (cs.length : Int) < (cs.length : Int) := by omega
      clear HM hll
      go_wp2
      go_ret
      exact ⟨a2, c2, rfl, hts, HB2.out, hBw⟩

end Go.Proofs.Ytdojgkejpfdaeaa

namespace Go.Proofs.Ytdojgkejpfdaeaa
open Go.RowKit Go.Maps
set_option linter.unusedSimpArgs false
set_option linter.unusedVariables false

theorem none_cells (a : Option Addr) (n c : Nat) : (Value.slice a n c).cells = #[.slice a n c] := rfl

set_option maxHeartbeats 1000000 in
set_option maxRecDepth 100000 in
theorem awake12_any (w : World) :
    Calls Try.prog 4 #[] w fun e w' => e = .returned (.bool true) ∧ Below w.heap.size w w' := by
  obtain ⟨W, hW⟩ : ∃ W, W = (w.alloc (.cells #[.int .i64 10, .int .i64 0, .bool true] 38)).alloc (.cells #[.slice (some ⟨w.heap.size, 0, none⟩) 1 1] 39) := ⟨_, rfl⟩
  have X1 : Bk 38 W w.heap.size [.int .i64 10, .int .i64 0, .bool true] := by rw [hW]; exact (Bk.new _ _ _).below (bl1 _)
  have X2 : Bk 39 W (w.heap.size + 1) [.slice (some ⟨w.heap.size, 0, none⟩) 1 1] := by rw [hW]; exact Bk.new1 _ _ _ _
  have hbW : Below w.heap.size w W := by rw [hW]; exact bl2 _ _
  have g1 : Gr PnE (fun _ => True) W (some ⟨w.heap.size, 0, none⟩) 1 [⟨10, 0, true⟩] := Gr.one (vs := pnC ⟨10, 0, true⟩) (PnE_rep.2 ⟨rfl, ⟨by decide, by decide⟩, ⟨by decide, by decide⟩⟩) X1.lt (fun j hj => X1.cell j hj)
  have g2 : Gr PnE.row (fun _ => True) W (some ⟨w.heap.size + 1, 0, none⟩) 1 [[⟨10, 0, true⟩]] := Gr.one (vs := [.slice (some ⟨w.heap.size, 0, none⟩) 1 1]) ⟨_, _, rfl, fun _ _ _ _ => trivial, g1, by decide⟩ X2.lt (fun j hj => X2.cell j hj)
  have hwr := cwriteO_any (fun _ => True) (some ⟨w.heap.size + 1, 0, none⟩) 1 none 0 ⟨[[⟨10, 0, true⟩]], []⟩ W g2 (Gr.nil _ _ _ _ _ (Nat.zero_le _) (fun _ => rfl))
  rw [aw12.1, aw12.2] at hwr
  simp only [List.length_cons, List.length_nil, Nat.zero_add] at hwr
  clear X1 X2 g1 g2
  go_enter Try.func4, Try.ntmps4
  go_wp2_with fail
  rw [← hW]
  clear hW
  refine hwr.mono ?_
  rintro e u ⟨a1, c1, rfl, hr, hb⟩
  replace hbW : Below w.heap.size w u := hbW.trans (hb.mono hbW.size)
  clear hwr hb
  rcases hr.2.2.2.2 with h0 | ⟨b, off, rfl, hb, hc⟩
  · cases h0
  have q4 := hc 4 (by decide)
  simp only [List.getD_cons_zero, List.getD_cons_succ] at q4
  clear hc hr
  go_wp2
  go_ret
  exact ⟨rfl, hbW⟩

end Go.Proofs.Ytdojgkejpfdaeaa

namespace Go.Proofs.Ytdojgkejpfdaeaa
open Go.RowKit Go.Maps
set_option linter.unusedSimpArgs false
set_option linter.unusedVariables false

theorem teq_no {a b : ByteArray} (h : a ≠ b) : (a.toList == b.toList) = false := beq_eq_false_iff_ne.2 (fun e => h (toList_inj e))
theorem Rb.strA {w : World} {a : Option Addr} {cap : Nat} {xs : List Nat} (h : Rb w a cap xs) :
    (convert 26 9 (.slice a xs.length cap)).run Try.prog w = .ok (.string (str8 xs)) w := by
  by_cases hx : xs = []
  · subst hx
    have e : (convert 26 9 (.slice a 0 cap)).run Try.prog w = .ok (.string ByteArray.empty) w := by
      rw [run_convert_bytes_string w 26 9 5 _ 0 cap Try.underlying26 Try.underlying5 Try.underlying9]
      cases a <;> simp [Conv.bytesToString, loadCells, loadCellsFrom]
    exact e
  · exact h.str hx
theorem str8_inj {xs ys : List Nat} (hx : Byt xs) (hy : Byt ys) (e : str8 xs = str8 ys) : xs = ys := by
  rw [← sb_str8 hx, e, sb_str8 hy]

set_option maxHeartbeats 1000000 in
set_option maxRecDepth 100000 in
theorem equal_any (a b : Option Addr) (ca cb : Nat) (xs ys : List Nat) (w : World) (ha : Rb w a ca xs) (hb : Rb w b cb ys) :
    Calls Try.prog 27 #[.slice a xs.length ca, .slice b ys.length cb] w fun e w' => e = .returned (.bool (decide (xs = ys))) ∧ w = w' := by
  have h1 := ha.strA
  have h2 := hb.strA
  by_cases he : xs = ys
  · have hd := decide_eq_true he
    have hq : (str8 xs).toList == (str8 ys).toList := by rw [he]; simp
    have HD : Hid (decide (xs = ys) = true) := hd
    clear hd he
    go_enter Try.func27, Try.ntmps27
    go_wp2
    go_ret
    exact ⟨rt_bool (by rw [HD.out]), rfl⟩
  · have hd := decide_eq_false he
    have hq := teq_no (fun e => he (str8_inj ha.lim hb.lim e))
    have HD : Hid (decide (xs = ys) = false) := hd
    clear hd he
    go_enter Try.func27, Try.ntmps27
    go_wp2
    go_ret
    exact ⟨rt_bool (by rw [HD.out]), rfl⟩

end Go.Proofs.Ytdojgkejpfdaeaa
