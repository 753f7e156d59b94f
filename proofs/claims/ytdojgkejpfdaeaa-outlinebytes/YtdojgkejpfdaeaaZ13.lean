/-
  outline.Formed, slices.Grow, slices.Concat, outline.Points, outline.Ends: the walks.
  outline.contoursOf: the walk.
-/
import Derived.Test.YtdojgkejpfdaeaaZ12
import Derived.Lib.AppendZerosOnto
import Derived.Test.YtdojgkejpfdaeaaZ7
import Derived.Deep.CutRange
import Derived.Lib.MinMax
namespace Go.Proofs.Ytdojgkejpfdaeaa
open Go.RowKit Go.Maps
set_option linter.unusedSimpArgs false
set_option linter.unusedVariables false

theorem foB_eq (o : Ol) : foB o = (!(decide (0 < o.ps.length) && decide (0 < o.cs.length)) && (coF o.cs && (decide (o.ps.length ≤ 6) && o.ps.all paF))) := by
  unfold foB coF
  generalize decide (0 < o.cs.length) = b1
  generalize decide (0 < o.ps.length) = b2
  generalize decide (o.cs.length ≤ 10) = b3
  generalize decide (o.ps.length ≤ 6) = b4
  generalize o.cs.all _ = b5
  generalize decide (o.cs.flatten.length ≤ 80) = b6
  generalize o.cs.flatten.all pnF = b7
  generalize o.ps.all paF = b8
  revert b1 b2 b3 b4 b5 b6 b7 b8
  decide

set_option maxHeartbeats 2000000 in
set_option maxRecDepth 100000 in
theorem cformO_any (S : Nat → Prop) (a : Option Addr) (ca : Nat) (b : Option Addr) (cb : Nat) (o : Ol) (w : World) (hc : Gr PnE.row S w a ca o.cs) (hp : Gr PaE S w b cb o.ps) :
    Calls Try.prog 12 #[.agg #[.slice a o.cs.length ca, .slice b o.ps.length cb]] w fun e w' => e = .returned (.bool (foB o)) ∧ Below w.heap.size w w' := by
  have k1 := hc.lenB
  have k2 := hp.lenB
  have HE : Hid (_) := foB_eq o
  obtain ⟨W, hW, X1, hbW⟩ : ∃ W, W = w.alloc (.cells #[.slice a o.cs.length ca, .slice b o.ps.length cb] 25) ∧ Bk 25 W w.heap.size [.slice a o.cs.length ca, .slice b o.ps.length cb] ∧ Below w.heap.size w W := ⟨_, rfl, Bk.new _ _ _, bl1 _⟩
  have hc1 := ccontF_any S a ca o.cs W (hc.below hbW)
  have hp1 := fun U (h : Below W.heap.size W U) => cpartsF_any S b cb o.ps U ((hp.below hbW).below h)
  clear hc hp
  by_cases h2 : 0 < o.ps.length
  · have e1 : decide (0 < o.ps.length) = true := decide_eq_true h2
    have g1 : decide ((0 : Int) < (o.ps.length : Int)) = true := decide_eq_true (by omega)
    by_cases h1 : 0 < o.cs.length
    · have e2 : decide (0 < o.cs.length) = true := decide_eq_true h1
      have g2 : decide ((0 : Int) < (o.cs.length : Int)) = true := decide_eq_true (by omega)
      have HF : Hid (foB o = false) := by show _ = _; rw [HE.out, e1, e2]; rfl
      clear HE hc1 hp1
      obtain ⟨x0, x1, _⟩ := X1.two
      go_enter Try.func12, Try.ntmps12
      go_wp2
      go_ret
      exact ⟨rt_bool HF.out.symm, bl1 _⟩
    · have e2 : decide (0 < o.cs.length) = false := decide_eq_false h1
      have g2 : decide ((0 : Int) < (o.cs.length : Int)) = false := decide_eq_false (by omega)
      have HF : Hid (foB o = (coF o.cs && (decide (o.ps.length ≤ 6) && o.ps.all paF))) := by show _ = _; rw [HE.out, e2, Bool.and_false]; rfl
      clear HE
      generalize coF o.cs = q1 at *
      generalize (decide (o.ps.length ≤ 6) && o.ps.all paF) = q2 at *
      go_enter Try.func12, Try.ntmps12
      go_wp2_with fail
      rw [← hW]
      clear hW
      refine hc1.mono ?_
      rintro e u1 ⟨rfl, hb1⟩
      replace hbW : Below w.heap.size w u1 := hbW.trans (hb1.mono hbW.size)
      replace hp1 := hp1 u1 hb1
      replace X1 := X1.below hb1
      clear hc1 hb1
      obtain ⟨x0, x1, _⟩ := X1.two
      cases q1 with
      | false =>
        go_wp2
        go_ret
        exact ⟨rt_bool HF.out.symm, hbW⟩
      | true =>
        go_wp2_with fail
        refine hp1.mono ?_
        rintro e u2 ⟨rfl, hb2⟩
        replace hbW : Below w.heap.size w u2 := hbW.trans (hb2.mono hbW.size)
        go_wp2
        go_ret
        exact ⟨rt_bool (by rw [HF.out, Bool.true_and]), hbW⟩
  · have e1 : decide (0 < o.ps.length) = false := decide_eq_false h2
    have g1 : decide ((0 : Int) < (o.ps.length : Int)) = false := decide_eq_false (by omega)
    have HF : Hid (foB o = (coF o.cs && (decide (o.ps.length ≤ 6) && o.ps.all paF))) := by show _ = _; rw [HE.out, e1, Bool.false_and]; rfl
    clear HE
    generalize coF o.cs = q1 at *
    generalize (decide (o.ps.length ≤ 6) && o.ps.all paF) = q2 at *
    go_enter Try.func12, Try.ntmps12
    go_wp2_with fail
    rw [← hW]
    clear hW
    refine hc1.mono ?_
    rintro e u1 ⟨rfl, hb1⟩
    replace hbW : Below w.heap.size w u1 := hbW.trans (hb1.mono hbW.size)
    replace hp1 := hp1 u1 hb1
    replace X1 := X1.below hb1
    clear hc1 hb1
    obtain ⟨x0, x1, _⟩ := X1.two
    cases q1 with
    | false =>
      go_wp2
      go_ret
      exact ⟨rt_bool HF.out.symm, hbW⟩
    | true =>
      go_wp2_with fail
      refine hp1.mono ?_
      rintro e u2 ⟨rfl, hb2⟩
      replace hbW : Below w.heap.size w u2 := hbW.trans (hb2.mono hbW.size)
      go_wp2
      go_ret
      exact ⟨rt_bool (by rw [HF.out, Bool.true_and]), hbW⟩

theorem zero_size (z : Array Value) (n : Nat) : (Builtin.zeroCells z n).size = n * z.size := by simp [Builtin.zeroCells]

set_option maxHeartbeats 2000000 in
set_option maxRecDepth 100000 in
theorem cgrow_any (n : Nat) (w : World) (hn : n ≤ 1000000) :
    Calls Try.prog 51 #[.slice none 0 0, .int .i64 (n : Int)] w fun e w' => ∃ v, e = .returned v ∧ (∀ S, Gw PnE 38 w.heap.size S w' v []) ∧ Below w.heap.size w w' := by
  by_cases h0 : n = 0
  · subst h0
    go_enter Try.func51, Try.ntmps51
    go_wp2
    go_ret
    exact ⟨_, rfl, fun S => Gw.nil _ _ _ _ _, Below.refl _ _⟩
  have h1 : ¬ ((n : Int) < 0) := by omega
  have h2 : (0 : Int) < (n : Int) := by omega
  obtain ⟨i0, hi, hz0, hz1, hz2⟩ := info_parts info_pn
  have hold := run_firstCells_none (P := Try.prog) w.drew i0.size 0 0 0
  have hrz : ∀ ty, (Builtin.append_ #[39, 3] ty #[.slice none 0 0, .int .i64 (n : Int)]).run Try.prog w = _ := fun ty => Lib.run_append_grow_zeros w 39 3 ty 38 i0 _ .i64 .i64 Try.underlying39 Try.underlying3 hi hz0 none 0 0 [] hold n (by omega) (by omega) (by omega) (by omega) (by rw [hz2]; omega) (growslice_fits (by omega) (by rw [hz2]; omega))
  simp only [Nat.zero_add] at hrz
  have hGn : n ≤ grownCap w n 0 38 := grownCap_ge w _ _ _
  obtain ⟨G, hG⟩ : ∃ G, G = grownCap w n 0 38 := ⟨_, rfl⟩
  rw [← hG] at hrz hGn
  have hG63 : G ≤ 9223372036854775807 := by
    have := grownCap_le_maxLen w n 0 38 (by unfold maxLen; omega)
    rw [← hG] at this
    unfold maxLen at this
    omega
  obtain ⟨Z, hZ⟩ : ∃ Z, (([] : List Value).toArray ++ Builtin.zeroCells (Value.agg #[.int .i64 0, .int .i64 0, .bool false]).cells n ++ Builtin.zeroCells (Value.agg #[.int .i64 0, .int .i64 0, .bool false]).cells (G - n)) = Z := ⟨_, rfl⟩
  have hZs : Z.size = G * 3 := by
    rw [← hZ]
    simp only [Array.size_append, zero_size]
    show 0 + n * 3 + (G - n) * 3 = G * 3
    omega
  rw [hZ] at hrz
  clear hold hG hi hz0 hz1 hz2 h0 hZ
  go_enter Try.func51, Try.ntmps51
  go_wp2_with (at_builtin; refine Lib.wpList_append_run _ rfl _ _ _ _ rfl _ _ rfl rfl _ _ (hrz _) ?_)
  go_ret
  refine ⟨_, rfl, fun S => Gw.made ⟨rfl, .inr ⟨w.heap.size, G, Z, rfl, Nat.le_refl _, ?_, Nat.zero_le _, by unfold maxLen; omega, hZs, rfl⟩⟩, ?_⟩
  · exact heap_alloc_new w _
  · exact (bl1 _).drew

theorem Gr.anyP {S S' : Nat → Prop} {w : World} {a : Option Addr} {cap : Nat} {l : List Pn} (h : Gr PnE S w a cap l) : Gr PnE S' w a cap l := by
  refine ⟨h.1, h.2.1, h.2.2.1, fun i hi => ?_⟩
  obtain ⟨b, off, vs, e, hb, hr, hc⟩ := h.2.2.2 i hi
  exact ⟨b, off, vs, e, hb, PnE_rep.2 (PnE_rep.1 hr), hc⟩
theorem Gr.anyA {S S' : Nat → Prop} {w : World} {a : Option Addr} {cap : Nat} {l : List Pa} (h : Gr PaE S w a cap l) : Gr PaE S' w a cap l := by
  refine ⟨h.1, h.2.1, h.2.2.1, fun i hi => ?_⟩
  obtain ⟨b, off, vs, e, hb, hr, hc⟩ := h.2.2.2 i hi
  exact ⟨b, off, vs, e, hb, PaE_rep.2 (PaE_rep.1 hr), hc⟩
theorem flat_take_snoc {cs : List (List Pn)} {k : Nat} {c : List Pn} (hk : k < cs.length) (hc : cs.getD k [] = c) : (cs.take (k + 1)).flatten = (cs.take k).flatten ++ c := by
  rw [take_snoc (d := []) hk, List.flatten_append, List.flatten_singleton, hc]

set_option maxHeartbeats 2000000 in
set_option maxRecDepth 100000 in
theorem cconcat_any (S : Nat → Prop) (a : Option Addr) (ca : Nat) (cs : List (List Pn)) (w : World) (h : Gr PnE.row S w a ca cs) (hl : cs.flatten.length ≤ 100000) :
    Calls Try.prog 36 #[.slice a cs.length ca] w fun e w' => ∃ a' c', e = .returned (.slice a' cs.flatten.length c') ∧ Gr PnE (fun _ => True) w' a' c' cs.flatten ∧ (∀ b o, a' = some ⟨b, o, none⟩ → w.heap.size ≤ b ∧ b < w'.heap.size) ∧ Below w.heap.size w w' := by
  have k2 := h.lenB
  have HH : Hid (Gr PnE.row S w a ca cs) := h
  clear h
  go_enter Try.func36, Try.ntmps36
  go_wp2
  go_loopw [3, 11] (fun n i wr => ∃ k m : Nat, k ≤ cs.length ∧ i = .int .i64 k ∧ n = .int .i64 (m : Int) ∧ m = ((cs.take k).flatten).length ∧ w = wr) (fun _ i _ => cs.length - (intOf i).toNat)
  case atStart => exact ⟨0, 0, Nat.zero_le _, rfl, rfl, rfl, rfl⟩
  case round =>
    obtain ⟨k, m, hk, rfl, rfl, hm, rfl⟩ := hrel
    have HM : Hid (m = ((cs.take k).flatten).length) := hm
    clear hm
    by_cases hkn : k < cs.length
    · obtain ⟨b, off, a1, c1, ea, hb, d0, hrow, hlb, _⟩ := HH.out.rw (Below.refl _ _) k hkn
      subst ea
      have hst := flat_take_succ hkn
      have hle := flat_take_le cs (k + 1)
      rw [← HM.out] at hst
      obtain ⟨c, hc⟩ : ∃ c, cs.getD k [] = c := ⟨_, rfl⟩
      rw [hc] at d0 hst hlb
      have HM2 : Hid (m + c.length = ((cs.take (k + 1)).flatten).length) := hst.symm
      have hmc : m + c.length ≤ 100000 := by omega
      have i1 : (0 : Int) ≤ (k : Int) := by omega
      have i2 : (k : Int) < (cs.length : Int) := by omega
      have i3 : ¬ (m : Int) + (c.length : Int) < 0 := by omega
      clear hc hst hle hrow HM hlb
      go_wp2
      go_roundw
      case rel => exact ⟨k + 1, m + c.length, by omega, by go_num, by go_num, HM2.out, trivial⟩
      case measure => simp [intOf]; omega
    · obtain rfl : k = cs.length := by omega
      have hm : m = cs.flatten.length := by rw [HM.out, List.take_length]
      have g4 : ¬ (cs.length : Int) < (cs.length : Int) := by omega
      have hgr := cgrow_any m w (by omega)
      clear HM hm
      go_wp2_with fail
      refine hgr.mono ?_
      rintro e u1 ⟨v1, rfl, hT0, hb1⟩
      have HT0 : Hid (Gw PnE 38 w.heap.size (fun _ => True) u1 v1 []) := hT0 _
      have HB1 : Hid (Below w.heap.size w u1) := hb1
      clear hgr hT0 hb1 hk hkn
      go_wp2
      go_loopw [6, 27] (fun v i wr => ∃ k : Nat, k ≤ cs.length ∧ i = .int .i64 k ∧ Gw PnE 38 w.heap.size (fun _ => True) wr v ((cs.take k).flatten) ∧ Below w.heap.size w wr) (fun _ i _ => cs.length - (intOf i).toNat)
      case atStart => exact ⟨0, Nat.zero_le _, rfl, HT0.out, HB1.out⟩
      case round =>
        clear HT0 HB1
        obtain ⟨k, hk, rfl, hT, hB⟩ := hrel
        obtain ⟨a2, c2, rfl, hgr, hblk⟩ := hT.slice
        have HT : Hid (Gw PnE 38 w.heap.size (fun _ => True) wr (.slice a2 ((cs.take k).flatten).length c2) ((cs.take k).flatten)) := hT
        clear hT
        by_cases hkn : k < cs.length
        · obtain ⟨b, off, a1, c1, ea, hb, d0, hrow, hlb, _⟩ := HH.out.rw hB k hkn
          subst ea
          have hst := flat_take_succ hkn
          have hle := flat_take_le cs (k + 1)
          obtain ⟨c, hc⟩ : ∃ c, cs.getD k [] = c := ⟨_, rfl⟩
          have HS : Hid (_) := flat_take_snoc hkn hc
          rw [hc] at d0 hst hlb hrow
          have hll : ((cs.take k).flatten).length + c.length ≤ 1000000 := by omega
          have i1 : (0 : Int) ≤ (k : Int) := by omega
          have i2 : (k : Int) < (cs.length : Int) := by omega
          have hbs : w.heap.size ≤ wr.heap.size := hB.size
          clear hc hst hle hlb hgr hblk
          generalize (cs.take k).flatten = L at *
          go_wp2_with (at_builtin; refine wpList_append_el 39 38 Try.underlying39 info_pn rfl (by decide) (by decide) rfl _ _ rfl w.heap.size (fun _ => True) _ L rfl HT.out a1 c1 _ c rfl rfl hrow.anyP hll hbs ?_)
          intro v9 w9 hT9 hgrow _
          have hB9 : Below w.heap.size w w9 := hB.grown hgrow hbs (fun k hk => (HT.out.lo hk).1)
          rw [← HS.out] at hT9
          clear hgrow hbs hll HS
          go_wp2
          go_roundw
          case rel => exact ⟨k + 1, by omega, by go_num, hT9, hB9⟩
          case measure => simp [intOf]; omega
        · obtain rfl : k = cs.length := by omega
          rw [List.take_length] at HT hgr ⊢
          have HB2 : Hid (∀ b o, a2 = some ⟨b, o, none⟩ → w.heap.size ≤ b ∧ b < wr.heap.size) := hblk
          have g4 : ¬ (cs.length : Int) < (cs.length : Int) := by omega
          clear hblk
          go_wp2
          go_ret
          exact ⟨a2, c2, rfl, hgr, HB2.out, hB⟩

set_option maxHeartbeats 1000000 in
set_option maxRecDepth 100000 in
theorem cpointsO_any (S : Nat → Prop) (a : Option Addr) (ca : Nat) (vb : Value) (cs : List (List Pn)) (w : World) (h : Gr PnE.row S w a ca cs) (hl : cs.flatten.length ≤ 100000) (hv : vb.cells = #[vb]) :
    Calls Try.prog 16 #[.agg #[.slice a cs.length ca, vb]] w fun e w' => ∃ a' c', e = .returned (.slice a' cs.flatten.length c') ∧ Gr PnE (fun _ => True) w' a' c' cs.flatten ∧ (∀ b o, a' = some ⟨b, o, none⟩ → w.heap.size ≤ b ∧ b < w'.heap.size) ∧ Below w.heap.size w w' := by
  obtain ⟨W, hW, X1, hbW⟩ : ∃ W, W = w.alloc (.cells #[.slice a cs.length ca, vb] 25) ∧ Bk 25 W w.heap.size [.slice a cs.length ca, vb] ∧ Below w.heap.size w W := ⟨_, rfl, Bk.new _ _ _, bl1 _⟩
  have hc1 := cconcat_any S a ca cs W (h.below hbW) hl
  obtain ⟨x0, x1, _⟩ := X1.two
  clear X1 h
  generalize cs.flatten = L at *
  go_enter Try.func16, Try.ntmps16
  go_wp2_with fail
  rw [← hW]
  clear hW
  refine hc1.mono ?_
  rintro e u1 ⟨a1, c1, rfl, hg, hblk, hb1⟩
  have HBK : Hid (∀ b o, a1 = some ⟨b, o, none⟩ → w.heap.size ≤ b ∧ b < u1.heap.size) := fun b o e => ⟨Nat.le_trans hbW.size (hblk b o e).1, (hblk b o e).2⟩
  replace hbW : Below w.heap.size w u1 := hbW.trans (hb1.mono hbW.size)
  clear hc1 hb1 hblk
  go_wp2
  go_ret
  exact ⟨a1, c1, rfl, hg, HBK.out, hbW⟩

theorem endF_take {cs : List (List Pn)} {k : Nat} {c : List Pn} (hk : k < cs.length) (hc : cs.getD k [] = c) : endF 0 (cs.take (k + 1)) = endF 0 (cs.take k) ++ [(((cs.take k).flatten).length : Int) + (c.length : Int) - 1] := by
  rw [take_snoc (d := []) hk, endF_append, hc]
  simp [endF]

set_option maxHeartbeats 1000000 in
set_option maxRecDepth 100000 in
theorem cends_any (S : Nat → Prop) (a : Option Addr) (ca : Nat) (vb : Value) (cs : List (List Pn)) (w : World) (h : Gr PnE.row S w a ca cs) (hl : cs.flatten.length ≤ 100000) (hn : cs.length ≤ 100000) (hv : vb.cells = #[vb]) :
    Calls Try.prog 20 #[.agg #[.slice a cs.length ca, vb]] w fun e w' => ∃ a' c', e = .returned (.slice a' (endF 0 cs).length c') ∧ Ri w' a' c' (endF 0 cs) ∧ (∀ b o, a' = some ⟨b, o, none⟩ → w.heap.size ≤ b ∧ b < w'.heap.size) ∧ Below w.heap.size w w' := by
  obtain ⟨W, hW, X1, hbW⟩ : ∃ W, W = w.alloc (.cells #[.slice a cs.length ca, vb] 25) ∧ Bk 25 W w.heap.size [.slice a cs.length ca, vb] ∧ Below w.heap.size w W := ⟨_, rfl, Bk.new _ _ _, bl1 _⟩
  obtain ⟨i0, hi0, hz0, hz1, hz2⟩ := info_parts infoA_i64
  obtain ⟨w1, hmk, hown, hgrow⟩ := run_makeSlice_owned W w.heap.size 47 3 i0 _ 1 Try.underlying47 hi0 hz0 hz1 .i64 .i64 cs.length (by omega) (by rw [hz2]; omega) (by unfold maxLen; omega) hbW.size
  have hI0 : Io w.heap.size w1 (.slice (some ⟨W.heap.size, 0, none⟩) 0 cs.length) (endF 0 (cs.take 0)) := ⟨fun t ht => (by cases ht), hown⟩
  have hB1 : Below W.heap.size W w1 := (Below.refl _ _).grown hgrow (Nat.le_refl _) (fun k hk => by cases hk)
  have X2 := X1.below hB1
  obtain ⟨x0, x1, _⟩ := X1.two
  obtain ⟨y0, y1, _⟩ := X2.two
  have HH : Hid (Gr PnE.row S w a ca cs) := h
  have HB0 : Hid (Below w.heap.size w w1) := hbW.trans (hB1.mono hbW.size)
  clear h hown hgrow hi0 hz0 hz1 hz2 X1 X2 hB1
  have hsz : W.heap.size = w.heap.size + 1 := by rw [hW]; simp
  rw [hsz] at hmk hI0
  rw [hW] at hmk
  clear hsz
  go_enter Try.func20, Try.ntmps20
  go_wp2
  clear hW x0 x1 y0 y1 hbW hmk
  go_loopw [3, 4, 14] (fun v la i wr => ∃ k m : Nat, k ≤ cs.length ∧ i = .int .i64 k ∧ la = .int .i64 ((m : Int) - 1) ∧ m = ((cs.take k).flatten).length ∧ Io w.heap.size wr v (endF 0 (cs.take k)) ∧ Below w.heap.size w wr) (fun _ _ i _ => cs.length - (intOf i).toNat)
  case atStart => exact ⟨0, 0, Nat.zero_le _, rfl, rfl, rfl, hI0, HB0.out⟩
  case round =>
    clear hI0 HB0
    obtain ⟨k, m, hk, rfl, rfl, hm, hT, hB⟩ := hrel
    obtain ⟨a2, c2, rfl, hts⟩ := hT.slice
    have hlen : (endF 0 (cs.take k)).length = k := by rw [endF_len, List.length_take]; omega
    have HM : Hid (m = ((cs.take k).flatten).length) := hm
    have HT : Hid (Io w.heap.size wr (.slice a2 (endF 0 (cs.take k)).length c2) (endF 0 (cs.take k))) := hT
    have hll : (endF 0 (cs.take k)).length + 1 ≤ 1000000 := by omega
    clear hm hT hlen
    by_cases hkn : k < cs.length
    · obtain ⟨b, off, a1, c1, ea, hb, d0, hrow, hlb, _⟩ := HH.out.rw hB k hkn
      subst ea
      have hst := flat_take_succ hkn
      have hle := flat_take_le cs (k + 1)
      rw [← HM.out] at hst
      obtain ⟨c, hc⟩ : ∃ c, cs.getD k [] = c := ⟨_, rfl⟩
      have HS : Hid (_) := endF_take hkn hc
      rw [← HM.out] at HS
      rw [hc] at d0 hst hlb
      have HM2 : Hid (m + c.length = ((cs.take (k + 1)).flatten).length) := hst.symm
      have hmc : m + c.length ≤ 100000 := by omega
      have i1 : (0 : Int) ≤ (k : Int) := by omega
      have i2 : (k : Int) < (cs.length : Int) := by omega
      obtain ⟨y, hy⟩ : ∃ y, (m : Int) + (c.length : Int) - 1 = y := ⟨_, rfl⟩
      have hy2 : (m : Int) - 1 + (c.length : Int) = y := by omega
      have HY : Hid (((m + c.length : Nat) : Int) - 1 = y) := by show _ = _; omega
      rw [hy] at HS
      have hyi : I64 y := ⟨by omega, by omega⟩
      have hT5 := HT.out.below (bl1 (.cells #[.int .i64 y] 3))
      have hN := heap_alloc_new wr (.cells #[.int .i64 y] 3)
      have n0 := cell_of_row _ wr.heap.size 0 _ _ (0, 0) hN
      have hbs : w.heap.size ≤ (wr.alloc (.cells #[.int .i64 y] 3)).heap.size := Nat.le_trans hB.size (bl1 _).size
      clear hc hst hle hrow HM hlb hN hy hts
      generalize endF 0 (cs.take k) = L at *
      go_wp2_with (at_builtin; refine wpList_append_int rfl _ _ rfl w.heap.size _ L rfl hT5 wr.heap.size y rfl n0 hyi hll hbs ?_)
      intro v' w9 hT9 hgrow
      have hB9 : Below w.heap.size w w9 := (hB.alloc hB.size _).grown hgrow hbs (fun k hk => HT.out.lo hk)
      rw [← HS.out] at hT9
      clear hgrow hT5 n0 hbs hll HS
      go_wp2
      go_roundw
      case rel => exact ⟨k + 1, m + c.length, by omega, by go_num, by rw [HY.out], HM2.out, hT9, hB9⟩
      case measure => simp [intOf]; omega
    · obtain rfl : k = cs.length := by omega
      rw [List.take_length] at HT hts ⊢
      have HB2 : Hid (∀ b o, a2 = some ⟨b, o, none⟩ → w.heap.size ≤ b ∧ b < wr.heap.size) := fun b o e => by
        subst e
        exact World.ownsRow.lt HT.out.2 b rfl
      have g4 : ¬ (cs.length : Int) < (cs.length : Int) := by omega
      clear HM hll
      go_wp2
      go_ret
      exact ⟨a2, c2, rfl, hts, HB2.out, hB⟩

end Go.Proofs.Ytdojgkejpfdaeaa

namespace Go.Proofs.Ytdojgkejpfdaeaa
open Go.RowKit Go.Maps
set_option linter.unusedSimpArgs false
set_option linter.unusedVariables false

theorem numK_zero (L : Nat) (es : List Nat) (p : Nat) : numK L es p 0 = p := by cases es <;> rfl
def cntF (E : List Nat) (k : Nat) : Nat := if k = 0 then 0 else min (E.getD (k - 1) 0 + 1) 80
theorem cntF_le (E : List Nat) (k : Nat) : cntF E k ≤ 80 := by unfold cntF; split <;> omega
theorem rdE_at {m : Nat} {xs : List Nat} {p k : Nat} (hk : k < m) : (rdE m (xs.drop p)).1.getD k 0 = hd2 (xs.drop (p + 2 * k)) := by rw [rdE_get m _ k hk, List.drop_drop]
theorem nI_snoc {E : List Nat} {k e : Nat} (hk : k < E.length) (he : E.getD k 0 = e) : nI (E.take (k + 1)) = nI (E.take k) ++ [(e : Int)] := by rw [take_snoc (d := 0) hk, nI_app, he]; rfl
theorem drop_take_snoc {l : List Pn} {a j : Nat} {q : Pn} (h : a + j < l.length) (hq : l.getD (a + j) Pn.none = q) : (l.drop a).take (j + 1) = (l.drop a).take j ++ [q] := by
  rw [take_snoc (d := Pn.none) (by rw [List.length_drop]; omega)]
  congr 2
  rw [← hq]
  simp [List.getD]
theorem Gw.widen {α : Type} {E : El α} {t : TypeId} {base : Nat} {S S' : Nat → Prop} {w : World} {v : Value} {l : List α} (h : Gw E t base S w v l) (hS : ∀ k, S k → k < w.heap.size → S' k) : Gw E t base S' w v l :=
  h.stay (Nat.le_refl _) (fun k h1 _ h2 => ⟨hS k h1 h2, rfl⟩) (fun _ _ => rfl)

set_option maxHeartbeats 4000000 in
set_option maxRecDepth 100000 in
theorem ccontoursOf_any (n : Int) (m : Nat) (g : Nat) (pa : Option Addr) (pc : Nat) (xs : List Nat) (p : Nat) (w : World) (h : Sc 63 w g pa pc xs p) (hp : p ≤ 1000) (hm : (min n 10).toNat = m) (hpb : ∀ b o, pa = some ⟨b, o, none⟩ → xs ≠ [] → b < w.heap.size) (hn : I64 n) :
    Calls Try.prog 46 #[pg g, .int .i64 n] w fun e w' => ∃ a' c', e = .returned (.slice a' (conK m (xs.drop p)).length c') ∧ Gr PnE.row (fun b => w.heap.size ≤ b) w' a' c' (conK m (xs.drop p)) ∧ (∀ b o, a' = some ⟨b, o, none⟩ → w.heap.size ≤ b) ∧ Kp g w w' := by
  have hm10 : m ≤ 10 := by omega
  have hn1 : -9223372036854775808 ≤ n ∧ n ≤ 9223372036854775807 := hn
  obtain ⟨mz, hmz⟩ : ∃ mz : Int, min n 10 = mz := ⟨_, rfl⟩
  have hmz1 : mz.toNat = m := by rw [← hmz]; exact hm
  have hgl : g < w.heap.size := h.bk.lt
  have HPB : Hid (∀ b o, pa = some ⟨b, o, none⟩ → xs ≠ [] → b < w.heap.size) := hpb
  have HCO : Hid (conK m (xs.drop p) = cutK (rdE m (xs.drop p)).1 0 (ptK (cntF (rdE m (xs.drop p)).1 m) (xs.drop (p + 2 * m)))) := by
    show _ = _
    unfold conK
    rw [rdE_rest, List.drop_drop]
    rfl
  have HEL : Hid ((rdE m (xs.drop p)).1.length = m) := rdE_len _ _
  have HEG : Hid (∀ k, k < m → (rdE m (xs.drop p)).1.getD k 0 = hd2 (xs.drop (p + 2 * k))) := fun k hk => rdE_at hk
  generalize conK m (xs.drop p) = C at *
  generalize (rdE m (xs.drop p)).1 = E at *
  clear hm hpb
  go_enter Try.func46, Try.ntmps46
  go_wp2
  clear hmz
  go_loopw [5, 6, 16] (fun v cv i wr => ∃ k : Nat, k ≤ m ∧ i = .int .i64 k ∧ cv = .int .i64 (cntF E k : Int) ∧ v.ownBlock ≠ some g ∧ Gi w.heap.size wr v (nI (E.take k)) ∧ Sc 63 wr g pa pc xs (p + 2 * k) ∧ Kp g w wr) (fun _ _ i _ => m - (intOf i).toNat)
  case atStart => exact ⟨0, Nat.zero_le _, rfl, rfl, (fun e => by cases e), Gi.nil _ _, h, Kp.refl _ _⟩
  case round =>
    clear h
    obtain ⟨k, hk, rfl, rfl, hvg, hG, hS, hK⟩ := hrel
    obtain ⟨a5, c5, rfl, hri, hbk⟩ := hG.slice
    by_cases hkm : k < m
    · have g1 : (k : Int) < mz := by omega
      have hu := cSu16_any g pa pc xs (p + 2 * k) wr hS (by omega)
      have heq := HEG.out k hkm
      have hlt := hd2_lt (hS.rb.lim.drop (p + 2 * k))
      rw [← heq] at hu hlt
      obtain ⟨e, he⟩ : ∃ e, E.getD k 0 = e := ⟨_, rfl⟩
      have HSN : Hid (_) := nI_snoc (by rw [HEL.out]; exact hkm) he
      have HCN : Hid (cntF E (k + 1) = min (e + 1) 80) := by show _ = _; unfold cntF; rw [if_neg (by omega), Nat.add_sub_cancel, he]
      rw [he] at hu hlt
      have hll : (nI (E.take k)).length + 1 ≤ 1000000 := by rw [nI_len, List.length_take]; omega
      clear heq he hri hbk
      generalize nI (E.take k) = L at *
      generalize cntF E k = cq at *
      go_wp2_with fail
      refine hu.mono ?_
      rintro e' u1 ⟨rfl, hS1, hK1⟩
      have hG1 := hG.kp hS.bk (by decide) hK1
      have hK2 := hK.trans hK1
      clear hu hS hK hK1 hG
      have bp := bl1 (w := u1) (.cells #[.int .i64 (e : Int)] 3)
      have hGb := hG1.below bp
      have hSb := hS1.below bp
      have hN := Bk.new 3 u1 [.int .i64 (e : Int)]
      have n0 := hN.cell 0 (by simp)
      have hgl2 : u1.heap.size < (u1.alloc (.cells #[.int .i64 (e : Int)] 3)).heap.size := hN.lt
      have hKb : Kp g w (u1.alloc (.cells #[.int .i64 (e : Int)] 3)) := hK2.alloc _
      have hbs := hKb.size
      have hei : I64 (e : Int) := ⟨by omega, by omega⟩
      obtain ⟨cz, hcz⟩ : ∃ c : Nat, min ((e : Int) + 1) 80 = (c : Int) := ⟨min (e + 1) 80, by omega⟩
      have hcz2 : min (e + 1) 80 = cz := by omega
      rw [hcz2] at HCN
      clear hN bp hG1 hK2 hcz2
      go_wp2_with (at_builtin; refine wpList_append_gi rfl _ _ rfl w.heap.size _ L rfl hGb u1.heap.size (e : Int) rfl hgl2 n0 hei hll hbs ?_)
      intro v9 w9 hG9 hgrow hown
      have hS9 := hSb.grown hgrow hvg (fun b o e' hne e2 => by
        have := (hGb.lo e2).1
        have := HPB.out b o e' hne
        omega)
      have hK9 : Kp g w w9 := hKb.grown hgrow (fun k hk => (hGb.lo hk).1)
      have HV9 : Hid (v9.ownBlock ≠ some g) := by
        rcases hown with ho | ho
        · show _ ≠ _
          rw [ho]
          exact hvg
        · show _ ≠ _
          rw [ho]
          intro e'
          have h1 := Option.some.inj e'
          have h2 := hS1.bk.lt
          (try simp at h1)
          omega
      rw [← HSN.out] at hG9
      clear hgrow hown hGb hSb n0 hgl2 hKb hbs hvg hll HSN hS1
      go_wp2
      go_roundw
      case rel => exact ⟨k + 1, by omega, by go_num, by rw [HCN.out], HV9.out, hG9, by rw [show p + 2 * (k + 1) = p + 2 * k + 2 by omega]; exact hS9, hK9⟩
      case measure => simp [intOf]; omega
    · obtain rfl : k = m := by omega
      have g1 : ¬ (k : Int) < mz := by omega
      have hcl := cntF_le E k
      have hpo := cpointsOf_any (cntF E k) g pa pc xs (p + 2 * k) wr hS (by omega) hcl (fun b o e hne => Nat.lt_of_lt_of_le (HPB.out b o e hne) hK.size)
      have hpl := ptK_len (cntF E k) (xs.drop (p + 2 * k))
      rw [List.take_of_length_le (by rw [HEL.out]; exact Nat.le_refl _)] at hri hG ⊢
      rw [hpl] at hpo
      have HPL : Hid (_) := hpl
      generalize ptK (cntF E k) (xs.drop (p + 2 * k)) = PT at *
      generalize cntF E k = cnt at *
      have HNL : Hid ((nI E).length = k) := by show _ = _; rw [nI_len]; exact HEL.out
      rw [HNL.out]
      clear hpl hvg hG
      go_wp2_with fail
      refine hpo.mono ?_
      rintro e u3 ⟨a8, c8, rfl, hpts, hbk8, hK8⟩
      have HRI : Hid (Ri u3 a5 c5 (nI E)) := Ri.kept hri hK8 (fun b o e => ⟨(hbk b o e).2, by have := (hbk b o e).1; omega⟩)
      have HPT : Hid (Gr PnE (fun _ => False) u3 a8 c8 PT) := hpts
      have HKK : Hid (Kp g w u3) := hK.trans hK8
      have HSZ : Hid (w.heap.size ≤ u3.heap.size) := HKK.out.size
      clear hpo hpts hbk8 hK8 hri hbk hS hK g1 hk hkm hmz1
      go_wp2
      go_loopw [9, 10, 33] (fun v nv i wr => ∃ r : Nat, r ≤ k ∧ i = .int .i64 r ∧ nv = .int .i64 (numK cnt E 0 r : Int) ∧ Gw PnE.row 39 u3.heap.size (fun b => u3.heap.size ≤ b ∧ b < wr.heap.size) wr v ((cutK E 0 PT).take r) ∧ Below u3.heap.size u3 wr) (fun _ _ i _ => k - (intOf i).toNat)
      case atStart => exact ⟨0, Nat.zero_le _, rfl, by rw [numK_zero]; rfl, Gw.nil _ _ _ _ _, Below.refl _ _⟩
      case round =>
        obtain ⟨r, hr, rfl, rfl, hG, hB⟩ := hrel
        obtain ⟨a9, c9, rfl, hgr9, hb9⟩ := hG.slice
        have HCL : Hid ((cutK E 0 PT).length = k) := by show _ = _; rw [cutK_len]; exact HEL.out
        by_cases hrk : r < k
        · obtain ⟨b5, o5, ea, hb5, d0⟩ := HRI.out.at hB r (by rw [HNL.out]; exact hrk)
          rw [nI_get] at d0
          subst ea
          have hnl := numK_le (L := cnt) E 0 r (Nat.zero_le _)
          obtain ⟨hat1, hat2⟩ := cutK_at E 0 PT r (by rw [HEL.out]; exact hrk)
          rw [HPL.out] at hat1 hat2
          have hll : ((cutK E 0 PT).take r).length + 1 ≤ 1000000 := by rw [List.length_take]; omega
          have HSN : Hid (_) := take_snoc (m := cutK E 0 PT) (d := []) (k := r) (by rw [HCL.out]; exact hrk)
          rw [hat1] at HSN
          generalize E.getD r 0 = ed at *
          obtain ⟨nm, hnm⟩ : ∃ z, numK cnt E 0 r = z := ⟨_, rfl⟩
          rw [hnm] at hnl hat2 HSN ⊢
          obtain ⟨lim, hlim⟩ : ∃ z, min (ed + 1) cnt = z := ⟨_, rfl⟩
          rw [hlim] at hat2 HSN
          have hlim1 : (lim = ed + 1 ∧ ed + 1 ≤ cnt) ∨ (lim = cnt ∧ cnt ≤ ed + 1) := by omega
          have HAT2 : Hid (numK cnt E 0 (r + 1) = max nm lim) := hat2
          generalize (cutK E 0 PT).take r = L at *
          have i1 : (0 : Int) ≤ (r : Int) := by omega
          have i2 : (r : Int) < (k : Int) := by omega
          have HG : Hid (Gw PnE.row 39 u3.heap.size (fun b => u3.heap.size ≤ b ∧ b < wr.heap.size) wr (.slice a9 L.length c9) L) := hG
          have HB : Hid (Below u3.heap.size u3 wr) := hB
          obtain ⟨wo, rfl⟩ : ∃ wo, wo = wr := ⟨_, rfl⟩
          clear hat1 hat2 hnm hlim hgr9 hb9 hG
          go_wp2
          clear d0 hB
          go_loopw [10, 13] (fun nv v wr => ∃ j : Nat, nm + j ≤ max nm lim ∧ nv = .int .i64 ((nm + j : Nat) : Int) ∧ Gw PnE 38 wo.heap.size (fun _ => False) wr v ((PT.drop nm).take j) ∧ Below wo.heap.size wo wr) (fun nv _ _ => max nm lim - (intOf nv).toNat)
          case atStart => exact ⟨0, by omega, rfl, Gw.nil _ _ _ _ _, Below.refl _ _⟩
          case round =>
            obtain ⟨j, hj, rfl, hV, hBo⟩ := hrel
            obtain ⟨a13, c13, rfl, hgr13, hb13⟩ := hV.slice
            obtain ⟨nj, hnj⟩ : ∃ z, nm + j = z := ⟨_, rfl⟩
            have HNJ : Hid (nm + j = nj) := hnj
            rw [hnj] at hj ⊢
            by_cases hgo : nj < lim
            · have hB3 := HB.out.trans (hBo.mono HB.out.size)
              obtain ⟨b8, o8, eb, hb8, ⟨w0, w1⟩, q0, q1, q2⟩ := HPT.out.pn hB3 nj (by rw [HPL.out]; omega)
              subst eb
              have HDT : Hid (_) := drop_take_snoc (l := PT) (a := nm) (j := j) (by rw [HPL.out, hnj]; omega) (by rw [hnj])
              generalize PT.getD nj Pn.none = q at *
              obtain ⟨x, y, on⟩ := q
              dsimp only at w0 w1 q0 q1 q2
              have hl13 : ((PT.drop nm).take j).length + 1 ≤ 1000000 := by rw [List.length_take, List.length_drop, HPL.out]; omega
              have g2 : decide (nj ≤ ed) = true := decide_eq_true (by omega)
              have g3 : decide (nj < cnt) = true := decide_eq_true (by omega)
              have j1 : (0 : Int) ≤ (nj : Int) := by omega
              have j2 : (nj : Int) < (cnt : Int) := by omega
              have bp := bl1 (w := wr) (.cells #[.int .i64 x, .int .i64 y, .bool on] 38)
              have hVb := hV.below bp
              have hone : Gr PnE (fun k => False ∧ (Value.slice a13 ((PT.drop nm).take j).length c13).ownBlock ≠ some k) (wr.alloc (.cells #[.int .i64 x, .int .i64 y, .bool on] 38)) (some ⟨wr.heap.size, 0, none⟩) 1 [⟨x, y, on⟩] := Gr.one_new (E := PnE) (pnC ⟨x, y, on⟩) 38 (PnE_rep.2 ⟨rfl, w0, w1⟩)
              have hBb := hBo.trans (bp.mono hBo.size)
              have hbs := hBb.size
              clear hnj bp hgr13 hb13 hB3 hlim1
              generalize (PT.drop nm).take j = K1 at *
              go_wp2_with (at_builtin; refine wpList_append_el 39 38 Try.underlying39 info_pn rfl (by decide) (by decide) rfl _ _ rfl wo.heap.size (fun _ => False) _ K1 rfl hVb (some ⟨wr.heap.size, 0, none⟩) 1 1 [⟨x, y, on⟩] rfl rfl hone hl13 hbs ?_)
              intro v9 w9 hT9 hgrow _
              have hB9 : Below wo.heap.size wo w9 := hBb.grown hgrow hbs (fun k hk => (hVb.lo hk).1)
              rw [← HDT.out] at hT9
              clear hgrow hVb hone hbs hl13 HDT hBb
              go_wp2
              go_roundw
              case rel => exact ⟨j + 1, by have := HNJ.out; omega, by rw [← HNJ.out]; go_num, hT9, hB9⟩
              case measure => have := HNJ.out; simp [intOf]; omega
            · have HMX : Hid (nj = max nm lim) := by show _ = _; omega
              have HJ : Hid (j = lim - nm) := by show _ = _; omega
              have hg2 : (decide (nj ≤ ed) = true ∧ decide (nj < cnt) = false) ∨ decide (nj ≤ ed) = false := by
                by_cases h1 : nj ≤ ed
                · exact .inl ⟨decide_eq_true h1, decide_eq_false (by omega)⟩
                · exact .inr (decide_eq_false h1)
              have hcb : ((PT.drop nm).take j).length ≤ 140737488351232 := by rw [List.length_take, List.length_drop, HPL.out]; omega
              rw [← HJ.out] at HSN
              generalize (PT.drop nm).take j = K1 at *
              have bp := bl1 (w := wr) (.cells #[.slice a13 K1.length c13] 39)
              have hG1 := (HG.out.below hBo).below bp
              have hG2 : Gw PnE.row 39 u3.heap.size (fun b => u3.heap.size ≤ b ∧ b < (wr.alloc (.cells #[.slice a13 K1.length c13] 39)).heap.size) (wr.alloc (.cells #[.slice a13 K1.length c13] 39)) (.slice a9 L.length c9) L := hG1.widen (fun k h1 h2 => ⟨h1.1, h2⟩)
              have hVb := hV.below bp
              have hgrb := hgr13.below bp
              have hrep : PnE.row.rep (fun k => (u3.heap.size ≤ k ∧ k < (wr.alloc (.cells #[.slice a13 K1.length c13] 39)).heap.size) ∧ (Value.slice a9 L.length c9).ownBlock ≠ some k) (wr.alloc (.cells #[.slice a13 K1.length c13] 39)) [.slice a13 K1.length c13] K1 := by
                refine ⟨a13, c13, rfl, fun b o e hne => ?_, hgrb.anyP, hcb⟩
                have hbb := hb13 b o e
                have hsz := HB.out.size
                have hsz2 := bp.size
                refine ⟨⟨by omega, by omega⟩, fun e2 => ?_⟩
                exact hG2.ne hVb (by decide) e2 (by rw [e]; rfl)
              have hN := Bk.new 39 wr [.slice a13 K1.length c13]
              have hone := Gr.one (E := PnE.row) hrep hN.lt (fun jj hjj => by
                obtain rfl : jj = 0 := by have h1 : jj < 1 := hjj; omega
                exact hN.cell 0 (by simp))
              have hBb := (HB.out.trans (hBo.mono HB.out.size)).trans (bp.mono (Nat.le_trans HB.out.size hBo.size))
              have hbs := hBb.size
              have g4 : ((nj : Nat) : Int) = ((nj : Nat) : Int) := rfl
              have HNN : Hid (numK cnt E 0 (r + 1) = nj) := by show _ = _; rw [HAT2.out, ← HMX.out]
              clear hnj HNJ hgr13 hb13 hlim1 hj hG1 hVb hgrb hrep hN bp hV HJ HMX HG hgo g4
              rcases hg2 with ⟨g2, g3⟩ | g2
              · go_wp2_with (at_builtin; refine wpList_append_el 22 39 Try.underlying22 info_pns rfl Nat.one_pos (by decide) rfl _ _ rfl u3.heap.size _ _ L rfl hG2 (some ⟨wr.heap.size, 0, none⟩) 1 1 [K1] rfl rfl hone hll hbs ?_)
                intro v9 w9 hT9 hgrow _
                have hB9 : Below u3.heap.size u3 w9 := hBb.grown hgrow hbs (fun k hk => (hG2.lo hk).1)
                have hT9 := hT9.widen (S' := fun b => u3.heap.size ≤ b ∧ b < w9.heap.size) (fun k h1 h2 => ⟨h1.1, h2⟩)
                rw [← HSN.out] at hT9
                clear hgrow hG2 hone hbs hll HSN hBb
                go_wp2
                go_roundw
                case rel => exact ⟨r + 1, by omega, by go_num, by rw [HNN.out], hT9, hB9⟩
                case measure => simp [intOf]; omega
              · go_wp2_with (at_builtin; refine wpList_append_el 22 39 Try.underlying22 info_pns rfl Nat.one_pos (by decide) rfl _ _ rfl u3.heap.size _ _ L rfl hG2 (some ⟨wr.heap.size, 0, none⟩) 1 1 [K1] rfl rfl hone hll hbs ?_)
                intro v9 w9 hT9 hgrow _
                have hB9 : Below u3.heap.size u3 w9 := hBb.grown hgrow hbs (fun k hk => (hG2.lo hk).1)
                have hT9 := hT9.widen (S' := fun b => u3.heap.size ≤ b ∧ b < w9.heap.size) (fun k h1 h2 => ⟨h1.1, h2⟩)
                rw [← HSN.out] at hT9
                clear hgrow hG2 hone hbs hll HSN hBb
                go_wp2
                go_roundw
                case rel => exact ⟨r + 1, by omega, by go_num, by rw [HNN.out], hT9, hB9⟩
                case measure => simp [intOf]; omega
        · obtain rfl : r = k := by omega
          have g2 : ¬ (r : Int) < (r : Int) := by omega
          rw [List.take_of_length_le (by rw [HCL.out]; exact Nat.le_refl _)] at hgr9 ⊢
          rw [← HCO.out] at hgr9 ⊢
          have HGR : Hid (Gr PnE.row (fun b => w.heap.size ≤ b) wr a9 c9 C) := hgr9.wide (fun k h1 _ => Nat.le_trans HSZ.out h1.1)
          have HB9 : Hid (∀ b o, a9 = some ⟨b, o, none⟩ → w.heap.size ≤ b) := fun b o e => Nat.le_trans HSZ.out (hb9 b o e).1
          have HKF : Hid (Kp g w wr) := HKK.out.trans (Kp.of hB)
          clear hG hgr9 hb9
          go_wp2
          go_ret
          exact ⟨a9, c9, rfl, HGR.out, HB9.out, HKF.out⟩

end Go.Proofs.Ytdojgkejpfdaeaa
