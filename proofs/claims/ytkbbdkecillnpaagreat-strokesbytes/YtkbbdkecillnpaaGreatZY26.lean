/-
  strokes.At: the walk.
  foundrylaw10.little, foundrylaw10.awake, foundryref10.Few: the walks.
  foundrylaw18.go1, awake, few; foundryref18.Few: the walks.
  foundrylaw04.awake; OctetsReads: the walks.
  octets.Page: Later: the walk.
-/
import Derived.Test.YtkbbdkecillnpaaGreatZY25
import Derived.Test.YtkbbdkecillnpaaGreatZY21
import Derived.Deep.CutBlock
import Derived.Deep.CutRange
import Derived.Test.YtkbbdkecillnpaaGreatZY3
import Derived.WalkSpells
namespace Go.Proofs.YtkbbdkecillnpaaGreat
open Go.RowKit Go.Maps
set_option linter.unusedSimpArgs false
set_option linter.unusedVariables false

theorem atD_no {fi : Int → Int → Bool} {R : Rd18} {l : List (List Sp)} {n : Int} (h : foD fi l = false) : atDE fi R l n = 1 ∧ atDL fi R l n = [] := by
  have e : atDE fi R l n = 1 := by unfold atDE; rw [h]; rfl
  refine ⟨e, ?_⟩
  unfold atDL
  rw [e]
  rfl
theorem atD_none {fi : Int → Int → Bool} {R : Rd18} {l : List (List Sp)} {n : Int} (h : foD fi l = true) (hn : isD l.length n = false) : atDE fi R l n = 5 ∧ atDL fi R l n = [] := by
  have hn2 : ¬ (0 ≤ n ∧ n < (l.length : Int)) := by
    intro h2
    unfold isD at hn
    rw [decide_eq_true h2.1, decide_eq_true h2.2] at hn
    cases hn
  have e : atDE fi R l n = 5 := by unfold atDE; rw [h, if_pos rfl, if_neg hn2]
  refine ⟨e, ?_⟩
  unfold atDL
  rw [e]
  rfl
theorem atD_yes {fi : Int → Int → Bool} {R : Rd18} {l : List (List Sp)} {n : Int} (h : foD fi l = true) (hn : isD l.length n = true) : (0 ≤ n ∧ n < (l.length : Int)) ∧ atDE fi R l n = (atDp R l n).er ∧ atDL fi R l n = if (atDp R l n).er = 0 then (atDp R l n).out else [] := by
  have hn2 : 0 ≤ n ∧ n < (l.length : Int) := by
    unfold isD at hn
    rw [Bool.and_eq_true, decide_eq_true_iff, decide_eq_true_iff] at hn
    exact hn
  have e : atDE fi R l n = (atDp R l n).er := by unfold atDE; rw [h, if_pos rfl, if_pos hn2]
  refine ⟨hn2, e, ?_⟩
  unfold atDL
  rw [e]

set_option maxHeartbeats 4000000 in
set_option maxRecDepth 100000 in
theorem atD_any (S : Nat → Prop) (a : Option Addr) (ca : Nat) (l : List (List Sp)) (ga : Option Addr) (gc : Nat) (ma : Option Addr) (mc : Nat) (s : Sr) (n : Int) (pa : Option Addr) (pc : Nat) (cs : List Int) (w : World) (hl : Gr SpE.row S w a ca l) (hg : Tzz w ga gc s.rg) (hm : Rii w ma mc s.rw) (hp : Ri w pa pc cs) (hn : I64 n) (h40 : s.rg.length ≤ 40) (h8 : ∀ l ∈ s.rg, l.length ≤ 8) :
    Calls Tryz.prog 8 #[.slice a l.length ca, .agg #[.slice ga s.rg.length gc, .slice ma s.rw.length mc], .int .i64 n, .slice pa cs.length pc] w fun e w' => ∃ a' c', e = .returned (.tuple #[.slice a' (atDL (fiS s) (RS s cs) l n).length c', .int .i64 (atDE (fiS s) (RS s cs) l n)]) ∧ Gr PnE.row (fun k => w.heap.size ≤ k) w' a' c' (atDL (fiS s) (RS s cs) l n) ∧ Below w.heap.size w w' := by
  have kl := hl.lenB
  have k2 := hm.lenB
  have k3 := hg.lenB
  have k4 := hp.lenB
  obtain ⟨W, hW, X1, hbW⟩ : ∃ W, W = w.alloc (.cells #[.slice ga s.rg.length gc, .slice ma s.rw.length mc] 26) ∧ Bk 26 W w.heap.size [.slice ga s.rg.length gc, .slice ma s.rw.length mc] ∧ Below w.heap.size w W := ⟨_, rfl, Bk.new _ _ _, bl1 _⟩
  obtain ⟨p0, p1, -⟩ := X1.two
  have hfo := formD_any S a ca l ga gc ma mc s W (hl.below hbW) k2
  have HNO : Hid (foD (fiS s) l = false → atDE (fiS s) (RS s cs) l n = 1 ∧ atDL (fiS s) (RS s cs) l n = []) := atD_no
  have HNN : Hid (foD (fiS s) l = true → isD l.length n = false → atDE (fiS s) (RS s cs) l n = 5 ∧ atDL (fiS s) (RS s cs) l n = []) := atD_none
  have HYE : Hid (foD (fiS s) l = true → isD l.length n = true → (0 ≤ n ∧ n < (l.length : Int)) ∧ atDE (fiS s) (RS s cs) l n = (atDp (RS s cs) l n).er ∧ atDL (fiS s) (RS s cs) l n = if (atDp (RS s cs) l n).er = 0 then (atDp (RS s cs) l n).out else []) := atD_yes
  go_enter Tryz.func8, Tryz.ntmps8
  go_upto_region 1 with fail
  rw [← hW]
  clear hW
  cases hf : foD (fiS s) l with
  | false =>
    rw [hf] at hfo
    have HF : Hid (_) := HNO.out hf
    clear hf HNO HNN HYE
    go_wp2_with fail
    refine hfo.mono ?_
    rintro e u1 ⟨rfl, hb⟩
    have hfin := hbW.trans (hb.mono hbW.size)
    clear hfo hb p0 p1
    go_wp2
    go_ret2
    exact ⟨none, 0, by rw [HF.out.1, HF.out.2]; rfl, by rw [HF.out.2]; exact Gr.nil _ _ _ _ _ (Nat.zero_le _) (fun _ => rfl), hfin⟩
  | true =>
  rw [hf] at hfo
  have HFO : Hid (foD (fiS s) l = true) := hf
  clear hf HNO
  go_wp2_with fail
  refine hfo.mono ?_
  rintro e u1 ⟨rfl, hb⟩
  replace X1 := X1.below hb
  replace hbW := hbW.trans (hb.mono hbW.size)
  have HL : Hid (Gr SpE.row S u1 a ca l) := hl.below hbW
  have HG : Hid (Tzz u1 ga gc s.rg) := hg.below hbW
  have HM : Hid (Rii u1 ma mc s.rw) := hm.below hbW
  have HP : Hid (Ri u1 pa pc cs) := hp.below hbW
  clear hfo hb p0 p1 hl hg hm hp
  obtain ⟨p0, p1, -⟩ := X1.two
  have hisd := isDraw_any a l.length ca n u1 hn kl
  cases hq : isD l.length n with
  | false =>
    rw [hq] at hisd
    have HF : Hid (_) := HNN.out HFO.out hq
    clear hq HNN HYE
    go_wp2_with fail
    refine hisd.mono ?_
    rintro e u2 ⟨rfl, rfl⟩
    clear hisd
    go_wp2
    go_ret2
    exact ⟨none, 0, by rw [HF.out.1, HF.out.2]; rfl, by rw [HF.out.2]; exact Gr.nil _ _ _ _ _ (Nat.zero_le _) (fun _ => rfl), hbW⟩
  | true =>
  rw [hq] at hisd
  obtain ⟨⟨n1, n2⟩, HE, HL2⟩ := HYE.out HFO.out hq
  replace HE : Hid (_) := HE
  replace HL2 : Hid (_) := HL2
  clear hq HNN HYE
  obtain ⟨k, hk⟩ : ∃ k : Nat, n = (k : Int) := ⟨n.toNat, by omega⟩
  have hkl : k < l.length := by omega
  have HPE : Hid (atDp (RS s cs) l n = drN (RS s cs) l 10 (l.getD k []) Pe.new) := by
    show _ = _
    unfold atDp
    rw [hk, Int.toNat_natCast]
  obtain ⟨V, hV, Y9, hbv⟩ : ∃ V, V = u1.alloc (.cells #[.slice a l.length ca, .slice ga s.rg.length gc, .slice ma s.rw.length mc, .slice pa cs.length pc, .int .i64 0, .int .i64 0, .int .i64 0, .int .i64 0, .int .i64 0, .int .i64 0, .int .i64 0, .int .i64 0, .int .i64 0, .slice none 0 0] 62) ∧ PenB ⟨a, ca, l, ga, gc, ma, mc, s, pa, pc, cs⟩ u1.heap.size V Pe.new [] (.slice none 0 0) ∧ Below u1.heap.size u1 V := ⟨_, rfl, Bk.new _ _ _, bl1 _⟩
  have hdr := draw_any S a ca l ga gc ma mc s pa pc cs u1 HL.out HG.out HM.out HP.out h40 h8 HFO.out 10 (Nat.le_refl _) k Pe.new [] (.slice none 0 0) V hkl OkP.new Y9 (Co.new _ _) hbv
  rw [show (10 : Int) - ((10 : Nat) : Int) = 0 from rfl, ← hk] at hdr
  rw [show (Cx.mk a ca l ga gc ma mc s pa pc cs).l = l from rfl, show (Cx.mk a ca l ga gc ma mc s pa pc cs).s = s from rfl, show (Cx.mk a ca l ga gc ma mc s pa pc cs).cs = cs from rfl, ← HPE.out] at hdr
  have HSZ : Hid (w.heap.size ≤ u1.heap.size) := hbW.size
  have HBV : Hid (Below w.heap.size w V) := hbW.trans (hbv.mono hbW.size)
  generalize atDp (RS s cs) l n = q at *
  clear HPE hk n1 n2
  go_wp2_with fail
  refine hisd.mono ?_
  rintro e u2 ⟨rfl, rfl⟩
  clear hisd
  go_upto_region 6 with fail
  rw [← hV]
  clear hV p0 p1 X1 hbv Y9
  go_wp2_with fail
  refine hdr.mono ?_
  rintro e u3 ⟨rfl, hok, hb⟩
  have HFIN : Hid (Below w.heap.size w u3) := HBV.out.trans (hb.mono HSZ.out)
  clear hdr hb
  by_cases her : q.er = 0
  rotate_left
  · have g7 : (q.er != 0) = true := bne_iff_ne.2 her
    have HF : Hid (atDL (fiS s) (RS s cs) l n = []) := by
      show _ = _
      rw [HL2.out, if_neg her]
    clear her hok
    go_wp2
    go_ret2
    exact ⟨none, 0, by rw [HE.out, HF.out]; rfl, by rw [HF.out]; exact Gr.nil _ _ _ _ _ (Nat.zero_le _) (fun _ => rfl), HFIN.out⟩
  obtain ⟨-, N9, v9, hp9, hc9⟩ := hok her
  have HF : Hid (atDL (fiS s) (RS s cs) l n = q.out) := by
    show _ = _
    rw [HL2.out, if_pos her]
  obtain ⟨a9, c9, e9, hg9, -⟩ := hc9.slice
  subst e9
  have hv9 : u3.cell? ⟨u1.heap.size, 13, none⟩ = some (.slice a9 q.out.length c9) := Bk.cell hp9 13 (by show 13 < 14; omega)
  have HG9 : Hid (Gr PnE.row (fun k => w.heap.size ≤ k) u3 a9 c9 q.out) := hg9.wide (fun k h1 _ => by have := HSZ.out; omega)
  rw [her]
  have HER : Hid (q.er = 0) := her
  clear her hok hp9 hc9 hg9
  go_wp2
  go_ret2
  exact ⟨a9, c9, by rw [HE.out, HF.out, HER.out]; rfl, by rw [HF.out]; exact HG9.out, HFIN.out⟩

end Go.Proofs.YtkbbdkecillnpaaGreat

namespace Go.Proofs.YtkbbdkecillnpaaGreat
open Go.RowKit Go.Maps
set_option linter.unusedSimpArgs false
set_option linter.unusedVariables false

theorem alloc_old {w : World} {g : Nat} {x : Obj} (h : w.heap[g]? = some x) (o : Obj) : (w.alloc o).heap[g]? = some x := ((bl1 o).block g (Array.getElem?_eq_some_iff.1 h).1).trans h
theorem alloc_new {w : World} {n : Nat} (hn : w.heap.size = n) (o : Obj) : (w.alloc o).heap[n]? = some o := by rw [← hn]; exact heap_alloc_new w o
theorem Ri.one {w : World} {g : Nat} {z : Int} {t : TypeId} (h : w.heap[g]? = some (.cells #[.int .i64 z] t (0, 0))) (hz : I64 z) : Ri w (some ⟨g, 0, none⟩) 1 [z] := by
  refine ⟨fun y hy => by rw [List.mem_singleton.1 hy]; exact hz, Nat.le_refl _, by unfold maxLen; omega, .inr ⟨g, 0, rfl, (Array.getElem?_eq_some_iff.1 h).1, fun i hi => ?_⟩⟩
  obtain rfl : i = 0 := by simpa using hi
  exact cell_of_row w g 0 _ _ (0, 0) h
theorem Tz.one {w : World} {g : Nat} {t : Te} {ty : TypeId} (h : w.heap[g]? = some (.cells #[.int .i64 t.st, .int .i64 t.pk, .int .i64 t.en] ty (0, 0))) (ht : Tw t) : Tz w (some ⟨g, 0, none⟩) 1 [t] := by
  refine ⟨Nat.le_refl _, by unfold maxLen; omega, fun y hy => by rw [List.mem_singleton.1 hy]; exact ht, (fun e => by cases e), fun i hi => ?_⟩
  obtain rfl : i = 0 := by simpa using hi
  exact ⟨g, 0, rfl, (Array.getElem?_eq_some_iff.1 h).1, cell_of_row w g 0 _ _ (0, 0) h, cell_of_row w g 1 _ _ (0, 0) h, cell_of_row w g 2 _ _ (0, 0) h⟩
theorem Tzz.one {w : World} {g : Nat} {a : Option Addr} {c : Nat} {l : List Te} {ty : TypeId} (h : w.heap[g]? = some (.cells #[.slice a l.length c] ty (0, 0))) (hl : Tz w a c l) : Tzz w (some ⟨g, 0, none⟩) 1 [l] := by
  refine ⟨Nat.le_refl _, by unfold maxLen; omega, fun i hi => ?_⟩
  obtain rfl : i = 0 := by simpa using hi
  exact ⟨g, 0, a, c, rfl, (Array.getElem?_eq_some_iff.1 h).1, cell_of_row w g 0 _ _ (0, 0) h, hl⟩
theorem Rii.one {w : World} {g : Nat} {a : Option Addr} {c : Nat} {l : List Int} {ty : TypeId} (h : w.heap[g]? = some (.cells #[.slice a l.length c] ty (0, 0))) (hl : Ri w a c l) : Rii w (some ⟨g, 0, none⟩) 1 [l] := by
  refine ⟨Nat.le_refl _, by unfold maxLen; omega, fun i hi => ?_⟩
  obtain rfl : i = 0 := by simpa using hi
  exact ⟨g, 0, a, c, rfl, (Array.getElem?_eq_some_iff.1 h).1, cell_of_row w g 0 _ _ (0, 0) h, hl⟩

/-- The little store. -/
def litS (n : Int) : Sr := ⟨[[⟨0, 16384, 16384⟩]], [[n]]⟩
theorem aw_ro : roN (litS 10) 5 0 [4096] = 8 ∧ roE (litS 10) 5 0 [4096] = 0 := by decide +kernel
theorem aw_st : stB (litS 10) 1 = true := by decide +kernel
theorem aw_8 : ∀ l ∈ (litS 10).rg, l.length ≤ 8 := by
  intro l hl
  simp [litS] at hl
  subst hl
  decide
theorem i64_wrap64 (z : Int) : I64 (wrap64 z) := by
  unfold I64 wrap64
  omega
set_option maxHeartbeats 4000000 in
set_option maxRecDepth 100000 in
theorem few10_any (a : Option Addr) (ca : Nat) (b : Option Addr) (cb : Nat) (s : Sr) (w : World) (hg : Tzz w a ca s.rg) (hm : Rii w b cb s.rw) :
    Calls Tryz.prog 23 #[.agg #[.slice a s.rg.length ca, .slice b s.rw.length cb]] w fun e w' => ∃ q : Bool, e = .returned (.bool q) ∧ (q = true → s.rg.length ≤ 20 ∧ ∀ l ∈ s.rg, l.length ≤ 8) ∧ Below w.heap.size w w' := by
  have k1 := hg.lenB
  have k2 := hm.lenB
  have HG : Hid (Tzz w a ca s.rg) := hg
  have HM : Hid (Rii w b cb s.rw) := hm
  clear hg hm
  obtain ⟨W, hW, X1, hbW⟩ : ∃ W, W = w.alloc (.cells #[.slice a s.rg.length ca, .slice b s.rw.length cb] 26) ∧ BxS W w.heap.size (.slice a s.rg.length ca) (.slice b s.rw.length cb) ∧ Below w.heap.size w W := ⟨_, rfl, BxS.new _ _ _, bl1 _⟩
  go_enter Tryz.func23, Tryz.ntmps23
  go_upto_block 0 with fail
  rw [← hW]
  clear hW
  go_cut [3] from 4 to 26 (fun v wr => ∃ z : Int, v = .int .i64 z ∧ I64 z ∧ BxS wr w.heap.size (.slice a s.rg.length ca) (.slice b s.rw.length cb) ∧ Below w.heap.size w wr)
  case first =>
    go_wp2_with fail
    go_loopw [3, 4] (fun v i wr => ∃ (k : Nat) (z : Int), k ≤ s.rg.length ∧ v = .int .i64 z ∧ I64 z ∧ i = .int .i64 k ∧ BxS wr w.heap.size (.slice a s.rg.length ca) (.slice b s.rw.length cb) ∧ Below w.heap.size w wr) (fun _ i _ => s.rg.length - (intOf i).toNat)
    case atStart => exact ⟨0, 0, Nat.zero_le _, rfl, ⟨by decide, by decide⟩, rfl, X1, hbW⟩
    case round =>
      clear X1 hbW
      obtain ⟨k, z, hk, rfl, hz, rfl, X1, hbW⟩ := hrel
      obtain ⟨p0, p1, _⟩ := X1.cells
      by_cases hkn : k < s.rg.length
      · have g1 : decide ((k : Int) < (s.rg.length : Int)) = true := decide_eq_true (by omega)
        by_cases hz2 : z ≤ 2000
        · have g2 : decide (z ≤ 2000) = true := decide_eq_true hz2
          obtain ⟨b1, o1, a1, c1, ea, _, d0, hp⟩ := HG.out.at hbW k hkn
          have hpl := hp.lenB
          generalize (s.rg.getD k []).length = n1 at *
          subst ea
          clear hp hkn
          have i1 : (0 : Int) ≤ (k : Int) := by omega
          have i2 : (k : Int) < (s.rg.length : Int) := of_decide_eq_true g1
          have HZ : Hid (∀ y : Int, I64 (wrap64 y)) := i64_wrap64
          go_wp2_with fail
          go_roundw
          case rel => exact ⟨k + 1, _, by omega, rfl, HZ.out _, by go_num, X1, hbW⟩
          case measure => simp [intOf]; omega
        · have g2 : decide (z ≤ 2000) = false := decide_eq_false hz2
          have i2 : (k : Int) < (s.rg.length : Int) := by omega
          clear hkn
          go_wp2_with fail
          go_meet
          exact ⟨z, rfl, hz, X1, hbW⟩
      · have g1 : decide ((k : Int) < (s.rg.length : Int)) = false := decide_eq_false (by omega)
        have i2 : ¬ (k : Int) < (s.rg.length : Int) := by omega
        clear hkn
        go_wp2_with fail
        go_meet
        exact ⟨z, rfl, hz, X1, hbW⟩
  case rest =>
    clear X1 hbW
    obtain ⟨z0, rfl, hzz0, X1, hbW⟩ := hcut
    go_upto_block 2 with fail
    go_cut [3] from 4 to 46 (fun v wr => ∃ z : Int, v = .int .i64 z ∧ I64 z ∧ BxS wr w.heap.size (.slice a s.rg.length ca) (.slice b s.rw.length cb) ∧ Below w.heap.size w wr)
    case first =>
      go_wp2_with fail
      go_loopw [3, 5] (fun v i wr => ∃ (k : Nat) (z : Int), k ≤ s.rw.length ∧ v = .int .i64 z ∧ I64 z ∧ i = .int .i64 k ∧ BxS wr w.heap.size (.slice a s.rg.length ca) (.slice b s.rw.length cb) ∧ Below w.heap.size w wr) (fun _ i _ => s.rw.length - (intOf i).toNat)
      case atStart => exact ⟨0, z0, Nat.zero_le _, rfl, hzz0, rfl, X1, hbW⟩
      case round =>
        clear X1 hbW
        obtain ⟨k, z, hk, rfl, hz, rfl, X1, hbW⟩ := hrel
        obtain ⟨p0, p1, _⟩ := X1.cells
        by_cases hkn : k < s.rw.length
        · have g1 : decide ((k : Int) < (s.rw.length : Int)) = true := decide_eq_true (by omega)
          by_cases hz2 : z ≤ 2000
          · have g2 : decide (z ≤ 2000) = true := decide_eq_true hz2
            obtain ⟨b1, o1, a1, c1, ea, _, d0, hp⟩ := HM.out.at hbW k hkn
            have hpl := hp.lenB
            generalize (s.rw.getD k []).length = n1 at *
            subst ea
            clear hp hkn
            have i1 : (0 : Int) ≤ (k : Int) := by omega
            have i2 : (k : Int) < (s.rw.length : Int) := of_decide_eq_true g1
            have HZ : Hid (∀ y : Int, I64 (wrap64 y)) := i64_wrap64
            go_wp2_with fail
            go_roundw
            case rel => exact ⟨k + 1, _, by omega, rfl, HZ.out _, by go_num, X1, hbW⟩
            case measure => simp [intOf]; omega
          · have g2 : decide (z ≤ 2000) = false := decide_eq_false hz2
            have i2 : (k : Int) < (s.rw.length : Int) := by omega
            clear hkn
            go_wp2_with fail
            go_meet
            exact ⟨z, rfl, hz, X1, hbW⟩
        · have g1 : decide ((k : Int) < (s.rw.length : Int)) = false := decide_eq_false (by omega)
          have i2 : ¬ (k : Int) < (s.rw.length : Int) := by omega
          clear hkn
          go_wp2_with fail
          go_meet
          exact ⟨z, rfl, hz, X1, hbW⟩
    case rest =>
      clear X1 hbW hzz0
      obtain ⟨z1, rfl, hzz1, X1, hbW⟩ := hcut
      go_wp2_with fail
      go_loopw [6] (fun i wr => ∃ k : Nat, k ≤ s.rg.length ∧ i = .int .i64 k ∧ (∀ j, j < k → (s.rg.getD j []).length ≤ 8) ∧ BxS wr w.heap.size (.slice a s.rg.length ca) (.slice b s.rw.length cb) ∧ Below w.heap.size w wr) (fun i _ => s.rg.length - (intOf i).toNat)
      case atStart => exact ⟨0, Nat.zero_le _, rfl, (fun j hj => by omega), X1, hbW⟩
      case round =>
        clear X1 hbW
        obtain ⟨k, hk, rfl, hok, X1, hbW⟩ := hrel
        have HOK : Hid (∀ j, j < k → (s.rg.getD j []).length ≤ 8) := hok
        clear hok
        obtain ⟨p0, p1, _⟩ := X1.cells
        by_cases hkn : k < s.rg.length
        · obtain ⟨b1, o1, a1, c1, ea, _, d0, hp⟩ := HG.out.at hbW k hkn
          have hpl := hp.lenB
          obtain ⟨n1, hn1⟩ : ∃ n1, (s.rg.getD k []).length = n1 := ⟨_, rfl⟩
          have HN : Hid ((s.rg.getD k []).length = n1) := hn1
          rw [hn1] at d0 hpl
          subst ea
          clear hp hn1
          by_cases h8 : 8 < n1
          · have g3 : (8 : Int) < (n1 : Int) := by omega
            go_wp2
            go_ret
            exact ⟨false, rfl, (fun h => by cases h), hbW⟩
          · have g3 : ¬ (8 : Int) < (n1 : Int) := by omega
            have HOK2 : Hid (∀ j, j < k + 1 → (s.rg.getD j []).length ≤ 8) := fun j hj => by
              rcases Nat.lt_or_ge j k with h1 | h1
              · exact HOK.out j h1
              · rw [show j = k by omega, HN.out]; omega
            go_wp2
            go_roundw
            case rel => exact ⟨k + 1, by omega, by go_num, HOK2.out, X1, hbW⟩
            case measure => simp [intOf]; omega
        · obtain rfl : k = s.rg.length := by omega
          have HA : Hid (∀ l ∈ s.rg, l.length ≤ 8) := fun l hl => by
            obtain ⟨i, hi, e⟩ := List.getElem_of_mem hl
            have := HOK.out i hi
            rw [getL hi, e] at this
            exact this
          by_cases hz2 : z1 ≤ 2000
          · have g2 : decide (z1 ≤ 2000) = true := decide_eq_true hz2
            go_wp2
            go_ret
            exact ⟨_, rfl, (fun h => ⟨by have := of_decide_eq_true h; omega, HA.out⟩), hbW⟩
          · have g2 : decide (z1 ≤ 2000) = false := decide_eq_false hz2
            go_wp2
            exact bodyPost_ret (v := .bool false) (by simp [results, Tryz.results23, go_sem]) rfl (by first | exact ⟨false, rfl, (fun h => by cases h), hbW⟩ | exact .inl ⟨rfl, hbW⟩)

end Go.Proofs.YtkbbdkecillnpaaGreat

namespace Go.Proofs.YtkbbdkecillnpaaGreat
open Go.RowKit Go.Maps
set_option linter.unusedSimpArgs false
set_option linter.unusedVariables false

set_option maxHeartbeats 2000000 in
set_option maxRecDepth 100000 in
theorem go1_any (x y : Int) (w : World) (hx : I64 x) (hy : I64 y) :
    Calls Tryz.prog 21 #[.int .i64 x, .int .i64 y] w fun e w' => ∃ g, e = .returned (.agg #[.int .i64 1, .slice (some ⟨g, 0, none⟩) 2 2]) ∧ w.heap.size ≤ g ∧ Bk 79 w' g [.int .i64 x, .int .i64 (-1), .int .i64 y, .int .i64 (-1)] ∧ Below w.heap.size w w' := by
  obtain ⟨U, hU, A, Y2, hbU⟩ : ∃ U, U = (w.alloc (.cells #[.int .i64 1, .slice (some ⟨w.heap.size + 1, 0, none⟩) 2 2] 50)).alloc (.cells #[.int .i64 x, .int .i64 (-1), .int .i64 y, .int .i64 (-1)] 79) ∧ Bk 50 U w.heap.size [.int .i64 1, .slice (some ⟨w.heap.size + 1, 0, none⟩) 2 2] ∧ Bk 79 U (w.heap.size + 1) [.int .i64 x, .int .i64 (-1), .int .i64 y, .int .i64 (-1)] ∧ Below w.heap.size w U := ⟨_, rfl, (Bk.new _ _ _).below (bl1 _), Bk.new1 _ _ _ _, bl2 _ _⟩
  go_enter Tryz.func21, Tryz.ntmps21
  go_wp2
  rw [← hU]
  clear hU
  (try simp only [Exit.inBlock, Exit.then])
  refine bodyPost_ret (v := .agg #[.int .i64 1, .slice (some ⟨w.heap.size + 1, 0, none⟩) 2 2]) (by obtain ⟨r0, r1, -⟩ := A.two; simp [results, Tryz.results21, go_sem, r0, r1]) rfl ⟨_, rfl, Nat.le_succ _, Y2, hbU⟩

def sNo : Sr := ⟨[], []⟩
theorem sNo_tz (w : World) : Tzz w none 0 sNo.rg := by unfold Tzz sNo; simp [maxLen]
theorem sNo_ri (w : World) : Rii w none 0 sNo.rw := by unfold Rii sNo; simp [maxLen]
theorem fi_no {b : Int} (h1 : -32768 ≤ b) (h2 : b ≤ 32767) : fiS sNo b (-1) = true := fiS_iff.2 ⟨⟨h1, h2⟩, .inl rfl⟩
/-- Without a store slots of None are read as they are. -/
theorem at_no {l : List (List Sp)} (h : ∀ d ∈ l, ∀ x ∈ d, ∀ a ∈ x.ar, a.2 = -1 ∧ -32768 ≤ a.1 ∧ a.1 ≤ 32767) (cs : List Int) (n : Int) : atDp (RS sNo cs) l n = atDp R0 l n := by
  unfold atDp
  refine drN_congr (fun d hd x hx a ha => ?_) 10 n.toNat Pe.new
  obtain ⟨e, h1, h2⟩ := h d hd x hx a ha
  obtain ⟨k1, k2⟩ := ro_none18 (s := sNo) (cs := cs) (fi_no h1 h2)
  rw [e]
  exact ⟨k1, k2⟩
def awL : List (List Sp) := [[⟨1, [(1, -1), (2, -1)]⟩]]
theorem aw_at : atDE (fiS sNo) (RS sNo []) awL 0 = 0 ∧ atDL (fiS sNo) (RS sNo []) awL 0 = [[⟨1, 2, true⟩]] := by
  have hf : foD (fiS sNo) awL = true := by decide
  have hd : isD awL.length 0 = true := by decide
  obtain ⟨-, h1, h2⟩ := atD_yes (R := RS sNo []) hf hd
  have e : atDp (RS sNo []) awL 0 = ⟨1, 2, 1, [[⟨1, 2, true⟩]], 0⟩ := by
    rw [at_no (fun d hd x hx a ha => ?_)]
    · rfl
    · have e1 := List.mem_singleton.1 hd
      rw [e1] at hx
      have e2 := List.mem_singleton.1 hx
      rw [e2] at ha
      rcases List.mem_cons.1 ha with rfl | ha
      · exact ⟨rfl, by decide, by decide⟩
      · rw [List.mem_singleton.1 ha]
        exact ⟨rfl, by decide, by decide⟩
  rw [h1, h2, e]
  exact ⟨rfl, rfl⟩
/-- A row of one step, as a drawing of one's own. -/
theorem one_row {S : Nat → Prop} {w : World} {g : Nat} {d : Int} {b : Option Addr} {c : Nat} {ar : List (Int × Int)} (h : Bk 50 w g [.int .i64 d, .slice b ar.length c]) (hd : I64 d) (hr : SlE.row.rep S w [.slice b ar.length c] ar) : Gr SpE S w (some ⟨g, 0, none⟩) 1 [⟨d, ar⟩] :=
  Gr.one (E := SpE) (vs := [.int .i64 d, .slice b ar.length c]) (SpE_rep.2 ⟨b, c, rfl, hd, hr⟩) h.lt (fun j hj => h.cell j hj)
theorem one_rows {α : Type} {E : El α} {S : Nat → Prop} {w : World} {t : TypeId} {g q c : Nat} {l : List α} (h : Bk t w g [.slice (some ⟨q, 0, none⟩) l.length c]) (hr : Gr E S w (some ⟨q, 0, none⟩) c l) (hS : S q) (hl : l.length ≤ 1000) : Gr E.row S w (some ⟨g, 0, none⟩) 1 [l] :=
  Gr.one (E := E.row) (vs := [.slice (some ⟨q, 0, none⟩) l.length c]) ⟨_, _, rfl, (fun b o e _ => by cases e; exact hS), hr, by omega⟩ h.lt (fun j hj => h.cell j hj)
theorem two_slots {S : Nat → Prop} {w : World} {g : Nat} {x y : Int} (h : Bk 79 w g [.int .i64 x, .int .i64 (-1), .int .i64 y, .int .i64 (-1)]) (hx : I64 x) (hy : I64 y) (hS : S g) : SlE.row.rep S w [.slice (some ⟨g, 0, none⟩) 2 2] [(x, -1), (y, -1)] := by
  refine ⟨_, _, rfl, (fun b o e _ => by cases e; exact hS), ⟨Nat.le_refl _, by unfold maxLen; omega, (fun e => by cases e), fun i hi => ?_⟩, by show 2 ≤ _; omega⟩
  have hi2 : i < 2 := hi
  have hm : I64 (-1) := ⟨by decide, by decide⟩
  rcases Nat.lt_or_ge i 1 with h1 | h1
  · obtain rfl : i = 0 := by omega
    refine ⟨g, 0, [.int .i64 x, .int .i64 (-1)], rfl, h.lt, SlE_rep.2 ⟨rfl, hx, hm⟩, fun j hj => ?_⟩
    have hj2 : j < 2 := hj
    rcases Nat.lt_or_ge j 1 with h2 | h2
    · obtain rfl : j = 0 := by omega
      exact h.cell 0 (by simp)
    · obtain rfl : j = 1 := by omega
      exact h.cell 1 (by simp)
  · obtain rfl : i = 1 := by omega
    refine ⟨g, 0, [.int .i64 y, .int .i64 (-1)], rfl, h.lt, SlE_rep.2 ⟨rfl, hy, hm⟩, fun j hj => ?_⟩
    have hj2 : j < 2 := hj
    rcases Nat.lt_or_ge j 1 with h2 | h2
    · obtain rfl : j = 0 := by omega
      exact h.cell 2 (by simp)
    · obtain rfl : j = 1 := by omega
      exact h.cell 3 (by simp)

set_option maxHeartbeats 4000000 in
set_option maxRecDepth 100000 in
theorem awake18_any (w : World) :
    Calls Tryz.prog 6 #[] w fun e w' => e = .returned (.bool true) ∧ Below w.heap.size w w' := by
  go_enter Tryz.func6, Tryz.ntmps6
  go_wp2_with fail
  refine (go1_any 1 2 w ⟨by decide, by decide⟩ ⟨by decide, by decide⟩).mono ?_
  rintro e u ⟨g, rfl, hgw, hg, hb⟩
  obtain ⟨V, hV, X1, X2, hbV⟩ : ∃ V, V = (u.alloc (.cells #[.int .i64 1, .slice (some ⟨g, 0, none⟩) 2 2] 50)).alloc (.cells #[.slice (some ⟨u.heap.size, 0, none⟩) 1 1] 52) ∧ Bk 50 V u.heap.size [.int .i64 1, .slice (some ⟨g, 0, none⟩) 2 2] ∧ Bk 52 V (u.heap.size + 1) [.slice (some ⟨u.heap.size, 0, none⟩) 1 1] ∧ Below u.heap.size u V := ⟨_, rfl, (Bk.new _ _ _).below (bl1 _), Bk.new1 _ _ _ _, bl2 _ _⟩
  have hrow := one_row (S := fun _ => True) (ar := [(1, -1), (2, -1)]) X1 ⟨by decide, by decide⟩ (two_slots (hg.below hbV) ⟨by decide, by decide⟩ ⟨by decide, by decide⟩ trivial)
  have hrows : Gr SpE.row (fun _ => True) V (some ⟨u.heap.size + 1, 0, none⟩) 1 awL := one_rows X2 hrow trivial (by decide)
  have hat := atD_any (fun _ => True) (some ⟨u.heap.size + 1, 0, none⟩) 1 awL none 0 none 0 sNo 0 none 0 [] V hrows (sNo_tz V) (sNo_ri V) (Ri.nil _ _ _ (Nat.zero_le _)) ⟨by decide, by decide⟩ (by decide) (fun l hl => by cases hl)
  rw [aw_at.1, aw_at.2] at hat
  replace hat : Calls Tryz.prog 8 #[.slice (some ⟨u.heap.size + 1, 0, none⟩) 1 1, .agg #[.slice none 0 0, .slice none 0 0], .int .i64 0, .slice none 0 0] V fun e w' => ∃ a' c', e = .returned (.tuple #[.slice a' 1 c', .int .i64 0]) ∧ Gr PnE.row (fun k => V.heap.size ≤ k) w' a' c' [[⟨1, 2, true⟩]] ∧ Below V.heap.size V w' := hat
  have hbW := hb.trans (hbV.mono hb.size)
  clear hrow hrows X1 X2 hg hb hbV
  go_wp2_with fail
  rw [← hV]
  clear hV
  refine hat.mono ?_
  rintro e u2 ⟨a', c', rfl, hgr, hb2⟩
  have hfin := hbW.trans (hb2.mono hbW.size)
  obtain ⟨b3, o3, a4, c4, e3, -, d0, hgp, -⟩ := hgr.rw (Below.refl _ _) 0 (by decide)
  have hgp2 : Gr PnE _ u2 a4 c4 [⟨1, 2, true⟩] := hgp
  replace d0 : u2.cell? ⟨b3, o3 + 0, none⟩ = some (.slice a4 1 c4) := d0
  obtain ⟨b5, o5, e5, -, -, -, y0, z0⟩ := hgp2.pn (Below.refl _ _) 0 (by decide)
  replace y0 : u2.cell? ⟨b5, o5 + 0 * 3 + 1, none⟩ = some (.int .i64 2) := y0
  replace z0 : u2.cell? ⟨b5, o5 + 0 * 3 + 2, none⟩ = some (.bool true) := z0
  rw [Nat.zero_mul, Nat.add_zero] at y0 z0
  rw [Nat.add_zero] at d0
  subst e3 e5
  clear hat hgr hgp hgp2 hbW hb2
  go_wp2
  go_ret
  exact ⟨rfl, hfin⟩

/-- An answer that is true only if P. -/
structure BoolD (P : Prop) (e : Ending) : Prop where
  out : ∃ q : Bool, e = .returned (.bool q) ∧ (q = true → P)
set_option maxHeartbeats 4000000 in
set_option maxRecDepth 100000 in
theorem sfewD_any (S : Nat → Prop) (a : Option Addr) (ca : Nat) (l : List (List Sp)) (w : World) (hl : Gr SpE.row S w a ca l) :
    Calls Tryz.prog 22 #[.slice a l.length ca] w fun e w' => BoolD True e ∧ Below w.heap.size w w' := by
  have kl := hl.lenB
  have HL : Hid (Gr SpE.row S w a ca l) := hl
  clear hl
  go_enter Tryz.func22, Tryz.ntmps22
  go_wp2
  go_loopw [3, 4] (fun nv i wr => ∃ (k : Nat) (z : Int), k ≤ l.length ∧ i = .int .i64 k ∧ nv = .int .i64 z ∧ (0 ≤ z ∧ z ≤ 200000000000000) ∧ w = wr) (fun _ i _ => l.length - (intOf i).toNat)
  case atStart => exact ⟨0, 0, Nat.zero_le _, rfl, rfl, ⟨by decide, by decide⟩, rfl⟩
  case round =>
    obtain ⟨k, z, hk, rfl, rfl, ⟨hz1, hz2⟩, rfl⟩ := hrel
    by_cases hkn : k < l.length
    rotate_left
    · have g1 : decide ((k : Int) < (l.length : Int)) = false := decide_eq_false (by omega)
      have g2 : decide (k < l.length) = false := decide_eq_false hkn
      go_wp2
      go_ret
      exact ⟨⟨⟨_, rfl, fun _ => trivial⟩⟩, Below.refl _ _⟩
    have g1 : decide ((k : Int) < (l.length : Int)) = true := decide_eq_true (by omega)
    have g2 : decide (k < l.length) = true := decide_eq_true hkn
    by_cases hz3 : z ≤ 300
    rotate_left
    · have g3 : decide (z ≤ 300) = false := decide_eq_false hz3
      go_wp2
      go_ret
      exact ⟨⟨⟨_, rfl, fun _ => trivial⟩⟩, Below.refl _ _⟩
    have g3 : decide (z ≤ 300) = true := decide_eq_true hz3
    obtain ⟨b1, off, a1, c1, ea, hb1, c0, hd, hdl, -⟩ := HL.out.rw (Below.refl _ _) k hkn
    obtain ⟨d, hdd⟩ : ∃ d, l.getD k [] = d := ⟨_, rfl⟩
    rw [hdd] at c0 hd hdl
    subst ea
    have HD : Hid (Gr SpE S w a1 c1 d) := hd
    have i1 : (0 : Int) ≤ (k : Int) := by omega
    have i2 : (k : Int) < (l.length : Int) := by omega
    clear hd hdd
    go_wp2
    go_loopw [3, 5] (fun nv i wr => ∃ (j : Nat) (z : Int), j ≤ d.length ∧ i = .int .i64 j ∧ nv = .int .i64 z ∧ (0 ≤ z ∧ z ≤ 200000000000000) ∧ w = wr) (fun _ i _ => d.length - (intOf i).toNat)
    case atStart => exact ⟨0, z + 1, Nat.zero_le _, rfl, rfl, ⟨by omega, by omega⟩, rfl⟩
    case round =>
      obtain ⟨j, z, hj, rfl, rfl, ⟨hz1, hz2⟩, rfl⟩ := hrel
      by_cases hjn : j < d.length
      rotate_left
      · have g4 : decide ((j : Int) < (d.length : Int)) = false := decide_eq_false (by omega)
        have g5 : decide (j < d.length) = false := decide_eq_false hjn
        go_wp2
        go_roundw
        case rel => exact ⟨k + 1, z, by omega, by go_num, rfl, ⟨hz1, hz2⟩, trivial⟩
        case measure => simp [intOf]; omega
      have g4 : decide ((j : Int) < (d.length : Int)) = true := decide_eq_true (by omega)
      have g5 : decide (j < d.length) = true := decide_eq_true hjn
      by_cases hz4 : z ≤ 300
      rotate_left
      · have g6 : decide (z ≤ 300) = false := decide_eq_false hz4
        go_wp2
        go_roundw
        case rel => exact ⟨k + 1, z, by omega, by go_num, rfl, ⟨hz1, hz2⟩, trivial⟩
        case measure => simp [intOf]; omega
      have g6 : decide (z ≤ 300) = true := decide_eq_true hz4
      obtain ⟨b2, of2, a2, c2, ea2, hb2, hI, d0, d1, hsl, hsl2⟩ := HD.out.sp (Below.refl _ _) j hjn
      generalize d.getD j Sp.none = x at *
      subst ea2
      have i3 : (0 : Int) ≤ (j : Int) := by omega
      have i4 : (j : Int) < (d.length : Int) := by omega
      clear hsl
      go_wp2
      go_roundw
      case rel => exact ⟨j + 1, _, by omega, by go_num, rfl, ⟨by omega, by omega⟩, trivial⟩
      case measure => simp [intOf]; omega

set_option maxHeartbeats 2000000 in
set_option maxRecDepth 100000 in
theorem few18_any (S : Nat → Prop) (a : Option Addr) (ca : Nat) (l : List (List Sp)) (ga : Option Addr) (gc : Nat) (ma : Option Addr) (mc : Nat) (s : Sr) (pa : Option Addr) (pn pc : Nat) (w : World) (hl : Gr SpE.row S w a ca l) (hg : Tzz w ga gc s.rg) (hm : Rii w ma mc s.rw) (hpn : pn ≤ 9223372036854775807) :
    Calls Tryz.prog 7 #[.agg #[.slice a l.length ca, .slice ga s.rg.length gc, .slice ma s.rw.length mc], .slice pa pn pc] w fun e w' => BoolD (s.rg.length ≤ 40 ∧ ∀ l ∈ s.rg, l.length ≤ 8) e ∧ Below w.heap.size w w' := by
  have kg := hg.lenB
  obtain ⟨W, hW, X1, hbW⟩ : ∃ W, W = w.alloc (.cells #[.slice a l.length ca, .slice ga s.rg.length gc, .slice ma s.rw.length mc] 28) ∧ Bk 28 W w.heap.size [.slice a l.length ca, .slice ga s.rg.length gc, .slice ma s.rw.length mc] ∧ Below w.heap.size w W := ⟨_, rfl, Bk.new _ _ _, bl1 _⟩
  obtain ⟨p0, p1, p2, -⟩ := X1.three
  have h1 := sfewD_any S a ca l W (hl.below hbW)
  have h2 := fun U (hU : Below W.heap.size W U) => few10_any ga gc ma mc s U ((hg.below hbW).below hU) ((hm.below hbW).below hU)
  clear hl hg hm
  go_enter Tryz.func7, Tryz.ntmps7
  go_upto_region 1 with fail
  rw [← hW]
  clear hW
  go_wp2_with fail
  refine h1.mono ?_
  rintro e m1 ⟨⟨⟨q1, rfl, -⟩⟩, hb1⟩
  replace X1 := X1.below hb1
  have h3 := h2 _ hb1
  replace hbW := hbW.trans (hb1.mono hbW.size)
  clear p0 p1 p2 h1 h2 hb1
  obtain ⟨p0, p1, p2, -⟩ := X1.three
  cases q1 with
  | false =>
    clear h3
    go_wp2
    go_ret
    exact ⟨⟨⟨false, rfl, (fun h => by cases h)⟩⟩, hbW⟩
  | true =>
  go_wp2_with fail
  refine h3.mono ?_
  rintro e m2 ⟨q2, rfl, HQ2, hb2⟩
  replace HQ2 : Hid (q2 = true → s.rg.length ≤ 20 ∧ ∀ l ∈ s.rg, l.length ≤ 8) := HQ2
  replace X1 := X1.below hb2
  replace hbW := hbW.trans (hb2.mono hbW.size)
  clear p0 p1 p2 h3 hb2
  obtain ⟨p0, p1, p2, -⟩ := X1.three
  cases q2 with
  | false =>
    go_wp2
    go_ret
    exact ⟨⟨⟨false, rfl, (fun h => by cases h)⟩⟩, hbW⟩
  | true =>
  have HG2 : Hid (s.rg.length ≤ 20 ∧ ∀ l ∈ s.rg, l.length ≤ 8) := HQ2.out rfl
  clear HQ2
  by_cases h6 : s.rg.length ≤ 6
  rotate_left
  · have g1 : decide ((s.rg.length : Int) ≤ 6) = false := decide_eq_false (by omega)
    go_wp2
    go_ret
    exact ⟨⟨⟨false, rfl, (fun h => by cases h)⟩⟩, hbW⟩
  have g1 : decide ((s.rg.length : Int) ≤ 6) = true := decide_eq_true (by omega)
  go_wp2
  go_ret
  exact ⟨⟨⟨_, rfl, fun _ => ⟨by omega, HG2.out.2⟩⟩⟩, hbW⟩

end Go.Proofs.YtkbbdkecillnpaaGreat

namespace Go.Proofs.YtkbbdkecillnpaaGreat
open Go.RowKit Go.Maps
set_option linter.unusedSimpArgs false
set_option linter.unusedVariables false

/-- A new page. -/
theorem pc_new (w : World) (G : Nat → Prop) (hG : ∀ k, G k → k < w.heap.size) : Pc (w.alloc (.cells #[.slice none 0 0, .int .i64 0, .map none, .bool false] 83)) w.heap.size G St.zero := by
  refine ⟨fun k hk => by have := hG k hk; simp; omega, fun h => by have := hG _ h; omega, Wf.zero, _, _, heap_alloc_new w _, fun h => (by cases h), fun _ => ⟨⟨World.ownsRow_nil _ _ _ _, fun g hg => (by cases hg)⟩, .inl ⟨rfl, rfl⟩⟩⟩

end Go.Proofs.YtkbbdkecillnpaaGreat

namespace Go.Proofs.YtkbbdkecillnpaaGreat
open Go.RowKit Go.Maps
set_option linter.unusedSimpArgs false
set_option linter.unusedVariables false

def St.later (s : St) : St := if s.no then s else { s with bs := s.bs ++ be4 0, ws := s.ws ++ [(s.bs.length : Int)] }
theorem Wf.later {s : St} (h : Wf s) : Wf s.later := by
  unfold St.later
  split
  · exact h
  · refine ⟨h.1.append (byt_be4 0), ?_, ?_, ?_⟩
    · rw [List.nodup_append]
      refine ⟨h.2.1, by simp, ?_⟩
      intro a ha b hb e
      have := h.2.2.1 a ha
      simp at hb
      omega
    · intro x hx
      simp at hx
      rcases hx with hx | hx
      · have := h.2.2.1 x hx
        simp [be4]; omega
      · simp [be4]; omega
    · have := h.2.2.2
      simp [be4]
      omega
theorem St.later_bad {s : St} (h : s.no = true) : s.later = s := by simp [St.later, h]
theorem St.later_ok {s : St} (h : s.no = false) : s.later = { s with bs := s.bs ++ be4 0, ws := s.ws ++ [(s.bs.length : Int)] } := by simp [St.later, h]

theorem wf64 {n : Int} (h : I64 n) : (Lit.int .i64 n).wf = true := WalkArith.wf_i64 h
theorem keyI : Keyed Tryz.prog 3 := int_keyed Tryz.underlying3
theorem zeroU (w : World) : (zeroValue 209).run Tryz.prog w = .ok (.agg #[]) w := by kernel_rfl

/-- A place more that waits. -/
theorem has_more {D : DataW Unit} {ws : List Int} {l : Int} (hm : IsMap D) (h : ∀ x : Int, Maps.has D (.int .i64 x) = decide (x ∈ ws)) (x : Int) :
    Maps.has (D.put (.int .i64 l) (.agg [])) (.int .i64 x) = decide (x ∈ ws ++ [l]) := by
  by_cases e : x = l
  · subst e
    rw [has_put_same hm (show WideAt.IsKeyLit (.int .i64 x) from trivial)]
    simp
  · rw [has_put_other (by intro e2; injection e2 with _ e3; exact e e3), h x]
    simp [e]
theorem size_more {D : DataW Unit} {ws : List Int} {l : Int} (hm : Tidy D) (h : ∀ x : Int, Maps.has D (.int .i64 x) = decide (x ∈ ws)) (hs : Maps.size D = ws.length) (hl : l ∉ ws) :
    Maps.size (D.put (.int .i64 l) (.agg [])) = (ws ++ [l]).length := by
  rw [size_put hm, h l, hs]
  simp [hl]

end Go.Proofs.YtkbbdkecillnpaaGreat
