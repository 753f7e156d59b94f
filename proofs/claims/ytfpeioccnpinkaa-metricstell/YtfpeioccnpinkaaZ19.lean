/-
  foundrylaw10.little, foundrylaw10.awake, foundryref10.Few: the walks.
  foundryref16.Same of two alike, foundrylaw16.awake, few: the walks.
  foundryref10.Field: the walk.
  foundryref10.Fits: the walk.
  foundryref03.Coordinate: the walk.
-/
import Derived.Test.YtfpeioccnpinkaaZ18
import Derived.Deep.CutBlock
import Derived.Deep.CutRange
import Derived.BigQuiet
import Derived.Deep.QuietTactic
import Derived.WalkSmall
import Derived.Outline
import Derived.Test.YtfpeioccnpinkaaZ9
import Derived.Test.YtfpeioccnpinkaaZ14
import Derived.Test.YtfpeioccnpinkaaZ8
namespace Go.Proofs.Ytfpeioccnpinkaa
open Go.RowKit Go.Maps
set_option linter.unusedSimpArgs false
set_option linter.unusedVariables false

theorem alloc_old {w : World} {g : Nat} {x : Obj} (h : w.heap[g]? = some x) (o : Obj) : (w.alloc o).heap[g]? = some x := ((bl1 o).block g (Array.getElem?_eq_some_iff.1 h).1).trans h
theorem alloc_new {w : World} {n : Nat} (hn : w.heap.size = n) (o : Obj) : (w.alloc o).heap[n]? = some o := by rw [← hn]; exact heap_alloc_new w o
theorem Ri.one {w : World} {g : Nat} {z : Int} {t : TypeId} (h : w.heap[g]? = some (.cells #[.int .i64 z] t (0, 0))) (hz : I64 z) : Ri w (some ⟨g, 0, none⟩) 1 [z] := by
  refine ⟨fun y hy => by rw [List.mem_singleton.1 hy]; exact hz, Nat.le_refl _, by unfold maxLen; omega, .inr ⟨g, 0, rfl, (Array.getElem?_eq_some_iff.1 h).1, fun i hi => ?_⟩⟩
  obtain rfl : i = 0 := by simpa using hi
  exact cell_of_row w g 0 _ _ (0, 0) h
theorem Tz.one {w : World} {g : Nat} {t : Te} {ty : TypeId} (h : w.heap[g]? = some (.cells #[.int .i64 t.st, .int .i64 t.pk, .int .i64 t.en] ty (0, 0))) (ht : Tw t) : Tz w (some ⟨g, 0, none⟩) 1 [t] := by
  refine ⟨Nat.le_refl _, by unfold maxLen; omega, fun y hy => by rw [List.mem_singleton.1 hy]; exact ht, (fun e => by cases e), fun i hi => ?_⟩
  obtain rfl : i = 0 := by simpa using hi
  exact ⟨g, 0, rfl, (Array.getElem?_eq_some_iff.1 h).1, cell_of_row w g 0 _ _ (0, 0) h, cell_of_row w g 1 _ _ (0, 0) h, cell_of_row w g 2 _ _ (0, 0) h⟩
theorem Tzz.one {w : World} {g : Nat} {a : Option Addr} {c : Nat} {l : List Te} {ty : TypeId} (h : w.heap[g]? = some (.cells #[.slice a l.length c] ty (0, 0))) (hl : Tz w a c l) : Tzz w (some ⟨g, 0, none⟩) 1 [l] := by
  refine ⟨Nat.le_refl _, by unfold maxLen; omega, fun i hi => ?_⟩
  obtain rfl : i = 0 := by simpa using hi
  exact ⟨g, 0, a, c, rfl, (Array.getElem?_eq_some_iff.1 h).1, cell_of_row w g 0 _ _ (0, 0) h, hl⟩
theorem Rii.one {w : World} {g : Nat} {a : Option Addr} {c : Nat} {l : List Int} {ty : TypeId} (h : w.heap[g]? = some (.cells #[.slice a l.length c] ty (0, 0))) (hl : Ri w a c l) : Rii w (some ⟨g, 0, none⟩) 1 [l] := by
  refine ⟨Nat.le_refl _, by unfold maxLen; omega, fun i hi => ?_⟩
  obtain rfl : i = 0 := by simpa using hi
  exact ⟨g, 0, a, c, rfl, (Array.getElem?_eq_some_iff.1 h).1, cell_of_row w g 0 _ _ (0, 0) h, hl⟩

/-- The little store. -/
def litS (n : Int) : Sr := ⟨[[⟨0, 16384, 16384⟩]], [[n]]⟩
theorem aw_ro : roN (litS 10) 5 0 [4096] = 8 ∧ roE (litS 10) 5 0 [4096] = 0 := by decide +kernel
theorem aw_st : stB (litS 10) 1 = true := by decide +kernel
theorem aw_8 : ∀ l ∈ (litS 10).rg, l.length ≤ 8 := by
  intro l hl
  simp [litS] at hl
  subst hl
  decide
theorem i64_wrap64 (z : Int) : I64 (wrap64 z) := by
  unfold I64 wrap64
  omega
set_option maxHeartbeats 4000000 in
set_option maxRecDepth 100000 in
theorem few10_any (a : Option Addr) (ca : Nat) (b : Option Addr) (cb : Nat) (s : Sr) (w : World) (hg : Tzz w a ca s.rg) (hm : Rii w b cb s.rw) :
    Calls Try.prog 22 #[.agg #[.slice a s.rg.length ca, .slice b s.rw.length cb]] w fun e w' => ∃ q : Bool, e = .returned (.bool q) ∧ (q = true → s.rg.length ≤ 20 ∧ ∀ l ∈ s.rg, l.length ≤ 8) ∧ Below w.heap.size w w' := by
  have k1 := hg.lenB
  have k2 := hm.lenB
  have HG : Hid (Tzz w a ca s.rg) := hg
  have HM : Hid (Rii w b cb s.rw) := hm
  clear hg hm
  obtain ⟨W, hW, X1, hbW⟩ : ∃ W, W = w.alloc (.cells #[.slice a s.rg.length ca, .slice b s.rw.length cb] 26) ∧ BxS W w.heap.size (.slice a s.rg.length ca) (.slice b s.rw.length cb) ∧ Below w.heap.size w W := ⟨_, rfl, BxS.new _ _ _, bl1 _⟩
  go_enter Try.func22, Try.ntmps22
  go_upto_block 0 with fail
  rw [← hW]
  clear hW
  go_cut [3] from 4 to 26 (fun v wr => ∃ z : Int, v = .int .i64 z ∧ I64 z ∧ BxS wr w.heap.size (.slice a s.rg.length ca) (.slice b s.rw.length cb) ∧ Below w.heap.size w wr)
  case first =>
    go_wp2_with fail
    go_loopw [3, 4] (fun v i wr => ∃ (k : Nat) (z : Int), k ≤ s.rg.length ∧ v = .int .i64 z ∧ I64 z ∧ i = .int .i64 k ∧ BxS wr w.heap.size (.slice a s.rg.length ca) (.slice b s.rw.length cb) ∧ Below w.heap.size w wr) (fun _ i _ => s.rg.length - (intOf i).toNat)
    case atStart => exact ⟨0, 0, Nat.zero_le _, rfl, ⟨by decide, by decide⟩, rfl, X1, hbW⟩
    case round =>
      clear X1 hbW
      obtain ⟨k, z, hk, rfl, hz, rfl, X1, hbW⟩ := hrel
      obtain ⟨p0, p1, _⟩ := X1.cells
      by_cases hkn : k < s.rg.length
      · have g1 : decide ((k : Int) < (s.rg.length : Int)) = true := decide_eq_true (by omega)
        by_cases hz2 : z ≤ 2000
        · have g2 : decide (z ≤ 2000) = true := decide_eq_true hz2
          obtain ⟨b1, o1, a1, c1, ea, _, d0, hp⟩ := HG.out.at hbW k hkn
          have hpl := hp.lenB
          generalize (s.rg.getD k []).length = n1 at *
          subst ea
          clear hp hkn
          have i1 : (0 : Int) ≤ (k : Int) := by omega
          have i2 : (k : Int) < (s.rg.length : Int) := of_decide_eq_true g1
          have HZ : Hid (∀ y : Int, I64 (wrap64 y)) := i64_wrap64
          go_wp2_with fail
          go_roundw
          case rel => exact ⟨k + 1, _, by omega, rfl, HZ.out _, by go_num, X1, hbW⟩
          case measure => simp [intOf]; omega
        · have g2 : decide (z ≤ 2000) = false := decide_eq_false hz2
          have i2 : (k : Int) < (s.rg.length : Int) := by omega
          clear hkn
          go_wp2_with fail
          go_meet
          exact ⟨z, rfl, hz, X1, hbW⟩
      · have g1 : decide ((k : Int) < (s.rg.length : Int)) = false := decide_eq_false (by omega)
        have i2 : ¬ (k : Int) < (s.rg.length : Int) := by omega
        clear hkn
        go_wp2_with fail
        go_meet
        exact ⟨z, rfl, hz, X1, hbW⟩
  case rest =>
    clear X1 hbW
    obtain ⟨z0, rfl, hzz0, X1, hbW⟩ := hcut
    go_upto_block 2 with fail
    go_cut [3] from 4 to 46 (fun v wr => ∃ z : Int, v = .int .i64 z ∧ I64 z ∧ BxS wr w.heap.size (.slice a s.rg.length ca) (.slice b s.rw.length cb) ∧ Below w.heap.size w wr)
    case first =>
      go_wp2_with fail
      go_loopw [3, 5] (fun v i wr => ∃ (k : Nat) (z : Int), k ≤ s.rw.length ∧ v = .int .i64 z ∧ I64 z ∧ i = .int .i64 k ∧ BxS wr w.heap.size (.slice a s.rg.length ca) (.slice b s.rw.length cb) ∧ Below w.heap.size w wr) (fun _ i _ => s.rw.length - (intOf i).toNat)
      case atStart => exact ⟨0, z0, Nat.zero_le _, rfl, hzz0, rfl, X1, hbW⟩
      case round =>
        clear X1 hbW
        obtain ⟨k, z, hk, rfl, hz, rfl, X1, hbW⟩ := hrel
        obtain ⟨p0, p1, _⟩ := X1.cells
        by_cases hkn : k < s.rw.length
        · have g1 : decide ((k : Int) < (s.rw.length : Int)) = true := decide_eq_true (by omega)
          by_cases hz2 : z ≤ 2000
          · have g2 : decide (z ≤ 2000) = true := decide_eq_true hz2
            obtain ⟨b1, o1, a1, c1, ea, _, d0, hp⟩ := HM.out.at hbW k hkn
            have hpl := hp.lenB
            generalize (s.rw.getD k []).length = n1 at *
            subst ea
            clear hp hkn
            have i1 : (0 : Int) ≤ (k : Int) := by omega
            have i2 : (k : Int) < (s.rw.length : Int) := of_decide_eq_true g1
            have HZ : Hid (∀ y : Int, I64 (wrap64 y)) := i64_wrap64
            go_wp2_with fail
            go_roundw
            case rel => exact ⟨k + 1, _, by omega, rfl, HZ.out _, by go_num, X1, hbW⟩
            case measure => simp [intOf]; omega
          · have g2 : decide (z ≤ 2000) = false := decide_eq_false hz2
            have i2 : (k : Int) < (s.rw.length : Int) := by omega
            clear hkn
            go_wp2_with fail
            go_meet
            exact ⟨z, rfl, hz, X1, hbW⟩
        · have g1 : decide ((k : Int) < (s.rw.length : Int)) = false := decide_eq_false (by omega)
          have i2 : ¬ (k : Int) < (s.rw.length : Int) := by omega
          clear hkn
          go_wp2_with fail
          go_meet
          exact ⟨z, rfl, hz, X1, hbW⟩
    case rest =>
      clear X1 hbW hzz0
      obtain ⟨z1, rfl, hzz1, X1, hbW⟩ := hcut
      go_wp2_with fail
      go_loopw [6] (fun i wr => ∃ k : Nat, k ≤ s.rg.length ∧ i = .int .i64 k ∧ (∀ j, j < k → (s.rg.getD j []).length ≤ 8) ∧ BxS wr w.heap.size (.slice a s.rg.length ca) (.slice b s.rw.length cb) ∧ Below w.heap.size w wr) (fun i _ => s.rg.length - (intOf i).toNat)
      case atStart => exact ⟨0, Nat.zero_le _, rfl, (fun j hj => by omega), X1, hbW⟩
      case round =>
        clear X1 hbW
        obtain ⟨k, hk, rfl, hok, X1, hbW⟩ := hrel
        have HOK : Hid (∀ j, j < k → (s.rg.getD j []).length ≤ 8) := hok
        clear hok
        obtain ⟨p0, p1, _⟩ := X1.cells
        by_cases hkn : k < s.rg.length
        · obtain ⟨b1, o1, a1, c1, ea, _, d0, hp⟩ := HG.out.at hbW k hkn
          have hpl := hp.lenB
          obtain ⟨n1, hn1⟩ : ∃ n1, (s.rg.getD k []).length = n1 := ⟨_, rfl⟩
          have HN : Hid ((s.rg.getD k []).length = n1) := hn1
          rw [hn1] at d0 hpl
          subst ea
          clear hp hn1
          by_cases h8 : 8 < n1
          · have g3 : (8 : Int) < (n1 : Int) := by omega
            go_wp2
            go_ret
            exact ⟨false, rfl, (fun h => by cases h), hbW⟩
          · have g3 : ¬ (8 : Int) < (n1 : Int) := by omega
            have HOK2 : Hid (∀ j, j < k + 1 → (s.rg.getD j []).length ≤ 8) := fun j hj => by
              rcases Nat.lt_or_ge j k with h1 | h1
              · exact HOK.out j h1
              · rw [show j = k by omega, HN.out]; omega
            go_wp2
            go_roundw
            case rel => exact ⟨k + 1, by omega, by go_num, HOK2.out, X1, hbW⟩
            case measure => simp [intOf]; omega
        · obtain rfl : k = s.rg.length := by omega
          have HA : Hid (∀ l ∈ s.rg, l.length ≤ 8) := fun l hl => by
            obtain ⟨i, hi, e⟩ := List.getElem_of_mem hl
            have := HOK.out i hi
            rw [getL hi, e] at this
            exact this
          by_cases hz2 : z1 ≤ 2000
          · have g2 : decide (z1 ≤ 2000) = true := decide_eq_true hz2
            go_wp2
            go_ret
            exact ⟨_, rfl, (fun h => ⟨by have := of_decide_eq_true h; omega, HA.out⟩), hbW⟩
          · have g2 : decide (z1 ≤ 2000) = false := decide_eq_false hz2
            go_wp2
            exact bodyPost_ret (v := .bool false) (by simp [results, Try.results22, go_sem]) rfl (by first | exact ⟨false, rfl, (fun h => by cases h), hbW⟩ | exact .inl ⟨rfl, hbW⟩)

end Go.Proofs.Ytfpeioccnpinkaa

namespace Go.Proofs.Ytfpeioccnpinkaa
open Go.RowKit Go.Maps
set_option linter.unusedSimpArgs false
set_option linter.unusedVariables false

theorem ro_none {s : Sr} {x : Int} {cs : List Int} (h : fiS s x (-1) = true) : roN s x (-1) cs = x ∧ roE s x (-1) cs = 0 := by
  have hb := (fiS_iff.1 h).1
  have hr : rwB s (-1) = false := by unfold rwB; simp
  have e : vaQ s x (-1) cs = ((x : Int) : Rat) := by rw [vaQ, chQ_no hr, Rat.add_zero]
  unfold roN roE
  rw [h, if_pos rfl, if_pos rfl, e]
  exact fld_int hb.1 hb.2

set_option maxHeartbeats 2000000 in
set_option maxRecDepth 100000 in
theorem ssameM_any (S S2 : Nat → Prop) (a : Option Addr) (ca : Nat) (a' : Option Addr) (ca' : Nat) (l : List Mt) (w : World) (h1 : Gr MtE S w a ca l) (h2 : Gr MtE S2 w a' ca' l) :
    Calls Try.prog 18 #[.slice a l.length ca, .slice a' l.length ca'] w fun e w' => e = .returned (.bool true) ∧ Below w.heap.size w w' := by
  have k1 := h1.lenB
  have g1 : ((l.length : Int) != (l.length : Int)) = false := by simp
  have HA : Hid (Gr MtE S w a ca l) := h1
  have HB : Hid (Gr MtE S2 w a' ca' l) := h2
  clear h1 h2
  go_enter Try.func18, Try.ntmps18
  go_wp2
  clear g1
  go_loopw [5] (fun i wr => ∃ k : Nat, k ≤ l.length ∧ i = .int .i64 k ∧ Below w.heap.size w wr) (fun i _ => l.length - (intOf i).toNat)
  case atStart => exact ⟨0, Nat.zero_le _, rfl, Below.refl _ _⟩
  case round =>
    obtain ⟨k, hk, rfl, hnx⟩ := hrel
    by_cases hkn : k < l.length
    · obtain ⟨b3, o3, ec, _, _, c0, c1, c2⟩ := HA.out.mt hnx k hkn
      obtain ⟨b4, o4, ed, _, _, d0, d1, d2⟩ := HB.out.mt hnx k hkn
      generalize l.getD k Mt.none = t at *
      obtain ⟨x, y, z⟩ := t
      dsimp only at c0 c1 c2 d0 d1 d2
      subst ec ed
      have i3 : (0 : Int) ≤ (k : Int) := by omega
      have i4 : (k : Int) < (l.length : Int) := by omega
      go_wp2_with fail
      go_quiet (fail)
      go_wp2
      go_roundw
      case rel => exact ⟨k + 1, by omega, by go_num, below_drewN hnx _⟩
      case measure => simp [intOf]; omega
    · have g1 : ¬ (k : Int) < (l.length : Int) := by omega
      go_wp2
      go_ret
      exact ⟨rfl, hnx⟩

def awM : List Mt := [⟨⟨#[104, 97, 115, 99]⟩, 800, -1⟩]
theorem awF1 : fnM awM ⟨#[104, 97, 115, 99]⟩ = 0 := by decide
theorem awF2 : fnM awM ⟨#[110, 111, 110, 101]⟩ = -1 := by decide
theorem awV : vaMN awM ⟨[], []⟩ ⟨#[104, 97, 115, 99]⟩ [] = 800 ∧ vaME awM ⟨[], []⟩ ⟨#[104, 97, 115, 99]⟩ [] = 0 := by
  have h := ro_none (s := ⟨[], []⟩) (x := 800) (cs := []) (by decide)
  unfold vaMN vaME
  rw [if_neg (by rw [awF1]; decide), if_neg (by rw [awF1]; decide)]
  have e : vaMi awM ⟨#[104, 97, 115, 99]⟩ = ⟨⟨#[104, 97, 115, 99]⟩, 800, -1⟩ := by unfold vaMi; rw [awF1]; rfl
  rw [e]
  exact h
set_option maxHeartbeats 2000000 in
set_option maxRecDepth 100000 in
theorem awake16_any (w : World) :
    Calls Try.prog 7 #[] w fun e w' => e = .returned (.bool true) ∧ Below w.heap.size w w' := by
  obtain ⟨W, hW, X1, hbW⟩ : ∃ W, W = w.alloc (.cells #[.string ⟨#[104, 97, 115, 99]⟩, .int .i64 800, .int .i64 (-1)] 49) ∧ Bk 49 W w.heap.size [.string ⟨#[104, 97, 115, 99]⟩, .int .i64 800, .int .i64 (-1)] ∧ Below w.heap.size w W := ⟨_, rfl, Bk.new _ _ _, bl1 _⟩
  have hrep : MtE.rep (fun _ => True) W [.string ⟨#[104, 97, 115, 99]⟩, .int .i64 800, .int .i64 (-1)] ⟨⟨#[104, 97, 115, 99]⟩, 800, -1⟩ := MtE_rep.2 ⟨rfl, by decide, ⟨by decide, by decide⟩, ⟨by decide, by decide⟩⟩
  have hone : Gr MtE (fun _ => True) W (some ⟨w.heap.size, 0, none⟩) 1 awM := Gr.one (E := MtE) hrep X1.lt (fun j hj => X1.cell j hj)
  have hv := mvalue_any (fun _ => True) (some ⟨w.heap.size, 0, none⟩) 1 awM none 0 none 0 ⟨[], []⟩ ⟨#[104, 97, 115, 99]⟩ none 0 [] W hone (by unfold Tzz; simp [maxLen]) (by unfold Rii; simp [maxLen]) (Ri.nil _ _ _ (Nat.zero_le _)) (by decide) (fun l hl => by simp at hl)
  rw [awV.1, awV.2] at hv
  replace hv : Calls Try.prog 9 #[.slice (some ⟨w.heap.size, 0, none⟩) 1 1, .agg #[.slice none 0 0, .slice none 0 0], .string ⟨#[104, 97, 115, 99]⟩, .slice none 0 0] W fun e w' => e = .returned (.tuple #[.int .i64 800, .int .i64 0]) ∧ Below W.heap.size W w' := hv
  have hf : ∀ U, Below W.heap.size W U → Calls Try.prog 11 #[.slice (some ⟨w.heap.size, 0, none⟩) 1 1, .string ⟨#[110, 111, 110, 101]⟩] U fun e w' => e = .returned (.int .i64 (-1)) ∧ Below U.heap.size U w' := fun U hU => by
    have h := mfind_any (fun _ => True) (some ⟨w.heap.size, 0, none⟩) 1 awM ⟨#[110, 111, 110, 101]⟩ U (hone.below hU)
    rw [awF2] at h
    exact h
  clear hrep hone X1
  go_enter Try.func7, Try.ntmps7
  go_upto_region 2 with fail
  rw [← hW]
  clear hW
  go_wp2_with fail
  refine hv.mono ?_
  rintro e u ⟨rfl, hb⟩
  have hBu := hbW.trans (hb.mono hbW.size)
  clear hv
  go_wp2_with fail
  refine (hf _ hb).mono ?_
  rintro e u2 ⟨rfl, hb2⟩
  have hfin := hBu.trans (hb2.mono hBu.size)
  clear hb hb2 hf hBu hbW
  go_wp2
  go_ret
  exact ⟨rfl, hfin⟩

/-- An answer that is true only if P. -/
structure BoolM (P : Prop) (e : Ending) : Prop where
  out : ∃ q : Bool, e = .returned (.bool q) ∧ (q = true → P)
set_option maxHeartbeats 2000000 in
set_option maxRecDepth 100000 in
theorem few16_any (a : Option Addr) (ca : Nat) (n : Nat) (ga : Option Addr) (gc : Nat) (ma : Option Addr) (mc : Nat) (s : Sr) (w : World) (hn : n ≤ 9223372036854775807) (hg : Tzz w ga gc s.rg) (hm : Rii w ma mc s.rw) :
    Calls Try.prog 8 #[.agg #[.slice a n ca, .slice ga s.rg.length gc, .slice ma s.rw.length mc]] w fun e w' => BoolM (n ≤ 40 ∧ s.rg.length ≤ 20 ∧ ∀ l ∈ s.rg, l.length ≤ 8) e ∧ Below w.heap.size w w' := by
  have k1 := hg.lenB
  have k2 := hm.lenB
  obtain ⟨W, hW, X1, hbW⟩ : ∃ W, W = w.alloc (.cells #[.slice a n ca, .slice ga s.rg.length gc, .slice ma s.rw.length mc] 28) ∧ Bk 28 W w.heap.size [.slice a n ca, .slice ga s.rg.length gc, .slice ma s.rw.length mc] ∧ Below w.heap.size w W := ⟨_, rfl, Bk.new _ _ _, bl1 _⟩
  have hf := few10_any ga gc ma mc s W (hg.below hbW) (hm.below hbW)
  obtain ⟨p0, p1, p2, -⟩ := X1.three
  go_enter Try.func8, Try.ntmps8
  go_upto_region 1 with fail
  rw [← hW]
  clear hW
  by_cases h4 : n ≤ 40
  rotate_left
  · have g1 : ¬ (n : Int) ≤ 40 := by omega
    have g1b : decide ((n : Int) ≤ 40) = false := decide_eq_false g1
    clear hf
    go_wp2
    go_ret
    exact ⟨⟨⟨false, rfl, (fun h => by cases h)⟩⟩, hbW⟩
  have g1 : (n : Int) ≤ 40 := by omega
  have g1b : decide ((n : Int) ≤ 40) = true := decide_eq_true g1
  go_wp2_with fail
  refine hf.mono ?_
  rintro e u ⟨q, rfl, hq, hb⟩
  have hfin := hbW.trans (hb.mono hbW.size)
  clear hf hb
  cases q with
  | false =>
    go_wp2
    go_ret
    exact ⟨⟨⟨false, rfl, (fun h => by cases h)⟩⟩, hfin⟩
  | true =>
    have HQ : Hid (_) := hq rfl
    clear hq
    go_wp2
    go_ret
    exact ⟨⟨⟨true, rfl, (fun _ => ⟨h4, HQ.out⟩)⟩⟩, hfin⟩

end Go.Proofs.Ytfpeioccnpinkaa

namespace Go.Proofs.Ytfpeioccnpinkaa
open Go.RowKit Go.Maps
set_option linter.unusedSimpArgs false
set_option linter.unusedVariables false

set_option maxHeartbeats 400000 in
set_option maxRecDepth 100000 in
theorem sField_any (z : Int) (w : World) :
    Calls Try.prog 56 #[.int .i64 z] w fun e w' => e = .returned (.bool (fdB z)) ∧ w = w' := by
  by_cases h1 : -32768 ≤ z
  · have g1 : decide (-32768 ≤ z) = true := decide_eq_true h1
    have HE : Hid (decide (z ≤ 32767) = fdB z) := by show _ = _; rw [fdB]; exact decide_eq_decide.2 ⟨fun h => ⟨h1, h⟩, fun h => h.2⟩
    go_enter Try.func56, Try.ntmps56
    go_wp2
    go_ret
    exact ⟨rt_bool HE.out, rfl⟩
  · have g1 : decide (-32768 ≤ z) = false := decide_eq_false h1
    have HE : Hid (false = fdB z) := by show _ = _; rw [fdB]; exact (decide_eq_false (fun h => h1 h.1)).symm
    go_enter Try.func56, Try.ntmps56
    go_wp2
    go_ret
    exact ⟨rt_bool HE.out, rfl⟩
theorem sFieldB_any (z : Int) (w : World) :
    Calls Try.prog 56 #[.int .i64 z] w fun e w' => e = .returned (.bool (fdB z)) ∧ Below w.heap.size w w' :=
  (sField_any z w).mono fun e w' h => ⟨h.1, h.2 ▸ Below.refl _ _⟩

end Go.Proofs.Ytfpeioccnpinkaa

namespace Go.Proofs.Ytfpeioccnpinkaa
open Go.RowKit Go.Maps
set_option linter.unusedSimpArgs false
set_option linter.unusedVariables false

set_option maxHeartbeats 4000000 in
set_option maxRecDepth 100000 in
theorem sfitsS_any (a : Option Addr) (ca : Nat) (b : Option Addr) (cb : Nat) (s : Sr) (x r : Int) (w : World) (hl : s.rw.length ≤ 9223372036854775807) (hx : I64 x) (hr : I64 r) :
    Calls Try.prog 38 #[.agg #[.slice a s.rg.length ca, .slice b s.rw.length cb], .agg #[.int .i64 x, .int .i64 r]] w fun e w' => e = .returned (.bool (fiS s x r)) ∧ Below w.heap.size w w' := by
  obtain ⟨W, hW, X1, X2, hbW⟩ : ∃ W, W = (w.alloc (.cells #[.slice a s.rg.length ca, .slice b s.rw.length cb] 26)).alloc (.cells #[.int .i64 x, .int .i64 r] 47) ∧ BxS W w.heap.size (.slice a s.rg.length ca) (.slice b s.rw.length cb) ∧ BxL W (w.heap.size + 1) (.int .i64 x) (.int .i64 r) ∧ Below w.heap.size w W := ⟨_, rfl, (BxS.new _ _ _).below (bl1 _), BxL.new1 _ _ _ _, bl2 _ _⟩
  have hif := fun U => sField_any x U
  cases hf : fdB x with
  | false =>
    have HE : Hid (fiS s x r = false) := by show _ = _; rw [fiS, hf, Bool.false_and]
    simp only [hf] at hif
    clear hf
    go_enter Try.func38, Try.ntmps38
    go_wp2_with fail
    rw [← hW]
    clear hW
    refine (hif _).mono ?_
    rintro e u1 ⟨rfl, rfl⟩
    obtain ⟨c0, c1, _⟩ := X1.cells
    obtain ⟨d0, d1, _⟩ := X2.cells
    go_wp2
    go_ret
    exact ⟨rt_bool HE.out.symm, hbW⟩
  | true =>
    simp only [hf] at hif
    by_cases h1 : r = -1
    · have HE : Hid (fiS s x r = true) := by show _ = _; rw [fiS, hf, Bool.true_and, decide_eq_true h1, Bool.true_or]
      have g1 : (r == -1) = true := by simp [h1]
      clear h1
      clear hf
      go_enter Try.func38, Try.ntmps38
      go_wp2_with fail
      rw [← hW]
      clear hW
      refine (hif _).mono ?_
      rintro e u1 ⟨rfl, rfl⟩
      obtain ⟨c0, c1, _⟩ := X1.cells
      obtain ⟨d0, d1, _⟩ := X2.cells
      go_wp2
      go_ret
      exact ⟨rt_bool HE.out.symm, hbW⟩
    have g1 : (r == -1) = false := by simp [h1]
    have HE0 : Hid (fiS s x r = (decide (0 ≤ r) && (decide (r < (s.rw.length : Int)) && decide (r < 400)))) := by show _ = _; rw [fiS, hf, Bool.true_and, decide_eq_false h1, Bool.false_or]
    clear h1
    by_cases h2 : 0 ≤ r
    · have g2 : decide (0 ≤ r) = true := decide_eq_true h2
      by_cases h3 : r < (s.rw.length : Int)
      · have g3 : decide (r < (s.rw.length : Int)) = true := decide_eq_true h3
        have HE : Hid (fiS s x r = decide (r < 400)) := by show _ = _; rw [HE0.out, g2, g3, Bool.true_and, Bool.true_and]
        clear hf
        go_enter Try.func38, Try.ntmps38
        go_wp2_with fail
        rw [← hW]
        clear hW
        refine (hif _).mono ?_
        rintro e u1 ⟨rfl, rfl⟩
        obtain ⟨c0, c1, _⟩ := X1.cells
        obtain ⟨d0, d1, _⟩ := X2.cells
        go_wp2
        go_ret
        exact ⟨rt_bool HE.out.symm, hbW⟩
      · have g3 : decide (r < (s.rw.length : Int)) = false := decide_eq_false h3
        have HE : Hid (fiS s x r = false) := by show _ = _; rw [HE0.out, g2, g3]; rfl
        clear hf
        go_enter Try.func38, Try.ntmps38
        go_wp2_with fail
        rw [← hW]
        clear hW
        refine (hif _).mono ?_
        rintro e u1 ⟨rfl, rfl⟩
        obtain ⟨c0, c1, _⟩ := X1.cells
        obtain ⟨d0, d1, _⟩ := X2.cells
        go_wp2
        go_ret
        exact ⟨rt_bool HE.out.symm, hbW⟩
    · have g2 : decide (0 ≤ r) = false := decide_eq_false h2
      have HE : Hid (fiS s x r = false) := by show _ = _; rw [HE0.out, g2]; rfl
      clear hf
      go_enter Try.func38, Try.ntmps38
      go_wp2_with fail
      rw [← hW]
      clear hW
      refine (hif _).mono ?_
      rintro e u1 ⟨rfl, rfl⟩
      obtain ⟨c0, c1, _⟩ := X1.cells
      obtain ⟨d0, d1, _⟩ := X2.cells
      go_wp2
      go_ret
      exact ⟨rt_bool HE.out.symm, hbW⟩

end Go.Proofs.Ytfpeioccnpinkaa

namespace Go.Proofs.Ytfpeioccnpinkaa
open Go.RowKit Classical
set_option linter.unusedSimpArgs false
set_option linter.unusedVariables false

set_option maxHeartbeats 400000 in
set_option maxRecDepth 100000 in
theorem scoord_any (z : Int) (w : World) : Calls Try.prog 130 #[.int .i64 z] w fun e w' => e = .returned (.bool (crd z)) ∧ w = w' := by
  by_cases h1 : -16384 ≤ z
  · go_enter Try.func130, Try.ntmps130
    go_wp2
    go_ret
    exact ⟨ret_bool (by simp [crd, h1]), rfl⟩
  · go_enter Try.func130, Try.ntmps130
    go_wp2
    go_ret
    exact ⟨ret_bool (by simp [crd]; omega), rfl⟩

theorem scoordB_any (z : Int) (w : World) : Calls Try.prog 130 #[.int .i64 z] w fun e w' => e = .returned (.bool (crd z)) ∧ Below w.heap.size w w' :=
  (scoord_any z w).mono fun e w' h => ⟨h.1, h.2 ▸ Below.refl _ _⟩

end Go.Proofs.Ytfpeioccnpinkaa
