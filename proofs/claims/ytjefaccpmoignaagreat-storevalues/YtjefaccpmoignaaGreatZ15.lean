/-
  foundrylaw10.little, foundrylaw10.awake, foundryref10.Few: the walks.
  foundryref10.Field: the walk.
  foundryref10.Fits: the walk.
  foundryref03.Coordinate: the walk.
  foundryref09.Formed: the walk.
-/
import Derived.Test.YtjefaccpmoignaaGreatZ14
import Derived.Deep.CutBlock
import Derived.Deep.CutRange
import Derived.Test.YtjefaccpmoignaaGreatZ9
import Derived.Test.YtjefaccpmoignaaGreatZ10
import Derived.Test.YtjefaccpmoignaaGreatZ8
namespace Go.Proofs.YtjefaccpmoignaaGreat
open Go.RowKit Go.Maps
set_option linter.unusedSimpArgs false
set_option linter.unusedVariables false

theorem alloc_old {w : World} {g : Nat} {x : Obj} (h : w.heap[g]? = some x) (o : Obj) : (w.alloc o).heap[g]? = some x := ((bl1 o).block g (Array.getElem?_eq_some_iff.1 h).1).trans h
theorem alloc_new {w : World} {n : Nat} (hn : w.heap.size = n) (o : Obj) : (w.alloc o).heap[n]? = some o := by rw [← hn]; exact heap_alloc_new w o
theorem Ri.one {w : World} {g : Nat} {z : Int} {t : TypeId} (h : w.heap[g]? = some (.cells #[.int .i64 z] t (0, 0))) (hz : I64 z) : Ri w (some ⟨g, 0, none⟩) 1 [z] := by
  refine ⟨fun y hy => by rw [List.mem_singleton.1 hy]; exact hz, Nat.le_refl _, by unfold maxLen; omega, .inr ⟨g, 0, rfl, (Array.getElem?_eq_some_iff.1 h).1, fun i hi => ?_⟩⟩
  obtain rfl : i = 0 := by simpa using hi
  exact cell_of_row w g 0 _ _ (0, 0) h
theorem Tz.one {w : World} {g : Nat} {t : Te} {ty : TypeId} (h : w.heap[g]? = some (.cells #[.int .i64 t.st, .int .i64 t.pk, .int .i64 t.en] ty (0, 0))) (ht : Tw t) : Tz w (some ⟨g, 0, none⟩) 1 [t] := by
  refine ⟨Nat.le_refl _, by unfold maxLen; omega, fun y hy => by rw [List.mem_singleton.1 hy]; exact ht, (fun e => by cases e), fun i hi => ?_⟩
  obtain rfl : i = 0 := by simpa using hi
  exact ⟨g, 0, rfl, (Array.getElem?_eq_some_iff.1 h).1, cell_of_row w g 0 _ _ (0, 0) h, cell_of_row w g 1 _ _ (0, 0) h, cell_of_row w g 2 _ _ (0, 0) h⟩
theorem Tzz.one {w : World} {g : Nat} {a : Option Addr} {c : Nat} {l : List Te} {ty : TypeId} (h : w.heap[g]? = some (.cells #[.slice a l.length c] ty (0, 0))) (hl : Tz w a c l) : Tzz w (some ⟨g, 0, none⟩) 1 [l] := by
  refine ⟨Nat.le_refl _, by unfold maxLen; omega, fun i hi => ?_⟩
  obtain rfl : i = 0 := by simpa using hi
  exact ⟨g, 0, a, c, rfl, (Array.getElem?_eq_some_iff.1 h).1, cell_of_row w g 0 _ _ (0, 0) h, hl⟩
theorem Rii.one {w : World} {g : Nat} {a : Option Addr} {c : Nat} {l : List Int} {ty : TypeId} (h : w.heap[g]? = some (.cells #[.slice a l.length c] ty (0, 0))) (hl : Ri w a c l) : Rii w (some ⟨g, 0, none⟩) 1 [l] := by
  refine ⟨Nat.le_refl _, by unfold maxLen; omega, fun i hi => ?_⟩
  obtain rfl : i = 0 := by simpa using hi
  exact ⟨g, 0, a, c, rfl, (Array.getElem?_eq_some_iff.1 h).1, cell_of_row w g 0 _ _ (0, 0) h, hl⟩

/-- The little store. -/
def litS (n : Int) : Sr := ⟨[[⟨0, 16384, 16384⟩]], [[n]]⟩
set_option maxHeartbeats 1000000 in
set_option maxRecDepth 100000 in
theorem little_any (n : Int) (w : World) (hn : I64 n) :
    Calls Tryz.prog 16 #[.int .i64 n] w fun e w' => ∃ a ca b cb, e = .returned (.agg #[.slice a 1 ca, .slice b 1 cb]) ∧ Tzz w' a ca (litS n).rg ∧ Rii w' b cb (litS n).rw ∧ Below w.heap.size w w' := by
  go_enter Tryz.func16, Tryz.ntmps16
  go_wp2
  obtain ⟨o0, ho0⟩ : ∃ o, o = Obj.cells #[.slice (some ⟨w.heap.size + 1 + 1, 0, none⟩) 1 1, .slice (some ⟨w.heap.size + 1 + 1 + 1 + 1, 0, none⟩) 1 1] 25 := ⟨_, rfl⟩
  obtain ⟨W, hW, h0, h1, h2, h3, h4, hbW⟩ : ∃ W, W = (((((w.alloc o0).alloc (.cells #[.int .i64 0, .int .i64 16384, .int .i64 16384] 67)).alloc (.cells #[.slice (some ⟨w.heap.size + 1, 0, none⟩) 1 1] 51)).alloc (.cells #[.int .i64 n] 3)).alloc (.cells #[.slice (some ⟨w.heap.size + 1 + 1 + 1, 0, none⟩) 1 1] 28)) ∧
      W.heap[w.heap.size]? = some o0 ∧ W.heap[w.heap.size + 1]? = some (.cells #[.int .i64 0, .int .i64 16384, .int .i64 16384] 67) ∧ W.heap[w.heap.size + 1 + 1]? = some (.cells #[.slice (some ⟨w.heap.size + 1, 0, none⟩) 1 1] 51) ∧
      W.heap[w.heap.size + 1 + 1 + 1]? = some (.cells #[.int .i64 n] 3) ∧ W.heap[w.heap.size + 1 + 1 + 1 + 1]? = some (.cells #[.slice (some ⟨w.heap.size + 1 + 1 + 1, 0, none⟩) 1 1] 28) ∧ Below w.heap.size w W := by
    refine ⟨_, rfl, ?_, ?_, ?_, ?_, ?_, ?_⟩
    · exact alloc_old (alloc_old (alloc_old (alloc_old (heap_alloc_new w _) _) _) _) _
    · exact alloc_old (alloc_old (alloc_old (alloc_new (by simp) _) _) _) _
    · exact alloc_old (alloc_old (alloc_new (by simp) _) _) _
    · exact alloc_old (alloc_new (by simp) _) _
    · exact alloc_new (by simp) _
    · exact ((((bl1 _).alloc (by simp) _).alloc (by simp; omega) _).alloc (by simp; omega) _).alloc (by simp; omega) _
  rw [ho0] at hW h0
  rw [← hW]
  clear hW
  have c0 := cell_of_row _ _ 0 _ _ (0, 0) h0
  have c1 := cell_of_row _ _ 1 _ _ (0, 0) h0
  refine bodyPost_ret (v := .agg #[.slice (some ⟨w.heap.size + 1 + 1, 0, none⟩) 1 1, .slice (some ⟨w.heap.size + 1 + 1 + 1 + 1, 0, none⟩) 1 1]) (by simp [results, Tryz.results16, go_sem, c0, c1]) rfl ⟨_, _, _, _, rfl, ?_, ?_, hbW⟩
  · exact Tzz.one (l := [⟨0, 16384, 16384⟩]) h2 (Tz.one (t := ⟨0, 16384, 16384⟩) h1 ⟨⟨by decide, by decide⟩, ⟨by decide, by decide⟩, ⟨by decide, by decide⟩⟩)
  · exact Rii.one (l := [n]) h4 (Ri.one h3 hn)

theorem aw_ro : roN (litS 10) 5 0 [4096] = 8 ∧ roE (litS 10) 5 0 [4096] = 0 := by decide +kernel
theorem aw_st : stB (litS 10) 1 = true := by decide +kernel
theorem aw_8 : ∀ l ∈ (litS 10).rg, l.length ≤ 8 := by
  intro l hl
  simp [litS] at hl
  subst hl
  decide
set_option maxHeartbeats 2000000 in
set_option maxRecDepth 100000 in
theorem awake10_any (w : World) :
    Calls Tryz.prog 4 #[] w fun e w' => e = .returned (.bool true) ∧ Below w.heap.size w w' := by
  have hro := fun a ca b cb pa pc U h1 h2 h3 => crounded_any a ca b cb (litS 10) 5 0 pa pc [4096] U h1 h2 h3 ⟨by decide, by decide⟩ ⟨by decide, by decide⟩ (by decide) aw_8
  have hst := fun a ca b cb U h1 h2 => cformS_any a ca b cb (litS 10) 1 U h1 h2
  simp only [aw_ro.1, aw_ro.2] at hro
  simp only [aw_st] at hst
  simp only [show (litS 10).rg.length = 1 from rfl, show (litS 10).rw.length = 1 from rfl] at hro hst
  simp only [List.length_singleton] at hro
  have hli := fun U => little_any 10 U ⟨by decide, by decide⟩
  generalize litS 10 = S at *
  go_enter Tryz.func4, Tryz.ntmps4
  go_wp2_with fail
  refine (hli _).mono ?_
  rintro e u1 ⟨a, ca, b, cb, rfl, hg, hm, hb1⟩
  obtain ⟨W, hW, hr, hb2⟩ : ∃ W, W = u1.alloc (.cells #[.int .i64 4096] 3) ∧ Ri W (some ⟨u1.heap.size, 0, none⟩) 1 [4096] ∧ Below u1.heap.size u1 W := ⟨_, rfl, Ri.one (heap_alloc_new u1 _) ⟨by decide, by decide⟩, bl1 _⟩
  have hbW := hb1.trans (hb2.mono hb1.size)
  replace hg := hg.below hb2
  replace hm := hm.below hb2
  clear hb1 hb2
  go_wp2_with fail
  rw [← hW]
  clear hW
  refine (hro a ca b cb _ _ _ hg hm hr).mono ?_
  rintro e u2 ⟨rfl, hb2⟩
  replace hbW := hbW.trans (hb2.mono hbW.size)
  clear hb2 hro hg hm hr
  go_wp2_with fail
  refine (hli _).mono ?_
  rintro e u3 ⟨a', ca', b', cb', rfl, hg, hm, hb3⟩
  replace hbW := hbW.trans (hb3.mono hbW.size)
  clear hb3
  go_wp2_with fail
  refine (hst a' ca' b' cb' _ hg hm).mono ?_
  rintro e u4 ⟨rfl, hb4⟩
  replace hbW := hbW.trans (hb4.mono hbW.size)
  clear hb4
  go_wp2
  go_ret
  exact ⟨rfl, hbW⟩

theorem i64_wrap64 (z : Int) : I64 (wrap64 z) := by
  unfold I64 wrap64
  omega
set_option maxHeartbeats 4000000 in
set_option maxRecDepth 100000 in
theorem few10_any (a : Option Addr) (ca : Nat) (b : Option Addr) (cb : Nat) (s : Sr) (w : World) (hg : Tzz w a ca s.rg) (hm : Rii w b cb s.rw) :
    Calls Tryz.prog 5 #[.agg #[.slice a s.rg.length ca, .slice b s.rw.length cb]] w fun e w' => ∃ q : Bool, e = .returned (.bool q) ∧ (q = true → s.rg.length ≤ 20 ∧ ∀ l ∈ s.rg, l.length ≤ 8) ∧ Below w.heap.size w w' := by
  have k1 := hg.lenB
  have k2 := hm.lenB
  have HG : Hid (Tzz w a ca s.rg) := hg
  have HM : Hid (Rii w b cb s.rw) := hm
  clear hg hm
  obtain ⟨W, hW, X1, hbW⟩ : ∃ W, W = w.alloc (.cells #[.slice a s.rg.length ca, .slice b s.rw.length cb] 25) ∧ BxS W w.heap.size (.slice a s.rg.length ca) (.slice b s.rw.length cb) ∧ Below w.heap.size w W := ⟨_, rfl, BxS.new _ _ _, bl1 _⟩
  go_enter Tryz.func5, Tryz.ntmps5
  go_upto_block 0 with fail
  rw [← hW]
  clear hW
  go_cut [3] from 4 to 26 (fun v wr => ∃ z : Int, v = .int .i64 z ∧ I64 z ∧ BxS wr w.heap.size (.slice a s.rg.length ca) (.slice b s.rw.length cb) ∧ Below w.heap.size w wr)
  case first =>
    go_wp2_with fail
    go_loopw [3, 4] (fun v i wr => ∃ (k : Nat) (z : Int), k ≤ s.rg.length ∧ v = .int .i64 z ∧ I64 z ∧ i = .int .i64 k ∧ BxS wr w.heap.size (.slice a s.rg.length ca) (.slice b s.rw.length cb) ∧ Below w.heap.size w wr) (fun _ i _ => s.rg.length - (intOf i).toNat)
    case atStart => exact ⟨0, 0, Nat.zero_le _, rfl, ⟨by decide, by decide⟩, rfl, X1, hbW⟩
    case round =>
      clear X1 hbW
      obtain ⟨k, z, hk, rfl, hz, rfl, X1, hbW⟩ := hrel
      obtain ⟨p0, p1, _⟩ := X1.cells
      by_cases hkn : k < s.rg.length
      · have g1 : decide ((k : Int) < (s.rg.length : Int)) = true := decide_eq_true (by omega)
        by_cases hz2 : z ≤ 2000
        · have g2 : decide (z ≤ 2000) = true := decide_eq_true hz2
          obtain ⟨b1, o1, a1, c1, ea, _, d0, hp⟩ := HG.out.at hbW k hkn
          have hpl := hp.lenB
          generalize (s.rg.getD k []).length = n1 at *
          subst ea
          clear hp hkn
          have i1 : (0 : Int) ≤ (k : Int) := by omega
          have i2 : (k : Int) < (s.rg.length : Int) := of_decide_eq_true g1
          have HZ : Hid (∀ y : Int, I64 (wrap64 y)) := i64_wrap64
          go_wp2_with fail
          go_roundw
          case rel => exact ⟨k + 1, _, by omega, rfl, HZ.out _, by go_num, X1, hbW⟩
          case measure => simp [intOf]; omega
        · have g2 : decide (z ≤ 2000) = false := decide_eq_false hz2
          have i2 : (k : Int) < (s.rg.length : Int) := by omega
          clear hkn
          go_wp2_with fail
          go_meet
          exact ⟨z, rfl, hz, X1, hbW⟩
      · have g1 : decide ((k : Int) < (s.rg.length : Int)) = false := decide_eq_false (by omega)
        have i2 : ¬ (k : Int) < (s.rg.length : Int) := by omega
        clear hkn
        go_wp2_with fail
        go_meet
        exact ⟨z, rfl, hz, X1, hbW⟩
  case rest =>
    clear X1 hbW
    obtain ⟨z0, rfl, hzz0, X1, hbW⟩ := hcut
    go_upto_block 2 with fail
    go_cut [3] from 4 to 46 (fun v wr => ∃ z : Int, v = .int .i64 z ∧ I64 z ∧ BxS wr w.heap.size (.slice a s.rg.length ca) (.slice b s.rw.length cb) ∧ Below w.heap.size w wr)
    case first =>
      go_wp2_with fail
      go_loopw [3, 5] (fun v i wr => ∃ (k : Nat) (z : Int), k ≤ s.rw.length ∧ v = .int .i64 z ∧ I64 z ∧ i = .int .i64 k ∧ BxS wr w.heap.size (.slice a s.rg.length ca) (.slice b s.rw.length cb) ∧ Below w.heap.size w wr) (fun _ i _ => s.rw.length - (intOf i).toNat)
      case atStart => exact ⟨0, z0, Nat.zero_le _, rfl, hzz0, rfl, X1, hbW⟩
      case round =>
        clear X1 hbW
        obtain ⟨k, z, hk, rfl, hz, rfl, X1, hbW⟩ := hrel
        obtain ⟨p0, p1, _⟩ := X1.cells
        by_cases hkn : k < s.rw.length
        · have g1 : decide ((k : Int) < (s.rw.length : Int)) = true := decide_eq_true (by omega)
          by_cases hz2 : z ≤ 2000
          · have g2 : decide (z ≤ 2000) = true := decide_eq_true hz2
            obtain ⟨b1, o1, a1, c1, ea, _, d0, hp⟩ := HM.out.at hbW k hkn
            have hpl := hp.lenB
            generalize (s.rw.getD k []).length = n1 at *
            subst ea
            clear hp hkn
            have i1 : (0 : Int) ≤ (k : Int) := by omega
            have i2 : (k : Int) < (s.rw.length : Int) := of_decide_eq_true g1
            have HZ : Hid (∀ y : Int, I64 (wrap64 y)) := i64_wrap64
            go_wp2_with fail
            go_roundw
            case rel => exact ⟨k + 1, _, by omega, rfl, HZ.out _, by go_num, X1, hbW⟩
            case measure => simp [intOf]; omega
          · have g2 : decide (z ≤ 2000) = false := decide_eq_false hz2
            have i2 : (k : Int) < (s.rw.length : Int) := by omega
            clear hkn
            go_wp2_with fail
            go_meet
            exact ⟨z, rfl, hz, X1, hbW⟩
        · have g1 : decide ((k : Int) < (s.rw.length : Int)) = false := decide_eq_false (by omega)
          have i2 : ¬ (k : Int) < (s.rw.length : Int) := by omega
          clear hkn
          go_wp2_with fail
          go_meet
          exact ⟨z, rfl, hz, X1, hbW⟩
    case rest =>
      clear X1 hbW hzz0
      obtain ⟨z1, rfl, hzz1, X1, hbW⟩ := hcut
      go_wp2_with fail
      go_loopw [6] (fun i wr => ∃ k : Nat, k ≤ s.rg.length ∧ i = .int .i64 k ∧ (∀ j, j < k → (s.rg.getD j []).length ≤ 8) ∧ BxS wr w.heap.size (.slice a s.rg.length ca) (.slice b s.rw.length cb) ∧ Below w.heap.size w wr) (fun i _ => s.rg.length - (intOf i).toNat)
      case atStart => exact ⟨0, Nat.zero_le _, rfl, (fun j hj => by omega), X1, hbW⟩
      case round =>
        clear X1 hbW
        obtain ⟨k, hk, rfl, hok, X1, hbW⟩ := hrel
        have HOK : Hid (∀ j, j < k → (s.rg.getD j []).length ≤ 8) := hok
        clear hok
        obtain ⟨p0, p1, _⟩ := X1.cells
        by_cases hkn : k < s.rg.length
        · obtain ⟨b1, o1, a1, c1, ea, _, d0, hp⟩ := HG.out.at hbW k hkn
          have hpl := hp.lenB
          obtain ⟨n1, hn1⟩ : ∃ n1, (s.rg.getD k []).length = n1 := ⟨_, rfl⟩
          have HN : Hid ((s.rg.getD k []).length = n1) := hn1
          rw [hn1] at d0 hpl
          subst ea
          clear hp hn1
          by_cases h8 : 8 < n1
          · have g3 : (8 : Int) < (n1 : Int) := by omega
            go_wp2
            go_ret
            exact ⟨false, rfl, (fun h => by cases h), hbW⟩
          · have g3 : ¬ (8 : Int) < (n1 : Int) := by omega
            have HOK2 : Hid (∀ j, j < k + 1 → (s.rg.getD j []).length ≤ 8) := fun j hj => by
              rcases Nat.lt_or_ge j k with h1 | h1
              · exact HOK.out j h1
              · rw [show j = k by omega, HN.out]; omega
            go_wp2
            go_roundw
            case rel => exact ⟨k + 1, by omega, by go_num, HOK2.out, X1, hbW⟩
            case measure => simp [intOf]; omega
        · obtain rfl : k = s.rg.length := by omega
          have HA : Hid (∀ l ∈ s.rg, l.length ≤ 8) := fun l hl => by
            obtain ⟨i, hi, e⟩ := List.getElem_of_mem hl
            have := HOK.out i hi
            rw [getL hi, e] at this
            exact this
          by_cases hz2 : z1 ≤ 2000
          · have g2 : decide (z1 ≤ 2000) = true := decide_eq_true hz2
            go_wp2
            go_ret
            exact ⟨_, rfl, (fun h => ⟨by have := of_decide_eq_true h; omega, HA.out⟩), hbW⟩
          · have g2 : decide (z1 ≤ 2000) = false := decide_eq_false hz2
            go_wp2
            exact bodyPost_ret (v := .bool false) (by simp [results, Tryz.results5, go_sem]) rfl (by first | exact ⟨false, rfl, (fun h => by cases h), hbW⟩ | exact .inl ⟨rfl, hbW⟩)

end Go.Proofs.YtjefaccpmoignaaGreat

namespace Go.Proofs.YtjefaccpmoignaaGreat
open Go.RowKit Go.Maps
set_option linter.unusedSimpArgs false
set_option linter.unusedVariables false

set_option maxHeartbeats 400000 in
set_option maxRecDepth 100000 in
theorem sField_any (z : Int) (w : World) :
    Calls Tryz.prog 22 #[.int .i64 z] w fun e w' => e = .returned (.bool (fdB z)) ∧ w = w' := by
  by_cases h1 : -32768 ≤ z
  · have g1 : decide (-32768 ≤ z) = true := decide_eq_true h1
    have HE : Hid (decide (z ≤ 32767) = fdB z) := by show _ = _; rw [fdB]; exact decide_eq_decide.2 ⟨fun h => ⟨h1, h⟩, fun h => h.2⟩
    go_enter Tryz.func22, Tryz.ntmps22
    go_wp2
    go_ret
    exact ⟨rt_bool HE.out, rfl⟩
  · have g1 : decide (-32768 ≤ z) = false := decide_eq_false h1
    have HE : Hid (false = fdB z) := by show _ = _; rw [fdB]; exact (decide_eq_false (fun h => h1 h.1)).symm
    go_enter Tryz.func22, Tryz.ntmps22
    go_wp2
    go_ret
    exact ⟨rt_bool HE.out, rfl⟩
theorem sFieldB_any (z : Int) (w : World) :
    Calls Tryz.prog 22 #[.int .i64 z] w fun e w' => e = .returned (.bool (fdB z)) ∧ Below w.heap.size w w' :=
  (sField_any z w).mono fun e w' h => ⟨h.1, h.2 ▸ Below.refl _ _⟩

end Go.Proofs.YtjefaccpmoignaaGreat

namespace Go.Proofs.YtjefaccpmoignaaGreat
open Go.RowKit Go.Maps
set_option linter.unusedSimpArgs false
set_option linter.unusedVariables false

set_option maxHeartbeats 4000000 in
set_option maxRecDepth 100000 in
theorem sfitsS_any (a : Option Addr) (ca : Nat) (b : Option Addr) (cb : Nat) (s : Sr) (x r : Int) (w : World) (hl : s.rw.length ≤ 9223372036854775807) (hx : I64 x) (hr : I64 r) :
    Calls Tryz.prog 9 #[.agg #[.slice a s.rg.length ca, .slice b s.rw.length cb], .agg #[.int .i64 x, .int .i64 r]] w fun e w' => e = .returned (.bool (fiS s x r)) ∧ Below w.heap.size w w' := by
  obtain ⟨W, hW, X1, X2, hbW⟩ : ∃ W, W = (w.alloc (.cells #[.slice a s.rg.length ca, .slice b s.rw.length cb] 25)).alloc (.cells #[.int .i64 x, .int .i64 r] 27) ∧ BxS W w.heap.size (.slice a s.rg.length ca) (.slice b s.rw.length cb) ∧ BxL W (w.heap.size + 1) (.int .i64 x) (.int .i64 r) ∧ Below w.heap.size w W := ⟨_, rfl, (BxS.new _ _ _).below (bl1 _), BxL.new1 _ _ _ _, bl2 _ _⟩
  have hif := fun U => sField_any x U
  cases hf : fdB x with
  | false =>
    have HE : Hid (fiS s x r = false) := by show _ = _; rw [fiS, hf, Bool.false_and]
    simp only [hf] at hif
    clear hf
    go_enter Tryz.func9, Tryz.ntmps9
    go_wp2_with fail
    rw [← hW]
    clear hW
    refine (hif _).mono ?_
    rintro e u1 ⟨rfl, rfl⟩
    obtain ⟨c0, c1, _⟩ := X1.cells
    obtain ⟨d0, d1, _⟩ := X2.cells
    go_wp2
    go_ret
    exact ⟨rt_bool HE.out.symm, hbW⟩
  | true =>
    simp only [hf] at hif
    by_cases h1 : r = -1
    · have HE : Hid (fiS s x r = true) := by show _ = _; rw [fiS, hf, Bool.true_and, decide_eq_true h1, Bool.true_or]
      have g1 : (r == -1) = true := by simp [h1]
      clear h1
      clear hf
      go_enter Tryz.func9, Tryz.ntmps9
      go_wp2_with fail
      rw [← hW]
      clear hW
      refine (hif _).mono ?_
      rintro e u1 ⟨rfl, rfl⟩
      obtain ⟨c0, c1, _⟩ := X1.cells
      obtain ⟨d0, d1, _⟩ := X2.cells
      go_wp2
      go_ret
      exact ⟨rt_bool HE.out.symm, hbW⟩
    have g1 : (r == -1) = false := by simp [h1]
    have HE0 : Hid (fiS s x r = (decide (0 ≤ r) && (decide (r < (s.rw.length : Int)) && decide (r < 400)))) := by show _ = _; rw [fiS, hf, Bool.true_and, decide_eq_false h1, Bool.false_or]
    clear h1
    by_cases h2 : 0 ≤ r
    · have g2 : decide (0 ≤ r) = true := decide_eq_true h2
      by_cases h3 : r < (s.rw.length : Int)
      · have g3 : decide (r < (s.rw.length : Int)) = true := decide_eq_true h3
        have HE : Hid (fiS s x r = decide (r < 400)) := by show _ = _; rw [HE0.out, g2, g3, Bool.true_and, Bool.true_and]
        clear hf
        go_enter Tryz.func9, Tryz.ntmps9
        go_wp2_with fail
        rw [← hW]
        clear hW
        refine (hif _).mono ?_
        rintro e u1 ⟨rfl, rfl⟩
        obtain ⟨c0, c1, _⟩ := X1.cells
        obtain ⟨d0, d1, _⟩ := X2.cells
        go_wp2
        go_ret
        exact ⟨rt_bool HE.out.symm, hbW⟩
      · have g3 : decide (r < (s.rw.length : Int)) = false := decide_eq_false h3
        have HE : Hid (fiS s x r = false) := by show _ = _; rw [HE0.out, g2, g3]; rfl
        clear hf
        go_enter Tryz.func9, Tryz.ntmps9
        go_wp2_with fail
        rw [← hW]
        clear hW
        refine (hif _).mono ?_
        rintro e u1 ⟨rfl, rfl⟩
        obtain ⟨c0, c1, _⟩ := X1.cells
        obtain ⟨d0, d1, _⟩ := X2.cells
        go_wp2
        go_ret
        exact ⟨rt_bool HE.out.symm, hbW⟩
    · have g2 : decide (0 ≤ r) = false := decide_eq_false h2
      have HE : Hid (fiS s x r = false) := by show _ = _; rw [HE0.out, g2]; rfl
      clear hf
      go_enter Tryz.func9, Tryz.ntmps9
      go_wp2_with fail
      rw [← hW]
      clear hW
      refine (hif _).mono ?_
      rintro e u1 ⟨rfl, rfl⟩
      obtain ⟨c0, c1, _⟩ := X1.cells
      obtain ⟨d0, d1, _⟩ := X2.cells
      go_wp2
      go_ret
      exact ⟨rt_bool HE.out.symm, hbW⟩

end Go.Proofs.YtjefaccpmoignaaGreat

namespace Go.Proofs.YtjefaccpmoignaaGreat
open Go.RowKit Classical
set_option linter.unusedSimpArgs false
set_option linter.unusedVariables false

set_option maxHeartbeats 400000 in
set_option maxRecDepth 100000 in
theorem scoord_any (z : Int) (w : World) : Calls Tryz.prog 68 #[.int .i64 z] w fun e w' => e = .returned (.bool (crd z)) ∧ w = w' := by
  by_cases h1 : -16384 ≤ z
  · go_enter Tryz.func68, Tryz.ntmps68
    go_wp2
    go_ret
    exact ⟨ret_bool (by simp [crd, h1]), rfl⟩
  · go_enter Tryz.func68, Tryz.ntmps68
    go_wp2
    go_ret
    exact ⟨ret_bool (by simp [crd]; omega), rfl⟩

theorem scoordB_any (z : Int) (w : World) : Calls Tryz.prog 68 #[.int .i64 z] w fun e w' => e = .returned (.bool (crd z)) ∧ Below w.heap.size w w' :=
  (scoord_any z w).mono fun e w' h => ⟨h.1, h.2 ▸ Below.refl _ _⟩

end Go.Proofs.YtjefaccpmoignaaGreat

namespace Go.Proofs.YtjefaccpmoignaaGreat
open Go.RowKit Go.Maps
set_option linter.unusedSimpArgs false
set_option linter.unusedVariables false

/-- Above 0, below 0, at 0. -/
theorem tfS_up {t : Te} (h1 : crd t.st = true) (h2 : crd t.pk = true) (h3 : crd t.en = true) (h : 0 < t.pk) : tfB t = (decide (0 ≤ t.st) && (decide (t.st < t.pk) && (decide (t.pk < t.en) || (t.pk == 16384 && t.en == 16384)))) := by
  rw [crdT] at h1 h2 h3
  rw [Bool.eq_iff_iff, tfB_iff]
  unfold TfT
  simp
  omega
theorem tfS_down {t : Te} (h1 : crd t.st = true) (h2 : crd t.pk = true) (h3 : crd t.en = true) (h : t.pk < 0) : tfB t = (decide (t.en ≤ 0) && (decide (t.pk < t.en) && (decide (t.st < t.pk) || (t.pk == -16384 && t.st == -16384)))) := by
  rw [crdT] at h1 h2 h3
  rw [Bool.eq_iff_iff, tfB_iff]
  unfold TfT
  simp
  omega
theorem tfS_mid {t : Te} (h1 : crd t.st = true) (h2 : crd t.pk = true) (h3 : crd t.en = true) (h : t.pk = 0) : tfB t = (t.st == 0 && t.en == 0) := by
  rw [crdT] at h1 h2 h3
  rw [Bool.eq_iff_iff, tfB_iff]
  unfold TfT
  simp
  omega

set_option maxHeartbeats 4000000 in
set_option maxRecDepth 100000 in
theorem sformT_any (t : Te) (w : World) :
    Calls Tryz.prog 67 #[.agg #[.int .i64 t.st, .int .i64 t.pk, .int .i64 t.en]] w fun e w' => e = .returned (.bool (tfB t)) ∧ Below w.heap.size w w' := by
  obtain ⟨W, hW, X1, hbW⟩ : ∃ W, W = w.alloc (.cells #[.int .i64 t.st, .int .i64 t.pk, .int .i64 t.en] 67) ∧ Box 67 W w.heap.size (.int .i64 t.st) (.int .i64 t.pk) (.int .i64 t.en) ∧ Below w.heap.size w W := ⟨_, rfl, Box.new _ _ _ _ _, al1 _⟩
  cases c1 : crd t.st with
  | false =>
    have HF : Hid (tfB t = false) := tfB_no (fun h => by rw [crdT.2 h.1] at c1; cases c1)
    obtain ⟨st, pk, en⟩ := t
    dsimp only at *
    obtain ⟨p0, p1, p2, _⟩ := X1.cells
    go_enter Tryz.func67, Tryz.ntmps67
    go_wp2_with fail
    rw [← hW]
    clear hW
    refine (scoord_any st _).mono ?_
    rintro e u1 ⟨rfl, rfl⟩
    rw [c1]
    go_wp2
    go_ret
    exact ⟨rt_bool HF.out.symm, hbW⟩
  | true =>
    cases c2 : crd t.pk with
    | false =>
      have HF : Hid (tfB t = false) := tfB_no (fun h => by rw [crdT.2 h.2.1] at c2; cases c2)
      obtain ⟨st, pk, en⟩ := t
      dsimp only at *
      obtain ⟨p0, p1, p2, _⟩ := X1.cells
      go_enter Tryz.func67, Tryz.ntmps67
      go_wp2_with fail
      rw [← hW]
      clear hW
      refine (scoord_any st _).mono ?_
      rintro e u1 ⟨rfl, rfl⟩
      rw [c1]
      go_wp2_with fail
      refine (scoord_any pk _).mono ?_
      rintro e u1 ⟨rfl, rfl⟩
      rw [c2]
      go_wp2
      go_ret
      exact ⟨rt_bool HF.out.symm, hbW⟩
    | true =>
      cases c3 : crd t.en with
      | false =>
        have HF : Hid (tfB t = false) := tfB_no (fun h => by rw [crdT.2 h.2.2.1] at c3; cases c3)
        obtain ⟨st, pk, en⟩ := t
        dsimp only at *
        obtain ⟨p0, p1, p2, _⟩ := X1.cells
        go_enter Tryz.func67, Tryz.ntmps67
        go_wp2_with fail
        rw [← hW]
        clear hW
        refine (scoord_any st _).mono ?_
        rintro e u1 ⟨rfl, rfl⟩
        rw [c1]
        go_wp2_with fail
        refine (scoord_any pk _).mono ?_
        rintro e u1 ⟨rfl, rfl⟩
        rw [c2]
        go_wp2_with fail
        refine (scoord_any en _).mono ?_
        rintro e u1 ⟨rfl, rfl⟩
        rw [c3]
        go_wp2
        go_ret
        exact ⟨rt_bool HF.out.symm, hbW⟩
      | true =>
        by_cases hu : 0 < t.pk
        · have HF : Hid (tfB t = _) := tfS_up c1 c2 c3 hu
          cases g1 : (decide (0 ≤ t.st) : Bool) with
          | false =>
            rw [g1] at HF
            obtain ⟨st, pk, en⟩ := t
            dsimp only at *
            obtain ⟨p0, p1, p2, _⟩ := X1.cells
            go_enter Tryz.func67, Tryz.ntmps67
            go_wp2_with fail
            rw [← hW]
            clear hW
            refine (scoord_any st _).mono ?_
            rintro e u1 ⟨rfl, rfl⟩
            rw [c1]
            go_wp2_with fail
            refine (scoord_any pk _).mono ?_
            rintro e u1 ⟨rfl, rfl⟩
            rw [c2]
            go_wp2_with fail
            refine (scoord_any en _).mono ?_
            rintro e u1 ⟨rfl, rfl⟩
            rw [c3]
            clear c1 c2 c3
            go_wp2
            go_ret
            exact ⟨rt_bool (by rw [HF.out]; simp), hbW⟩
          | true =>
            cases g2 : (decide (t.st < t.pk) : Bool) with
            | false =>
              rw [g1, g2] at HF
              obtain ⟨st, pk, en⟩ := t
              dsimp only at *
              obtain ⟨p0, p1, p2, _⟩ := X1.cells
              go_enter Tryz.func67, Tryz.ntmps67
              go_wp2_with fail
              rw [← hW]
              clear hW
              refine (scoord_any st _).mono ?_
              rintro e u1 ⟨rfl, rfl⟩
              rw [c1]
              go_wp2_with fail
              refine (scoord_any pk _).mono ?_
              rintro e u1 ⟨rfl, rfl⟩
              rw [c2]
              go_wp2_with fail
              refine (scoord_any en _).mono ?_
              rintro e u1 ⟨rfl, rfl⟩
              rw [c3]
              clear c1 c2 c3
              go_wp2
              go_ret
              exact ⟨rt_bool (by rw [HF.out]; simp), hbW⟩
            | true =>
              cases g3 : (decide (t.pk < t.en) : Bool) with
              | false =>
                cases g4 : (t.pk == 16384 : Bool) with
                | false =>
                  rw [g1, g2, g3, g4] at HF
                  obtain ⟨st, pk, en⟩ := t
                  dsimp only at *
                  obtain ⟨p0, p1, p2, _⟩ := X1.cells
                  go_enter Tryz.func67, Tryz.ntmps67
                  go_wp2_with fail
                  rw [← hW]
                  clear hW
                  refine (scoord_any st _).mono ?_
                  rintro e u1 ⟨rfl, rfl⟩
                  rw [c1]
                  go_wp2_with fail
                  refine (scoord_any pk _).mono ?_
                  rintro e u1 ⟨rfl, rfl⟩
                  rw [c2]
                  go_wp2_with fail
                  refine (scoord_any en _).mono ?_
                  rintro e u1 ⟨rfl, rfl⟩
                  rw [c3]
                  clear c1 c2 c3
                  go_wp2
                  go_ret
                  exact ⟨rt_bool (by rw [HF.out]; simp), hbW⟩
                | true =>
                  rw [g1, g2, g3, g4] at HF
                  obtain ⟨st, pk, en⟩ := t
                  dsimp only at *
                  obtain ⟨p0, p1, p2, _⟩ := X1.cells
                  go_enter Tryz.func67, Tryz.ntmps67
                  go_wp2_with fail
                  rw [← hW]
                  clear hW
                  refine (scoord_any st _).mono ?_
                  rintro e u1 ⟨rfl, rfl⟩
                  rw [c1]
                  go_wp2_with fail
                  refine (scoord_any pk _).mono ?_
                  rintro e u1 ⟨rfl, rfl⟩
                  rw [c2]
                  go_wp2_with fail
                  refine (scoord_any en _).mono ?_
                  rintro e u1 ⟨rfl, rfl⟩
                  rw [c3]
                  clear c1 c2 c3
                  go_wp2
                  go_ret
                  exact ⟨rt_bool (by rw [HF.out]; simp), hbW⟩
              | true =>
                rw [g1, g2, g3] at HF
                obtain ⟨st, pk, en⟩ := t
                dsimp only at *
                obtain ⟨p0, p1, p2, _⟩ := X1.cells
                go_enter Tryz.func67, Tryz.ntmps67
                go_wp2_with fail
                rw [← hW]
                clear hW
                refine (scoord_any st _).mono ?_
                rintro e u1 ⟨rfl, rfl⟩
                rw [c1]
                go_wp2_with fail
                refine (scoord_any pk _).mono ?_
                rintro e u1 ⟨rfl, rfl⟩
                rw [c2]
                go_wp2_with fail
                refine (scoord_any en _).mono ?_
                rintro e u1 ⟨rfl, rfl⟩
                rw [c3]
                clear c1 c2 c3
                go_wp2
                go_ret
                exact ⟨rt_bool (by rw [HF.out]; simp), hbW⟩
        · by_cases hd : t.pk < 0
          · have HF : Hid (tfB t = _) := tfS_down c1 c2 c3 hd
            cases g1 : (decide (t.en ≤ 0) : Bool) with
            | false =>
              rw [g1] at HF
              obtain ⟨st, pk, en⟩ := t
              dsimp only at *
              obtain ⟨p0, p1, p2, _⟩ := X1.cells
              go_enter Tryz.func67, Tryz.ntmps67
              go_wp2_with fail
              rw [← hW]
              clear hW
              refine (scoord_any st _).mono ?_
              rintro e u1 ⟨rfl, rfl⟩
              rw [c1]
              go_wp2_with fail
              refine (scoord_any pk _).mono ?_
              rintro e u1 ⟨rfl, rfl⟩
              rw [c2]
              go_wp2_with fail
              refine (scoord_any en _).mono ?_
              rintro e u1 ⟨rfl, rfl⟩
              rw [c3]
              clear c1 c2 c3
              go_wp2
              go_ret
              exact ⟨rt_bool (by rw [HF.out]; simp), hbW⟩
            | true =>
              cases g2 : (decide (t.pk < t.en) : Bool) with
              | false =>
                rw [g1, g2] at HF
                obtain ⟨st, pk, en⟩ := t
                dsimp only at *
                obtain ⟨p0, p1, p2, _⟩ := X1.cells
                go_enter Tryz.func67, Tryz.ntmps67
                go_wp2_with fail
                rw [← hW]
                clear hW
                refine (scoord_any st _).mono ?_
                rintro e u1 ⟨rfl, rfl⟩
                rw [c1]
                go_wp2_with fail
                refine (scoord_any pk _).mono ?_
                rintro e u1 ⟨rfl, rfl⟩
                rw [c2]
                go_wp2_with fail
                refine (scoord_any en _).mono ?_
                rintro e u1 ⟨rfl, rfl⟩
                rw [c3]
                clear c1 c2 c3
                go_wp2
                go_ret
                exact ⟨rt_bool (by rw [HF.out]; simp), hbW⟩
              | true =>
                cases g3 : (decide (t.st < t.pk) : Bool) with
                | false =>
                  cases g4 : (t.pk == -16384 : Bool) with
                  | false =>
                    rw [g1, g2, g3, g4] at HF
                    obtain ⟨st, pk, en⟩ := t
                    dsimp only at *
                    obtain ⟨p0, p1, p2, _⟩ := X1.cells
                    go_enter Tryz.func67, Tryz.ntmps67
                    go_wp2_with fail
                    rw [← hW]
                    clear hW
                    refine (scoord_any st _).mono ?_
                    rintro e u1 ⟨rfl, rfl⟩
                    rw [c1]
                    go_wp2_with fail
                    refine (scoord_any pk _).mono ?_
                    rintro e u1 ⟨rfl, rfl⟩
                    rw [c2]
                    go_wp2_with fail
                    refine (scoord_any en _).mono ?_
                    rintro e u1 ⟨rfl, rfl⟩
                    rw [c3]
                    clear c1 c2 c3
                    go_wp2
                    go_ret
                    exact ⟨rt_bool (by rw [HF.out]; simp), hbW⟩
                  | true =>
                    rw [g1, g2, g3, g4] at HF
                    obtain ⟨st, pk, en⟩ := t
                    dsimp only at *
                    obtain ⟨p0, p1, p2, _⟩ := X1.cells
                    go_enter Tryz.func67, Tryz.ntmps67
                    go_wp2_with fail
                    rw [← hW]
                    clear hW
                    refine (scoord_any st _).mono ?_
                    rintro e u1 ⟨rfl, rfl⟩
                    rw [c1]
                    go_wp2_with fail
                    refine (scoord_any pk _).mono ?_
                    rintro e u1 ⟨rfl, rfl⟩
                    rw [c2]
                    go_wp2_with fail
                    refine (scoord_any en _).mono ?_
                    rintro e u1 ⟨rfl, rfl⟩
                    rw [c3]
                    clear c1 c2 c3
                    go_wp2
                    go_ret
                    exact ⟨rt_bool (by rw [HF.out]; simp), hbW⟩
                | true =>
                  rw [g1, g2, g3] at HF
                  obtain ⟨st, pk, en⟩ := t
                  dsimp only at *
                  obtain ⟨p0, p1, p2, _⟩ := X1.cells
                  go_enter Tryz.func67, Tryz.ntmps67
                  go_wp2_with fail
                  rw [← hW]
                  clear hW
                  refine (scoord_any st _).mono ?_
                  rintro e u1 ⟨rfl, rfl⟩
                  rw [c1]
                  go_wp2_with fail
                  refine (scoord_any pk _).mono ?_
                  rintro e u1 ⟨rfl, rfl⟩
                  rw [c2]
                  go_wp2_with fail
                  refine (scoord_any en _).mono ?_
                  rintro e u1 ⟨rfl, rfl⟩
                  rw [c3]
                  clear c1 c2 c3
                  go_wp2
                  go_ret
                  exact ⟨rt_bool (by rw [HF.out]; simp), hbW⟩
          · have HF : Hid (tfB t = _) := tfS_mid c1 c2 c3 (by omega)
            cases g1 : (t.st == 0 : Bool) with
            | false =>
              rw [g1] at HF
              obtain ⟨st, pk, en⟩ := t
              dsimp only at *
              obtain ⟨p0, p1, p2, _⟩ := X1.cells
              go_enter Tryz.func67, Tryz.ntmps67
              go_wp2_with fail
              rw [← hW]
              clear hW
              refine (scoord_any st _).mono ?_
              rintro e u1 ⟨rfl, rfl⟩
              rw [c1]
              go_wp2_with fail
              refine (scoord_any pk _).mono ?_
              rintro e u1 ⟨rfl, rfl⟩
              rw [c2]
              go_wp2_with fail
              refine (scoord_any en _).mono ?_
              rintro e u1 ⟨rfl, rfl⟩
              rw [c3]
              clear c1 c2 c3
              go_wp2
              go_ret
              exact ⟨rt_bool (by rw [HF.out]; simp), hbW⟩
            | true =>
              rw [g1] at HF
              obtain ⟨st, pk, en⟩ := t
              dsimp only at *
              obtain ⟨p0, p1, p2, _⟩ := X1.cells
              go_enter Tryz.func67, Tryz.ntmps67
              go_wp2_with fail
              rw [← hW]
              clear hW
              refine (scoord_any st _).mono ?_
              rintro e u1 ⟨rfl, rfl⟩
              rw [c1]
              go_wp2_with fail
              refine (scoord_any pk _).mono ?_
              rintro e u1 ⟨rfl, rfl⟩
              rw [c2]
              go_wp2_with fail
              refine (scoord_any en _).mono ?_
              rintro e u1 ⟨rfl, rfl⟩
              rw [c3]
              clear c1 c2 c3
              go_wp2
              go_ret
              exact ⟨rt_bool (by rw [HF.out]; simp), hbW⟩

end Go.Proofs.YtjefaccpmoignaaGreat
