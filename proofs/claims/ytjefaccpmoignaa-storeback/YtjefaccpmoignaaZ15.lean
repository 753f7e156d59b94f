/-
  foundrylaw10.little, foundrylaw10.awake, foundryref10.Few: the walks.
  Pages: the document's states (St) and what is done with them, and how a page of the code lies in a world (Pc).
  octets: closed, fail, put, fits, four: the walks.
  octets: fits, four, Put8, Put16, Put32, PutBytes, Here: the walks.
  octets.Good, PutTag: the walks.
-/
import Derived.Test.YtjefaccpmoignaaZ14
import Derived.Deep.CutBlock
import Derived.Deep.CutRange
import Derived.Test.YtjefaccpmoignaaZ9
import Derived.Laws.IdiomStrings
namespace Go.Proofs.Ytjefaccpmoignaa
open Go.RowKit Go.Maps
set_option linter.unusedSimpArgs false
set_option linter.unusedVariables false

theorem alloc_old {w : World} {g : Nat} {x : Obj} (h : w.heap[g]? = some x) (o : Obj) : (w.alloc o).heap[g]? = some x := ((bl1 o).block g (Array.getElem?_eq_some_iff.1 h).1).trans h
theorem alloc_new {w : World} {n : Nat} (hn : w.heap.size = n) (o : Obj) : (w.alloc o).heap[n]? = some o := by rw [← hn]; exact heap_alloc_new w o
theorem Ri.one {w : World} {g : Nat} {z : Int} {t : TypeId} (h : w.heap[g]? = some (.cells #[.int .i64 z] t (0, 0))) (hz : I64 z) : Ri w (some ⟨g, 0, none⟩) 1 [z] := by
  refine ⟨fun y hy => by rw [List.mem_singleton.1 hy]; exact hz, Nat.le_refl _, by unfold maxLen; omega, .inr ⟨g, 0, rfl, (Array.getElem?_eq_some_iff.1 h).1, fun i hi => ?_⟩⟩
  obtain rfl : i = 0 := by simpa using hi
  exact cell_of_row w g 0 _ _ (0, 0) h
theorem Tz.one {w : World} {g : Nat} {t : Te} {ty : TypeId} (h : w.heap[g]? = some (.cells #[.int .i64 t.st, .int .i64 t.pk, .int .i64 t.en] ty (0, 0))) (ht : Tw t) : Tz w (some ⟨g, 0, none⟩) 1 [t] := by
  refine ⟨Nat.le_refl _, by unfold maxLen; omega, fun y hy => by rw [List.mem_singleton.1 hy]; exact ht, (fun e => by cases e), fun i hi => ?_⟩
  obtain rfl : i = 0 := by simpa using hi
  exact ⟨g, 0, rfl, (Array.getElem?_eq_some_iff.1 h).1, cell_of_row w g 0 _ _ (0, 0) h, cell_of_row w g 1 _ _ (0, 0) h, cell_of_row w g 2 _ _ (0, 0) h⟩
theorem Tzz.one {w : World} {g : Nat} {a : Option Addr} {c : Nat} {l : List Te} {ty : TypeId} (h : w.heap[g]? = some (.cells #[.slice a l.length c] ty (0, 0))) (hl : Tz w a c l) : Tzz w (some ⟨g, 0, none⟩) 1 [l] := by
  refine ⟨Nat.le_refl _, by unfold maxLen; omega, fun i hi => ?_⟩
  obtain rfl : i = 0 := by simpa using hi
  exact ⟨g, 0, a, c, rfl, (Array.getElem?_eq_some_iff.1 h).1, cell_of_row w g 0 _ _ (0, 0) h, hl⟩
theorem Rii.one {w : World} {g : Nat} {a : Option Addr} {c : Nat} {l : List Int} {ty : TypeId} (h : w.heap[g]? = some (.cells #[.slice a l.length c] ty (0, 0))) (hl : Ri w a c l) : Rii w (some ⟨g, 0, none⟩) 1 [l] := by
  refine ⟨Nat.le_refl _, by unfold maxLen; omega, fun i hi => ?_⟩
  obtain rfl : i = 0 := by simpa using hi
  exact ⟨g, 0, a, c, rfl, (Array.getElem?_eq_some_iff.1 h).1, cell_of_row w g 0 _ _ (0, 0) h, hl⟩

/-- The little store. -/
def litS (n : Int) : Sr := ⟨[[⟨0, 16384, 16384⟩]], [[n]]⟩
set_option maxHeartbeats 1000000 in
set_option maxRecDepth 100000 in
theorem little_any (n : Int) (w : World) (hn : I64 n) :
    Calls Try.prog 32 #[.int .i64 n] w fun e w' => ∃ a ca b cb, e = .returned (.agg #[.slice a 1 ca, .slice b 1 cb]) ∧ Tzz w' a ca (litS n).rg ∧ Rii w' b cb (litS n).rw ∧ Below w.heap.size w w' := by
  go_enter Try.func32, Try.ntmps32
  go_wp2
  obtain ⟨o0, ho0⟩ : ∃ o, o = Obj.cells #[.slice (some ⟨w.heap.size + 1 + 1, 0, none⟩) 1 1, .slice (some ⟨w.heap.size + 1 + 1 + 1 + 1, 0, none⟩) 1 1] 25 := ⟨_, rfl⟩
  obtain ⟨W, hW, h0, h1, h2, h3, h4, hbW⟩ : ∃ W, W = (((((w.alloc o0).alloc (.cells #[.int .i64 0, .int .i64 16384, .int .i64 16384] 73)).alloc (.cells #[.slice (some ⟨w.heap.size + 1, 0, none⟩) 1 1] 42)).alloc (.cells #[.int .i64 n] 3)).alloc (.cells #[.slice (some ⟨w.heap.size + 1 + 1 + 1, 0, none⟩) 1 1] 54)) ∧
      W.heap[w.heap.size]? = some o0 ∧ W.heap[w.heap.size + 1]? = some (.cells #[.int .i64 0, .int .i64 16384, .int .i64 16384] 73) ∧ W.heap[w.heap.size + 1 + 1]? = some (.cells #[.slice (some ⟨w.heap.size + 1, 0, none⟩) 1 1] 42) ∧
      W.heap[w.heap.size + 1 + 1 + 1]? = some (.cells #[.int .i64 n] 3) ∧ W.heap[w.heap.size + 1 + 1 + 1 + 1]? = some (.cells #[.slice (some ⟨w.heap.size + 1 + 1 + 1, 0, none⟩) 1 1] 54) ∧ Below w.heap.size w W := by
    refine ⟨_, rfl, ?_, ?_, ?_, ?_, ?_, ?_⟩
    · exact alloc_old (alloc_old (alloc_old (alloc_old (heap_alloc_new w _) _) _) _) _
    · exact alloc_old (alloc_old (alloc_old (alloc_new (by simp) _) _) _) _
    · exact alloc_old (alloc_old (alloc_new (by simp) _) _) _
    · exact alloc_old (alloc_new (by simp) _) _
    · exact alloc_new (by simp) _
    · exact ((((bl1 _).alloc (by simp) _).alloc (by simp; omega) _).alloc (by simp; omega) _).alloc (by simp; omega) _
  rw [ho0] at hW h0
  rw [← hW]
  clear hW
  have c0 := cell_of_row _ _ 0 _ _ (0, 0) h0
  have c1 := cell_of_row _ _ 1 _ _ (0, 0) h0
  refine bodyPost_ret (v := .agg #[.slice (some ⟨w.heap.size + 1 + 1, 0, none⟩) 1 1, .slice (some ⟨w.heap.size + 1 + 1 + 1 + 1, 0, none⟩) 1 1]) (by simp [results, Try.results32, go_sem, c0, c1]) rfl ⟨_, _, _, _, rfl, ?_, ?_, hbW⟩
  · exact Tzz.one (l := [⟨0, 16384, 16384⟩]) h2 (Tz.one (t := ⟨0, 16384, 16384⟩) h1 ⟨⟨by decide, by decide⟩, ⟨by decide, by decide⟩, ⟨by decide, by decide⟩⟩)
  · exact Rii.one (l := [n]) h4 (Ri.one h3 hn)

theorem aw_ro : roN (litS 10) 5 0 [4096] = 8 ∧ roE (litS 10) 5 0 [4096] = 0 := by decide +kernel
theorem aw_st : stB (litS 10) 1 = true := by decide +kernel
theorem aw_8 : ∀ l ∈ (litS 10).rg, l.length ≤ 8 := by
  intro l hl
  simp [litS] at hl
  subst hl
  decide
set_option maxHeartbeats 2000000 in
set_option maxRecDepth 100000 in
theorem awake10_any (w : World) :
    Calls Try.prog 8 #[] w fun e w' => e = .returned (.bool true) ∧ Below w.heap.size w w' := by
  have hro := fun a ca b cb pa pc U h1 h2 h3 => crounded_any a ca b cb (litS 10) 5 0 pa pc [4096] U h1 h2 h3 ⟨by decide, by decide⟩ ⟨by decide, by decide⟩ (by decide) aw_8
  have hst := fun a ca b cb U h1 h2 => cformS_any a ca b cb (litS 10) 1 U h1 h2
  simp only [aw_ro.1, aw_ro.2] at hro
  simp only [aw_st] at hst
  simp only [show (litS 10).rg.length = 1 from rfl, show (litS 10).rw.length = 1 from rfl] at hro hst
  simp only [List.length_singleton] at hro
  have hli := fun U => little_any 10 U ⟨by decide, by decide⟩
  generalize litS 10 = S at *
  go_enter Try.func8, Try.ntmps8
  go_wp2_with fail
  refine (hli _).mono ?_
  rintro e u1 ⟨a, ca, b, cb, rfl, hg, hm, hb1⟩
  obtain ⟨W, hW, hr, hb2⟩ : ∃ W, W = u1.alloc (.cells #[.int .i64 4096] 3) ∧ Ri W (some ⟨u1.heap.size, 0, none⟩) 1 [4096] ∧ Below u1.heap.size u1 W := ⟨_, rfl, Ri.one (heap_alloc_new u1 _) ⟨by decide, by decide⟩, bl1 _⟩
  have hbW := hb1.trans (hb2.mono hb1.size)
  replace hg := hg.below hb2
  replace hm := hm.below hb2
  clear hb1 hb2
  go_wp2_with fail
  rw [← hW]
  clear hW
  refine (hro a ca b cb _ _ _ hg hm hr).mono ?_
  rintro e u2 ⟨rfl, hb2⟩
  replace hbW := hbW.trans (hb2.mono hbW.size)
  clear hb2 hro hg hm hr
  go_wp2_with fail
  refine (hli _).mono ?_
  rintro e u3 ⟨a', ca', b', cb', rfl, hg, hm, hb3⟩
  replace hbW := hbW.trans (hb3.mono hbW.size)
  clear hb3
  go_wp2_with fail
  refine (hst a' ca' b' cb' _ hg hm).mono ?_
  rintro e u4 ⟨rfl, hb4⟩
  replace hbW := hbW.trans (hb4.mono hbW.size)
  clear hb4
  go_wp2
  go_ret
  exact ⟨rfl, hbW⟩

theorem i64_wrap64 (z : Int) : I64 (wrap64 z) := by
  unfold I64 wrap64
  omega
set_option maxHeartbeats 4000000 in
set_option maxRecDepth 100000 in
theorem few10_any (a : Option Addr) (ca : Nat) (b : Option Addr) (cb : Nat) (s : Sr) (w : World) (hg : Tzz w a ca s.rg) (hm : Rii w b cb s.rw) :
    Calls Try.prog 9 #[.agg #[.slice a s.rg.length ca, .slice b s.rw.length cb]] w fun e w' => ∃ q : Bool, e = .returned (.bool q) ∧ (q = true → s.rg.length ≤ 20 ∧ ∀ l ∈ s.rg, l.length ≤ 8) ∧ Below w.heap.size w w' := by
  have k1 := hg.lenB
  have k2 := hm.lenB
  have HG : Hid (Tzz w a ca s.rg) := hg
  have HM : Hid (Rii w b cb s.rw) := hm
  clear hg hm
  obtain ⟨W, hW, X1, hbW⟩ : ∃ W, W = w.alloc (.cells #[.slice a s.rg.length ca, .slice b s.rw.length cb] 25) ∧ BxS W w.heap.size (.slice a s.rg.length ca) (.slice b s.rw.length cb) ∧ Below w.heap.size w W := ⟨_, rfl, BxS.new _ _ _, bl1 _⟩
  go_enter Try.func9, Try.ntmps9
  go_upto_block 0 with fail
  rw [← hW]
  clear hW
  go_cut [3] from 4 to 26 (fun v wr => ∃ z : Int, v = .int .i64 z ∧ I64 z ∧ BxS wr w.heap.size (.slice a s.rg.length ca) (.slice b s.rw.length cb) ∧ Below w.heap.size w wr)
  case first =>
    go_wp2_with fail
    go_loopw [3, 4] (fun v i wr => ∃ (k : Nat) (z : Int), k ≤ s.rg.length ∧ v = .int .i64 z ∧ I64 z ∧ i = .int .i64 k ∧ BxS wr w.heap.size (.slice a s.rg.length ca) (.slice b s.rw.length cb) ∧ Below w.heap.size w wr) (fun _ i _ => s.rg.length - (intOf i).toNat)
    case atStart => exact ⟨0, 0, Nat.zero_le _, rfl, ⟨by decide, by decide⟩, rfl, X1, hbW⟩
    case round =>
      clear X1 hbW
      obtain ⟨k, z, hk, rfl, hz, rfl, X1, hbW⟩ := hrel
      obtain ⟨p0, p1, _⟩ := X1.cells
      by_cases hkn : k < s.rg.length
      · have g1 : decide ((k : Int) < (s.rg.length : Int)) = true := decide_eq_true (by omega)
        by_cases hz2 : z ≤ 2000
        · have g2 : decide (z ≤ 2000) = true := decide_eq_true hz2
          obtain ⟨b1, o1, a1, c1, ea, _, d0, hp⟩ := HG.out.at hbW k hkn
          have hpl := hp.lenB
          generalize (s.rg.getD k []).length = n1 at *
          subst ea
          clear hp hkn
          have i1 : (0 : Int) ≤ (k : Int) := by omega
          have i2 : (k : Int) < (s.rg.length : Int) := of_decide_eq_true g1
          have HZ : Hid (∀ y : Int, I64 (wrap64 y)) := i64_wrap64
          go_wp2_with fail
          go_roundw
          case rel => exact ⟨k + 1, _, by omega, rfl, HZ.out _, by go_num, X1, hbW⟩
          case measure => simp [intOf]; omega
        · have g2 : decide (z ≤ 2000) = false := decide_eq_false hz2
          have i2 : (k : Int) < (s.rg.length : Int) := by omega
          clear hkn
          go_wp2_with fail
          go_meet
          exact ⟨z, rfl, hz, X1, hbW⟩
      · have g1 : decide ((k : Int) < (s.rg.length : Int)) = false := decide_eq_false (by omega)
        have i2 : ¬ (k : Int) < (s.rg.length : Int) := by omega
        clear hkn
        go_wp2_with fail
        go_meet
        exact ⟨z, rfl, hz, X1, hbW⟩
  case rest =>
    clear X1 hbW
    obtain ⟨z0, rfl, hzz0, X1, hbW⟩ := hcut
    go_upto_block 2 with fail
    go_cut [3] from 4 to 46 (fun v wr => ∃ z : Int, v = .int .i64 z ∧ I64 z ∧ BxS wr w.heap.size (.slice a s.rg.length ca) (.slice b s.rw.length cb) ∧ Below w.heap.size w wr)
    case first =>
      go_wp2_with fail
      go_loopw [3, 5] (fun v i wr => ∃ (k : Nat) (z : Int), k ≤ s.rw.length ∧ v = .int .i64 z ∧ I64 z ∧ i = .int .i64 k ∧ BxS wr w.heap.size (.slice a s.rg.length ca) (.slice b s.rw.length cb) ∧ Below w.heap.size w wr) (fun _ i _ => s.rw.length - (intOf i).toNat)
      case atStart => exact ⟨0, z0, Nat.zero_le _, rfl, hzz0, rfl, X1, hbW⟩
      case round =>
        clear X1 hbW
        obtain ⟨k, z, hk, rfl, hz, rfl, X1, hbW⟩ := hrel
        obtain ⟨p0, p1, _⟩ := X1.cells
        by_cases hkn : k < s.rw.length
        · have g1 : decide ((k : Int) < (s.rw.length : Int)) = true := decide_eq_true (by omega)
          by_cases hz2 : z ≤ 2000
          · have g2 : decide (z ≤ 2000) = true := decide_eq_true hz2
            obtain ⟨b1, o1, a1, c1, ea, _, d0, hp⟩ := HM.out.at hbW k hkn
            have hpl := hp.lenB
            generalize (s.rw.getD k []).length = n1 at *
            subst ea
            clear hp hkn
            have i1 : (0 : Int) ≤ (k : Int) := by omega
            have i2 : (k : Int) < (s.rw.length : Int) := of_decide_eq_true g1
            have HZ : Hid (∀ y : Int, I64 (wrap64 y)) := i64_wrap64
            go_wp2_with fail
            go_roundw
            case rel => exact ⟨k + 1, _, by omega, rfl, HZ.out _, by go_num, X1, hbW⟩
            case measure => simp [intOf]; omega
          · have g2 : decide (z ≤ 2000) = false := decide_eq_false hz2
            have i2 : (k : Int) < (s.rw.length : Int) := by omega
            clear hkn
            go_wp2_with fail
            go_meet
            exact ⟨z, rfl, hz, X1, hbW⟩
        · have g1 : decide ((k : Int) < (s.rw.length : Int)) = false := decide_eq_false (by omega)
          have i2 : ¬ (k : Int) < (s.rw.length : Int) := by omega
          clear hkn
          go_wp2_with fail
          go_meet
          exact ⟨z, rfl, hz, X1, hbW⟩
    case rest =>
      clear X1 hbW hzz0
      obtain ⟨z1, rfl, hzz1, X1, hbW⟩ := hcut
      go_wp2_with fail
      go_loopw [6] (fun i wr => ∃ k : Nat, k ≤ s.rg.length ∧ i = .int .i64 k ∧ (∀ j, j < k → (s.rg.getD j []).length ≤ 8) ∧ BxS wr w.heap.size (.slice a s.rg.length ca) (.slice b s.rw.length cb) ∧ Below w.heap.size w wr) (fun i _ => s.rg.length - (intOf i).toNat)
      case atStart => exact ⟨0, Nat.zero_le _, rfl, (fun j hj => by omega), X1, hbW⟩
      case round =>
        clear X1 hbW
        obtain ⟨k, hk, rfl, hok, X1, hbW⟩ := hrel
        have HOK : Hid (∀ j, j < k → (s.rg.getD j []).length ≤ 8) := hok
        clear hok
        obtain ⟨p0, p1, _⟩ := X1.cells
        by_cases hkn : k < s.rg.length
        · obtain ⟨b1, o1, a1, c1, ea, _, d0, hp⟩ := HG.out.at hbW k hkn
          have hpl := hp.lenB
          obtain ⟨n1, hn1⟩ : ∃ n1, (s.rg.getD k []).length = n1 := ⟨_, rfl⟩
          have HN : Hid ((s.rg.getD k []).length = n1) := hn1
          rw [hn1] at d0 hpl
          subst ea
          clear hp hn1
          by_cases h8 : 8 < n1
          · have g3 : (8 : Int) < (n1 : Int) := by omega
            go_wp2
            go_ret
            exact ⟨false, rfl, (fun h => by cases h), hbW⟩
          · have g3 : ¬ (8 : Int) < (n1 : Int) := by omega
            have HOK2 : Hid (∀ j, j < k + 1 → (s.rg.getD j []).length ≤ 8) := fun j hj => by
              rcases Nat.lt_or_ge j k with h1 | h1
              · exact HOK.out j h1
              · rw [show j = k by omega, HN.out]; omega
            go_wp2
            go_roundw
            case rel => exact ⟨k + 1, by omega, by go_num, HOK2.out, X1, hbW⟩
            case measure => simp [intOf]; omega
        · obtain rfl : k = s.rg.length := by omega
          have HA : Hid (∀ l ∈ s.rg, l.length ≤ 8) := fun l hl => by
            obtain ⟨i, hi, e⟩ := List.getElem_of_mem hl
            have := HOK.out i hi
            rw [getL hi, e] at this
            exact this
          by_cases hz2 : z1 ≤ 2000
          · have g2 : decide (z1 ≤ 2000) = true := decide_eq_true hz2
            go_wp2
            go_ret
            exact ⟨_, rfl, (fun h => ⟨by have := of_decide_eq_true h; omega, HA.out⟩), hbW⟩
          · have g2 : decide (z1 ≤ 2000) = false := decide_eq_false hz2
            go_wp2
            exact bodyPost_ret (v := .bool false) (by simp [results, Try.results9, go_sem]) rfl (by first | exact ⟨false, rfl, (fun h => by cases h), hbW⟩ | exact .inl ⟨rfl, hbW⟩)

end Go.Proofs.Ytjefaccpmoignaa

namespace Go.Proofs.Ytjefaccpmoignaa
open Go.RowKit Go.Maps
set_option linter.unusedSimpArgs false
set_option linter.unusedVariables false

/-- A page: its bytes, the places that wait, whether it has failed. -/
structure St where
  bs : List Nat
  ws : List Int
  no : Bool

/-- A page of the document: bytes; no place waits twice, and each has its four bytes. -/
def Wf (s : St) : Prop := Byt s.bs ∧ s.ws.Nodup ∧ (∀ x ∈ s.ws, 0 ≤ x ∧ x + 4 ≤ (s.bs.length : Int)) ∧ 4 * s.ws.length ≤ s.bs.length

def St.zero : St := ⟨[], [], false⟩
def St.fail (s : St) : St := { s with no := true }
/-- Bytes are put, unless the page has failed. -/
def St.app (s : St) (xs : List Nat) : St := if s.no then s else { s with bs := s.bs ++ xs }

theorem Wf.zero : Wf St.zero := ⟨Byt.nil, List.nodup_nil, (fun x hx => by cases hx), Nat.le_refl _⟩
theorem Wf.fail {s : St} (h : Wf s) : Wf s.fail := h
theorem Wf.app {s : St} (h : Wf s) {xs : List Nat} (hx : Byt xs) : Wf (s.app xs) := by
  unfold St.app
  split
  · exact h
  · exact ⟨h.1.append hx, h.2.1, fun x hxs => by have := h.2.2.1 x hxs; simp; omega, by have := h.2.2.2; simp; omega⟩
theorem St.app_bad {s : St} (h : s.no = true) (xs : List Nat) : s.app xs = s := by simp [St.app, h]
theorem St.app_ok {s : St} (h : s.no = false) (xs : List Nat) : s.app xs = { s with bs := s.bs ++ xs } := by simp [St.app, h]
theorem St.app_no (s : St) (xs : List Nat) : (s.app xs).no = s.no := by unfold St.app; split <;> rfl
theorem St.app_len (s : St) (xs : List Nat) : (s.app xs).bs.length ≤ s.bs.length + xs.length := by unfold St.app; split <;> simp

/-- A row of bytes, none of whose blocks lies in G. -/
def Row (w : World) (G : Nat → Prop) (v : Value) (xs : List Nat) : Prop :=
  w.ownsRow 0 5 1 v xs.length (xs.map Y) ∧ ∀ g, v.ownBlock = some g → ¬ G g

/-- The map of the places that wait. -/
def Wts (w : World) (G : Nat → Prop) (v : Value) (ws : List Int) : Prop :=
  (v = .map none ∧ ws = []) ∨ ∃ m D, v = .map (some m) ∧ ¬ G m ∧ w.ownsMap Try.prog 3 (unitElem (H := Unit)) m ws.length D ∧
    (∀ x : Int, Maps.has D (.int .i64 x) = decide (x ∈ ws)) ∧ Maps.size D = ws.length

/-- The four cells of a page of the code. -/
def Bx4 (w : World) (B : Nat) (a b c d : Value) : Prop := w.heap[B]? = some (.cells #[a, b, c, d] 70 (0, 0))

/-- Block B holds a page of the code in the state s; no block of it lies in G. -/
def Pc (w : World) (B : Nat) (G : Nat → Prop) (s : St) : Prop :=
  (∀ k, G k → k < w.heap.size) ∧ ¬ G B ∧ Wf s ∧ ∃ vb vm, Bx4 w B vb (.int .i64 (s.bs.length : Int)) vm (.bool s.no) ∧ (s.no = true → vm = .map none) ∧ (s.no = false → Row w G vb s.bs ∧ Wts w G vm s.ws)

theorem Bx4.lt {w : World} {B : Nat} {a b c d : Value} (h : Bx4 w B a b c d) : B < w.heap.size := (Array.getElem?_eq_some_iff.1 h).1
theorem Bx4.cells {w : World} {B : Nat} {a b c d : Value} (h : Bx4 w B a b c d) :
    w.cell? ⟨B, 0, none⟩ = some a ∧ w.cell? ⟨B, 1, none⟩ = some b ∧ w.cell? ⟨B, 2, none⟩ = some c ∧ w.cell? ⟨B, 3, none⟩ = some d ∧
    w.frozen? ⟨B, 0, none⟩ = false ∧ w.frozen? ⟨B, 1, none⟩ = false ∧ w.frozen? ⟨B, 2, none⟩ = false ∧ w.frozen? ⟨B, 3, none⟩ = false :=
  ⟨cell_of_row w B 0 _ _ (0, 0) h, cell_of_row w B 1 _ _ (0, 0) h, cell_of_row w B 2 _ _ (0, 0) h, cell_of_row w B 3 _ _ (0, 0) h, frozen_of_row w B 0 _ _ h, frozen_of_row w B 1 _ _ h, frozen_of_row w B 2 _ _ h, frozen_of_row w B 3 _ _ h⟩
theorem Bx4.set0 {w : World} {B : Nat} {a b c d : Value} (h : Bx4 w B a b c d) (x : Value) : Bx4 (w.setCell ⟨B, 0, none⟩ x) B x b c d := heap_setCell_same w B 0 _ _ x h
theorem Bx4.set1 {w : World} {B : Nat} {a b c d : Value} (h : Bx4 w B a b c d) (x : Value) : Bx4 (w.setCell ⟨B, 1, none⟩ x) B a x c d := heap_setCell_same w B 1 _ _ x h
theorem Bx4.set2 {w : World} {B : Nat} {a b c d : Value} (h : Bx4 w B a b c d) (x : Value) : Bx4 (w.setCell ⟨B, 2, none⟩ x) B a b x d := heap_setCell_same w B 2 _ _ x h
theorem Bx4.set3 {w : World} {B : Nat} {a b c d : Value} (h : Bx4 w B a b c d) (x : Value) : Bx4 (w.setCell ⟨B, 3, none⟩ x) B a b c x := heap_setCell_same w B 3 _ _ x h
theorem Bx4.keep {G : Nat → Prop} {w w' : World} {B : Nat} {a b c d : Value} (h : Bx4 w B a b c d) (hk : Keep G w w') (hB : G B) : Bx4 w' B a b c d := (hk.block B hB).trans h
theorem Bx4.below {w w' : World} {B : Nat} {a b c d : Value} (h : Bx4 w B a b c d) (hb : Below w.heap.size w w') : Bx4 w' B a b c d := (hb.block B h.lt).trans h

/-- No byte that is read lies among a page's cells. -/
theorem Rb.off {w : World} {B : Nat} {x0 x1 x2 x3 : Value} (hB : Bx4 w B x0 x1 x2 x3) (h0 : ∀ z, x0 ≠ .int .u8 z) (h1 : ∀ z, x1 ≠ .int .u8 z) (h2 : ∀ z, x2 ≠ .int .u8 z) (h3 : ∀ z, x3 ≠ .int .u8 z)
    {w' : World} {a : Option Addr} {cap : Nat} {xs : List Nat} (h : Rb w a cap xs) (hs : w.heap.size ≤ w'.heap.size) (hw : ∀ k, k < w.heap.size → k ≠ B → w'.heap[k]? = w.heap[k]?) : Rb w' a cap xs := by
  obtain ⟨k1, k2, k3, k5, k4⟩ := h
  refine ⟨k1, k2, k3, k5, ?_⟩
  by_cases hx : xs = []
  · exact .inl hx
  rcases k4 with k4 | ⟨g, off, e, hg, hc⟩
  · exact .inl k4
  · refine .inr ⟨g, off, e, Nat.lt_of_lt_of_le hg hs, fun i hi => ?_⟩
    have hne : g ≠ B := by
      rintro rfl
      have hc0 := hc 0 (List.length_pos_iff.2 hx)
      have hb := cell_of_row w g (off + 0) _ _ (0, 0) hB
      rw [hc0] at hb
      match off, hb with
      | 0, hb => simp at hb; exact h0 _ hb.symm
      | 1, hb => simp at hb; exact h1 _ hb.symm
      | 2, hb => simp at hb; exact h2 _ hb.symm
      | 3, hb => simp at hb; exact h3 _ hb.symm
      | (k + 4), hb => simp at hb
    exact (World.cell?_of_block (w := w) (a := ⟨g, off + i, none⟩) (hw g hg hne)).trans (hc i hi)

/-- What is owned stays owned while the blocks outside G stay. -/
theorem Row.stay {w w' : World} {G : Nat → Prop} {v : Value} {xs : List Nat} (h : Row w G v xs) (hb : ∀ k, k < w.heap.size → ¬ G k → w'.heap[k]? = w.heap[k]?) : Row w' G v xs := by
  obtain ⟨⟨h1, h2⟩, hG⟩ := h
  refine ⟨⟨h1, ?_⟩, hG⟩
  rcases h2 with h2 | ⟨g, cap, cur, e, h3, h4, h5⟩
  · exact .inl h2
  · exact .inr ⟨g, cap, cur, e, h3, (hb g (Array.getElem?_eq_some_iff.1 h4).1 (hG g (by rw [e]; rfl))).trans h4, h5⟩
/-- The row's block holds bytes: it is no page. -/
theorem Row.ne {w : World} {G : Nat → Prop} {v : Value} {xs : List Nat} (h : Row w G v xs) {B : Nat} {cs : Array Value} {t : TypeId} {f : Nat × Nat} (hB : w.heap[B]? = some (.cells cs t f)) (ht : t ≠ 5) : v.ownBlock ≠ some B := by
  obtain ⟨⟨h1, h2⟩, hG⟩ := h
  rcases h2 with ⟨rfl, _⟩ | ⟨g, cap, cur, rfl, h3, h4, h5⟩
  · intro e; cases e
  · intro e
    simp only [Value.ownBlock, Option.some.injEq] at e
    subst e
    rw [h4] at hB
    simp at hB
    exact ht hB.2.1.symm
theorem Row.ne_map {w : World} {G : Nat → Prop} {v : Value} {xs : List Nat} (h : Row w G v xs) {m : Nat} {es : Array MapEntry} {c : Nat} (hB : w.heap[m]? = some (.map es c)) : v.ownBlock ≠ some m := by
  obtain ⟨⟨h1, h2⟩, hG⟩ := h
  rcases h2 with ⟨rfl, _⟩ | ⟨g, cap, cur, rfl, h3, h4, h5⟩
  · intro e; cases e
  · intro e
    simp only [Value.ownBlock, Option.some.injEq] at e
    subst e
    rw [h4] at hB
    simp at hB
/-- .. while all but the page's own cells stays. -/
theorem Row.off {w w' : World} {G : Nat → Prop} {v : Value} {xs : List Nat} (h : Row w G v xs) {B : Nat} {cs : Array Value} {t : TypeId} {f : Nat × Nat} (hB : w.heap[B]? = some (.cells cs t f)) (ht : t ≠ 5)
    (hb : ∀ k, k < w.heap.size → k ≠ B → w'.heap[k]? = w.heap[k]?) : Row w' G v xs := by
  have hne := h.ne hB ht
  obtain ⟨⟨h1, h2⟩, hG⟩ := h
  refine ⟨⟨h1, ?_⟩, hG⟩
  rcases h2 with h2 | ⟨g, cap, cur, e, h3, h4, h5⟩
  · exact .inl h2
  · exact .inr ⟨g, cap, cur, e, h3, (hb g (Array.getElem?_eq_some_iff.1 h4).1 (fun e' => hne (by rw [e, ← e']; rfl))).trans h4, h5⟩
theorem Row.slice {w : World} {G : Nat → Prop} {v : Value} {xs : List Nat} (h : Row w G v xs) : ∃ a c, v = .slice a xs.length c := by
  rcases h.1.2 with ⟨e, h0⟩ | ⟨g, cap, cur, e, _⟩
  · exact ⟨none, 0, by rw [e, h0]⟩
  · exact ⟨_, cap, e⟩
theorem Row.no8 {w : World} {G : Nat → Prop} {v : Value} {xs : List Nat} (h : Row w G v xs) (z : Int) : v ≠ .int .u8 z := by
  obtain ⟨a, c, rfl⟩ := h.slice
  intro e; cases e
theorem Wts.no8 {w : World} {G : Nat → Prop} {v : Value} {ws : List Int} (h : Wts w G v ws) (z : Int) : v ≠ .int .u8 z := by
  rcases h with ⟨rfl, _⟩ | ⟨m, D, rfl, _⟩ <;> (intro e; cases e)
/-- The map stays while a block of cells is written. -/
theorem Wts.off {w w' : World} {G : Nat → Prop} {v : Value} {ws : List Int} (h : Wts w G v ws) {B : Nat} (hB : ∀ es c, w.heap[B]? ≠ some (.map es c))
    (hb : ∀ k, k < w.heap.size → k ≠ B → w'.heap[k]? = w.heap[k]?) : Wts w' G v ws := by
  rcases h with h | ⟨m, D, e, hG, ho, h1, h2⟩
  · exact .inl h
  · have hlt := ho.lt
    obtain ⟨es, clock, hb0, F, hs, hD⟩ := ho
    exact .inr ⟨m, D, e, hG, ⟨es, clock, (hb m hlt (fun e' => hB es clock (e' ▸ hb0))).trans hb0, F, hs, hD⟩, h1, h2⟩
theorem Bx4.no_map {w : World} {B : Nat} {a b c d : Value} (h : Bx4 w B a b c d) (es : Array MapEntry) (k : Nat) : w.heap[B]? ≠ some (.map es k) := by
  rw [h]; intro e; simp at e
/-- The map stays while the page's row grows. -/
theorem Wts.grown {w w' : World} {G : Nat → Prop} {v : Value} {ws : List Int} (h : Wts w G v ws) {G' : Nat → Prop} {u : Value} {xs : List Nat} (hr : Row w G' u xs) (hg : w.grownBy w' u.ownBlock) : Wts w' G v ws := by
  rcases h with h | ⟨m, D, e, hG, ho, h1, h2⟩
  · exact .inl h
  · have hlt := ho.lt
    obtain ⟨es, clock, hb0, F, hs, hD⟩ := ho
    exact .inr ⟨m, D, e, hG, ⟨es, clock, (hg.block m hlt (Ne.symm (hr.ne_map hb0))).trans hb0, F, hs, hD⟩, h1, h2⟩
theorem Bx4.grown {w w' : World} {B : Nat} {a b c d : Value} (h : Bx4 w B a b c d) {G' : Nat → Prop} {u : Value} {xs : List Nat} (hr : Row w G' u xs) (hg : w.grownBy w' u.ownBlock) : Bx4 w' B a b c d :=
  (hg.block B h.lt (Ne.symm (hr.ne h (by decide)))).trans h
theorem Wts.stay {w w' : World} {G : Nat → Prop} {v : Value} {ws : List Int} (h : Wts w G v ws) (hb : ∀ k, k < w.heap.size → ¬ G k → w'.heap[k]? = w.heap[k]?) : Wts w' G v ws := by
  rcases h with h | ⟨m, D, e, hG, ho, h1, h2⟩
  · exact .inl h
  · have hlt := ho.lt
    obtain ⟨es, clock, hb0, F, hs, hD⟩ := ho
    exact .inr ⟨m, D, e, hG, ⟨es, clock, (hb m hlt hG).trans hb0, F, hs, hD⟩, h1, h2⟩
/-- A page stays while its own blocks stay. -/
theorem Pc.stay {w w' : World} {B : Nat} {G : Nat → Prop} {s : St} (h : Pc w B G s) (hs : w.heap.size ≤ w'.heap.size) (hb : ∀ k, k < w.heap.size → ¬ G k → w'.heap[k]? = w.heap[k]?) : Pc w' B G s := by
  obtain ⟨h1, h2, h3, vb, vm, h4, h6, h5⟩ := h
  exact ⟨fun k hk => Nat.lt_of_lt_of_le (h1 k hk) hs, h2, h3, vb, vm, (hb B h4.lt h2).trans h4, h6, fun hn => ⟨(h5 hn).1.stay hb, (h5 hn).2.stay hb⟩⟩
theorem Pc.below {w w' : World} {B : Nat} {G : Nat → Prop} {s : St} (h : Pc w B G s) (hb : Below w.heap.size w w') : Pc w' B G s := h.stay hb.size fun k hk _ => hb.block k hk
/-- New blocks may be counted to G; fewer blocks too. -/
theorem Pc.guard {w : World} {B : Nat} {G G' : Nat → Prop} {s : St} (h : Pc w B G s) (hG : ∀ k, G' k → k < w.heap.size ∧ G k) : Pc w B G' s := by
  obtain ⟨h1, h2, h3, vb, vm, h4, h6, h5⟩ := h
  refine ⟨fun k hk => (hG k hk).1, fun hB => h2 (hG _ hB).2, h3, vb, vm, h4, h6, fun hn => ⟨⟨(h5 hn).1.1, fun g hg hg' => (h5 hn).1.2 g hg (hG _ hg').2⟩, ?_⟩⟩
  rcases (h5 hn).2 with h | ⟨m, D, e, hG2, r⟩
  · exact .inl h
  · exact .inr ⟨m, D, e, fun hm => hG2 (hG _ hm).2, r⟩
/-- Blocks that are made behind a page may be counted to G. -/
theorem Pc.guard_new {w w' : World} {B : Nat} {G G' : Nat → Prop} {s : St} (h : Pc w B G s) (hs : w.heap.size ≤ w'.heap.size) (hb : ∀ k, k < w.heap.size → ¬ G k → w'.heap[k]? = w.heap[k]?) (hG : ∀ k, G' k → k < w'.heap.size ∧ (k < w.heap.size → G k)) : Pc w' B G' s := by
  have h' := h.stay hs hb
  obtain ⟨h1, h2, h3, vb, vm, h4, h6, h5⟩ := h
  refine ⟨fun k hk => (hG k hk).1, fun hB => h2 ((hG _ hB).2 h4.lt), h3, vb, vm, (hb B h4.lt h2).trans h4, h6, fun hn => ⟨⟨((h5 hn).1.stay hb).1, fun g hg hg' => (h5 hn).1.2 g hg ((hG _ hg').2 ((h5 hn).1.1.lt g hg).2)⟩, ?_⟩⟩
  rcases (h5 hn).2 with h | ⟨m, D, e, hG2, ho, r⟩
  · exact .inl h
  · have hlt := ho.lt
    rcases ((h5 hn).2).stay hb with h | ⟨m', D', e', hG2', r'⟩
    · exact .inl h
    · rw [e] at e'
      simp at e'
      subst e'
      exact .inr ⟨m, D', e, fun hm => hG2 ((hG _ hm).2 hlt), r'⟩

end Go.Proofs.Ytjefaccpmoignaa

namespace Go.Proofs.Ytjefaccpmoignaa
open Go.RowKit Go.Maps
set_option linter.unusedSimpArgs false
set_option linter.unusedVariables false

theorem info_byte : (Try.prog.info? 5).map (fun i => (i.zero, i.size, i.bytes)) = some (some (.int .u8 0), 1, 1) := by kernel_rfl

/-- A page's pointer. -/
abbrev pg (B : Nat) : Value := .pointer (some ⟨B, 0, none⟩)

set_option maxHeartbeats 400000 in
set_option maxRecDepth 100000 in
theorem closed_any (B : Nat) (G : Nat → Prop) (s : St) (w : World) (h : Pc w B G s) (hl : s.bs.length ≤ 1048576) :
    Calls Try.prog 80 #[pg B] w fun e w' => e = .returned (.bool s.no) ∧ w = w' := by
  obtain ⟨h1, h2, h3, vb, vm, h4, h6, h5⟩ := h
  obtain ⟨c0, c1, c2, c3, f0, f1, f2, f3⟩ := h4.cells
  generalize s.no = n at *
  generalize s.bs.length = l at *
  clear h5 h6 h4 h3 h2 h1
  cases n
  · go_enter Try.func80, Try.ntmps80
    go_wp2
    go_ret
    exact ⟨rt_bool (by simp; try omega), rfl⟩
  · go_enter Try.func80, Try.ntmps80
    go_wp2
    go_ret
    exact ⟨rt_bool (by simp; try omega), rfl⟩

theorem closed_nil (w : World) :
    Calls Try.prog 80 #[.pointer none] w fun e w' => e = .returned (.bool true) ∧ w = w' := by
  go_enter Try.func80, Try.ntmps80
  go_wp2
  go_ret
  exact ⟨rfl, rfl⟩

theorem fail_nil (w : World) :
    Calls Try.prog 60 #[.pointer none] w fun e w' => e = .returned (.tuple #[]) ∧ w = w' := by
  go_enter Try.func60, Try.ntmps60
  go_wp2
  (try simp only [Exit.inBlock, Exit.then]); refine bodyPost_ret (results_none rfl _ _ _) rfl ?_
  exact ⟨rfl, rfl⟩

set_option maxHeartbeats 400000 in
set_option maxRecDepth 100000 in
theorem fail_any (B : Nat) (G : Nat → Prop) (s : St) (w : World) (h : Pc w B G s) :
    Calls Try.prog 60 #[pg B] w fun e w' => e = .returned (.tuple #[]) ∧ Pc w' B G s.fail ∧ Keep G w w' := by
  obtain ⟨h1, h2, h3, vb, vm, h4, h6, h5⟩ := h
  obtain ⟨c0, c1, c2, c3, f0, f1, f2, f3⟩ := h4.cells
  go_enter Try.func60, Try.ntmps60
  go_wp2
  go_end0
  refine ⟨rfl, ⟨fun k hk => by simpa [World.setCell] using h1 k hk, h2, h3.fail, _, _, ((h4.set3 _).set0 _).set2 _, fun _ => rfl, fun hn => by cases hn⟩, ?_⟩
  exact (((Keep.refl G w).setCell (p := ⟨B, 3, none⟩) h2 _).setCell (p := ⟨B, 0, none⟩) h2 _).setCell (p := ⟨B, 2, none⟩) h2 _

theorem put_nil (v : Value) (w : World) :
    Calls Try.prog 61 #[.pointer none, v] w fun e w' => e = .returned (.tuple #[]) ∧ w = w' := by
  go_enter Try.func61, Try.ntmps61
  go_wp2_with fail
  refine (closed_nil _).mono ?_
  rintro e u ⟨rfl, rfl⟩
  go_wp2
  (try simp only [Exit.inBlock, Exit.then]); refine bodyPost_ret (results_none rfl _ _ _) rfl ?_
  exact ⟨rfl, rfl⟩

set_option maxHeartbeats 1000000 in
set_option maxRecDepth 100000 in
theorem put_any (B : Nat) (G : Nat → Prop) (s : St) (a : Option Addr) (cap : Nat) (xs : List Nat) (w : World) (h : Pc w B G s) (hr : Rb w a cap xs) (hl : s.bs.length + xs.length ≤ 1048576) :
    Calls Try.prog 61 #[pg B, .slice a xs.length cap] w fun e w' => e = .returned (.tuple #[]) ∧ Pc w' B G (s.app xs) ∧ Keep G w w' := by
  obtain ⟨i0, hi, hz0, hz1, hz2⟩ := info_parts info_byte
  have hP := h
  obtain ⟨h1, h2, h3, vb, vm, h4, h6, h5⟩ := h
  go_enter Try.func61, Try.ntmps61
  go_wp2_with fail
  refine (closed_any B G s _ hP (by omega)).mono ?_
  rintro e u ⟨rfl, rfl⟩
  by_cases hno : s.no = true
  · rw [hno]
    go_wp2
    (try simp only [Exit.inBlock, Exit.then]); refine bodyPost_ret (results_none rfl _ _ _) rfl ?_
    exact ⟨rfl, by rw [St.app_bad hno]; exact hP, Keep.refl _ _⟩
  · have hno : s.no = false := by simpa using hno
    rw [hno]
    obtain ⟨hR, hM⟩ := h5 hno
    obtain ⟨c0, c1, c2, c3, f0, f1, f2, f3⟩ := h4.cells
    obtain ⟨l, hll⟩ : ∃ l, s.bs.length = l := ⟨_, rfl⟩
    rw [hll] at c1 h4
    have HL : Hid (s.bs.length = l) := hll
    have hl' : l + xs.length ≤ 1048576 := by omega
    clear hll hl
    have hoff : ∀ (u : World) (v : Value) (o : Nat), ∀ k, k < u.heap.size → k ≠ B → (u.setCell ⟨B, o, none⟩ v).heap[k]? = u.heap[k]? := fun u v o k _ hk => Below.heap_setCell _ ⟨B, o, none⟩ v k hk
    have h41 := h4.set1 (.int .i64 ((l : Int) + xs.length))
    have hR1 := hR.off h4 (by decide) (hoff w (.int .i64 ((l : Int) + xs.length)) 1)
    have hM1 := hM.off h4.no_map (hoff w (.int .i64 ((l : Int) + xs.length)) 1)
    have hr1 := Rb.off h4 hR.no8 (by simp) hM.no8 (by simp) hr (by simp [World.setCell]) (hoff w (.int .i64 ((l : Int) + xs.length)) 1)
    have hK1 : Keep G w (w.setCell ⟨B, 1, none⟩ (.int .i64 ((l : Int) + xs.length))) := (Keep.refl G w).setCell (p := ⟨B, 1, none⟩) h2 _
    have hsz : (w.setCell ⟨B, 1, none⟩ (.int .i64 ((l : Int) + xs.length))).heap.size = w.heap.size := by simp [World.setCell]
    clear h4 hP hr hM h5 h6
    go_wp2_with (at_builtin; refine wpList_append_rb rfl _ _ 26 rfl 0 5 i0 Try.underlying26 hi hz0 hz1 hz2 _ s.bs.length s.bs rfl hR1.1 a cap _ xs rfl rfl hr1 (by rw [HL.out]; omega) (Nat.zero_le _) ?_)
    intro v' w1 hown hgrow hat
    obtain ⟨ts, hts⟩ : ∃ ts, s.bs ++ xs = ts := ⟨_, rfl⟩
    have htl : s.bs.length + xs.length = ts.length := by rw [← hts, List.length_append]
    rw [← List.map_append, hts, htl] at hown
    have HT : Hid (s.bs ++ xs = ts) := hts
    have HT2 : Hid (s.bs.length + xs.length = ts.length) := htl
    have hBt : Byt ts := hts ▸ h3.1.append hr1.lim
    clear hts htl
    have h42 := h41.grown hR1 hgrow
    obtain ⟨a2, cap2, rfl, _⟩ := Rw.of hBt hown
    obtain ⟨d0, d1, d2, d3, g0, g1, g2, g3⟩ := h42.cells
    go_wp2
    go_end0
    have hM2 := hM1.grown hR1 hgrow
    have hnG : ∀ g, (Value.slice a2 ts.length cap2).ownBlock = some g → ¬ G g := by
      intro g hg hGg
      rcases hat with hat | hat
      · exact hR.2 g (by rw [← hat]; exact hg) hGg
      · rw [hat] at hg
        have := h1 g hGg
        simp at hg
        omega
    have hR2 : Row w1 G (.slice a2 ts.length cap2) ts := ⟨hown, hnG⟩
    have hR3 := hR2.off h42 (by decide) (hoff w1 (.slice a2 ts.length cap2) 0)
    have hK2 := (hK1.grown hgrow (fun k hk => by rw [hsz]; exact h1 k hk) (fun k hk => hR.2 k hk)).setCell (p := ⟨B, 0, none⟩) h2 (.slice a2 ts.length cap2)
    refine ⟨rfl, ⟨fun k hk => ?_, h2, h3.app hr1.lim, .slice a2 ts.length cap2, vm, ?_, fun hn => absurd hn (by rw [St.app_no, hno]; decide), fun _ => ?_⟩, hK2⟩
    · exact Nat.lt_of_lt_of_le (h1 k hk) hK2.size
    · have h43 := h42.set0 (.slice a2 ts.length cap2)
      rw [St.app_ok hno]
      simp only [HT.out, ← HT2.out, HL.out]
      simpa [← HT2.out, HL.out] using h43
    · rw [St.app_ok hno, HT.out]
      exact ⟨hR3, hM2.off h42.no_map (hoff w1 (.slice a2 ts.length cap2) 0)⟩

end Go.Proofs.Ytjefaccpmoignaa

namespace Go.Proofs.Ytjefaccpmoignaa
open Go.RowKit Go.Maps
set_option linter.unusedSimpArgs false
set_option linter.unusedVariables false

def be1 (n : Int) : List Nat := [(n % 256).toNat]
def be2 (n : Int) : List Nat := [(n / 256 % 256).toNat, (n % 256).toNat]
def be4 (n : Int) : List Nat := [(n / 16777216 % 256).toNat, (n / 65536 % 256).toNat, (n / 256 % 256).toNat, (n % 256).toNat]
theorem byt_be1 (n : Int) : Byt (be1 n) := by intro x hx; simp [be1] at hx; omega
theorem byt_be2 (n : Int) : Byt (be2 n) := by intro x hx; simp [be2] at hx; omega
theorem byt_be4 (n : Int) : Byt (be4 n) := by intro x hx; simp [be4] at hx; omega

def St.put8 (s : St) (n : Int) : St := if -128 ≤ n ∧ n ≤ 255 then s.app (be1 n) else s.fail
def St.put16 (s : St) (n : Int) : St := if -32768 ≤ n ∧ n ≤ 65535 then s.app (be2 n) else s.fail
def St.put32 (s : St) (n : Int) : St := if -2147483648 ≤ n ∧ n ≤ 4294967295 then s.app (be4 n) else s.fail

set_option maxHeartbeats 400000 in
set_option maxRecDepth 100000 in
theorem fits8_any (n : Int) (w : World) (hn : I64 n) :
    Calls Try.prog 59 #[.int .i64 n, .int .i64 8] w fun e w' => e = .returned (.bool (decide (-128 ≤ n ∧ n ≤ 255))) ∧ w = w' := by
  obtain ⟨n1, n2⟩ := hn
  by_cases h : -128 ≤ n
  · go_enter Try.func59, Try.ntmps59
    go_wp2
    go_ret
    refine ⟨rt_bool ?_, rfl⟩
    by_cases h2 : n ≤ 255
    · simp [h, h2]; try omega
    · simp [h, h2]; try omega
  · go_enter Try.func59, Try.ntmps59
    go_wp2
    go_ret
    exact ⟨rt_bool (by simp [h]; try omega), rfl⟩

set_option maxHeartbeats 400000 in
set_option maxRecDepth 100000 in
theorem fits16_any (n : Int) (w : World) (hn : I64 n) :
    Calls Try.prog 59 #[.int .i64 n, .int .i64 16] w fun e w' => e = .returned (.bool (decide (-32768 ≤ n ∧ n ≤ 65535))) ∧ w = w' := by
  obtain ⟨n1, n2⟩ := hn
  by_cases h : -32768 ≤ n
  · go_enter Try.func59, Try.ntmps59
    go_wp2
    go_ret
    refine ⟨rt_bool ?_, rfl⟩
    by_cases h2 : n ≤ 65535
    · simp [h, h2]; try omega
    · simp [h, h2]; try omega
  · go_enter Try.func59, Try.ntmps59
    go_wp2
    go_ret
    exact ⟨rt_bool (by simp [h]; try omega), rfl⟩

set_option maxHeartbeats 400000 in
set_option maxRecDepth 100000 in
theorem fits32_any (n : Int) (w : World) (hn : I64 n) :
    Calls Try.prog 59 #[.int .i64 n, .int .i64 32] w fun e w' => e = .returned (.bool (decide (-2147483648 ≤ n ∧ n ≤ 4294967295))) ∧ w = w' := by
  obtain ⟨n1, n2⟩ := hn
  by_cases h : -2147483648 ≤ n
  · go_enter Try.func59, Try.ntmps59
    go_wp2
    go_ret
    refine ⟨rt_bool ?_, rfl⟩
    by_cases h2 : n ≤ 4294967295
    · simp [h, h2]; try omega
    · simp [h, h2]; try omega
  · go_enter Try.func59, Try.ntmps59
    go_wp2
    go_ret
    exact ⟨rt_bool (by simp [h]; try omega), rfl⟩

theorem Pc.al {w : World} {B : Nat} {G : Nat → Prop} {s : St} (h : Pc w B G s) (o : Obj) : Pc (w.alloc o) B G s := h.below (bl1 o)
theorem Pc.kal {w : World} {B : Nat} {G : Nat → Prop} {s : St} (h : Pc w B G s) (o : Obj) : Keep G w (w.alloc o) := Keep.of_below (bl1 o) h.1
theorem Pc.wf {w : World} {B : Nat} {G : Nat → Prop} {s : St} (h : Pc w B G s) : Wf s := h.2.2.1
theorem St.fail_bad {s : St} (h : s.no = true) : s.fail = s := by
  obtain ⟨b, c, d⟩ := s
  simp at h
  simp [St.fail, h]

set_option maxHeartbeats 400000 in
set_option maxRecDepth 100000 in
theorem put16_any (B : Nat) (G : Nat → Prop) (s : St) (n : Int) (w : World) (h : Pc w B G s) (hn : I64 n) (hl : s.bs.length + 4 ≤ 1048576) :
    Calls Try.prog 33 #[pg B, .int .i64 n] w fun e w' => e = .returned (.tuple #[]) ∧ Pc w' B G (s.put16 n) ∧ Keep G w w' := by
  have hn' := hn
  obtain ⟨n1, n2⟩ := hn'
  go_enter Try.func33, Try.ntmps33
  go_wp2_with fail
  refine (fits16_any n _ hn).mono ?_
  rintro e u ⟨rfl, rfl⟩
  by_cases hf : -32768 ≤ n ∧ n ≤ 65535
  · rw [decide_eq_true hf]
    have hs : Hid (s.put16 n = s.app (be2 n)) := if_pos hf
    go_wp2_with fail
    refine (put_any B G s (some ⟨w.heap.size, 0, none⟩) 2 (be2 n) _ (h.al _) (rb_new w 5 (be2 n) #[Value.int IntKind.u8 (n / 256 % 256), Value.int IntKind.u8 (n % 256)] (by simp [be2, Y]; omega) (byt_be2 n) (by simp [be2, maxLen])) (by simp [be2]; omega)).mono ?_
    rintro e u ⟨rfl, hP, hK⟩
    go_wp2
    go_end0
    exact ⟨rfl, hs.out ▸ hP, (h.kal _).trans hK⟩
  · rw [decide_eq_false hf]
    have hs : Hid (s.put16 n = s.fail) := if_neg hf
    go_wp2_with fail
    refine (fail_any B G s _ h).mono ?_
    rintro e u ⟨rfl, hP, hK⟩
    go_wp2
    (try simp only [Exit.inBlock, Exit.then]); refine bodyPost_ret (results_none rfl _ _ _) rfl ?_
    exact ⟨rfl, hs.out ▸ hP, hK⟩

end Go.Proofs.Ytjefaccpmoignaa

namespace Go.Proofs.Ytjefaccpmoignaa
open Go.RowKit Go.Maps
set_option linter.unusedSimpArgs false
set_option linter.unusedVariables false

/-- The bytes of a text. -/
def sb (t : ByteArray) : List Nat := t.data.toList.map UInt8.toNat
theorem byt_sb (t : ByteArray) : Byt (sb t) := by
  intro x hx
  obtain ⟨y, _, rfl⟩ := List.mem_map.1 hx
  exact UInt8.toNat_lt y
theorem len_sb (t : ByteArray) : (sb t).length = t.size := by rw [sb, List.length_map, Array.length_toList]; rfl
/-- A byte of a tag. -/
def okb (xs : List Nat) : Bool := xs.all (fun x => decide (32 ≤ x) && decide (x ≤ 126))
/-- A good tag. -/
def gd (xs : List Nat) : Bool := xs.length == 4 && okb xs
theorem sb_drop (t : ByteArray) (k : Nat) (hk : k < t.size) : (sb t).drop k = t[k].toNat :: (sb t).drop (k + 1) := by
  have hl : k < (sb t).length := by rw [len_sb]; exact hk
  rw [List.drop_eq_getElem_cons hl]
  congr 1
  simp only [sb, List.getElem_map, Array.getElem_toList]
  rfl
theorem okb_drop (t : ByteArray) (k : Nat) (hk : k < t.size) : okb ((sb t).drop k) = ((decide (32 ≤ t[k].toNat) && decide (t[k].toNat ≤ 126)) && okb ((sb t).drop (k + 1))) := by
  rw [sb_drop t k hk]; rfl

/-- A page on which a tag is put. -/
def St.tag (s : St) (xs : List Nat) : St := if gd xs then s.app xs else s.fail

theorem rb_str (w : World) (t : ByteArray) (c : Nat) (f : Nat × Nat) (h1 : t.size ≤ c) (h2 : c ≤ maxLen) : Rb (w.drew.alloc (.cells (bytesRow t c) 5 f)) (some ⟨w.heap.size, 0, none⟩) c (sb t) := by
  refine ⟨byt_sb t, by rw [len_sb]; exact h1, h2, (by simp), .inr ⟨w.heap.size, 0, rfl, by simp, fun i hi => ?_⟩⟩
  rw [len_sb] at hi
  rw [cell_of_row _ w.heap.size (0 + i) _ 5 f (heap_alloc_new w.drew _)]
  have hi' : i < t.data.size := hi
  simp [bytesRow, sb, List.getD, Array.getElem?_append]
  rw [if_pos hi, Array.getElem?_eq_getElem hi']
  simp

theorem bd1 {w : World} (o : Obj) : Below w.heap.size w (w.drew.alloc o) := ((Below.refl w.heap.size w).drew).alloc (Nat.le_refl _) o

end Go.Proofs.Ytjefaccpmoignaa
