/-
  foundryref14.Few, foundrylaw14.few, foundrylaw14.awake: the walks.
  foundrylaw10.little, foundrylaw10.awake, foundryref10.Few: the walks.
  foundryref15.Few, SameContours, foundrylaw15.few, small: the walks.
  foundryref01.Trim, Same; foundrylaw01.same: the walks.
  foundryref01.Bit, bits: the walks.
  foundryref01.length, up: the walks.
  foundryref01.Sub: the walk.
-/
import Derived.Test.YtkmcodofnckdmaaGreatZS24
import Derived.Test.YtkmcodofnckdmaaGreatZS30
import Derived.Test.YtkmcodofnckdmaaGreatZS27
import Derived.Deep.CutBlock
import Derived.Deep.CutRange
import Derived.Test.YtkmcodofnckdmaaGreatZS29
import Derived.Test.YtkmcodofnckdmaaGreatZS23
import Derived.Test.YtkmcodofnckdmaaGreatZS1
import Derived.Test.YtkmcodofnckdmaaGreatZS2
import Derived.Laws.BitsAllLaws
import Derived.Test.YtkmcodofnckdmaaGreatZS3
set_option maxHeartbeats 4000000
set_option maxRecDepth 100000
set_option linter.unusedSimpArgs false
set_option linter.unusedVariables false
namespace Go.Proofs.YtkmcodofnckdmaaGreat
open Go.RowKit Go.Maps
theorem wrapU {z : Int} (h1 : -9223372036854775808 ≤ z) (h2 : z ≤ 9223372036854775807) : IntKind.i64.wrap z = z := by
 unfold IntKind.wrap
 simp [IntKind.bits, IntKind.signed]
 omega
def szT (t : Tu) : Nat := 1 + t.rg.length + t.pts.length + t.dx.length + t.dy.length
def totT (l : List Tu) : Nat := (l.map szT).sum
def fewT (l : List Tu) : Bool := decide (totT l ≤ 3000) && decide (l.length ≤ 30)
theorem totT_take {l : List Tu} {k : Nat} (hk : k < l.length) : totT (l.take (k + 1)) = totT (l.take k) + szT (l.getD k Tu.none) := by
 unfold totT
 rw [take_snoc (d := Tu.none) hk, List.map_append, List.sum_append]
 simp
theorem totT_le (l : List Tu) (k : Nat) : totT (l.take k) ≤ totT l := by
 have h : totT l = totT (l.take k) + totT (l.drop k) := by
  unfold totT
  rw [← List.sum_append, ← List.map_append, List.take_append_drop]
 omega
theorem fewT_of {l : List Tu} (h : fewT l = true) : l.length ≤ 30 ∧ totT l ≤ 3000 := by
 unfold fewT at h
 rw [Bool.and_eq_true, decide_eq_true_iff, decide_eq_true_iff] at h
 exact ⟨h.2, h.1⟩
theorem sfewT_any (S : Nat → Prop) (a : Option Addr) (ca : Nat) (l : List Tu) (w : World) (hl : Gr TuE S w a ca l) :
    Calls Tryz.prog 64 #[.slice a l.length ca] w fun e w' => e = .returned (.bool (fewT l)) ∧ Below w.heap.size w w' := by
 have k1 := hl.lenB
 have HC : Hid (Gr TuE S w a ca l) := hl
 have HF : Hid (fewT l = (decide (totT l ≤ 3000) && decide (l.length ≤ 30))) := rfl
 clear hl
 generalize fewT l = fb at *
 go_enter Tryz.func64, Tryz.ntmps64
 go_wp2
 go_loopw [3, 4] (fun nv i wr => ∃ k n : Nat, k ≤ l.length ∧ i = .int .i64 k ∧ nv = .int .i64 (n : Int) ∧ n = totT (l.take k) ∧ n ≤ 562949953425001 ∧ Below w.heap.size w wr) (fun _ i _ => l.length - (intOf i).toNat)
 case atStart => exact ⟨0, 0, Nat.zero_le _, rfl, rfl, rfl, by omega, Below.refl _ _⟩
 case round =>
  obtain ⟨k, n, hk, rfl, rfl, hn, hnb, hB⟩ := hrel
  have HN : Hid (n = totT (l.take k)) := hn
  have HB : Hid (Below w.heap.size w wr) := hB
  clear hn
  by_cases hgo : k < l.length ∧ n ≤ 3000
  · obtain ⟨hkn, hn1⟩ := hgo
    obtain ⟨b0, off, ra, rc, pa, pc, xa, xc, ya, yc, ea, hb, ht, d0, d1, d2, d3, d4⟩ := HC.out.tu hB k hkn
    subst ea
    have hst := totT_take hkn
    rw [← HN.out] at hst; obtain ⟨l1, l2, l3, l4⟩ := ht.len
    obtain ⟨t, htt⟩ : ∃ t, l.getD k Tu.none = t := ⟨_, rfl⟩
    rw [htt] at d0 d1 d2 d3 d4 hst l1 l2 l3 l4
    unfold szT at hst
    generalize t.rg.length = r at *
    generalize t.pts.length = p at *
    generalize t.dx.length = x at *
    generalize t.dy.length = y at *
    have HN2 : Hid (n + (1 + r + p + x + y) = totT (l.take (k + 1))) := hst.symm
    have g1 : decide (k < l.length) = true := decide_eq_true hkn
    have g2 : decide ((n : Int) ≤ 3000) = true := decide_eq_true (by omega)
    have i1 : (0 : Int) ≤ (k : Int) := by omega
    have i2 : (k : Int) < (l.length : Int) := by omega
    have w1 : IntKind.i64.wrap (1 + (r : Int)) = 1 + (r : Int) := wrapU (by omega) (by omega)
    have w2 : IntKind.i64.wrap (1 + (r : Int) + (p : Int)) = 1 + (r : Int) + (p : Int) := wrapU (by omega) (by omega)
    have w3 : IntKind.i64.wrap (1 + (r : Int) + (p : Int) + (x : Int)) = 1 + (r : Int) + (p : Int) + (x : Int) := wrapU (by omega) (by omega)
    have w4 : IntKind.i64.wrap (1 + (r : Int) + (p : Int) + (x : Int) + (y : Int)) = 1 + (r : Int) + (p : Int) + (x : Int) + (y : Int) := wrapU (by omega) (by omega)
    have w5 : IntKind.i64.wrap ((n : Int) + (1 + (r : Int) + (p : Int) + (x : Int) + (y : Int))) = (n : Int) + (1 + (r : Int) + (p : Int) + (x : Int) + (y : Int)) := wrapU (by omega) (by omega)
    clear hst htt ht HN hB
    go_upto_region 5 with fail
    refine wp_region_held_drew (S := fun w9 => w9.cell? ⟨b0, off + k * 5, none⟩ = some (.slice ra r rc) ∧ w9.cell? ⟨b0, off + k * 5 + 2, none⟩ = some (.slice pa p pc) ∧ w9.cell? ⟨b0, off + k * 5 + 3, none⟩ = some (.slice xa x xc) ∧ w9.cell? ⟨b0, off + k * 5 + 4, none⟩ = some (.slice ya y yc)) (by kernel_rfl) ?_ (fun hHeld => ?_)
    · (try dsimp only)
      go_keep
    have hdr : Below wr.heap.size wr wr.drew := Below.drew1
    generalize wr.drew = Z at hdr hHeld ⊢
    clear d0 d1 d2 d3 d4; refine hT 0 hHeld ?_; refine hT 1 hHeld ?_; refine hT 2 hHeld ?_; refine hT 3 hHeld ?_; refine hT 4 hHeld ?_; refine hT 5 hHeld ?_; refine hT 6 hHeld ?_; refine hT 7 hHeld ?_; refine hT 8 hHeld ?_; refine hT 9 hHeld ?_; refine hT 10 hHeld ?_; refine hT 11 hHeld ?_; refine hT 12 hHeld ?_
    refine hT 13 hHeld ?_; refine hT 14 hHeld ?_; refine hT 15 hHeld ?_; refine hT 16 hHeld ?_; refine hT 17 hHeld ?_; refine hT 18 hHeld ?_; refine hT 19 hHeld ?_; refine hT 20 hHeld ?_; refine hT 21 hHeld ?_; refine hT 22 hHeld ?_; refine hT 23 hHeld ?_; refine hT 24 hHeld ?_; refine hT 25 hHeld ?_
    refine hT 26 hHeld ?_; refine hT 27 hHeld ?_; refine hT 28 hHeld ?_; refine hT 29 hHeld ?_; refine hT 30 hHeld ?_
    refine wpAnyH_done (by kernel_rfl) ?_ _
    have HB2 : Hid (Below w.heap.size w Z) := HB.out.trans (hdr.mono HB.out.size)
    clear hHeld hdr; go_wp2
    go_roundw
    case rel => exact ⟨k + 1, n + (1 + r + p + x + y), by omega, by go_num, by exact congrArg (Value.int .i64) (by omega), HN2.out, by omega, HB2.out⟩
    case measure => simp [intOf]; omega
  · have hle := totT_le l k
    have HFF : Hid (fb = (decide ((n : Int) ≤ 3000) && decide ((l.length : Int) ≤ 30))) := by
     show _ = _
     rw [HF.out]
     have h1 : decide (totT l ≤ 3000) = decide ((n : Int) ≤ 3000) := by
      rw [decide_eq_decide]
      by_cases hkk : k < l.length
      · rw [← HN.out] at hle
        omega
      · have : l.take k = l := List.take_of_length_le (by omega)
        have h2 := HN.out
        rw [this] at h2
        omega
     have h2 : decide (l.length ≤ 30) = decide ((l.length : Int) ≤ 30) := by
      rw [decide_eq_decide]
      omega
     rw [h1, h2]
    clear HN hle
    by_cases hkn : k < l.length
    · have g1 : decide (k < l.length) = true := decide_eq_true hkn
      have g2 : decide ((n : Int) ≤ 3000) = false := decide_eq_false (by omega)
      rw [g2, Bool.false_and] at HFF; go_wp2
      go_ret
      exact ⟨rt_bool HFF.out.symm, hB⟩
    · have g1 : decide (k < l.length) = false := decide_eq_false hkn
      by_cases hn1 : n ≤ 3000
      · have g2 : decide ((n : Int) ≤ 3000) = true := decide_eq_true (by omega)
        rw [g2, Bool.true_and] at HFF; go_wp2
        go_ret
        exact ⟨rt_bool HFF.out.symm, hB⟩
      · have g2 : decide ((n : Int) ≤ 3000) = false := decide_eq_false (by omega)
        rw [g2, Bool.false_and] at HFF; go_wp2
        go_ret
        exact ⟨rt_bool HFF.out.symm, hB⟩
theorem i64_wrap64 (z : Int) : I64 (wrap64 z) := by
 unfold I64 wrap64
 omega
theorem few10_any (a : Option Addr) (ca : Nat) (b : Option Addr) (cb : Nat) (s : Sr) (w : World) (hg : Tzz w a ca s.rg) (hm : Rii w b cb s.rw) :
    Calls Tryz.prog 30 #[.agg #[.slice a s.rg.length ca, .slice b s.rw.length cb]] w fun e w' => ∃ q : Bool, e = .returned (.bool q) ∧ (q = true → s.rg.length ≤ 20 ∧ ∀ l ∈ s.rg, l.length ≤ 8) ∧ Below w.heap.size w w' := by
 have k1 := hg.lenB
 have k2 := hm.lenB
 have HG : Hid (Tzz w a ca s.rg) := hg
 have HM : Hid (Rii w b cb s.rw) := hm
 clear hg hm
 obtain ⟨W, hW, X1, hbW⟩ : ∃ W, W = w.alloc (.cells #[.slice a s.rg.length ca, .slice b s.rw.length cb] 26) ∧ BxS W w.heap.size (.slice a s.rg.length ca) (.slice b s.rw.length cb) ∧ Below w.heap.size w W := ⟨_, rfl, BxS.new _ _ _, bl1 _⟩
 go_enter Tryz.func30, Tryz.ntmps30
 go_upto_block 0 with fail
 rw [← hW]; clear hW
 go_cut [3] from 4 to 26 (fun v wr => ∃ z : Int, v = .int .i64 z ∧ I64 z ∧ BxS wr w.heap.size (.slice a s.rg.length ca) (.slice b s.rw.length cb) ∧ Below w.heap.size w wr)
 case first =>
  go_wp2_with fail
  go_loopw [3, 4] (fun v i wr => ∃ (k : Nat) (z : Int), k ≤ s.rg.length ∧ v = .int .i64 z ∧ I64 z ∧ i = .int .i64 k ∧ BxS wr w.heap.size (.slice a s.rg.length ca) (.slice b s.rw.length cb) ∧ Below w.heap.size w wr) (fun _ i _ => s.rg.length - (intOf i).toNat)
  case atStart => exact ⟨0, 0, Nat.zero_le _, rfl, ⟨by decide, by decide⟩, rfl, X1, hbW⟩
  case round =>
   clear X1 hbW; obtain ⟨k, z, hk, rfl, hz, rfl, X1, hbW⟩ := hrel; obtain ⟨p0, p1, _⟩ := X1.cells
   by_cases hkn : k < s.rg.length
   · have g1 : decide ((k : Int) < (s.rg.length : Int)) = true := decide_eq_true (by omega)
     by_cases hz2 : z ≤ 2000
     · have g2 : decide (z ≤ 2000) = true := decide_eq_true hz2
       obtain ⟨b1, o1, a1, c1, ea, _, d0, hp⟩ := HG.out.at hbW k hkn
       have hpl := hp.lenB
       generalize (s.rg.getD k []).length = n1 at *
       subst ea; clear hp hkn
       have i1 : (0 : Int) ≤ (k : Int) := by omega
       have i2 : (k : Int) < (s.rg.length : Int) := of_decide_eq_true g1
       have HZ : Hid (∀ y : Int, I64 (wrap64 y)) := i64_wrap64
       go_wp2_with fail
       go_roundw
       case rel => exact ⟨k + 1, _, by omega, rfl, HZ.out _, by go_num, X1, hbW⟩
       case measure => simp [intOf]; omega
     · have g2 : decide (z ≤ 2000) = false := decide_eq_false hz2
       have i2 : (k : Int) < (s.rg.length : Int) := by omega
       clear hkn
       go_wp2_with fail
       go_meet
       exact ⟨z, rfl, hz, X1, hbW⟩
   · have g1 : decide ((k : Int) < (s.rg.length : Int)) = false := decide_eq_false (by omega)
     have i2 : ¬ (k : Int) < (s.rg.length : Int) := by omega
     clear hkn
     go_wp2_with fail
     go_meet
     exact ⟨z, rfl, hz, X1, hbW⟩
 case rest =>
  clear X1 hbW; obtain ⟨z0, rfl, hzz0, X1, hbW⟩ := hcut
  go_upto_block 2 with fail
  go_cut [3] from 4 to 46 (fun v wr => ∃ z : Int, v = .int .i64 z ∧ I64 z ∧ BxS wr w.heap.size (.slice a s.rg.length ca) (.slice b s.rw.length cb) ∧ Below w.heap.size w wr)
  case first =>
   go_wp2_with fail
   go_loopw [3, 5] (fun v i wr => ∃ (k : Nat) (z : Int), k ≤ s.rw.length ∧ v = .int .i64 z ∧ I64 z ∧ i = .int .i64 k ∧ BxS wr w.heap.size (.slice a s.rg.length ca) (.slice b s.rw.length cb) ∧ Below w.heap.size w wr) (fun _ i _ => s.rw.length - (intOf i).toNat)
   case atStart => exact ⟨0, z0, Nat.zero_le _, rfl, hzz0, rfl, X1, hbW⟩
   case round =>
    clear X1 hbW; obtain ⟨k, z, hk, rfl, hz, rfl, X1, hbW⟩ := hrel; obtain ⟨p0, p1, _⟩ := X1.cells
    by_cases hkn : k < s.rw.length
    · have g1 : decide ((k : Int) < (s.rw.length : Int)) = true := decide_eq_true (by omega)
      by_cases hz2 : z ≤ 2000
      · have g2 : decide (z ≤ 2000) = true := decide_eq_true hz2
        obtain ⟨b1, o1, a1, c1, ea, _, d0, hp⟩ := HM.out.at hbW k hkn
        have hpl := hp.lenB
        generalize (s.rw.getD k []).length = n1 at *
        subst ea; clear hp hkn
        have i1 : (0 : Int) ≤ (k : Int) := by omega
        have i2 : (k : Int) < (s.rw.length : Int) := of_decide_eq_true g1
        have HZ : Hid (∀ y : Int, I64 (wrap64 y)) := i64_wrap64
        go_wp2_with fail
        go_roundw
        case rel => exact ⟨k + 1, _, by omega, rfl, HZ.out _, by go_num, X1, hbW⟩
        case measure => simp [intOf]; omega
      · have g2 : decide (z ≤ 2000) = false := decide_eq_false hz2
        have i2 : (k : Int) < (s.rw.length : Int) := by omega
        clear hkn
        go_wp2_with fail
        go_meet
        exact ⟨z, rfl, hz, X1, hbW⟩
    · have g1 : decide ((k : Int) < (s.rw.length : Int)) = false := decide_eq_false (by omega)
      have i2 : ¬ (k : Int) < (s.rw.length : Int) := by omega
      clear hkn
      go_wp2_with fail
      go_meet
      exact ⟨z, rfl, hz, X1, hbW⟩
  case rest =>
   clear X1 hbW hzz0; obtain ⟨z1, rfl, hzz1, X1, hbW⟩ := hcut
   go_wp2_with fail
   go_loopw [6] (fun i wr => ∃ k : Nat, k ≤ s.rg.length ∧ i = .int .i64 k ∧ (∀ j, j < k → (s.rg.getD j []).length ≤ 8) ∧ BxS wr w.heap.size (.slice a s.rg.length ca) (.slice b s.rw.length cb) ∧ Below w.heap.size w wr) (fun i _ => s.rg.length - (intOf i).toNat)
   case atStart => exact ⟨0, Nat.zero_le _, rfl, (fun j hj => by omega), X1, hbW⟩
   case round =>
    clear X1 hbW; obtain ⟨k, hk, rfl, hok, X1, hbW⟩ := hrel
    have HOK : Hid (∀ j, j < k → (s.rg.getD j []).length ≤ 8) := hok
    clear hok; obtain ⟨p0, p1, _⟩ := X1.cells
    by_cases hkn : k < s.rg.length
    · obtain ⟨b1, o1, a1, c1, ea, _, d0, hp⟩ := HG.out.at hbW k hkn
      have hpl := hp.lenB
      obtain ⟨n1, hn1⟩ : ∃ n1, (s.rg.getD k []).length = n1 := ⟨_, rfl⟩
      have HN : Hid ((s.rg.getD k []).length = n1) := hn1
      rw [hn1] at d0 hpl; subst ea; clear hp hn1
      by_cases h8 : 8 < n1
      · have g3 : (8 : Int) < (n1 : Int) := by omega
        go_wp2
        go_ret
        exact ⟨false, rfl, (fun h => by cases h), hbW⟩
      · have g3 : ¬ (8 : Int) < (n1 : Int) := by omega
        have HOK2 : Hid (∀ j, j < k + 1 → (s.rg.getD j []).length ≤ 8) := fun j hj => by
         rcases Nat.lt_or_ge j k with h1 | h1
         · exact HOK.out j h1
         · rw [show j = k by omega, HN.out]; omega
        go_wp2
        go_roundw
        case rel => exact ⟨k + 1, by omega, by go_num, HOK2.out, X1, hbW⟩
        case measure => simp [intOf]; omega
    · obtain rfl : k = s.rg.length := by omega
      have HA : Hid (∀ l ∈ s.rg, l.length ≤ 8) := fun l hl => by
       obtain ⟨i, hi, e⟩ := List.getElem_of_mem hl
       have := HOK.out i hi
       rw [getL hi, e] at this
       exact this
      by_cases hz2 : z1 ≤ 2000
      · have g2 : decide (z1 ≤ 2000) = true := decide_eq_true hz2
        go_wp2
        go_ret
        exact ⟨_, rfl, (fun h => ⟨by have := of_decide_eq_true h; omega, HA.out⟩), hbW⟩
      · have g2 : decide (z1 ≤ 2000) = false := decide_eq_false hz2
        go_wp2
        exact bodyPost_ret (v := .bool false) (by simp [results, Tryz.results30, go_sem]) rfl (by first | exact ⟨false, rfl, (fun h => by cases h), hbW⟩ | exact .inl ⟨rfl, hbW⟩)
structure BoolOf (P : Prop) (e : Ending) : Prop where
 out : ∃ q : Bool, e = .returned (.bool q) ∧ (q = true → P)
def FewG (l : List Gl) : Prop := l.length ≤ 40 ∧ ∀ x ∈ l, x.o.cs.flatten.length ≤ 1000 ∧ x.o.ps.length ≤ 12
theorem FewG.ps {l : List Gl} (h : FewG l) : ∀ x ∈ l, x.o.ps.length ≤ 12 := fun x hx => (h.2 x hx).2
theorem FewG.pt {l : List Gl} (h : FewG l) : ∀ x ∈ l, x.o.cs.flatten.length ≤ 100000 := fun x hx => Nat.le_trans (h.2 x hx).1 (by decide)
theorem FewG.n {l : List Gl} (h : FewG l) : l.length ≤ 1000 := Nat.le_trans h.1 (by decide)
theorem sfewG_any (S : Nat → Prop) (a : Option Addr) (ca : Nat) (l : List Gl) (w : World) (hl : Gr GlE S w a ca l) :
    Calls Tryz.prog 29 #[.slice a l.length ca] w fun e w' => BoolOf (FewG l) e ∧ Below w.heap.size w w' := by
 have kl := hl.lenB
 have HL : Hid (Gr GlE S w a ca l) := hl
 clear hl
 by_cases hn : 40 < l.length
 · have g1 : (40 : Int) < (l.length : Int) := by omega
   go_enter Tryz.func29, Tryz.ntmps29
   go_wp2
   go_ret
   exact ⟨⟨⟨false, rfl, (fun h => by cases h)⟩⟩, Below.refl _ _⟩
 have g1 : ¬ (40 : Int) < (l.length : Int) := by omega
 go_enter Tryz.func29, Tryz.ntmps29
 go_wp2; clear g1
 go_loopw [3, 4] (fun nv i wr => ∃ (k : Nat) (z : Int), k ≤ l.length ∧ i = .int .i64 k ∧ nv = .int .i64 z ∧ Hid (∀ j, j < k → (l.getD j Gl.none).o.cs.flatten.length ≤ 1000 ∧ (l.getD j Gl.none).o.ps.length ≤ 12) ∧ Below w.heap.size w wr) (fun _ i _ => l.length - (intOf i).toNat)
 case atStart => exact ⟨0, 0, Nat.zero_le _, rfl, rfl, (fun j hj => by omega), Below.refl _ _⟩
 case round =>
  obtain ⟨k, z, hk, rfl, rfl, HOK, hB⟩ := hrel
  by_cases hkn : k < l.length
  · obtain ⟨b1, off, xa, xc, pa, pc, ta, tc, ea, hb1, hGC, c0, c1, c2, -⟩ := HL.out.gl hB k hkn
    subst ea
    obtain ⟨x, hx⟩ : ∃ x, l.getD k Gl.none = x := ⟨_, rfl⟩
    have HX : Hid (l.getD k Gl.none = x) := hx
    rw [hx] at hGC c0 c1 c2
    have i1 : (0 : Int) ≤ (k : Int) := by omega
    have i2 : (k : Int) < (l.length : Int) := by omega
    have kcs := hGC.cs.lenB
    have kps := hGC.ps.lenB
    have kts := hGC.ts.lenB
    have hb1w : b1 < wr.heap.size := Nat.lt_of_lt_of_le hb1 hB.size
    have h1 := sfewO_any S xa xc pa pc x.o wr hGC.cs hGC.ps
    have h2 := fun U (hU : Below wr.heap.size wr U) => sfewT_any S ta tc x.ts U (hGC.below hU).ts
    have h3 := fun U (hU : Below wr.heap.size wr U) (hf : x.o.cs.flatten.length ≤ 100000) => spointsO_any S xa xc (.slice pa x.o.ps.length pc) x.o.cs U (hGC.below hU).cs hf rfl
    clear hx hGC
    cases hf1 : fewB x.o with
    | false =>
     rw [hf1] at h1; clear hf1 h2 h3
     go_wp2_with fail
     refine h1.mono ?_
     rintro e u1 ⟨rfl, hb⟩
     replace hB := hB.trans (hb.mono hB.size)
     clear h1 hb; go_wp2
     go_ret
     exact ⟨⟨⟨false, rfl, (fun h => by cases h)⟩⟩, hB⟩
    | true =>
    rw [hf1] at h1
    have hf9 := (fewB_of hf1).2.1
    clear hf1
    go_wp2_with fail
    refine h1.mono ?_
    rintro e u1 ⟨rfl, hb⟩; clear h1
    replace c0 := (hb.cell (p := ⟨b1, off + k * 6, none⟩) hb1w).trans c0
    replace c1 := (hb.cell (p := ⟨b1, off + k * 6 + 1, none⟩) hb1w).trans c1
    replace c2 := (hb.cell (p := ⟨b1, off + k * 6 + 2, none⟩) hb1w).trans c2
    have hB1 := hB.trans (hb.mono hB.size)
    have h2' := h2 _ hb
    cases hf2 : fewT x.ts with
    | false =>
     rw [hf2] at h2'; clear hf2 h2 h3 hb
     go_wp2_with fail
     refine h2'.mono ?_
     rintro e u2 ⟨rfl, hb⟩
     replace hB1 := hB1.trans (hb.mono hB1.size)
     clear h2' hb; go_wp2
     go_ret
     exact ⟨⟨⟨false, rfl, (fun h => by cases h)⟩⟩, hB1⟩
    | true =>
    rw [hf2] at h2'
    have htn := (fewT_of hf2).1
    clear hf2 h2
    go_wp2_with fail
    refine h2'.mono ?_
    rintro e u2 ⟨rfl, hb2⟩
    have hus := hb.size
    replace c0 := (hb2.cell (p := ⟨b1, off + k * 6, none⟩) (by show b1 < _; omega)).trans c0
    replace c1 := (hb2.cell (p := ⟨b1, off + k * 6 + 1, none⟩) (by show b1 < _; omega)).trans c1
    replace c2 := (hb2.cell (p := ⟨b1, off + k * 6 + 2, none⟩) (by show b1 < _; omega)).trans c2
    have hB2 := hB1.trans (hb2.mono hB1.size)
    have hb3 := hb.trans (hb2.mono hb.size)
    have hus2 := hb2.size
    clear h2' hb hb2 hB1 hB
    by_cases hp : 12 < x.o.ps.length
    · have g2 : decide ((12 : Int) < (x.o.ps.length : Int)) = true := decide_eq_true (by omega)
      have g3 : (12 : Int) < (x.o.ps.length : Int) := by omega
      clear h3 hb3; go_wp2
      go_ret
      exact ⟨⟨⟨false, rfl, (fun h => by cases h)⟩⟩, hB2⟩
    have g2 : decide ((12 : Int) < (x.o.ps.length : Int)) = false := decide_eq_false (by omega)
    have HOK2 : Hid (∀ j, j < k + 1 → (l.getD j Gl.none).o.cs.flatten.length ≤ 1000 ∧ (l.getD j Gl.none).o.ps.length ≤ 12) := fun j hj => by
     rcases Nat.lt_or_ge j k with h1 | h1
     · exact HOK.out j h1
     · rw [show j = k by omega, HX.out]; exact ⟨hf9, by omega⟩
    have hpo := fun U hU => h3 U (hb3.trans (Below.mono hU hb3.size)) (by omega)
    clear h3 HOK HX
    go_upto_region 9 with fail
    refine wp_region_held_drew (S := fun w9 => w9.cell? ⟨b1, off + k * 6, none⟩ = some (.slice xa x.o.cs.length xc) ∧ w9.cell? ⟨b1, off + k * 6 + 1, none⟩ = some (.slice pa x.o.ps.length pc) ∧ w9.cell? ⟨b1, off + k * 6 + 2, none⟩ = some (.slice ta x.ts.length tc)) (by kernel_rfl) ?_ (fun hHeld => ?_)
    · (try dsimp only)
      go_keep
    have hdr : Below u2.heap.size u2 u2.drew := Below.drew1
    have hpo2 := hpo _ hdr
    generalize u2.drew = Z at hdr hHeld hpo2 ⊢
    replace c0 := (hdr.cell (p := ⟨b1, off + k * 6, none⟩) (by show b1 < _; omega)).trans c0
    replace c1 := (hdr.cell (p := ⟨b1, off + k * 6 + 1, none⟩) (by show b1 < _; omega)).trans c1
    replace c2 := (hdr.cell (p := ⟨b1, off + k * 6 + 2, none⟩) (by show b1 < _; omega)).trans c2
    replace hB2 := hB2.trans (hdr.mono hB2.size)
    have hzs := hdr.size
    clear hdr hpo hb3; refine hT 0 hHeld ?_; refine hT 1 hHeld ?_; refine hT 2 hHeld ?_; refine hT 3 hHeld ?_; refine hT 4 hHeld ?_; refine hT 5 hHeld ?_; refine hT 8 hHeld ?_; refine hT 9 hHeld ?_; refine hT 10 hHeld ?_; refine hT 11 hHeld ?_; refine hT 12 hHeld ?_; refine hT 13 hHeld ?_; refine hT 14 hHeld ?_
    refine hCall (i := 6) rfl (by kernel_rfl) (by rfl) (fun K hK => ?_)
    go_simp
    refine hpo2.mono ?_
    rintro e u3 ⟨a8, c8, rfl, -, -, hb⟩
    replace c0 := (hb.cell (p := ⟨b1, off + k * 6, none⟩) (by show b1 < _; omega)).trans c0
    replace c1 := (hb.cell (p := ⟨b1, off + k * 6 + 1, none⟩) (by show b1 < _; omega)).trans c1
    replace c2 := (hb.cell (p := ⟨b1, off + k * 6 + 2, none⟩) (by show b1 < _; omega)).trans c2
    replace hB2 := hB2.trans (hb.mono hB2.size)
    clear hb hpo2
    go_wp2_with fail
    refine hK.out _ _ ?_ (fun hHeld => ?_)
    · (try dsimp only)
      exact ⟨c0, c1, c2⟩
    clear hK K
    try simp only [Act.put, pZ]
    refine hT 7 hHeld ?_; refine hT 15 hHeld ?_; refine hT 16 hHeld ?_; refine hT 17 hHeld ?_
    refine wpAnyH_done (by kernel_rfl) ?_ _
    clear hHeld c0 c1 c2; go_wp2
    go_roundw
    case rel => exact ⟨k + 1, _, by omega, by go_num, rfl, HOK2, hB2⟩
    case measure => simp [intOf]; omega
  · have ek : k = l.length := by omega
    have g4 : ¬ (k : Int) < (l.length : Int) := by omega
    have HF : Hid (FewG l) := ⟨by omega, of_get (d := Gl.none) (fun j hj => HOK.out j (by omega))⟩
    clear HOK; go_wp2
    go_ret
    exact ⟨⟨⟨_, rfl, fun _ => HF.out⟩⟩, hB⟩
theorem ssameC_any (S S2 : Nat → Prop) (a : Option Addr) (ca : Nat) (b : Option Addr) (cb : Nat) (cs : List (List Pn)) (w : World) (ha : Gr PnE.row S w a ca cs) (hb : Gr PnE.row S2 w b cb cs) :
    Calls Tryz.prog 20 #[.slice a cs.length ca, .slice b cs.length cb] w fun e w' => e = .returned (.bool true) ∧ Below w.heap.size w w' := by
 have h := ssameO_any S S2 a ca none 0 b cb none 0 ⟨cs, []⟩ w ha (Gr.nil _ _ _ _ _ (Nat.zero_le _) (fun _ => rfl)) hb (Gr.nil _ _ _ _ _ (Nat.zero_le _) (fun _ => rfl))
 go_enter Tryz.func20, Tryz.ntmps20
 go_wp2_with fail
 refine h.mono ?_
 rintro e u ⟨rfl, hb⟩; clear h; go_wp2
 go_ret
 exact ⟨rfl, hb⟩
theorem few15_any (S : Nat → Prop) (a : Option Addr) (ca : Nat) (l : List Gl) (ga : Option Addr) (gc : Nat) (ma : Option Addr) (mc : Nat) (s : Sr) (ax : Int) (pa : Option Addr) (pn pc : Nat) (w : World) (hl : Gr GlE S w a ca l) (hg : Tzz w ga gc s.rg) (hm : Rii w ma mc s.rw) (hpn : pn ≤ 9223372036854775807) :
    Calls Tryz.prog 10 #[.agg #[.slice a l.length ca, .slice ga s.rg.length gc, .slice ma s.rw.length mc, .int .i64 ax], .slice pa pn pc] w fun e w' => BoolOf (FewG l ∧ s.rg.length ≤ 20 ∧ (∀ l ∈ s.rg, l.length ≤ 8) ∧ pn ≤ 20) e ∧ Below w.heap.size w w' := by
 obtain ⟨W, hW, X1, hbW⟩ : ∃ W, W = w.alloc (.cells #[.slice a l.length ca, .slice ga s.rg.length gc, .slice ma s.rw.length mc, .int .i64 ax] 28) ∧ Bk 28 W w.heap.size [.slice a l.length ca, .slice ga s.rg.length gc, .slice ma s.rw.length mc, .int .i64 ax] ∧ Below w.heap.size w W := ⟨_, rfl, Bk.new _ _ _, bl1 _⟩
 obtain ⟨p0, p1, p2, p3, _⟩ := X1.four
 have c1 := sfewG_any S a ca l W (hl.below hbW)
 have c2 := fun U (hb : Below W.heap.size W U) => few10_any ga gc ma mc s U ((hg.below hbW).below hb) ((hm.below hbW).below hb)
 clear hl hg hm
 go_enter Tryz.func10, Tryz.ntmps10
 go_upto_region 1 with fail
 rw [← hW]; clear hW
 go_wp2_with fail
 refine c1.mono ?_
 rintro e m1 ⟨⟨⟨q1, rfl, HF1⟩⟩, hb1⟩
 replace HF1 : Hid (q1 = true → FewG l) := HF1
 replace X1 := X1.below hb1; clear p0 p1 p2 p3 c1; obtain ⟨p0, p1, p2, p3, _⟩ := X1.four
 cases q1 with
 | false =>
  have hfin := hbW.trans (hb1.mono hbW.size)
  clear c2; go_wp2
  go_ret
  exact ⟨⟨⟨false, rfl, (fun h => by cases h)⟩⟩, hfin⟩
 | true =>
 have HG1 : Hid (FewG l) := HF1.out rfl
 clear HF1
 go_wp2_with fail
 refine (c2 _ hb1).mono ?_
 rintro e m2 ⟨q2, rfl, HF2, hb2⟩
 replace HF2 : Hid (q2 = true → s.rg.length ≤ 20 ∧ ∀ l ∈ s.rg, l.length ≤ 8) := HF2
 have hfin := (hbW.trans (hb1.mono hbW.size)).trans (hb2.mono (Nat.le_trans hbW.size hb1.size))
 clear c2 hb1 hb2
 cases q2 with
 | false =>
  go_wp2
  go_ret
  exact ⟨⟨⟨false, rfl, (fun h => by cases h)⟩⟩, hfin⟩
 | true =>
 have HG2 : Hid (s.rg.length ≤ 20 ∧ ∀ l ∈ s.rg, l.length ≤ 8) := HF2.out rfl
 clear HF2
 have HP : Hid ((decide ((pn : Int) ≤ 20)) = true → pn ≤ 20) := fun h => by
  have := of_decide_eq_true h
  omega
 go_wp2
 go_ret
 exact ⟨⟨⟨decide ((pn : Int) ≤ 20), rfl, fun h => ⟨HG1.out, HG2.out.1, HG2.out.2, HP.out h⟩⟩⟩, hfin⟩
theorem small15_any (S : Nat → Prop) (a : Option Addr) (ca : Nat) (l : List Gl) (v1 v2 : Value) (ax : Int) (g : Int) (w : World) (hl : Gr GlE S w a ca l) (hf : FewG l) (hg : I64 g) (h1 : v1.cells = #[v1]) (h2 : v2.cells = #[v2]) :
    Calls Tryz.prog 17 #[.agg #[.slice a l.length ca, v1, v2, .int .i64 ax], .int .i64 g] w fun e w' => e = .returned (.bool (decide (szG l g ≤ 600))) ∧ Below w.heap.size w w' := by
 obtain ⟨W, hW, X1, hbW⟩ : ∃ W, W = w.alloc (.cells #[.slice a l.length ca, v1, v2, .int .i64 ax] 28) ∧ Bk 28 W w.heap.size [.slice a l.length ca, v1, v2, .int .i64 ax] ∧ Below w.heap.size w W := ⟨_, rfl, Bk.new _ _ _, bl1 _⟩
 obtain ⟨p0, p1, p2, p3, _⟩ := X1.four
 have c1 := ssizeG_any S a ca l g W (hl.below hbW) hf.n hf.pt hg
 have HD : Hid (decide (((szG l g : Nat) : Int) ≤ 600) = decide (szG l g ≤ 600)) := by show _ = _; rw [decide_eq_decide]; omega
 clear hl hf X1
 go_enter Tryz.func17, Tryz.ntmps17
 go_upto_region 1 with fail
 rw [← hW]; clear hW
 go_wp2_with fail
 refine c1.mono ?_
 rintro e m1 ⟨rfl, hb1⟩
 have hfin := hbW.trans (hb1.mono hbW.size)
 clear c1 hb1; go_wp2
 go_ret
 exact ⟨rt_bool HD.out, hfin⟩
theorem rtrim_any (a : Option Addr) (cap : Nat) (xs : List Nat) (w : World) (h : Rd w a cap xs) (hl : xs.length ≤ 1000000000) :
    Calls Tryz.prog 264 #[.slice a xs.length cap] w fun e w' => ∃ a' cap', e = .returned (.slice a' (strip xs).length cap') ∧ Res 250 w.heap.size w' a' cap' (strip xs) ∧ Below w.heap.size w w' := by
 obtain ⟨i0, hi, hz0, hz1, hz2⟩ := info_parts info_limb
 have hsl := strip_length_le xs
 have hc2 : xs.length ≤ cap := h.le
 have hc3 : cap ≤ maxLen := h.cap
 unfold maxLen at hc3
 have hst := h.strip
 have lst := h.lim.strip
 have fm := h.fm
 clear h
 go_enter Tryz.func264, Tryz.ntmps264
 go_wp2
 go_loop [3] (fun n => ∃ k : Nat, k ≤ xs.length ∧ n = .int .i64 k ∧ strip (xs.take k) = strip xs) (fun n => (intOf n).toNat)
 case atStart => exact ⟨xs.length, Nat.le_refl _, rfl, by rw [List.take_length]⟩
 case round =>
  obtain ⟨k, hk, rfl, hs0⟩ := hrel
  have HS : Hid (strip (xs.take k) = strip xs) := hs0
  clear hs0
  by_cases hk0 : k = 0
  · subst hk0
    have e0 : strip xs = [] := by rw [← HS.out]; rfl
    rw [e0] at hst lst
    have E0 : Hid (strip xs = []) := e0
    clear e0 HS
    go_wp2_with (at_builtin; refine wpList_append_rd rfl _ _ 128 rfl w.heap.size 250 i0 Tryz.underlying128 hi hz0 hz1 hz2 _ 0 [] rfl (World.ownsRow_nil _ _ _ _) a cap 0 [] ?_ rfl hst (by simp) (Nat.le_refl _) ?_)
    intro v' w1 hown hgrow
    obtain ⟨a', cap', rfl, hres⟩ := Res.of (xs := []) Lim.nil hown
    go_wp2
    go_ret
    exact ⟨a', cap', by rw [E0.out]; rfl, by rw [E0.out]; exact hres, (Below.refl _ _).grown hgrow (Nat.le_refl _) (fun k hk => by simp [Value.ownBlock] at hk)⟩
  · obtain ⟨j, rfl⟩ : ∃ j, k = j + 1 := ⟨k - 1, by omega⟩
    obtain ⟨b, off, rfl, _, hcj⟩ := fm.at (Below.refl _ _) j (by omega)
    obtain ⟨x, hx⟩ : ∃ x, xs.getD j 0 = x := ⟨_, rfl⟩
    rw [hx] at hcj
    have HX : Hid (xs.getD j 0 = x) := hx
    clear hx
    by_cases hx0 : x = 0
    · subst hx0
      go_wp2
      go_round
      case rel => exact ⟨j, by omega, rfl, by rw [← HS.out, strip_take_zero xs j (by omega) HX.out]⟩
      case measure => simp [intOf]
    · have hx1 : ((x : Int) == 0) = false := by simp; omega
      have e : strip xs = xs.take (j + 1) := by rw [← HS.out]; exact strip_take_some xs j (by omega) (by rw [HX.out]; exact hx0)
      have el : j + 1 = (strip xs).length := by rw [e]; simp; omega
      have EL : Hid (j + 1 = (strip xs).length) := el
      clear e el
      go_wp2_with (at_builtin; refine wpList_append_rd rfl _ _ 128 rfl w.heap.size 250 i0 Tryz.underlying128 hi hz0 hz1 hz2 _ 0 [] rfl (World.ownsRow_nil _ _ _ _) (some ⟨b, off, none⟩) cap (j + 1) (strip xs) rfl EL.out hst (by omega) (Nat.le_refl _) ?_)
      intro v' w1 hown hgrow
      obtain ⟨a', cap', rfl, hres⟩ := Res.of lst hown
      go_wp2
      go_ret
      exact ⟨a', cap', rfl, hres, (Below.refl _ _).grown hgrow (Nat.le_refl _) (fun k hk => by simp [Value.ownBlock] at hk)⟩
theorem and_one_u32 (n : Nat) (h : n < 4294967296) : bits BinOp.and IntKind.u32 (n : Int) 1 = ((n % 2 : Nat) : Int) := by
 have := u32_and_nat n 1 h (by decide)
 rw [Nat.and_one_is_mod] at this
 exact this
theorem V_bit (xs : List Nat) (lm : Lim xs) (i : Nat) : V xs / 2 ^ i % 2 = xs.getD (i / 32) 0 / 2 ^ (i % 32) % 2 := by
 have e := V_take_drop xs (i / 32)
 have hd := V_head_tail (xs.drop (i / 32))
 have hg : (xs.drop (i / 32)).getD 0 0 = xs.getD (i / 32) 0 := by simp [List.getD]
 rw [hg] at hd
 have hl : V (xs.take (i / 32)) < 4294967296 ^ (i / 32) := by
  have := V_take_Sv xs (i / 32)
  rw [this]
  exact Sv_lt (fun j _ => lm.getD j)
 have hp : 2 ^ i = 4294967296 ^ (i / 32) * 2 ^ (i % 32) := by
  rw [show (4294967296 : Nat) = 2 ^ 32 from rfl, ← Nat.pow_mul, ← Nat.pow_add, Nat.div_add_mod]
 rw [hp, ← Nat.div_div_eq_div_mul, e, Nat.add_mul_div_left _ _ (Nat.pow_pos (by decide)), Nat.div_eq_of_lt hl, Nat.zero_add, hd]
 generalize V (xs.drop (i / 32)).tail = T
 generalize xs.getD (i / 32) 0 = x
 have h32 : (4294967296 : Nat) = 2 ^ (i % 32) * (2 * 2 ^ (31 - i % 32)) := by
  have : (4294967296 : Nat) = 2 ^ 32 := rfl
  rw [this, ← Nat.pow_succ', ← Nat.pow_add]
  congr 1
  omega
 rw [h32, Nat.mul_assoc, Nat.add_mul_div_left _ _ (Nat.pow_pos (by decide)), Nat.mul_assoc, Nat.add_mul_mod_self_left]
theorem rbits_any (a : Option Addr) (n cap : Nat) (w : World) (hn : n ≤ 100000000000000000) :
    Calls Tryz.prog 220 #[.slice a n cap] w fun e w' => e = .returned (.int .i64 (32 * (n : Int))) ∧ w = w' := by
 go_enter Tryz.func220, Tryz.ntmps220
 go_wp2
 go_ret
 exact ⟨rfl, rfl⟩
theorem rbit_any (a : Option Addr) (cap : Nat) (xs : List Nat) (i : Nat) (w : World) (h : Rd w a cap xs) (hi : i ≤ 100000000000000000) :
    Calls Tryz.prog 222 #[.slice a xs.length cap, .int .i64 (i : Int)] w fun e w' => e = .returned (.int .u32 ((V xs / 2 ^ i % 2 : Nat) : Int)) ∧ w = w' := by
 have k1 := h.le
 have k2 := h.cap
 unfold maxLen at k2
 have fm := h.fm
 have lm := h.lim
 clear h
 by_cases hlt : i / 32 < xs.length
 · obtain ⟨b, off, rfl, _, hc⟩ := fm.at (Below.refl _ _) (i / 32) hlt
   obtain ⟨x, hx⟩ : ∃ x, xs.getD (i / 32) 0 = x := ⟨_, rfl⟩
   rw [hx] at hc
   have bx : x < 4294967296 := by rw [← hx]; exact lm.getD _
   go_enter Tryz.func222, Tryz.ntmps222
   go_wp2
   go_ret
   refine ⟨ret_u32 ?_, rfl⟩
   have hq : x / 2 ^ (i % 32) ≤ x := Nat.div_le_self _ _
   have hcast : (x : Int) / 2 ^ (i % 32) = ((x / 2 ^ (i % 32) : Nat) : Int) := by simp
   rw [V_bit xs lm i, hx, hcast, and_one_u32 _ (by omega)]
 · go_enter Tryz.func222, Tryz.ntmps222
   go_wp2
   go_ret
   refine ⟨ret_u32 ?_, rfl⟩
   rw [V_bit xs lm i, getD_past _ _ (by omega)]
   simp
theorem pow_32 (m : Nat) : 4294967296 ^ m = 2 ^ (32 * m) := by rw [Nat.pow_mul]
theorem lt_pow_of_bit {v j : Nat} (h : v < 2 ^ (j + 1)) (hb : v / 2 ^ j % 2 = 0) : v < 2 ^ j := by
 have hp : 0 < 2 ^ j := Nat.pow_pos (by decide)
 rw [Nat.pow_succ] at h
 have h1 : v / 2 ^ j < 2 := Nat.div_lt_of_lt_mul (by omega)
 have h2 : v / 2 ^ j = 0 := by generalize v / 2 ^ j = t at h1 hb ⊢; omega
 rcases (Nat.div_eq_zero_iff).1 h2 with h3 | h3
 · omega
 · exact h3
theorem pow_le_of_bit {v j : Nat} (hb : v / 2 ^ j % 2 = 1) : 2 ^ j ≤ v := by
 rcases Nat.lt_or_ge v (2 ^ j) with h | h
 · rw [Nat.div_eq_of_lt h] at hb; simp at hb
 · exact h
theorem rlen_any (a : Option Addr) (cap : Nat) (xs : List Nat) (w : World) (h : Rd w a cap xs) (hl : xs.length ≤ 500000000) :
    Calls Tryz.prog 265 #[.slice a xs.length cap] w fun e w' => ∃ n : Nat, e = .returned (.int .i64 (n : Int)) ∧ n ≤ 32 * xs.length ∧ V xs < 2 ^ n ∧ (1 ≤ n → 2 ^ (n - 1) ≤ V xs) ∧ w = w' := by
 go_enter Tryz.func265, Tryz.ntmps265
 go_wp2_with fail
 refine (rbits_any _ _ _ _ (by omega)).mono ?_
 rintro e w' ⟨rfl, rfl⟩
 go_wp2
 go_loop [3] (fun i => ∃ k : Nat, k ≤ 32 * xs.length ∧ i = .int .i64 (k : Int) ∧ V xs < 2 ^ k) (fun i => (intOf i).toNat)
 case atStart => exact ⟨32 * xs.length, Nat.le_refl _, by go_num, by rw [← pow_32]; exact V_lt h.lim⟩
 case round =>
  obtain ⟨k, hk, rfl, hv⟩ := hrel
  have HV : Hid (V xs < 2 ^ k) := hv
  clear hv
  by_cases hk0 : k = 0
  · subst hk0
    go_wp2
    go_ret
    exact ⟨0, rfl, Nat.zero_le _, HV.out, fun h => by omega, rfl⟩
  · obtain ⟨j, rfl⟩ : ∃ j, k = j + 1 := ⟨k - 1, by omega⟩
    have hjj : ((j + 1 : Nat) : Int) - 1 = (j : Int) := by omega
    go_wp2_with fail
    refine (rbit_any _ _ _ _ _ h (by omega)).mono ?_
    rintro e w' ⟨rfl, rfl⟩
    rcases Nat.mod_two_eq_zero_or_one (V xs / 2 ^ j) with hb0 | hb0
    · rw [hb0]
      have HB : Hid (V xs / 2 ^ j % 2 = 0) := hb0
      clear hb0; go_wp2
      go_round
      case rel => exact ⟨j, by omega, by go_num, lt_pow_of_bit HV.out HB.out⟩
      case measure => simp [intOf]
    · rw [hb0]
      have HB : Hid (V xs / 2 ^ j % 2 = 1) := hb0
      clear hb0; go_wp2
      go_ret
      exact ⟨j + 1, rfl, hk, HV.out, fun _ => pow_le_of_bit HB.out, rfl⟩
theorem up_step {zs xs : List Nat} {m k cy x p s : Nat} (hz : zs.length = m + k) (he : V zs + 4294967296 ^ (m + k) * cy = 4294967296 ^ m * (V (xs.take k) * 2 ^ s)) (hx : xs.getD k 0 = x) (hp : x * 2 ^ s = p) :
    V (zs ++ [(cy + p) % 4294967296]) + 4294967296 ^ (m + (k + 1)) * ((cy + p) / 4294967296) = 4294967296 ^ m * (V (xs.take (k + 1)) * 2 ^ s) := by
 rw [V_snoc, hz, V_take_succ, hx, ← Nat.add_assoc, Nat.pow_succ]
 have hd := Nat.mod_add_div (cy + p) 4294967296
 generalize (cy + p) % 4294967296 = r at hd ⊢
 generalize (cy + p) / 4294967296 = d at hd ⊢
 subst hp; rw [Nat.pow_add] at he ⊢
 generalize 4294967296 ^ k = q at he ⊢
 generalize 4294967296 ^ m = t at he ⊢
 generalize V zs = o at he ⊢
 generalize V (xs.take k) = A at he ⊢
 generalize 2 ^ s = S at he hd ⊢
 have h1 : t * q * (r + 4294967296 * d) = t * q * (cy + x * S) := by rw [hd]
 grind
theorem rup_any (a : Option Addr) (cap : Nat) (xs : List Nat) (n : Nat) (w : World) (h : Rd w a cap xs) (hl : xs.length ≤ 400000000) (hn : n ≤ 400000000) :
    Calls Tryz.prog 266 #[.slice a xs.length cap, .int .i64 (n : Int)] w fun e w' =>
     ∃ a' cap' zs, e = .returned (.slice a' zs.length cap') ∧ V zs = V xs * 2 ^ n ∧ Tr zs ∧ Res 250 w.heap.size w' a' cap' zs ∧ Below w.heap.size w w' := by
 obtain ⟨i0, hi, hz0, hz1, hz2⟩ := info_parts info_limb
 have fL := h.fm
 have lL := h.lim
 clear h
 obtain ⟨m, hm⟩ : ∃ m, n / 32 = m := ⟨_, rfl⟩
 obtain ⟨s, hs⟩ : ∃ s, n % 32 = s := ⟨_, rfl⟩
 have hs32 : s < 32 := by omega
 have hmb : m ≤ 400000000 := by omega
 have hmi : (n : Int) / 32 = (m : Int) := by omega
 have hsi : (n : Int) % 32 = (s : Int) := by omega
 have HPW : Hid (2 ^ n = 4294967296 ^ m * 2 ^ s) := by
  show _ = _
  rw [pow_32, ← Nat.pow_add]; congr 1; omega
 clear hm hs
 go_enter Tryz.func266, Tryz.ntmps266
 go_wp2_with (at_make; refine wpList_make_full _ rfl _ _ 128 rfl w.heap.size 250 i0 (.int .u32 0) 1 Tryz.underlying128 hi hz0 hz1 _ _ _ _ m rfl rfl (by omega) (by omega) (by rw [hz2]; omega) (by unfold maxLen; omega) (Nat.le_refl _) ?_)
 intro u0 hown0 hgrow0
 have hb0 : Below w.heap.size w u0 := (Below.refl _ _).grown hgrow0 (Nat.le_refl _) (fun k h => by cases h)
 have hown1 : u0.ownsRow w.heap.size 250 1 (.slice (some ⟨w.heap.size, 0, none⟩) m m) m ((List.replicate m 0).map U) := by
  rw [← madeCells_zero]; exact hown0
 clear hown0 hgrow0; go_wp2
 go_loopw [5, 6, 7] (fun out c i wr => ∃ (k : Nat) (zs : List Nat) (cy : Nat), k ≤ xs.length ∧ i = .int .i64 k ∧ c = .int .u64 cy ∧ cy < 2 ^ s ∧ zs.length = m + k ∧ Lim zs ∧ V zs + 4294967296 ^ (m + k) * cy = 4294967296 ^ m * (V (xs.take k) * 2 ^ s) ∧ wr.ownsRow w.heap.size 250 1 out (m + k) (zs.map U) ∧ Below w.heap.size w wr) (fun _ _ i _ => xs.length - (intOf i).toNat)
 case atStart => exact ⟨0, List.replicate m 0, 0, Nat.zero_le _, rfl, rfl, Nat.pow_pos (by decide), by simp, fun x hx => by rw [List.eq_of_mem_replicate hx]; decide, by rw [V_zeros]; simp [V], hown1, hb0⟩
 case round =>
  obtain ⟨k, zs, cy, hk, rfl, rfl, hcy, hzl, lz, heq, hown, hnx⟩ := hrel
  have HE : Hid (V zs + 4294967296 ^ (m + k) * cy = 4294967296 ^ m * (V (xs.take k) * 2 ^ s)) := heq
  have HZ : Hid (zs.length = m + k) := hzl
  have hsz := hnx.size
  have hP1 : 2 ^ s ≤ 2 ^ 31 := Nat.pow_le_pow_right (by decide) (by omega)
  clear heq hzl
  by_cases hkn : k < xs.length
  · obtain ⟨bl, ol, rfl, _, hcl⟩ := fL.at hnx k hkn
    obtain ⟨x, hx⟩ : ∃ x, xs.getD k 0 = x := ⟨_, rfl⟩
    have bx : x < 4294967296 := by rw [← hx]; exact lL.getD k
    rw [hx] at hcl
    have HX : Hid (xs.getD k 0 = x) := hx
    obtain ⟨p, hp⟩ : ∃ p, x * 2 ^ s = p := ⟨_, rfl⟩
    have bp0 : p ≤ 4294967295 * 2 ^ s := by rw [← hp]; exact Nat.mul_le_mul_right _ (by omega)
    have bp : p ≤ 9223372034707292160 := by omega
    have hpi : (x : Int) * 2 ^ s = (p : Int) := by rw [← hp]; simp
    have hw1 : IntKind.u64.wrap (p : Int) = (p : Int) := by rw [wrap_u64_mod]; omega
    have hcy' : (cy + p) / 4294967296 < 2 ^ s := Nat.div_lt_of_lt_mul (by omega)
    have HP : Hid (x * 2 ^ s = p) := hp
    have bcy : cy < 2147483648 := by omega
    have HCY : Hid ((cy + p) / 4294967296 < 2 ^ s) := hcy'
    clear hx hp hP1 bp0 hcy hcy'
    go_wp2_with (at_builtin; refine wpList_append_one rfl _ _ 128 rfl w.heap.size 250 i0 Tryz.underlying128 hi hz0 hz1 hz2 _ (m + k) zs rfl (hown.alloc _) wr.heap.size ((cy + p) % 4294967296) rfl (cell_new1 _ _ _ _ (by omega)) (by omega) (by simp; omega) ?_)
    intro v' w1 hown1 hgrow1
    have hb1 : Below w.heap.size w w1 := (hnx.alloc hsz _).grown hgrow1 (by simp; omega) (fun k hk => (hown.lt k hk).1)
    clear hown; go_wp2
    go_roundw
    case rel =>
     exact ⟨k + 1, zs ++ [(cy + p) % 4294967296], (cy + p) / 4294967296, by omega, by go_num, by go_num, HCY.out, by simp [HZ.out]; omega, lz.snoc (by omega), up_step HZ.out HE.out HX.out HP.out, own_snoc hown1, hb1⟩
    case measure => simp [intOf]; omega
  · obtain rfl : k = xs.length := by omega
    have bcy : cy < 4294967296 := by omega
    clear hcy hP1
    go_wp2_with (at_builtin; refine wpList_append_one rfl _ _ 128 rfl w.heap.size 250 i0 Tryz.underlying128 hi hz0 hz1 hz2 _ _ zs rfl (hown.alloc _) wr.heap.size cy rfl (cell_new1 _ _ _ _ (by omega)) (by omega) (by simp; omega) ?_)
    intro v' w1 hown1 hgrow1
    have hb1 : Below w.heap.size w w1 := (hnx.alloc hsz _).grown hgrow1 (by simp; omega) (fun k hk => (hown.lt k hk).1)
    have o1 := own_snoc hown1
    have lts := lz.snoc bcy
    obtain ⟨ts, hts⟩ : ∃ ts, zs ++ [cy] = ts := ⟨_, rfl⟩
    have htl : ts.length ≤ 1000000000 := by rw [← hts]; simp [HZ.out]; omega
    rw [hts] at o1 lts
    have HT : Hid (zs ++ [cy] = ts) := hts
    obtain ⟨a', cap', rfl, hres⟩ := Res.of lts o1
    clear hown1 hown hts o1
    go_wp2_with fail
    refine (rtrim_any _ _ _ _ hres.rd htl).mono ?_
    rintro e w2 ⟨a2, c2, rfl, hr2, hb2⟩; go_wp2
    go_ret
    refine ⟨a2, c2, _, rfl, ?_, tr_strip _, hr2.mono hb1.size, hb1.trans (hb2.mono hb1.size)⟩
    have h1 := HE.out
    rw [List.take_length] at h1; rw [V_strip, ← HT.out, V_snoc, HZ.out, h1, HPW.out, Nat.mul_left_comm]
theorem rsub_any (a : Option Addr) (cap : Nat) (xs : List Nat) (b : Option Addr) (cbp : Nat) (ys : List Nat) (w : World) (ha : Rd w a cap xs) (hb : Rd w b cbp ys) (hla : xs.length ≤ 500000000) (hlb : ys.length ≤ 500000000) :
    Calls Tryz.prog 219 #[.slice a xs.length cap, .slice b ys.length cbp] w fun e w' =>
     ∃ a' cap' zs, e = .returned (.slice a' zs.length cap') ∧ V zs = V xs - V ys ∧ Tr zs ∧ Res 250 w.heap.size w' a' cap' zs ∧ Below w.heap.size w w' := by
 obtain ⟨i0, hi, hz0, hz1, hz2⟩ := info_parts info_limb
 by_cases hle : V xs ≤ V ys
 · have hc := cmpN_le hle
   go_enter Tryz.func219, Tryz.ntmps219
   go_wp2_with fail
   refine (rcmp_any _ _ _ _ _ _ _ ha hb).mono ?_
   rintro e w1 ⟨rfl, rfl⟩
   generalize cmpN (V xs) (V ys) = q at hc ⊢
   go_wp2
   go_ret
   refine ⟨none, 0, [], rfl, ?_, tr_nil, ⟨Lim.nil, World.ownsRow_nil _ _ _ _⟩, Below.refl _ _⟩
   show 0 = _; omega
 · have hc := cmpN_gt (Nat.lt_of_not_le hle)
   have HC : Hid (cmpN (V xs) (V ys) = 1) := hc
   have HV : Hid (V ys < V xs) := Nat.lt_of_not_le hle
   have lL := ha.lim
   have lS := hb.lim
   have fL := ha.fm
   have fS := hb.fm
   have q1 := ha.le
   have q2 := ha.cap
   unfold maxLen at q2
   clear hc
   go_enter Tryz.func219, Tryz.ntmps219
   go_wp2_with fail
   refine (rcmp_any _ _ _ _ _ _ _ ha hb).mono ?_
   rintro e w0 ⟨rfl, rfl⟩; rw [HC.out]; clear ha hb; go_wp2
   go_loopw [5, 6, 7] (fun out c i wr => ∃ (k : Nat) (zs : List Nat) (cy : Nat), k ≤ xs.length ∧ i = .int .i64 k ∧ c = .int .u64 cy ∧ cy ≤ 1 ∧ zs.length = k ∧ Lim zs ∧ V zs + V (ys.take k) = V (xs.take k) + 4294967296 ^ k * cy ∧ wr.ownsRow w.heap.size 250 1 out k (zs.map U) ∧ Below w.heap.size w wr) (fun _ _ i _ => xs.length - (intOf i).toNat)
   case atStart => exact ⟨0, [], 0, Nat.zero_le _, rfl, rfl, Nat.zero_le _, rfl, Lim.nil, by simp [V], World.ownsRow_nil _ _ _ _, Below.refl _ _⟩
   case round =>
    obtain ⟨k, zs, cy, hk, rfl, rfl, hcy, hzl, lz, heq, hown, hnx⟩ := hrel
    have HE : Hid (V zs + V (ys.take k) = V (xs.take k) + 4294967296 ^ k * cy) := heq
    have HZ : Hid (zs.length = k) := hzl
    have hsz := hnx.size
    clear heq hzl
    by_cases hkn : k < xs.length
    · obtain ⟨bl, ol, rfl, _, hcl⟩ := fL.at hnx k hkn
      obtain ⟨x, hx⟩ : ∃ x, xs.getD k 0 = x := ⟨_, rfl⟩
      obtain ⟨y, hy⟩ : ∃ y, ys.getD k 0 = y := ⟨_, rfl⟩
      have bx : x < 4294967296 := by rw [← hx]; exact lL.getD k
      have byy : y < 4294967296 := by rw [← hy]; exact lS.getD k
      rw [hx] at hcl
      have HX : Hid (xs.getD k 0 = x) := hx
      have HY : Hid (ys.getD k 0 = y) := hy
      clear hx hy
      by_cases hkm : k < ys.length
      · obtain ⟨bs, os, rfl, _, hcs⟩ := fS.at hnx k hkm
        rw [HY.out] at hcs
        go_wp2_with (at_builtin; refine wpList_append_one rfl _ _ 128 rfl w.heap.size 250 i0 Tryz.underlying128 hi hz0 hz1 hz2 _ k zs rfl (hown.alloc _) wr.heap.size ((x + 4294967296 - cy - y) % 4294967296) rfl (cell_new1 _ _ _ _ (by omega)) (by omega) (by simp; omega) ?_)
        intro v' w1 hown1 hgrow1
        have hb1 : Below w.heap.size w w1 := (hnx.alloc hsz _).grown hgrow1 (by simp; omega) (fun k hk => (hown.lt k hk).1)
        clear hown; go_wp2
        go_roundw
        case rel =>
         exact ⟨k + 1, zs ++ [(x + 4294967296 - cy - y) % 4294967296], 1 - (x + 4294967296 - cy - y) / 4294967296, by omega, by go_num, u64_eq (by omega), by omega, by simp [HZ.out], lz.snoc (by omega), sub_step HZ.out HE.out HX.out HY.out (by omega) hcy byy bx, own_snoc hown1, hb1⟩
        case measure => simp [intOf]; omega
      · have y0 : y = 0 := by rw [← HY.out]; exact getD_past _ _ (by omega)
        subst y0
        go_wp2_with (at_builtin; refine wpList_append_one rfl _ _ 128 rfl w.heap.size 250 i0 Tryz.underlying128 hi hz0 hz1 hz2 _ k zs rfl (hown.alloc _) wr.heap.size ((x + 4294967296 - cy) % 4294967296) rfl (cell_new1 _ _ _ _ (by omega)) (by omega) (by simp; omega) ?_)
        intro v' w1 hown1 hgrow1
        have hb1 : Below w.heap.size w w1 := (hnx.alloc hsz _).grown hgrow1 (by simp; omega) (fun k hk => (hown.lt k hk).1)
        clear hown; go_wp2
        go_roundw
        case rel =>
         exact ⟨k + 1, zs ++ [(x + 4294967296 - cy) % 4294967296], 1 - (x + 4294967296 - cy) / 4294967296, by omega, by go_num, u64_eq (by omega), by omega, by simp [HZ.out], lz.snoc (by omega), sub_step HZ.out HE.out HX.out HY.out (by omega) hcy byy bx, own_snoc hown1, hb1⟩
        case measure => simp [intOf]; omega
    · obtain rfl : k = xs.length := by omega
      obtain ⟨a', cap', rfl, hres⟩ := Res.of lz hown
      clear hown
      go_wp2_with fail
      refine (rtrim_any _ _ _ _ hres.rd (by rw [HZ.out]; omega)).mono ?_
      rintro e w2 ⟨a2, c2, rfl, hr2, hb2⟩; go_wp2
      go_ret
      refine ⟨a2, c2, _, rfl, ?_, tr_strip _, hr2.mono hsz, hnx.trans (hb2.mono hsz)⟩
      rw [V_strip]
      exact sub_end lz HZ.out HE.out lL HV.out
end Go.Proofs.YtkmcodofnckdmaaGreat
