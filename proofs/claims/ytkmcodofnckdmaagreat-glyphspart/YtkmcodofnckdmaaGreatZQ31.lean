/-
  foundryref14.Few, foundrylaw14.few, foundrylaw14.awake: the walks.
  foundrylaw10.little, foundrylaw10.awake, foundryref10.Few: the walks.
  foundryref15.Few, SameContours, foundrylaw15.few, small: the walks.
  glyphs.Formed: the walk.
-/
import Derived.Test.YtkmcodofnckdmaaGreatZQ24
import Derived.Test.YtkmcodofnckdmaaGreatZQ30
import Derived.Test.YtkmcodofnckdmaaGreatZQ27
import Derived.Deep.CutBlock
import Derived.Deep.CutRange
import Derived.Test.YtkmcodofnckdmaaGreatZQ29
import Derived.Test.YtkmcodofnckdmaaGreatZQ23
set_option maxHeartbeats 4000000
set_option maxRecDepth 100000
set_option linter.unusedSimpArgs false
set_option linter.unusedVariables false
namespace Go.Proofs.YtkmcodofnckdmaaGreat
open Go.RowKit Go.Maps
theorem wrapU {z : Int} (h1 : -9223372036854775808 ≤ z) (h2 : z ≤ 9223372036854775807) : IntKind.i64.wrap z = z := by
 unfold IntKind.wrap
 simp [IntKind.bits, IntKind.signed]
 omega
def szT (t : Tu) : Nat := 1 + t.rg.length + t.pts.length + t.dx.length + t.dy.length
def totT (l : List Tu) : Nat := (l.map szT).sum
def fewT (l : List Tu) : Bool := decide (totT l ≤ 3000) && decide (l.length ≤ 30)
theorem totT_take {l : List Tu} {k : Nat} (hk : k < l.length) : totT (l.take (k + 1)) = totT (l.take k) + szT (l.getD k Tu.none) := by
 unfold totT
 rw [take_snoc (d := Tu.none) hk, List.map_append, List.sum_append]
 simp
theorem totT_le (l : List Tu) (k : Nat) : totT (l.take k) ≤ totT l := by
 have h : totT l = totT (l.take k) + totT (l.drop k) := by
  unfold totT
  rw [← List.sum_append, ← List.map_append, List.take_append_drop]
 omega
theorem fewT_of {l : List Tu} (h : fewT l = true) : l.length ≤ 30 ∧ totT l ≤ 3000 := by
 unfold fewT at h
 rw [Bool.and_eq_true, decide_eq_true_iff, decide_eq_true_iff] at h
 exact ⟨h.2, h.1⟩
theorem sfewT_any (S : Nat → Prop) (a : Option Addr) (ca : Nat) (l : List Tu) (w : World) (hl : Gr TuE S w a ca l) :
    Calls Tryz.prog 64 #[.slice a l.length ca] w fun e w' => e = .returned (.bool (fewT l)) ∧ Below w.heap.size w w' := by
 have k1 := hl.lenB
 have HC : Hid (Gr TuE S w a ca l) := hl
 have HF : Hid (fewT l = (decide (totT l ≤ 3000) && decide (l.length ≤ 30))) := rfl
 clear hl
 generalize fewT l = fb at *
 go_enter Tryz.func64, Tryz.ntmps64
 go_wp2
 go_loopw [3, 4] (fun nv i wr => ∃ k n : Nat, k ≤ l.length ∧ i = .int .i64 k ∧ nv = .int .i64 (n : Int) ∧ n = totT (l.take k) ∧ n ≤ 562949953425001 ∧ Below w.heap.size w wr) (fun _ i _ => l.length - (intOf i).toNat)
 case atStart => exact ⟨0, 0, Nat.zero_le _, rfl, rfl, rfl, by omega, Below.refl _ _⟩
 case round =>
  obtain ⟨k, n, hk, rfl, rfl, hn, hnb, hB⟩ := hrel
  have HN : Hid (n = totT (l.take k)) := hn
  have HB : Hid (Below w.heap.size w wr) := hB
  clear hn
  by_cases hgo : k < l.length ∧ n ≤ 3000
  · obtain ⟨hkn, hn1⟩ := hgo
    obtain ⟨b0, off, ra, rc, pa, pc, xa, xc, ya, yc, ea, hb, ht, d0, d1, d2, d3, d4⟩ := HC.out.tu hB k hkn
    subst ea
    have hst := totT_take hkn
    rw [← HN.out] at hst; obtain ⟨l1, l2, l3, l4⟩ := ht.len
    obtain ⟨t, htt⟩ : ∃ t, l.getD k Tu.none = t := ⟨_, rfl⟩
    rw [htt] at d0 d1 d2 d3 d4 hst l1 l2 l3 l4
    unfold szT at hst
    generalize t.rg.length = r at *
    generalize t.pts.length = p at *
    generalize t.dx.length = x at *
    generalize t.dy.length = y at *
    have HN2 : Hid (n + (1 + r + p + x + y) = totT (l.take (k + 1))) := hst.symm
    have g1 : decide (k < l.length) = true := decide_eq_true hkn
    have g2 : decide ((n : Int) ≤ 3000) = true := decide_eq_true (by omega)
    have i1 : (0 : Int) ≤ (k : Int) := by omega
    have i2 : (k : Int) < (l.length : Int) := by omega
    have w1 : IntKind.i64.wrap (1 + (r : Int)) = 1 + (r : Int) := wrapU (by omega) (by omega)
    have w2 : IntKind.i64.wrap (1 + (r : Int) + (p : Int)) = 1 + (r : Int) + (p : Int) := wrapU (by omega) (by omega)
    have w3 : IntKind.i64.wrap (1 + (r : Int) + (p : Int) + (x : Int)) = 1 + (r : Int) + (p : Int) + (x : Int) := wrapU (by omega) (by omega)
    have w4 : IntKind.i64.wrap (1 + (r : Int) + (p : Int) + (x : Int) + (y : Int)) = 1 + (r : Int) + (p : Int) + (x : Int) + (y : Int) := wrapU (by omega) (by omega)
    have w5 : IntKind.i64.wrap ((n : Int) + (1 + (r : Int) + (p : Int) + (x : Int) + (y : Int))) = (n : Int) + (1 + (r : Int) + (p : Int) + (x : Int) + (y : Int)) := wrapU (by omega) (by omega)
    clear hst htt ht HN hB
    go_upto_region 5 with fail
    refine wp_region_held_drew (S := fun w9 => w9.cell? ⟨b0, off + k * 5, none⟩ = some (.slice ra r rc) ∧ w9.cell? ⟨b0, off + k * 5 + 2, none⟩ = some (.slice pa p pc) ∧ w9.cell? ⟨b0, off + k * 5 + 3, none⟩ = some (.slice xa x xc) ∧ w9.cell? ⟨b0, off + k * 5 + 4, none⟩ = some (.slice ya y yc)) (by kernel_rfl) ?_ (fun hHeld => ?_)
    · (try dsimp only)
      go_keep
    have hdr : Below wr.heap.size wr wr.drew := Below.drew1
    generalize wr.drew = Z at hdr hHeld ⊢
    clear d0 d1 d2 d3 d4; refine hT 0 hHeld ?_; refine hT 1 hHeld ?_; refine hT 2 hHeld ?_; refine hT 3 hHeld ?_; refine hT 4 hHeld ?_; refine hT 5 hHeld ?_; refine hT 6 hHeld ?_; refine hT 7 hHeld ?_; refine hT 8 hHeld ?_; refine hT 9 hHeld ?_; refine hT 10 hHeld ?_; refine hT 11 hHeld ?_; refine hT 12 hHeld ?_
    refine hT 13 hHeld ?_; refine hT 14 hHeld ?_; refine hT 15 hHeld ?_; refine hT 16 hHeld ?_; refine hT 17 hHeld ?_; refine hT 18 hHeld ?_; refine hT 19 hHeld ?_; refine hT 20 hHeld ?_; refine hT 21 hHeld ?_; refine hT 22 hHeld ?_; refine hT 23 hHeld ?_; refine hT 24 hHeld ?_; refine hT 25 hHeld ?_
    refine hT 26 hHeld ?_; refine hT 27 hHeld ?_; refine hT 28 hHeld ?_; refine hT 29 hHeld ?_; refine hT 30 hHeld ?_
    refine wpAnyH_done (by kernel_rfl) ?_ _
    have HB2 : Hid (Below w.heap.size w Z) := HB.out.trans (hdr.mono HB.out.size)
    clear hHeld hdr; go_wp2
    go_roundw
    case rel => exact ⟨k + 1, n + (1 + r + p + x + y), by omega, by go_num, by exact congrArg (Value.int .i64) (by omega), HN2.out, by omega, HB2.out⟩
    case measure => simp [intOf]; omega
  · have hle := totT_le l k
    have HFF : Hid (fb = (decide ((n : Int) ≤ 3000) && decide ((l.length : Int) ≤ 30))) := by
     show _ = _
     rw [HF.out]
     have h1 : decide (totT l ≤ 3000) = decide ((n : Int) ≤ 3000) := by
      rw [decide_eq_decide]
      by_cases hkk : k < l.length
      · rw [← HN.out] at hle
        omega
      · have : l.take k = l := List.take_of_length_le (by omega)
        have h2 := HN.out
        rw [this] at h2
        omega
     have h2 : decide (l.length ≤ 30) = decide ((l.length : Int) ≤ 30) := by
      rw [decide_eq_decide]
      omega
     rw [h1, h2]
    clear HN hle
    by_cases hkn : k < l.length
    · have g1 : decide (k < l.length) = true := decide_eq_true hkn
      have g2 : decide ((n : Int) ≤ 3000) = false := decide_eq_false (by omega)
      rw [g2, Bool.false_and] at HFF; go_wp2
      go_ret
      exact ⟨rt_bool HFF.out.symm, hB⟩
    · have g1 : decide (k < l.length) = false := decide_eq_false hkn
      by_cases hn1 : n ≤ 3000
      · have g2 : decide ((n : Int) ≤ 3000) = true := decide_eq_true (by omega)
        rw [g2, Bool.true_and] at HFF; go_wp2
        go_ret
        exact ⟨rt_bool HFF.out.symm, hB⟩
      · have g2 : decide ((n : Int) ≤ 3000) = false := decide_eq_false (by omega)
        rw [g2, Bool.false_and] at HFF; go_wp2
        go_ret
        exact ⟨rt_bool HFF.out.symm, hB⟩
theorem i64_wrap64 (z : Int) : I64 (wrap64 z) := by
 unfold I64 wrap64
 omega
theorem few10_any (a : Option Addr) (ca : Nat) (b : Option Addr) (cb : Nat) (s : Sr) (w : World) (hg : Tzz w a ca s.rg) (hm : Rii w b cb s.rw) :
    Calls Tryz.prog 30 #[.agg #[.slice a s.rg.length ca, .slice b s.rw.length cb]] w fun e w' => ∃ q : Bool, e = .returned (.bool q) ∧ (q = true → s.rg.length ≤ 20 ∧ ∀ l ∈ s.rg, l.length ≤ 8) ∧ Below w.heap.size w w' := by
 have k1 := hg.lenB
 have k2 := hm.lenB
 have HG : Hid (Tzz w a ca s.rg) := hg
 have HM : Hid (Rii w b cb s.rw) := hm
 clear hg hm
 obtain ⟨W, hW, X1, hbW⟩ : ∃ W, W = w.alloc (.cells #[.slice a s.rg.length ca, .slice b s.rw.length cb] 26) ∧ BxS W w.heap.size (.slice a s.rg.length ca) (.slice b s.rw.length cb) ∧ Below w.heap.size w W := ⟨_, rfl, BxS.new _ _ _, bl1 _⟩
 go_enter Tryz.func30, Tryz.ntmps30
 go_upto_block 0 with fail
 rw [← hW]; clear hW
 go_cut [3] from 4 to 26 (fun v wr => ∃ z : Int, v = .int .i64 z ∧ I64 z ∧ BxS wr w.heap.size (.slice a s.rg.length ca) (.slice b s.rw.length cb) ∧ Below w.heap.size w wr)
 case first =>
  go_wp2_with fail
  go_loopw [3, 4] (fun v i wr => ∃ (k : Nat) (z : Int), k ≤ s.rg.length ∧ v = .int .i64 z ∧ I64 z ∧ i = .int .i64 k ∧ BxS wr w.heap.size (.slice a s.rg.length ca) (.slice b s.rw.length cb) ∧ Below w.heap.size w wr) (fun _ i _ => s.rg.length - (intOf i).toNat)
  case atStart => exact ⟨0, 0, Nat.zero_le _, rfl, ⟨by decide, by decide⟩, rfl, X1, hbW⟩
  case round =>
   clear X1 hbW; obtain ⟨k, z, hk, rfl, hz, rfl, X1, hbW⟩ := hrel; obtain ⟨p0, p1, _⟩ := X1.cells
   by_cases hkn : k < s.rg.length
   · have g1 : decide ((k : Int) < (s.rg.length : Int)) = true := decide_eq_true (by omega)
     by_cases hz2 : z ≤ 2000
     · have g2 : decide (z ≤ 2000) = true := decide_eq_true hz2
       obtain ⟨b1, o1, a1, c1, ea, _, d0, hp⟩ := HG.out.at hbW k hkn
       have hpl := hp.lenB
       generalize (s.rg.getD k []).length = n1 at *
       subst ea; clear hp hkn
       have i1 : (0 : Int) ≤ (k : Int) := by omega
       have i2 : (k : Int) < (s.rg.length : Int) := of_decide_eq_true g1
       have HZ : Hid (∀ y : Int, I64 (wrap64 y)) := i64_wrap64
       go_wp2_with fail
       go_roundw
       case rel => exact ⟨k + 1, _, by omega, rfl, HZ.out _, by go_num, X1, hbW⟩
       case measure => simp [intOf]; omega
     · have g2 : decide (z ≤ 2000) = false := decide_eq_false hz2
       have i2 : (k : Int) < (s.rg.length : Int) := by omega
       clear hkn
       go_wp2_with fail
       go_meet
       exact ⟨z, rfl, hz, X1, hbW⟩
   · have g1 : decide ((k : Int) < (s.rg.length : Int)) = false := decide_eq_false (by omega)
     have i2 : ¬ (k : Int) < (s.rg.length : Int) := by omega
     clear hkn
     go_wp2_with fail
     go_meet
     exact ⟨z, rfl, hz, X1, hbW⟩
 case rest =>
  clear X1 hbW; obtain ⟨z0, rfl, hzz0, X1, hbW⟩ := hcut
  go_upto_block 2 with fail
  go_cut [3] from 4 to 46 (fun v wr => ∃ z : Int, v = .int .i64 z ∧ I64 z ∧ BxS wr w.heap.size (.slice a s.rg.length ca) (.slice b s.rw.length cb) ∧ Below w.heap.size w wr)
  case first =>
   go_wp2_with fail
   go_loopw [3, 5] (fun v i wr => ∃ (k : Nat) (z : Int), k ≤ s.rw.length ∧ v = .int .i64 z ∧ I64 z ∧ i = .int .i64 k ∧ BxS wr w.heap.size (.slice a s.rg.length ca) (.slice b s.rw.length cb) ∧ Below w.heap.size w wr) (fun _ i _ => s.rw.length - (intOf i).toNat)
   case atStart => exact ⟨0, z0, Nat.zero_le _, rfl, hzz0, rfl, X1, hbW⟩
   case round =>
    clear X1 hbW; obtain ⟨k, z, hk, rfl, hz, rfl, X1, hbW⟩ := hrel; obtain ⟨p0, p1, _⟩ := X1.cells
    by_cases hkn : k < s.rw.length
    · have g1 : decide ((k : Int) < (s.rw.length : Int)) = true := decide_eq_true (by omega)
      by_cases hz2 : z ≤ 2000
      · have g2 : decide (z ≤ 2000) = true := decide_eq_true hz2
        obtain ⟨b1, o1, a1, c1, ea, _, d0, hp⟩ := HM.out.at hbW k hkn
        have hpl := hp.lenB
        generalize (s.rw.getD k []).length = n1 at *
        subst ea; clear hp hkn
        have i1 : (0 : Int) ≤ (k : Int) := by omega
        have i2 : (k : Int) < (s.rw.length : Int) := of_decide_eq_true g1
        have HZ : Hid (∀ y : Int, I64 (wrap64 y)) := i64_wrap64
        go_wp2_with fail
        go_roundw
        case rel => exact ⟨k + 1, _, by omega, rfl, HZ.out _, by go_num, X1, hbW⟩
        case measure => simp [intOf]; omega
      · have g2 : decide (z ≤ 2000) = false := decide_eq_false hz2
        have i2 : (k : Int) < (s.rw.length : Int) := by omega
        clear hkn
        go_wp2_with fail
        go_meet
        exact ⟨z, rfl, hz, X1, hbW⟩
    · have g1 : decide ((k : Int) < (s.rw.length : Int)) = false := decide_eq_false (by omega)
      have i2 : ¬ (k : Int) < (s.rw.length : Int) := by omega
      clear hkn
      go_wp2_with fail
      go_meet
      exact ⟨z, rfl, hz, X1, hbW⟩
  case rest =>
   clear X1 hbW hzz0; obtain ⟨z1, rfl, hzz1, X1, hbW⟩ := hcut
   go_wp2_with fail
   go_loopw [6] (fun i wr => ∃ k : Nat, k ≤ s.rg.length ∧ i = .int .i64 k ∧ (∀ j, j < k → (s.rg.getD j []).length ≤ 8) ∧ BxS wr w.heap.size (.slice a s.rg.length ca) (.slice b s.rw.length cb) ∧ Below w.heap.size w wr) (fun i _ => s.rg.length - (intOf i).toNat)
   case atStart => exact ⟨0, Nat.zero_le _, rfl, (fun j hj => by omega), X1, hbW⟩
   case round =>
    clear X1 hbW; obtain ⟨k, hk, rfl, hok, X1, hbW⟩ := hrel
    have HOK : Hid (∀ j, j < k → (s.rg.getD j []).length ≤ 8) := hok
    clear hok; obtain ⟨p0, p1, _⟩ := X1.cells
    by_cases hkn : k < s.rg.length
    · obtain ⟨b1, o1, a1, c1, ea, _, d0, hp⟩ := HG.out.at hbW k hkn
      have hpl := hp.lenB
      obtain ⟨n1, hn1⟩ : ∃ n1, (s.rg.getD k []).length = n1 := ⟨_, rfl⟩
      have HN : Hid ((s.rg.getD k []).length = n1) := hn1
      rw [hn1] at d0 hpl; subst ea; clear hp hn1
      by_cases h8 : 8 < n1
      · have g3 : (8 : Int) < (n1 : Int) := by omega
        go_wp2
        go_ret
        exact ⟨false, rfl, (fun h => by cases h), hbW⟩
      · have g3 : ¬ (8 : Int) < (n1 : Int) := by omega
        have HOK2 : Hid (∀ j, j < k + 1 → (s.rg.getD j []).length ≤ 8) := fun j hj => by
         rcases Nat.lt_or_ge j k with h1 | h1
         · exact HOK.out j h1
         · rw [show j = k by omega, HN.out]; omega
        go_wp2
        go_roundw
        case rel => exact ⟨k + 1, by omega, by go_num, HOK2.out, X1, hbW⟩
        case measure => simp [intOf]; omega
    · obtain rfl : k = s.rg.length := by omega
      have HA : Hid (∀ l ∈ s.rg, l.length ≤ 8) := fun l hl => by
       obtain ⟨i, hi, e⟩ := List.getElem_of_mem hl
       have := HOK.out i hi
       rw [getL hi, e] at this
       exact this
      by_cases hz2 : z1 ≤ 2000
      · have g2 : decide (z1 ≤ 2000) = true := decide_eq_true hz2
        go_wp2
        go_ret
        exact ⟨_, rfl, (fun h => ⟨by have := of_decide_eq_true h; omega, HA.out⟩), hbW⟩
      · have g2 : decide (z1 ≤ 2000) = false := decide_eq_false hz2
        go_wp2
        exact bodyPost_ret (v := .bool false) (by simp [results, Tryz.results30, go_sem]) rfl (by first | exact ⟨false, rfl, (fun h => by cases h), hbW⟩ | exact .inl ⟨rfl, hbW⟩)
structure BoolOf (P : Prop) (e : Ending) : Prop where
 out : ∃ q : Bool, e = .returned (.bool q) ∧ (q = true → P)
def FewG (l : List Gl) : Prop := l.length ≤ 40 ∧ ∀ x ∈ l, x.o.cs.flatten.length ≤ 1000 ∧ x.o.ps.length ≤ 12
theorem FewG.ps {l : List Gl} (h : FewG l) : ∀ x ∈ l, x.o.ps.length ≤ 12 := fun x hx => (h.2 x hx).2
theorem FewG.pt {l : List Gl} (h : FewG l) : ∀ x ∈ l, x.o.cs.flatten.length ≤ 100000 := fun x hx => Nat.le_trans (h.2 x hx).1 (by decide)
theorem FewG.n {l : List Gl} (h : FewG l) : l.length ≤ 1000 := Nat.le_trans h.1 (by decide)
theorem sfewG_any (S : Nat → Prop) (a : Option Addr) (ca : Nat) (l : List Gl) (w : World) (hl : Gr GlE S w a ca l) :
    Calls Tryz.prog 29 #[.slice a l.length ca] w fun e w' => BoolOf (FewG l) e ∧ Below w.heap.size w w' := by
 have kl := hl.lenB
 have HL : Hid (Gr GlE S w a ca l) := hl
 clear hl
 by_cases hn : 40 < l.length
 · have g1 : (40 : Int) < (l.length : Int) := by omega
   go_enter Tryz.func29, Tryz.ntmps29
   go_wp2
   go_ret
   exact ⟨⟨⟨false, rfl, (fun h => by cases h)⟩⟩, Below.refl _ _⟩
 have g1 : ¬ (40 : Int) < (l.length : Int) := by omega
 go_enter Tryz.func29, Tryz.ntmps29
 go_wp2; clear g1
 go_loopw [3, 4] (fun nv i wr => ∃ (k : Nat) (z : Int), k ≤ l.length ∧ i = .int .i64 k ∧ nv = .int .i64 z ∧ Hid (∀ j, j < k → (l.getD j Gl.none).o.cs.flatten.length ≤ 1000 ∧ (l.getD j Gl.none).o.ps.length ≤ 12) ∧ Below w.heap.size w wr) (fun _ i _ => l.length - (intOf i).toNat)
 case atStart => exact ⟨0, 0, Nat.zero_le _, rfl, rfl, (fun j hj => by omega), Below.refl _ _⟩
 case round =>
  obtain ⟨k, z, hk, rfl, rfl, HOK, hB⟩ := hrel
  by_cases hkn : k < l.length
  · obtain ⟨b1, off, xa, xc, pa, pc, ta, tc, ea, hb1, hGC, c0, c1, c2, -⟩ := HL.out.gl hB k hkn
    subst ea
    obtain ⟨x, hx⟩ : ∃ x, l.getD k Gl.none = x := ⟨_, rfl⟩
    have HX : Hid (l.getD k Gl.none = x) := hx
    rw [hx] at hGC c0 c1 c2
    have i1 : (0 : Int) ≤ (k : Int) := by omega
    have i2 : (k : Int) < (l.length : Int) := by omega
    have kcs := hGC.cs.lenB
    have kps := hGC.ps.lenB
    have kts := hGC.ts.lenB
    have hb1w : b1 < wr.heap.size := Nat.lt_of_lt_of_le hb1 hB.size
    have h1 := sfewO_any S xa xc pa pc x.o wr hGC.cs hGC.ps
    have h2 := fun U (hU : Below wr.heap.size wr U) => sfewT_any S ta tc x.ts U (hGC.below hU).ts
    have h3 := fun U (hU : Below wr.heap.size wr U) (hf : x.o.cs.flatten.length ≤ 100000) => spointsO_any S xa xc (.slice pa x.o.ps.length pc) x.o.cs U (hGC.below hU).cs hf rfl
    clear hx hGC
    cases hf1 : fewB x.o with
    | false =>
     rw [hf1] at h1; clear hf1 h2 h3
     go_wp2_with fail
     refine h1.mono ?_
     rintro e u1 ⟨rfl, hb⟩
     replace hB := hB.trans (hb.mono hB.size)
     clear h1 hb; go_wp2
     go_ret
     exact ⟨⟨⟨false, rfl, (fun h => by cases h)⟩⟩, hB⟩
    | true =>
    rw [hf1] at h1
    have hf9 := (fewB_of hf1).2.1
    clear hf1
    go_wp2_with fail
    refine h1.mono ?_
    rintro e u1 ⟨rfl, hb⟩; clear h1
    replace c0 := (hb.cell (p := ⟨b1, off + k * 6, none⟩) hb1w).trans c0
    replace c1 := (hb.cell (p := ⟨b1, off + k * 6 + 1, none⟩) hb1w).trans c1
    replace c2 := (hb.cell (p := ⟨b1, off + k * 6 + 2, none⟩) hb1w).trans c2
    have hB1 := hB.trans (hb.mono hB.size)
    have h2' := h2 _ hb
    cases hf2 : fewT x.ts with
    | false =>
     rw [hf2] at h2'; clear hf2 h2 h3 hb
     go_wp2_with fail
     refine h2'.mono ?_
     rintro e u2 ⟨rfl, hb⟩
     replace hB1 := hB1.trans (hb.mono hB1.size)
     clear h2' hb; go_wp2
     go_ret
     exact ⟨⟨⟨false, rfl, (fun h => by cases h)⟩⟩, hB1⟩
    | true =>
    rw [hf2] at h2'
    have htn := (fewT_of hf2).1
    clear hf2 h2
    go_wp2_with fail
    refine h2'.mono ?_
    rintro e u2 ⟨rfl, hb2⟩
    have hus := hb.size
    replace c0 := (hb2.cell (p := ⟨b1, off + k * 6, none⟩) (by show b1 < _; omega)).trans c0
    replace c1 := (hb2.cell (p := ⟨b1, off + k * 6 + 1, none⟩) (by show b1 < _; omega)).trans c1
    replace c2 := (hb2.cell (p := ⟨b1, off + k * 6 + 2, none⟩) (by show b1 < _; omega)).trans c2
    have hB2 := hB1.trans (hb2.mono hB1.size)
    have hb3 := hb.trans (hb2.mono hb.size)
    have hus2 := hb2.size
    clear h2' hb hb2 hB1 hB
    by_cases hp : 12 < x.o.ps.length
    · have g2 : decide ((12 : Int) < (x.o.ps.length : Int)) = true := decide_eq_true (by omega)
      have g3 : (12 : Int) < (x.o.ps.length : Int) := by omega
      clear h3 hb3; go_wp2
      go_ret
      exact ⟨⟨⟨false, rfl, (fun h => by cases h)⟩⟩, hB2⟩
    have g2 : decide ((12 : Int) < (x.o.ps.length : Int)) = false := decide_eq_false (by omega)
    have HOK2 : Hid (∀ j, j < k + 1 → (l.getD j Gl.none).o.cs.flatten.length ≤ 1000 ∧ (l.getD j Gl.none).o.ps.length ≤ 12) := fun j hj => by
     rcases Nat.lt_or_ge j k with h1 | h1
     · exact HOK.out j h1
     · rw [show j = k by omega, HX.out]; exact ⟨hf9, by omega⟩
    have hpo := fun U hU => h3 U (hb3.trans (Below.mono hU hb3.size)) (by omega)
    clear h3 HOK HX
    go_upto_region 9 with fail
    refine wp_region_held_drew (S := fun w9 => w9.cell? ⟨b1, off + k * 6, none⟩ = some (.slice xa x.o.cs.length xc) ∧ w9.cell? ⟨b1, off + k * 6 + 1, none⟩ = some (.slice pa x.o.ps.length pc) ∧ w9.cell? ⟨b1, off + k * 6 + 2, none⟩ = some (.slice ta x.ts.length tc)) (by kernel_rfl) ?_ (fun hHeld => ?_)
    · (try dsimp only)
      go_keep
    have hdr : Below u2.heap.size u2 u2.drew := Below.drew1
    have hpo2 := hpo _ hdr
    generalize u2.drew = Z at hdr hHeld hpo2 ⊢
    replace c0 := (hdr.cell (p := ⟨b1, off + k * 6, none⟩) (by show b1 < _; omega)).trans c0
    replace c1 := (hdr.cell (p := ⟨b1, off + k * 6 + 1, none⟩) (by show b1 < _; omega)).trans c1
    replace c2 := (hdr.cell (p := ⟨b1, off + k * 6 + 2, none⟩) (by show b1 < _; omega)).trans c2
    replace hB2 := hB2.trans (hdr.mono hB2.size)
    have hzs := hdr.size
    clear hdr hpo hb3; refine hT 0 hHeld ?_; refine hT 1 hHeld ?_; refine hT 2 hHeld ?_; refine hT 3 hHeld ?_; refine hT 4 hHeld ?_; refine hT 5 hHeld ?_; refine hT 8 hHeld ?_; refine hT 9 hHeld ?_; refine hT 10 hHeld ?_; refine hT 11 hHeld ?_; refine hT 12 hHeld ?_; refine hT 13 hHeld ?_; refine hT 14 hHeld ?_
    refine hCall (i := 6) rfl (by kernel_rfl) (by rfl) (fun K hK => ?_)
    go_simp
    refine hpo2.mono ?_
    rintro e u3 ⟨a8, c8, rfl, -, -, hb⟩
    replace c0 := (hb.cell (p := ⟨b1, off + k * 6, none⟩) (by show b1 < _; omega)).trans c0
    replace c1 := (hb.cell (p := ⟨b1, off + k * 6 + 1, none⟩) (by show b1 < _; omega)).trans c1
    replace c2 := (hb.cell (p := ⟨b1, off + k * 6 + 2, none⟩) (by show b1 < _; omega)).trans c2
    replace hB2 := hB2.trans (hb.mono hB2.size)
    clear hb hpo2
    go_wp2_with fail
    refine hK.out _ _ ?_ (fun hHeld => ?_)
    · (try dsimp only)
      exact ⟨c0, c1, c2⟩
    clear hK K
    try simp only [Act.put, pZ]
    refine hT 7 hHeld ?_; refine hT 15 hHeld ?_; refine hT 16 hHeld ?_; refine hT 17 hHeld ?_
    refine wpAnyH_done (by kernel_rfl) ?_ _
    clear hHeld c0 c1 c2; go_wp2
    go_roundw
    case rel => exact ⟨k + 1, _, by omega, by go_num, rfl, HOK2, hB2⟩
    case measure => simp [intOf]; omega
  · have ek : k = l.length := by omega
    have g4 : ¬ (k : Int) < (l.length : Int) := by omega
    have HF : Hid (FewG l) := ⟨by omega, of_get (d := Gl.none) (fun j hj => HOK.out j (by omega))⟩
    clear HOK; go_wp2
    go_ret
    exact ⟨⟨⟨_, rfl, fun _ => HF.out⟩⟩, hB⟩
theorem ssameC_any (S S2 : Nat → Prop) (a : Option Addr) (ca : Nat) (b : Option Addr) (cb : Nat) (cs : List (List Pn)) (w : World) (ha : Gr PnE.row S w a ca cs) (hb : Gr PnE.row S2 w b cb cs) :
    Calls Tryz.prog 20 #[.slice a cs.length ca, .slice b cs.length cb] w fun e w' => e = .returned (.bool true) ∧ Below w.heap.size w w' := by
 have h := ssameO_any S S2 a ca none 0 b cb none 0 ⟨cs, []⟩ w ha (Gr.nil _ _ _ _ _ (Nat.zero_le _) (fun _ => rfl)) hb (Gr.nil _ _ _ _ _ (Nat.zero_le _) (fun _ => rfl))
 go_enter Tryz.func20, Tryz.ntmps20
 go_wp2_with fail
 refine h.mono ?_
 rintro e u ⟨rfl, hb⟩; clear h; go_wp2
 go_ret
 exact ⟨rfl, hb⟩
theorem few15_any (S : Nat → Prop) (a : Option Addr) (ca : Nat) (l : List Gl) (ga : Option Addr) (gc : Nat) (ma : Option Addr) (mc : Nat) (s : Sr) (ax : Int) (pa : Option Addr) (pn pc : Nat) (w : World) (hl : Gr GlE S w a ca l) (hg : Tzz w ga gc s.rg) (hm : Rii w ma mc s.rw) (hpn : pn ≤ 9223372036854775807) :
    Calls Tryz.prog 10 #[.agg #[.slice a l.length ca, .slice ga s.rg.length gc, .slice ma s.rw.length mc, .int .i64 ax], .slice pa pn pc] w fun e w' => BoolOf (FewG l ∧ s.rg.length ≤ 20 ∧ (∀ l ∈ s.rg, l.length ≤ 8) ∧ pn ≤ 20) e ∧ Below w.heap.size w w' := by
 obtain ⟨W, hW, X1, hbW⟩ : ∃ W, W = w.alloc (.cells #[.slice a l.length ca, .slice ga s.rg.length gc, .slice ma s.rw.length mc, .int .i64 ax] 28) ∧ Bk 28 W w.heap.size [.slice a l.length ca, .slice ga s.rg.length gc, .slice ma s.rw.length mc, .int .i64 ax] ∧ Below w.heap.size w W := ⟨_, rfl, Bk.new _ _ _, bl1 _⟩
 obtain ⟨p0, p1, p2, p3, _⟩ := X1.four
 have c1 := sfewG_any S a ca l W (hl.below hbW)
 have c2 := fun U (hb : Below W.heap.size W U) => few10_any ga gc ma mc s U ((hg.below hbW).below hb) ((hm.below hbW).below hb)
 clear hl hg hm
 go_enter Tryz.func10, Tryz.ntmps10
 go_upto_region 1 with fail
 rw [← hW]; clear hW
 go_wp2_with fail
 refine c1.mono ?_
 rintro e m1 ⟨⟨⟨q1, rfl, HF1⟩⟩, hb1⟩
 replace HF1 : Hid (q1 = true → FewG l) := HF1
 replace X1 := X1.below hb1; clear p0 p1 p2 p3 c1; obtain ⟨p0, p1, p2, p3, _⟩ := X1.four
 cases q1 with
 | false =>
  have hfin := hbW.trans (hb1.mono hbW.size)
  clear c2; go_wp2
  go_ret
  exact ⟨⟨⟨false, rfl, (fun h => by cases h)⟩⟩, hfin⟩
 | true =>
 have HG1 : Hid (FewG l) := HF1.out rfl
 clear HF1
 go_wp2_with fail
 refine (c2 _ hb1).mono ?_
 rintro e m2 ⟨q2, rfl, HF2, hb2⟩
 replace HF2 : Hid (q2 = true → s.rg.length ≤ 20 ∧ ∀ l ∈ s.rg, l.length ≤ 8) := HF2
 have hfin := (hbW.trans (hb1.mono hbW.size)).trans (hb2.mono (Nat.le_trans hbW.size hb1.size))
 clear c2 hb1 hb2
 cases q2 with
 | false =>
  go_wp2
  go_ret
  exact ⟨⟨⟨false, rfl, (fun h => by cases h)⟩⟩, hfin⟩
 | true =>
 have HG2 : Hid (s.rg.length ≤ 20 ∧ ∀ l ∈ s.rg, l.length ≤ 8) := HF2.out rfl
 clear HF2
 have HP : Hid ((decide ((pn : Int) ≤ 20)) = true → pn ≤ 20) := fun h => by
  have := of_decide_eq_true h
  omega
 go_wp2
 go_ret
 exact ⟨⟨⟨decide ((pn : Int) ≤ 20), rfl, fun h => ⟨HG1.out, HG2.out.1, HG2.out.2, HP.out h⟩⟩⟩, hfin⟩
theorem small15_any (S : Nat → Prop) (a : Option Addr) (ca : Nat) (l : List Gl) (v1 v2 : Value) (ax : Int) (g : Int) (w : World) (hl : Gr GlE S w a ca l) (hf : FewG l) (hg : I64 g) (h1 : v1.cells = #[v1]) (h2 : v2.cells = #[v2]) :
    Calls Tryz.prog 17 #[.agg #[.slice a l.length ca, v1, v2, .int .i64 ax], .int .i64 g] w fun e w' => e = .returned (.bool (decide (szG l g ≤ 600))) ∧ Below w.heap.size w w' := by
 obtain ⟨W, hW, X1, hbW⟩ : ∃ W, W = w.alloc (.cells #[.slice a l.length ca, v1, v2, .int .i64 ax] 28) ∧ Bk 28 W w.heap.size [.slice a l.length ca, v1, v2, .int .i64 ax] ∧ Below w.heap.size w W := ⟨_, rfl, Bk.new _ _ _, bl1 _⟩
 obtain ⟨p0, p1, p2, p3, _⟩ := X1.four
 have c1 := ssize_any S a ca l g W (hl.below hbW) hf.n hf.pt hg
 have HD : Hid (decide (((szG l g : Nat) : Int) ≤ 600) = decide (szG l g ≤ 600)) := by show _ = _; rw [decide_eq_decide]; omega
 clear hl hf X1
 go_enter Tryz.func17, Tryz.ntmps17
 go_upto_region 1 with fail
 rw [← hW]; clear hW
 go_wp2_with fail
 refine c1.mono ?_
 rintro e m1 ⟨rfl, hb1⟩
 have hfin := hbW.trans (hb1.mono hbW.size)
 clear c1 hb1; go_wp2
 go_ret
 exact ⟨rt_bool HD.out, hfin⟩
end Go.Proofs.YtkmcodofnckdmaaGreat
