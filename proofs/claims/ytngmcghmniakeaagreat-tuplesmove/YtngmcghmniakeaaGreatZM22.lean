/-
  foundryref12.Few, Points, Ends: the walks.
  foundryref14.Few, foundrylaw14.few, foundrylaw14.awake: the walks.
  foundryref01.Trim, Same; foundrylaw01.same: the walks.
  foundryref01.Bit, bits: the walks.
  foundryref01.length, up: the walks.
  foundryref01.Sub: the walk.
-/
import Derived.Test.YtngmcghmniakeaaGreatZM15
import Derived.Test.YtngmcghmniakeaaGreatZM21
import Derived.Test.YtngmcghmniakeaaGreatZM1
import Derived.Test.YtngmcghmniakeaaGreatZM2
import Derived.Laws.BitsAllLaws
import Derived.Test.YtngmcghmniakeaaGreatZM3
set_option maxHeartbeats 4000000
set_option maxRecDepth 100000
set_option linter.unusedSimpArgs false
set_option linter.unusedVariables false
namespace Go.Proofs.YtngmcghmniakeaaGreat
open Go.RowKit Go.Maps
def totO (cs : List (List Pn)) : Nat := cs.length + cs.flatten.length
def fewB (o : Ol) : Bool := decide (totO o.cs ≤ 1000) && decide (o.ps.length ≤ 100)
theorem totO_take {cs : List (List Pn)} {k : Nat} (hk : k < cs.length) : totO (cs.take (k + 1)) = totO (cs.take k) + (1 + (cs.getD k []).length) := by
 unfold totO
 rw [flat_take_succ hk, List.length_take, List.length_take]
 omega
theorem totO_le (cs : List (List Pn)) (k : Nat) : totO (cs.take k) ≤ totO cs := by
 unfold totO
 have := flat_take_le cs k
 rw [List.length_take]
 omega
theorem fewB_of {o : Ol} (h : fewB o = true) : o.cs.length ≤ 1000 ∧ o.cs.flatten.length ≤ 1000 ∧ o.ps.length ≤ 100 := by
 unfold fewB totO at h
 rw [Bool.and_eq_true, decide_eq_true_iff, decide_eq_true_iff] at h
 omega
theorem sfewO_any (S : Nat → Prop) (a : Option Addr) (ca : Nat) (b : Option Addr) (cb : Nat) (o : Ol) (w : World) (hc : Gr PnE.row S w a ca o.cs) (hp : Gr PaE S w b cb o.ps) :
    Calls Tryz.prog 23 #[.agg #[.slice a o.cs.length ca, .slice b o.ps.length cb]] w fun e w' => e = .returned (.bool (fewB o)) ∧ Below w.heap.size w w' := by
 have k1 := hc.lenB
 have k2 := hp.lenB
 obtain ⟨W, hW, X1, hbW⟩ : ∃ W, W = w.alloc (.cells #[.slice a o.cs.length ca, .slice b o.ps.length cb] 25) ∧ Bk 25 W w.heap.size [.slice a o.cs.length ca, .slice b o.ps.length cb] ∧ Below w.heap.size w W := ⟨_, rfl, Bk.new _ _ _, bl1 _⟩
 obtain ⟨x0, x1, _⟩ := X1.two
 have HC : Hid (Gr PnE.row S W a ca o.cs) := hc.below hbW
 have HF : Hid (fewB o = (decide (totO o.cs ≤ 1000) && decide (o.ps.length ≤ 100))) := rfl
 clear hc hp X1
 generalize fewB o = fb at *
 go_enter Tryz.func23, Tryz.ntmps23
 go_wp2; rw [← hW]; clear hW
 go_loopw [3, 4] (fun nv i wr => ∃ k n : Nat, k ≤ o.cs.length ∧ i = .int .i64 k ∧ nv = .int .i64 (n : Int) ∧ n = totO (o.cs.take k) ∧ n ≤ 140737488361232 ∧ W = wr) (fun _ i _ => o.cs.length - (intOf i).toNat)
 case atStart => exact ⟨0, 0, Nat.zero_le _, rfl, rfl, rfl, by omega, rfl⟩
 case round =>
  obtain ⟨k, n, hk, rfl, rfl, hn, hnb, rfl⟩ := hrel
  have HN : Hid (n = totO (o.cs.take k)) := hn
  clear hn
  by_cases hgo : k < o.cs.length ∧ n ≤ 1000
  · obtain ⟨hkn, hn1⟩ := hgo
    obtain ⟨b1, off, a1, c1, ea, hb, d0, hrow, hlb, _⟩ := HC.out.rw (Below.refl _ _) k hkn
    subst ea
    have hst := totO_take hkn
    rw [← HN.out] at hst
    obtain ⟨c, hcc⟩ : ∃ c, o.cs.getD k [] = c := ⟨_, rfl⟩
    rw [hcc] at d0 hst hlb
    have HN2 : Hid (n + (1 + c.length) = totO (o.cs.take (k + 1))) := hst.symm
    have g1 : decide (k < o.cs.length) = true := decide_eq_true hkn
    have g2 : decide ((n : Int) ≤ 1000) = true := decide_eq_true (by omega)
    have i1 : (0 : Int) ≤ (k : Int) := by omega
    have i2 : (k : Int) < (o.cs.length : Int) := by omega
    clear hst hcc hrow HN; go_wp2
    go_roundw
    case rel => exact ⟨k + 1, n + (1 + c.length), by omega, by go_num, by go_num, HN2.out, by omega, trivial⟩
    case measure => simp [intOf]; omega
  · have hle := totO_le o.cs k
    have HFF : Hid (fb = (decide ((n : Int) ≤ 1000) && decide ((o.ps.length : Int) ≤ 100))) := by
     show _ = _
     rw [HF.out]
     have h1 : decide (totO o.cs ≤ 1000) = decide ((n : Int) ≤ 1000) := by
      rw [decide_eq_decide]
      by_cases hkk : k < o.cs.length
      · rw [← HN.out] at hle
        omega
      · have : o.cs.take k = o.cs := List.take_of_length_le (by omega)
        have h2 := HN.out
        rw [this] at h2
        omega
     have h2 : decide (o.ps.length ≤ 100) = decide ((o.ps.length : Int) ≤ 100) := by
      rw [decide_eq_decide]
      omega
     rw [h1, h2]
    clear HN hle
    by_cases hkn : k < o.cs.length
    · have g1 : decide (k < o.cs.length) = true := decide_eq_true hkn
      have g2 : decide ((n : Int) ≤ 1000) = false := decide_eq_false (by omega)
      rw [g2, Bool.false_and] at HFF; go_wp2
      go_ret
      exact ⟨rt_bool HFF.out.symm, hbW⟩
    · have g1 : decide (k < o.cs.length) = false := decide_eq_false hkn
      by_cases hn1 : n ≤ 1000
      · have g2 : decide ((n : Int) ≤ 1000) = true := decide_eq_true (by omega)
        rw [g2, Bool.true_and] at HFF; go_wp2
        go_ret
        exact ⟨rt_bool HFF.out.symm, hbW⟩
      · have g2 : decide ((n : Int) ≤ 1000) = false := decide_eq_false (by omega)
        rw [g2, Bool.false_and] at HFF; go_wp2
        go_ret
        exact ⟨rt_bool HFF.out.symm, hbW⟩
theorem spointsO_any (S : Nat → Prop) (a : Option Addr) (ca : Nat) (vb : Value) (cs : List (List Pn)) (w : World) (h : Gr PnE.row S w a ca cs) (hl : cs.flatten.length ≤ 100000) (hv : vb.cells = #[vb]) :
    Calls Tryz.prog 78 #[.agg #[.slice a cs.length ca, vb]] w fun e w' => ∃ a' c', e = .returned (.slice a' cs.flatten.length c') ∧ Gr PnE (fun _ => True) w' a' c' cs.flatten ∧ (∀ b o, a' = some ⟨b, o, none⟩ → w.heap.size ≤ b ∧ b < w'.heap.size) ∧ Below w.heap.size w w' := by
 have k2 := h.lenB
 obtain ⟨W, hW, X1, hbW⟩ : ∃ W, W = w.alloc (.cells #[.slice a cs.length ca, vb] 25) ∧ Bk 25 W w.heap.size [.slice a cs.length ca, vb] ∧ Below w.heap.size w W := ⟨_, rfl, Bk.new _ _ _, bl1 _⟩
 have HH : Hid (Gr PnE.row S w a ca cs) := h
 have HX : Hid (Bk 25 W w.heap.size [.slice a cs.length ca, vb]) := X1
 have HB0 : Hid (Below w.heap.size w W) := hbW
 have HGL : Hid (w.heap.size < W.heap.size) := X1.lt
 clear h X1 hbW
 go_enter Tryz.func78, Tryz.ntmps78
 go_wp2; rw [← hW]; clear hW
 go_loopw [3, 4] (fun v i wr => ∃ k : Nat, k ≤ cs.length ∧ i = .int .i64 k ∧ Gw PnE 54 W.heap.size (fun _ => True) wr v ((cs.take k).flatten) ∧ Below W.heap.size W wr) (fun _ i _ => cs.length - (intOf i).toNat)
 case atStart => exact ⟨0, Nat.zero_le _, rfl, Gw.nil _ _ _ _ _, Below.refl _ _⟩
 case round =>
  obtain ⟨k, hk, rfl, hT, hB⟩ := hrel; obtain ⟨a2, c2, rfl, hgr, hblk⟩ := hT.slice
  have HT : Hid (Gw PnE 54 W.heap.size (fun _ => True) wr (.slice a2 ((cs.take k).flatten).length c2) ((cs.take k).flatten)) := hT
  obtain ⟨x0, x1, _⟩ := (HX.out.below hB).two
  have hBw : Below w.heap.size w wr := HB0.out.trans (hB.mono HB0.out.size)
  clear hT
  by_cases hkn : k < cs.length
  · obtain ⟨b, off, a1, c1, ea, hb, d0, hrow, hlb, _⟩ := HH.out.rw hBw k hkn
    subst ea
    have hst := flat_take_succ hkn
    have hle := flat_take_le cs (k + 1)
    obtain ⟨c, hc⟩ : ∃ c, cs.getD k [] = c := ⟨_, rfl⟩
    have HS : Hid (_) := flat_take_snoc hkn hc
    rw [hc] at d0 hst hlb hrow
    have hll : ((cs.take k).flatten).length + c.length ≤ 1000000 := by omega
    have i1 : (0 : Int) ≤ (k : Int) := by omega
    have i2 : (k : Int) < (cs.length : Int) := by omega
    have hbs : W.heap.size ≤ wr.heap.size := hB.size
    clear hc hst hle hlb hgr hblk
    generalize (cs.take k).flatten = L at *
    go_wp2_with (at_builtin; refine wpList_append_el 55 54 Tryz.underlying55 info_pn rfl (by decide) (by decide) rfl _ _ rfl W.heap.size (fun _ => True) _ L rfl HT.out a1 c1 _ c rfl rfl hrow.anyP hll hbs ?_)
    intro v9 w9 hT9 hgrow _
    have hB9 : Below W.heap.size W w9 := hB.grown hgrow hbs (fun k hk => (HT.out.lo hk).1)
    rw [← HS.out] at hT9; clear hgrow hbs hll HS; go_wp2
    go_roundw
    case rel => exact ⟨k + 1, by omega, by go_num, hT9, hB9⟩
    case measure => simp [intOf]; omega
  · obtain rfl : k = cs.length := by omega
    rw [List.take_length] at HT hgr ⊢
    have HB2 : Hid (∀ b o, a2 = some ⟨b, o, none⟩ → w.heap.size ≤ b ∧ b < wr.heap.size) := fun b o e => ⟨Nat.le_trans (Nat.le_of_lt HGL.out) (hblk b o e).1, (hblk b o e).2⟩
    have g4 : ¬ (cs.length : Int) < (cs.length : Int) := by omega
    clear hblk; go_wp2
    go_ret
    exact ⟨a2, c2, rfl, hgr, HB2.out, hBw⟩
theorem wrapU {z : Int} (h1 : -9223372036854775808 ≤ z) (h2 : z ≤ 9223372036854775807) : IntKind.i64.wrap z = z := by
 unfold IntKind.wrap
 simp [IntKind.bits, IntKind.signed]
 omega
def szT (t : Tu) : Nat := 1 + t.rg.length + t.pts.length + t.dx.length + t.dy.length
def totT (l : List Tu) : Nat := (l.map szT).sum
def fewT (l : List Tu) : Bool := decide (totT l ≤ 3000) && decide (l.length ≤ 30)
theorem totT_take {l : List Tu} {k : Nat} (hk : k < l.length) : totT (l.take (k + 1)) = totT (l.take k) + szT (l.getD k Tu.none) := by
 unfold totT
 rw [take_snoc (d := Tu.none) hk, List.map_append, List.sum_append]
 simp
theorem totT_le (l : List Tu) (k : Nat) : totT (l.take k) ≤ totT l := by
 have h : totT l = totT (l.take k) + totT (l.drop k) := by
  unfold totT
  rw [← List.sum_append, ← List.map_append, List.take_append_drop]
 omega
theorem fewT_of {l : List Tu} (h : fewT l = true) : l.length ≤ 30 ∧ totT l ≤ 3000 := by
 unfold fewT at h
 rw [Bool.and_eq_true, decide_eq_true_iff, decide_eq_true_iff] at h
 exact ⟨h.2, h.1⟩
theorem sfewT_any (S : Nat → Prop) (a : Option Addr) (ca : Nat) (l : List Tu) (w : World) (hl : Gr TuE S w a ca l) :
    Calls Tryz.prog 24 #[.slice a l.length ca] w fun e w' => e = .returned (.bool (fewT l)) ∧ Below w.heap.size w w' := by
 have k1 := hl.lenB
 have HC : Hid (Gr TuE S w a ca l) := hl
 have HF : Hid (fewT l = (decide (totT l ≤ 3000) && decide (l.length ≤ 30))) := rfl
 clear hl
 generalize fewT l = fb at *
 go_enter Tryz.func24, Tryz.ntmps24
 go_wp2
 go_loopw [3, 4] (fun nv i wr => ∃ k n : Nat, k ≤ l.length ∧ i = .int .i64 k ∧ nv = .int .i64 (n : Int) ∧ n = totT (l.take k) ∧ n ≤ 562949953425001 ∧ Below w.heap.size w wr) (fun _ i _ => l.length - (intOf i).toNat)
 case atStart => exact ⟨0, 0, Nat.zero_le _, rfl, rfl, rfl, by omega, Below.refl _ _⟩
 case round =>
  obtain ⟨k, n, hk, rfl, rfl, hn, hnb, hB⟩ := hrel
  have HN : Hid (n = totT (l.take k)) := hn
  have HB : Hid (Below w.heap.size w wr) := hB
  clear hn
  by_cases hgo : k < l.length ∧ n ≤ 3000
  · obtain ⟨hkn, hn1⟩ := hgo
    obtain ⟨b0, off, ra, rc, pa, pc, xa, xc, ya, yc, ea, hb, ht, d0, d1, d2, d3, d4⟩ := HC.out.tu hB k hkn
    subst ea
    have hst := totT_take hkn
    rw [← HN.out] at hst; obtain ⟨l1, l2, l3, l4⟩ := ht.len
    obtain ⟨t, htt⟩ : ∃ t, l.getD k Tu.none = t := ⟨_, rfl⟩
    rw [htt] at d0 d1 d2 d3 d4 hst l1 l2 l3 l4
    unfold szT at hst
    generalize t.rg.length = r at *
    generalize t.pts.length = p at *
    generalize t.dx.length = x at *
    generalize t.dy.length = y at *
    have HN2 : Hid (n + (1 + r + p + x + y) = totT (l.take (k + 1))) := hst.symm
    have g1 : decide (k < l.length) = true := decide_eq_true hkn
    have g2 : decide ((n : Int) ≤ 3000) = true := decide_eq_true (by omega)
    have i1 : (0 : Int) ≤ (k : Int) := by omega
    have i2 : (k : Int) < (l.length : Int) := by omega
    have w1 : IntKind.i64.wrap (1 + (r : Int)) = 1 + (r : Int) := wrapU (by omega) (by omega)
    have w2 : IntKind.i64.wrap (1 + (r : Int) + (p : Int)) = 1 + (r : Int) + (p : Int) := wrapU (by omega) (by omega)
    have w3 : IntKind.i64.wrap (1 + (r : Int) + (p : Int) + (x : Int)) = 1 + (r : Int) + (p : Int) + (x : Int) := wrapU (by omega) (by omega)
    have w4 : IntKind.i64.wrap (1 + (r : Int) + (p : Int) + (x : Int) + (y : Int)) = 1 + (r : Int) + (p : Int) + (x : Int) + (y : Int) := wrapU (by omega) (by omega)
    have w5 : IntKind.i64.wrap ((n : Int) + (1 + (r : Int) + (p : Int) + (x : Int) + (y : Int))) = (n : Int) + (1 + (r : Int) + (p : Int) + (x : Int) + (y : Int)) := wrapU (by omega) (by omega)
    clear hst htt ht HN hB
    go_upto_region 5 with fail
    refine wp_region_held_drew (S := fun w9 => w9.cell? ⟨b0, off + k * 5, none⟩ = some (.slice ra r rc) ∧ w9.cell? ⟨b0, off + k * 5 + 2, none⟩ = some (.slice pa p pc) ∧ w9.cell? ⟨b0, off + k * 5 + 3, none⟩ = some (.slice xa x xc) ∧ w9.cell? ⟨b0, off + k * 5 + 4, none⟩ = some (.slice ya y yc)) (by kernel_rfl) ?_ (fun hHeld => ?_)
    · (try dsimp only)
      go_keep
    have hdr : Below wr.heap.size wr wr.drew := Below.drew1
    generalize wr.drew = Z at hdr hHeld ⊢
    clear d0 d1 d2 d3 d4; refine hT 0 hHeld ?_; refine hT 1 hHeld ?_; refine hT 2 hHeld ?_; refine hT 3 hHeld ?_; refine hT 4 hHeld ?_; refine hT 5 hHeld ?_; refine hT 6 hHeld ?_; refine hT 7 hHeld ?_; refine hT 8 hHeld ?_; refine hT 9 hHeld ?_; refine hT 10 hHeld ?_; refine hT 11 hHeld ?_; refine hT 12 hHeld ?_
    refine hT 13 hHeld ?_; refine hT 14 hHeld ?_; refine hT 15 hHeld ?_; refine hT 16 hHeld ?_; refine hT 17 hHeld ?_; refine hT 18 hHeld ?_; refine hT 19 hHeld ?_; refine hT 20 hHeld ?_; refine hT 21 hHeld ?_; refine hT 22 hHeld ?_; refine hT 23 hHeld ?_; refine hT 24 hHeld ?_; refine hT 25 hHeld ?_
    refine hT 26 hHeld ?_; refine hT 27 hHeld ?_; refine hT 28 hHeld ?_; refine hT 29 hHeld ?_; refine hT 30 hHeld ?_
    refine wpAnyH_done (by kernel_rfl) ?_ _
    have HB2 : Hid (Below w.heap.size w Z) := HB.out.trans (hdr.mono HB.out.size)
    clear hHeld hdr; go_wp2
    go_roundw
    case rel => exact ⟨k + 1, n + (1 + r + p + x + y), by omega, by go_num, by exact congrArg (Value.int .i64) (by omega), HN2.out, by omega, HB2.out⟩
    case measure => simp [intOf]; omega
  · have hle := totT_le l k
    have HFF : Hid (fb = (decide ((n : Int) ≤ 3000) && decide ((l.length : Int) ≤ 30))) := by
     show _ = _
     rw [HF.out]
     have h1 : decide (totT l ≤ 3000) = decide ((n : Int) ≤ 3000) := by
      rw [decide_eq_decide]
      by_cases hkk : k < l.length
      · rw [← HN.out] at hle
        omega
      · have : l.take k = l := List.take_of_length_le (by omega)
        have h2 := HN.out
        rw [this] at h2
        omega
     have h2 : decide (l.length ≤ 30) = decide ((l.length : Int) ≤ 30) := by
      rw [decide_eq_decide]
      omega
     rw [h1, h2]
    clear HN hle
    by_cases hkn : k < l.length
    · have g1 : decide (k < l.length) = true := decide_eq_true hkn
      have g2 : decide ((n : Int) ≤ 3000) = false := decide_eq_false (by omega)
      rw [g2, Bool.false_and] at HFF; go_wp2
      go_ret
      exact ⟨rt_bool HFF.out.symm, hB⟩
    · have g1 : decide (k < l.length) = false := decide_eq_false hkn
      by_cases hn1 : n ≤ 3000
      · have g2 : decide ((n : Int) ≤ 3000) = true := decide_eq_true (by omega)
        rw [g2, Bool.true_and] at HFF; go_wp2
        go_ret
        exact ⟨rt_bool HFF.out.symm, hB⟩
      · have g2 : decide ((n : Int) ≤ 3000) = false := decide_eq_false (by omega)
        rw [g2, Bool.false_and] at HFF; go_wp2
        go_ret
        exact ⟨rt_bool HFF.out.symm, hB⟩
theorem few14_any (S : Nat → Prop) (a : Option Addr) (ca : Nat) (b : Option Addr) (cb : Nat) (o : Ol) (la : Option Addr) (lc : Nat) (l : List Tu) (ga : Option Addr) (gn gc : Nat) (w : World) (hc : Gr PnE.row S w a ca o.cs) (hp : Gr PaE S w b cb o.ps) (hl : Gr TuE S w la lc l) (hg : gn ≤ 9223372036854775807) :
    Calls Tryz.prog 7 #[.agg #[.slice a o.cs.length ca, .slice b o.ps.length cb, .slice la l.length lc], .slice ga gn gc] w fun e w' => e = .returned (.bool (fewB o && (fewT l && decide (gn ≤ 20)))) ∧ Below w.heap.size w w' := by
 obtain ⟨W, hW, X1, hbW⟩ : ∃ W, W = w.alloc (.cells #[.slice a o.cs.length ca, .slice b o.ps.length cb, .slice la l.length lc] 28) ∧ Bk 28 W w.heap.size [.slice a o.cs.length ca, .slice b o.ps.length cb, .slice la l.length lc] ∧ Below w.heap.size w W := ⟨_, rfl, Bk.new _ _ _, bl1 _⟩
 obtain ⟨p0, p1, p2, _⟩ := X1.three
 have c1 := sfewO_any S a ca b cb o W (hc.below hbW) (hp.below hbW)
 have c2 := fun U (hb : Below W.heap.size W U) => sfewT_any S la lc l U ((hl.below hbW).below hb)
 obtain ⟨Q, hQ⟩ : ∃ q, (fewB o && (fewT l && decide (gn ≤ 20))) = q := ⟨_, rfl⟩
 have HQ : Hid ((fewB o && (fewT l && decide (gn ≤ 20))) = Q) := hQ
 rw [hQ]; clear hQ hc hp hl
 cases h1 : fewB o with
 | false =>
  have HF : Hid (Q = false) := by show _ = _; rw [← HQ.out, h1]; rfl
  rw [h1] at c1; clear h1 HQ c2
  go_enter Tryz.func7, Tryz.ntmps7
  go_upto_region 1 with fail
  rw [← hW]; clear hW
  go_wp2_with fail
  refine c1.mono ?_
  rintro e m1 ⟨rfl, hb1⟩
  have hfin := hbW.trans (hb1.mono hbW.size)
  clear hb1 c1; go_wp2
  go_ret
  exact ⟨rt_bool HF.out.symm, hfin⟩
 | true =>
 rw [h1] at c1
 cases h2 : fewT l with
 | false =>
  have HF : Hid (Q = false) := by show _ = _; rw [← HQ.out, h1, h2]; rfl
  rw [h2] at c2; clear h1 h2 HQ
  go_enter Tryz.func7, Tryz.ntmps7
  go_upto_region 1 with fail
  rw [← hW]; clear hW
  go_wp2_with fail
  refine c1.mono ?_
  rintro e m1 ⟨rfl, hb1⟩; replace X1 := X1.below hb1; clear p0 p1 p2 c1; obtain ⟨p0, p1, p2, _⟩ := X1.three
  go_wp2_with fail
  refine (c2 _ hb1).mono ?_
  rintro e m2 ⟨rfl, hb2⟩
  have hfin := (hbW.trans (hb1.mono hbW.size)).trans (hb2.mono (Nat.le_trans hbW.size hb1.size))
  clear hb1 hb2 c2; go_wp2
  go_ret
  exact ⟨rt_bool HF.out.symm, hfin⟩
 | true =>
 rw [h2] at c2
 have HF : Hid (Q = decide ((gn : Int) ≤ 20)) := by
  show _ = _
  rw [← HQ.out, h1, h2, Bool.true_and, Bool.true_and, decide_eq_decide]
  omega
 clear h1 h2 HQ
 go_enter Tryz.func7, Tryz.ntmps7
 go_upto_region 1 with fail
 rw [← hW]; clear hW
 go_wp2_with fail
 refine c1.mono ?_
 rintro e m1 ⟨rfl, hb1⟩; replace X1 := X1.below hb1; clear p0 p1 p2 c1; obtain ⟨p0, p1, p2, _⟩ := X1.three
 go_wp2_with fail
 refine (c2 _ hb1).mono ?_
 rintro e m2 ⟨rfl, hb2⟩
 have hfin := (hbW.trans (hb1.mono hbW.size)).trans (hb2.mono (Nat.le_trans hbW.size hb1.size))
 clear hb1 hb2 c2; go_wp2
 go_ret
 exact ⟨rt_bool HF.out.symm, hfin⟩
def awT : Tu := ⟨[⟨0, 16384, 16384⟩], true, [], [5], [-3]⟩
def awO : Ol := ⟨[[⟨10, 0, false⟩]], []⟩
theorem aw14a : atE awO [awT] [8192] = 0 ∧ (atO awO [awT] [8192]).cs.map (fun c => c.map (fun p => (p.x, p.y, p.on))) = [[(13, -1, false)]] ∧ (atO awO [awT] [8192]).ps.length = 0 := by
 decide +kernel
theorem ol_of {o : Ol} (h1 : o.cs.map (fun c => c.map (fun p => (p.x, p.y, p.on))) = [[(13, -1, false)]]) (h2 : o.ps.length = 0) : o = ⟨[[⟨13, -1, false⟩]], []⟩ := by
 obtain ⟨cs, ps⟩ := o
 obtain rfl : ps = [] := List.length_eq_zero_iff.1 h2
 rcases cs with _ | ⟨c, _ | ⟨d, cs⟩⟩
 · simp at h1
 · rcases c with _ | ⟨p, _ | ⟨q, c⟩⟩
   · simp at h1
   · obtain ⟨x, y, on⟩ := p
     simp at h1
     obtain ⟨rfl, rfl, rfl⟩ := h1
     rfl
   · simp at h1
 · simp at h1
theorem aw14 : atE awO [awT] [8192] = 0 ∧ atO awO [awT] [8192] = ⟨[[⟨13, -1, false⟩]], []⟩ := ⟨aw14a.1, ol_of aw14a.2.1 aw14a.2.2⟩
theorem awake14_any (w : World) :
    Calls Tryz.prog 6 #[] w fun e w' => e = .returned (.bool true) ∧ Below w.heap.size w w' := by
 obtain ⟨V1, hV1, A1, b1⟩ : ∃ V, V = w.alloc (.cells #[.int .i64 10, .int .i64 0, .bool false] 54) ∧ Bk 54 V w.heap.size [.int .i64 10, .int .i64 0, .bool false] ∧ Below w.heap.size w V := ⟨_, rfl, Bk.new _ _ _, bl1 _⟩
 obtain ⟨V2, hV2, A2, b2⟩ : ∃ V, V = V1.alloc (.cells #[.slice (some ⟨w.heap.size, 0, none⟩) 1 1] 55) ∧ Bk 55 V V1.heap.size [.slice (some ⟨w.heap.size, 0, none⟩) 1 1] ∧ Below V1.heap.size V1 V := ⟨_, rfl, Bk.new _ _ _, bl1 _⟩
 obtain ⟨V3, hV3, A3, b3⟩ : ∃ V, V = V2.alloc (.cells #[.slice (some ⟨V1.heap.size, 0, none⟩) 1 1, .slice none 0 0] 25) ∧ Bk 25 V V2.heap.size [.slice (some ⟨V1.heap.size, 0, none⟩) 1 1, .slice none 0 0] ∧ Below V2.heap.size V2 V := ⟨_, rfl, Bk.new _ _ _, bl1 _⟩
 obtain ⟨V4, hV4, A4, b4⟩ : ∃ V, V = V3.alloc (.cells #[.int .i64 0, .int .i64 16384, .int .i64 16384] 57) ∧ Bk 57 V V3.heap.size [.int .i64 0, .int .i64 16384, .int .i64 16384] ∧ Below V3.heap.size V3 V := ⟨_, rfl, Bk.new _ _ _, bl1 _⟩
 obtain ⟨V5, hV5, A5, b5⟩ : ∃ V, V = V4.alloc (.cells #[.int .i64 5] 3) ∧ Bk 3 V V4.heap.size [.int .i64 5] ∧ Below V4.heap.size V4 V := ⟨_, rfl, Bk.new _ _ _, bl1 _⟩
 obtain ⟨V6, hV6, A6, b6⟩ : ∃ V, V = V5.alloc (.cells #[.int .i64 (-3)] 3) ∧ Bk 3 V V5.heap.size [.int .i64 (-3)] ∧ Below V5.heap.size V5 V := ⟨_, rfl, Bk.new _ _ _, bl1 _⟩
 obtain ⟨V7, hV7, A7, b7⟩ : ∃ V, V = V6.alloc (.cells #[.slice (some ⟨V3.heap.size, 0, none⟩) 1 1, .bool true, .slice none 0 0, .slice (some ⟨V4.heap.size, 0, none⟩) 1 1, .slice (some ⟨V5.heap.size, 0, none⟩) 1 1] 60) ∧ Bk 60 V V6.heap.size [.slice (some ⟨V3.heap.size, 0, none⟩) 1 1, .bool true, .slice none 0 0, .slice (some ⟨V4.heap.size, 0, none⟩) 1 1, .slice (some ⟨V5.heap.size, 0, none⟩) 1 1] ∧ Below V6.heap.size V6 V := ⟨_, rfl, Bk.new _ _ _, bl1 _⟩
 obtain ⟨V8, hV8, A8, b8⟩ : ∃ V, V = V7.alloc (.cells #[.int .i64 8192] 3) ∧ Bk 3 V V7.heap.size [.int .i64 8192] ∧ Below V7.heap.size V7 V := ⟨_, rfl, Bk.new _ _ _, bl1 _⟩
 have hbW : Below w.heap.size w V8 := (((((((b1.trans (b2.mono b1.size)).trans (b3.mono (Nat.le_trans b1.size b2.size))).trans (b4.mono (Nat.le_trans (Nat.le_trans b1.size b2.size) b3.size))).trans (b5.mono (Nat.le_trans (Nat.le_trans (Nat.le_trans b1.size b2.size) b3.size) b4.size)))).trans (b6.mono (Nat.le_trans (Nat.le_trans (Nat.le_trans (Nat.le_trans b1.size b2.size) b3.size) b4.size) b5.size))).trans (b7.mono (Nat.le_trans (Nat.le_trans (Nat.le_trans (Nat.le_trans (Nat.le_trans b1.size b2.size) b3.size) b4.size) b5.size) b6.size))).trans (b8.mono (Nat.le_trans (Nat.le_trans (Nat.le_trans (Nat.le_trans (Nat.le_trans (Nat.le_trans b1.size b2.size) b3.size) b4.size) b5.size) b6.size) b7.size))
 replace A1 := ((((((A1.below b2).below b3).below b4).below b5).below b6).below b7).below b8
 replace A2 := (((((A2.below b3).below b4).below b5).below b6).below b7).below b8
 have A3' := A3
 replace A3 := ((((A3.below b4).below b5).below b6).below b7).below b8
 replace A4 := (((A4.below b5).below b6).below b7).below b8
 replace A5 := ((A5.below b6).below b7).below b8
 replace A6 := (A6.below b7).below b8
 replace A7 := A7.below b8
 have g1 : Gr PnE (fun _ => True) V8 (some ⟨w.heap.size, 0, none⟩) 1 [⟨10, 0, false⟩] := Gr.one (vs := pnC ⟨10, 0, false⟩) (PnE_rep.2 ⟨rfl, ⟨by decide, by decide⟩, ⟨by decide, by decide⟩⟩) A1.lt (fun j hj => A1.cell j hj)
 have g2 : Gr PnE.row (fun _ => True) V8 (some ⟨V1.heap.size, 0, none⟩) 1 awO.cs := Gr.one (vs := [.slice (some ⟨w.heap.size, 0, none⟩) 1 1]) ⟨_, _, rfl, fun _ _ _ _ => trivial, g1, by decide⟩ A2.lt (fun j hj => A2.cell j hj)
 have g3 : Gr TeE (fun _ => True) V8 (some ⟨V3.heap.size, 0, none⟩) 1 awT.rg := Gr.one (vs := teV ⟨0, 16384, 16384⟩) (TeE_rep.2 ⟨rfl, ⟨by decide, by decide⟩, ⟨by decide, by decide⟩, ⟨by decide, by decide⟩⟩) A4.lt (fun j hj => A4.cell j hj)
 have g4 : Gr El.int (fun _ => True) V8 (some ⟨V4.heap.size, 0, none⟩) 1 awT.dx := Gr.one (vs := [.int .i64 5]) ⟨rfl, by decide, by decide⟩ A5.lt (fun j hj => A5.cell j hj)
 have g5 : Gr El.int (fun _ => True) V8 (some ⟨V5.heap.size, 0, none⟩) 1 awT.dy := Gr.one (vs := [.int .i64 (-3)]) ⟨rfl, by decide, by decide⟩ A6.lt (fun j hj => A6.cell j hj)
 have g6 : Gr TuE (fun _ => True) V8 (some ⟨V6.heap.size, 0, none⟩) 1 [awT] := Gr.one (vs := [.slice (some ⟨V3.heap.size, 0, none⟩) 1 1, .bool true, .slice none 0 0, .slice (some ⟨V4.heap.size, 0, none⟩) 1 1, .slice (some ⟨V5.heap.size, 0, none⟩) 1 1]) (TuE_rep.2 ⟨some ⟨V3.heap.size, 0, none⟩, 1, none, 0, some ⟨V4.heap.size, 0, none⟩, 1, some ⟨V5.heap.size, 0, none⟩, 1, rfl, ⟨_, _, rfl, fun _ _ _ _ => trivial, g3, by decide⟩, ⟨_, _, rfl, fun _ _ _ _ => trivial, Gr.nil _ _ _ _ _ (Nat.zero_le _) (fun _ => rfl), by decide⟩, ⟨_, _, rfl, fun _ _ _ _ => trivial, g4, by decide⟩, ⟨_, _, rfl, fun _ _ _ _ => trivial, g5, by decide⟩⟩) A7.lt (fun j hj => A7.cell j hj)
 have g7 : Ri V8 (some ⟨V7.heap.size, 0, none⟩) 1 [8192] := Gr.ri (Gr.one (S := fun _ => True) (vs := [.int .i64 8192]) ⟨rfl, by decide, by decide⟩ A8.lt (fun j hj => A8.cell j hj))
 have hat := uat_any (fun _ => True) (some ⟨V1.heap.size, 0, none⟩) 1 none 0 awO (fun _ => True) (some ⟨V6.heap.size, 0, none⟩) 1 [awT] (some ⟨V7.heap.size, 0, none⟩) 1 [8192] V8 g2 (Gr.nil _ _ _ _ _ (Nat.zero_le _) (fun _ => rfl)) g6 g7
 rw [aw14.1, aw14.2] at hat
 replace hat : Calls Tryz.prog 10 #[.agg #[.slice (some ⟨V1.heap.size, 0, none⟩) 1 1, .slice none 0 0], .slice (some ⟨V6.heap.size, 0, none⟩) 1 1, .slice (some ⟨V7.heap.size, 0, none⟩) 1 1] V8 fun e w' => ∃ a1 c1 a2 c2, e = .returned (.tuple #[.agg #[.slice a1 1 c1, .slice a2 0 c2], .int .i64 0]) ∧ Gr PnE.row (fun k => V8.heap.size ≤ k) w' a1 c1 [[⟨13, -1, false⟩]] ∧ Gr PaE (fun k => V8.heap.size ≤ k) w' a2 c2 [] ∧ ((∀ b o, a1 = some ⟨b, o, none⟩ → V8.heap.size ≤ b) ∧ ∀ b o, a2 = some ⟨b, o, none⟩ → V8.heap.size ≤ b) ∧ Below V8.heap.size V8 w' := hat
 obtain ⟨p0, p1, _⟩ := A3'.two; clear A1 A2 A3 A4 A5 A6 A7 A8 A3' g1 g2 g3 g4 g5 g6 g7 b1 b2 b3 b4 b5 b6 b7 b8
 go_enter Tryz.func6, Tryz.ntmps6
 go_upto_region 2 with fail
 have s1 : w.heap.size + 1 = V1.heap.size := by rw [hV1]; simp
 have s2 : V1.heap.size + 1 = V2.heap.size := by rw [hV2]; simp
 rw [← hV1, ← hV2, s1]
 try rw [s2]
 rw [← hV3]
 have HS : Hid (V3.heap.size + 1 = V4.heap.size ∧ V4.heap.size + 1 = V5.heap.size ∧ V5.heap.size + 1 = V6.heap.size ∧ V6.heap.size + 1 = V7.heap.size) := ⟨by rw [hV4]; simp, by rw [hV5]; simp, by rw [hV6]; simp, by rw [hV7]; simp⟩
 have HV4 : Hid (_ = _) := hV4
 have HV5 : Hid (_ = _) := hV5
 have HV6 : Hid (_ = _) := hV6
 have HV7 : Hid (_ = _) := hV7
 have HV8 : Hid (_ = _) := hV8
 clear s1 s2 hV1 hV2 hV3 hV4 hV5 hV6 hV7 hV8
 go_wp2_with fail
 rw [← HV4.out, ← HV5.out, ← HV6.out, HS.out.1, HS.out.2.1, HS.out.2.2.1, ← HV7.out, HS.out.2.2.2, ← HV8.out]; clear HV4 HV5 HV6 HV7 HV8 HS p0 p1
 refine hat.mono ?_
 rintro e m1 ⟨a1, c1, a2, c2, rfl, hg1, hg2, -, hb1⟩; clear hat
 obtain ⟨q0, o0, q1, c3, e1, hq0, k0, hr0, -, -⟩ := hg1.rw (Below.refl _ _) 0 (by decide)
 subst e1
 replace hr0 : Gr PnE (fun k => V8.heap.size ≤ k) m1 q1 c3 [⟨13, -1, false⟩] := hr0
 replace k0 : m1.cell? ⟨q0, o0, none⟩ = some (.slice q1 1 c3) := k0
 obtain ⟨r0, s0, e2, hq1, -, k1, k2, k3⟩ := hr0.pn (Below.refl _ _) 0 (by decide)
 subst e2
 replace k1 : m1.cell? ⟨r0, s0, none⟩ = some (.int .i64 13) := by simpa using k1
 replace k2 : m1.cell? ⟨r0, s0 + 1, none⟩ = some (.int .i64 (-1)) := by simpa using k2
 obtain ⟨V, hV, X1, hb2⟩ : ∃ V, V = m1.alloc (.cells #[.slice (some ⟨q0, o0, none⟩) 1 c1, .slice a2 0 c2] 25) ∧ Bk 25 V m1.heap.size [.slice (some ⟨q0, o0, none⟩) 1 c1, .slice a2 0 c2] ∧ Below m1.heap.size m1 V := ⟨_, rfl, Bk.new _ _ _, bl1 _⟩
 replace k0 := (hb2.cell (p := ⟨q0, o0, none⟩) hq0).trans k0
 replace k1 := (hb2.cell (p := ⟨r0, s0, none⟩) hq1).trans k1
 replace k2 := (hb2.cell (p := ⟨r0, s0 + 1, none⟩) hq1).trans k2
 obtain ⟨x0, x1, _⟩ := X1.two
 have hfin := (hbW.trans (hb1.mono hbW.size)).trans (hb2.mono (Nat.le_trans hbW.size hb1.size))
 clear hg1 hg2 hr0 k3 hb1 hb2
 go_upto_region 3 with fail
 rw [← hV]; clear hV; go_wp2
 go_ret
 exact ⟨rfl, hfin⟩
theorem rtrim_any (a : Option Addr) (cap : Nat) (xs : List Nat) (w : World) (h : Rd w a cap xs) (hl : xs.length ≤ 1000000000) :
    Calls Tryz.prog 178 #[.slice a xs.length cap] w fun e w' => ∃ a' cap', e = .returned (.slice a' (strip xs).length cap') ∧ Res 180 w.heap.size w' a' cap' (strip xs) ∧ Below w.heap.size w w' := by
 obtain ⟨i0, hi, hz0, hz1, hz2⟩ := info_parts info_limb
 have hsl := strip_length_le xs
 have hc2 : xs.length ≤ cap := h.le
 have hc3 : cap ≤ maxLen := h.cap
 unfold maxLen at hc3
 have hst := h.strip
 have lst := h.lim.strip
 have fm := h.fm
 clear h
 go_enter Tryz.func178, Tryz.ntmps178
 go_wp2
 go_loop [3] (fun n => ∃ k : Nat, k ≤ xs.length ∧ n = .int .i64 k ∧ strip (xs.take k) = strip xs) (fun n => (intOf n).toNat)
 case atStart => exact ⟨xs.length, Nat.le_refl _, rfl, by rw [List.take_length]⟩
 case round =>
  obtain ⟨k, hk, rfl, hs0⟩ := hrel
  have HS : Hid (strip (xs.take k) = strip xs) := hs0
  clear hs0
  by_cases hk0 : k = 0
  · subst hk0
    have e0 : strip xs = [] := by rw [← HS.out]; rfl
    rw [e0] at hst lst
    have E0 : Hid (strip xs = []) := e0
    clear e0 HS
    go_wp2_with (at_builtin; refine wpList_append_rd rfl _ _ 78 rfl w.heap.size 180 i0 Tryz.underlying78 hi hz0 hz1 hz2 _ 0 [] rfl (World.ownsRow_nil _ _ _ _) a cap 0 [] ?_ rfl hst (by simp) (Nat.le_refl _) ?_)
    intro v' w1 hown hgrow
    obtain ⟨a', cap', rfl, hres⟩ := Res.of (xs := []) Lim.nil hown
    go_wp2
    go_ret
    exact ⟨a', cap', by rw [E0.out]; rfl, by rw [E0.out]; exact hres, (Below.refl _ _).grown hgrow (Nat.le_refl _) (fun k hk => by simp [Value.ownBlock] at hk)⟩
  · obtain ⟨j, rfl⟩ : ∃ j, k = j + 1 := ⟨k - 1, by omega⟩
    obtain ⟨b, off, rfl, _, hcj⟩ := fm.at (Below.refl _ _) j (by omega)
    obtain ⟨x, hx⟩ : ∃ x, xs.getD j 0 = x := ⟨_, rfl⟩
    rw [hx] at hcj
    have HX : Hid (xs.getD j 0 = x) := hx
    clear hx
    by_cases hx0 : x = 0
    · subst hx0
      go_wp2
      go_round
      case rel => exact ⟨j, by omega, rfl, by rw [← HS.out, strip_take_zero xs j (by omega) HX.out]⟩
      case measure => simp [intOf]
    · have hx1 : ((x : Int) == 0) = false := by simp; omega
      have e : strip xs = xs.take (j + 1) := by rw [← HS.out]; exact strip_take_some xs j (by omega) (by rw [HX.out]; exact hx0)
      have el : j + 1 = (strip xs).length := by rw [e]; simp; omega
      have EL : Hid (j + 1 = (strip xs).length) := el
      clear e el
      go_wp2_with (at_builtin; refine wpList_append_rd rfl _ _ 78 rfl w.heap.size 180 i0 Tryz.underlying78 hi hz0 hz1 hz2 _ 0 [] rfl (World.ownsRow_nil _ _ _ _) (some ⟨b, off, none⟩) cap (j + 1) (strip xs) rfl EL.out hst (by omega) (Nat.le_refl _) ?_)
      intro v' w1 hown hgrow
      obtain ⟨a', cap', rfl, hres⟩ := Res.of lst hown
      go_wp2
      go_ret
      exact ⟨a', cap', rfl, hres, (Below.refl _ _).grown hgrow (Nat.le_refl _) (fun k hk => by simp [Value.ownBlock] at hk)⟩
theorem and_one_u32 (n : Nat) (h : n < 4294967296) : bits BinOp.and IntKind.u32 (n : Int) 1 = ((n % 2 : Nat) : Int) := by
 have := u32_and_nat n 1 h (by decide)
 rw [Nat.and_one_is_mod] at this
 exact this
theorem V_bit (xs : List Nat) (lm : Lim xs) (i : Nat) : V xs / 2 ^ i % 2 = xs.getD (i / 32) 0 / 2 ^ (i % 32) % 2 := by
 have e := V_take_drop xs (i / 32)
 have hd := V_head_tail (xs.drop (i / 32))
 have hg : (xs.drop (i / 32)).getD 0 0 = xs.getD (i / 32) 0 := by simp [List.getD]
 rw [hg] at hd
 have hl : V (xs.take (i / 32)) < 4294967296 ^ (i / 32) := by
  have := V_take_Sv xs (i / 32)
  rw [this]
  exact Sv_lt (fun j _ => lm.getD j)
 have hp : 2 ^ i = 4294967296 ^ (i / 32) * 2 ^ (i % 32) := by
  rw [show (4294967296 : Nat) = 2 ^ 32 from rfl, ← Nat.pow_mul, ← Nat.pow_add, Nat.div_add_mod]
 rw [hp, ← Nat.div_div_eq_div_mul, e, Nat.add_mul_div_left _ _ (Nat.pow_pos (by decide)), Nat.div_eq_of_lt hl, Nat.zero_add, hd]
 generalize V (xs.drop (i / 32)).tail = T
 generalize xs.getD (i / 32) 0 = x
 have h32 : (4294967296 : Nat) = 2 ^ (i % 32) * (2 * 2 ^ (31 - i % 32)) := by
  have : (4294967296 : Nat) = 2 ^ 32 := rfl
  rw [this, ← Nat.pow_succ', ← Nat.pow_add]
  congr 1
  omega
 rw [h32, Nat.mul_assoc, Nat.add_mul_div_left _ _ (Nat.pow_pos (by decide)), Nat.mul_assoc, Nat.add_mul_mod_self_left]
theorem rbits_any (a : Option Addr) (n cap : Nat) (w : World) (hn : n ≤ 100000000000000000) :
    Calls Tryz.prog 136 #[.slice a n cap] w fun e w' => e = .returned (.int .i64 (32 * (n : Int))) ∧ w = w' := by
 go_enter Tryz.func136, Tryz.ntmps136
 go_wp2
 go_ret
 exact ⟨rfl, rfl⟩
theorem rbit_any (a : Option Addr) (cap : Nat) (xs : List Nat) (i : Nat) (w : World) (h : Rd w a cap xs) (hi : i ≤ 100000000000000000) :
    Calls Tryz.prog 138 #[.slice a xs.length cap, .int .i64 (i : Int)] w fun e w' => e = .returned (.int .u32 ((V xs / 2 ^ i % 2 : Nat) : Int)) ∧ w = w' := by
 have k1 := h.le
 have k2 := h.cap
 unfold maxLen at k2
 have fm := h.fm
 have lm := h.lim
 clear h
 by_cases hlt : i / 32 < xs.length
 · obtain ⟨b, off, rfl, _, hc⟩ := fm.at (Below.refl _ _) (i / 32) hlt
   obtain ⟨x, hx⟩ : ∃ x, xs.getD (i / 32) 0 = x := ⟨_, rfl⟩
   rw [hx] at hc
   have bx : x < 4294967296 := by rw [← hx]; exact lm.getD _
   go_enter Tryz.func138, Tryz.ntmps138
   go_wp2
   go_ret
   refine ⟨ret_u32 ?_, rfl⟩
   have hq : x / 2 ^ (i % 32) ≤ x := Nat.div_le_self _ _
   have hcast : (x : Int) / 2 ^ (i % 32) = ((x / 2 ^ (i % 32) : Nat) : Int) := by simp
   rw [V_bit xs lm i, hx, hcast, and_one_u32 _ (by omega)]
 · go_enter Tryz.func138, Tryz.ntmps138
   go_wp2
   go_ret
   refine ⟨ret_u32 ?_, rfl⟩
   rw [V_bit xs lm i, getD_past _ _ (by omega)]
   simp
theorem pow_32 (m : Nat) : 4294967296 ^ m = 2 ^ (32 * m) := by rw [Nat.pow_mul]
theorem lt_pow_of_bit {v j : Nat} (h : v < 2 ^ (j + 1)) (hb : v / 2 ^ j % 2 = 0) : v < 2 ^ j := by
 have hp : 0 < 2 ^ j := Nat.pow_pos (by decide)
 rw [Nat.pow_succ] at h
 have h1 : v / 2 ^ j < 2 := Nat.div_lt_of_lt_mul (by omega)
 have h2 : v / 2 ^ j = 0 := by generalize v / 2 ^ j = t at h1 hb ⊢; omega
 rcases (Nat.div_eq_zero_iff).1 h2 with h3 | h3
 · omega
 · exact h3
theorem pow_le_of_bit {v j : Nat} (hb : v / 2 ^ j % 2 = 1) : 2 ^ j ≤ v := by
 rcases Nat.lt_or_ge v (2 ^ j) with h | h
 · rw [Nat.div_eq_of_lt h] at hb; simp at hb
 · exact h
theorem rlen_any (a : Option Addr) (cap : Nat) (xs : List Nat) (w : World) (h : Rd w a cap xs) (hl : xs.length ≤ 500000000) :
    Calls Tryz.prog 179 #[.slice a xs.length cap] w fun e w' => ∃ n : Nat, e = .returned (.int .i64 (n : Int)) ∧ n ≤ 32 * xs.length ∧ V xs < 2 ^ n ∧ (1 ≤ n → 2 ^ (n - 1) ≤ V xs) ∧ w = w' := by
 go_enter Tryz.func179, Tryz.ntmps179
 go_wp2_with fail
 refine (rbits_any _ _ _ _ (by omega)).mono ?_
 rintro e w' ⟨rfl, rfl⟩
 go_wp2
 go_loop [3] (fun i => ∃ k : Nat, k ≤ 32 * xs.length ∧ i = .int .i64 (k : Int) ∧ V xs < 2 ^ k) (fun i => (intOf i).toNat)
 case atStart => exact ⟨32 * xs.length, Nat.le_refl _, by go_num, by rw [← pow_32]; exact V_lt h.lim⟩
 case round =>
  obtain ⟨k, hk, rfl, hv⟩ := hrel
  have HV : Hid (V xs < 2 ^ k) := hv
  clear hv
  by_cases hk0 : k = 0
  · subst hk0
    go_wp2
    go_ret
    exact ⟨0, rfl, Nat.zero_le _, HV.out, fun h => by omega, rfl⟩
  · obtain ⟨j, rfl⟩ : ∃ j, k = j + 1 := ⟨k - 1, by omega⟩
    have hjj : ((j + 1 : Nat) : Int) - 1 = (j : Int) := by omega
    go_wp2_with fail
    refine (rbit_any _ _ _ _ _ h (by omega)).mono ?_
    rintro e w' ⟨rfl, rfl⟩
    rcases Nat.mod_two_eq_zero_or_one (V xs / 2 ^ j) with hb0 | hb0
    · rw [hb0]
      have HB : Hid (V xs / 2 ^ j % 2 = 0) := hb0
      clear hb0; go_wp2
      go_round
      case rel => exact ⟨j, by omega, by go_num, lt_pow_of_bit HV.out HB.out⟩
      case measure => simp [intOf]
    · rw [hb0]
      have HB : Hid (V xs / 2 ^ j % 2 = 1) := hb0
      clear hb0; go_wp2
      go_ret
      exact ⟨j + 1, rfl, hk, HV.out, fun _ => pow_le_of_bit HB.out, rfl⟩
theorem up_step {zs xs : List Nat} {m k cy x p s : Nat} (hz : zs.length = m + k) (he : V zs + 4294967296 ^ (m + k) * cy = 4294967296 ^ m * (V (xs.take k) * 2 ^ s)) (hx : xs.getD k 0 = x) (hp : x * 2 ^ s = p) :
    V (zs ++ [(cy + p) % 4294967296]) + 4294967296 ^ (m + (k + 1)) * ((cy + p) / 4294967296) = 4294967296 ^ m * (V (xs.take (k + 1)) * 2 ^ s) := by
 rw [V_snoc, hz, V_take_succ, hx, ← Nat.add_assoc, Nat.pow_succ]
 have hd := Nat.mod_add_div (cy + p) 4294967296
 generalize (cy + p) % 4294967296 = r at hd ⊢
 generalize (cy + p) / 4294967296 = d at hd ⊢
 subst hp; rw [Nat.pow_add] at he ⊢
 generalize 4294967296 ^ k = q at he ⊢
 generalize 4294967296 ^ m = t at he ⊢
 generalize V zs = o at he ⊢
 generalize V (xs.take k) = A at he ⊢
 generalize 2 ^ s = S at he hd ⊢
 have h1 : t * q * (r + 4294967296 * d) = t * q * (cy + x * S) := by rw [hd]
 grind
theorem rup_any (a : Option Addr) (cap : Nat) (xs : List Nat) (n : Nat) (w : World) (h : Rd w a cap xs) (hl : xs.length ≤ 400000000) (hn : n ≤ 400000000) :
    Calls Tryz.prog 180 #[.slice a xs.length cap, .int .i64 (n : Int)] w fun e w' =>
     ∃ a' cap' zs, e = .returned (.slice a' zs.length cap') ∧ V zs = V xs * 2 ^ n ∧ Tr zs ∧ Res 180 w.heap.size w' a' cap' zs ∧ Below w.heap.size w w' := by
 obtain ⟨i0, hi, hz0, hz1, hz2⟩ := info_parts info_limb
 have fL := h.fm
 have lL := h.lim
 clear h
 obtain ⟨m, hm⟩ : ∃ m, n / 32 = m := ⟨_, rfl⟩
 obtain ⟨s, hs⟩ : ∃ s, n % 32 = s := ⟨_, rfl⟩
 have hs32 : s < 32 := by omega
 have hmb : m ≤ 400000000 := by omega
 have hmi : (n : Int) / 32 = (m : Int) := by omega
 have hsi : (n : Int) % 32 = (s : Int) := by omega
 have HPW : Hid (2 ^ n = 4294967296 ^ m * 2 ^ s) := by
  show _ = _
  rw [pow_32, ← Nat.pow_add]; congr 1; omega
 clear hm hs
 go_enter Tryz.func180, Tryz.ntmps180
 go_wp2_with (at_make; refine wpList_make_full _ rfl _ _ 78 rfl w.heap.size 180 i0 (.int .u32 0) 1 Tryz.underlying78 hi hz0 hz1 _ _ _ _ m rfl rfl (by omega) (by omega) (by rw [hz2]; omega) (by unfold maxLen; omega) (Nat.le_refl _) ?_)
 intro u0 hown0 hgrow0
 have hb0 : Below w.heap.size w u0 := (Below.refl _ _).grown hgrow0 (Nat.le_refl _) (fun k h => by cases h)
 have hown1 : u0.ownsRow w.heap.size 180 1 (.slice (some ⟨w.heap.size, 0, none⟩) m m) m ((List.replicate m 0).map U) := by
  rw [← madeCells_zero]; exact hown0
 clear hown0 hgrow0; go_wp2
 go_loopw [5, 6, 7] (fun out c i wr => ∃ (k : Nat) (zs : List Nat) (cy : Nat), k ≤ xs.length ∧ i = .int .i64 k ∧ c = .int .u64 cy ∧ cy < 2 ^ s ∧ zs.length = m + k ∧ Lim zs ∧ V zs + 4294967296 ^ (m + k) * cy = 4294967296 ^ m * (V (xs.take k) * 2 ^ s) ∧ wr.ownsRow w.heap.size 180 1 out (m + k) (zs.map U) ∧ Below w.heap.size w wr) (fun _ _ i _ => xs.length - (intOf i).toNat)
 case atStart => exact ⟨0, List.replicate m 0, 0, Nat.zero_le _, rfl, rfl, Nat.pow_pos (by decide), by simp, fun x hx => by rw [List.eq_of_mem_replicate hx]; decide, by rw [V_zeros]; simp [V], hown1, hb0⟩
 case round =>
  obtain ⟨k, zs, cy, hk, rfl, rfl, hcy, hzl, lz, heq, hown, hnx⟩ := hrel
  have HE : Hid (V zs + 4294967296 ^ (m + k) * cy = 4294967296 ^ m * (V (xs.take k) * 2 ^ s)) := heq
  have HZ : Hid (zs.length = m + k) := hzl
  have hsz := hnx.size
  have hP1 : 2 ^ s ≤ 2 ^ 31 := Nat.pow_le_pow_right (by decide) (by omega)
  clear heq hzl
  by_cases hkn : k < xs.length
  · obtain ⟨bl, ol, rfl, _, hcl⟩ := fL.at hnx k hkn
    obtain ⟨x, hx⟩ : ∃ x, xs.getD k 0 = x := ⟨_, rfl⟩
    have bx : x < 4294967296 := by rw [← hx]; exact lL.getD k
    rw [hx] at hcl
    have HX : Hid (xs.getD k 0 = x) := hx
    obtain ⟨p, hp⟩ : ∃ p, x * 2 ^ s = p := ⟨_, rfl⟩
    have bp0 : p ≤ 4294967295 * 2 ^ s := by rw [← hp]; exact Nat.mul_le_mul_right _ (by omega)
    have bp : p ≤ 9223372034707292160 := by omega
    have hpi : (x : Int) * 2 ^ s = (p : Int) := by rw [← hp]; simp
    have hw1 : IntKind.u64.wrap (p : Int) = (p : Int) := by rw [wrap_u64_mod]; omega
    have hcy' : (cy + p) / 4294967296 < 2 ^ s := Nat.div_lt_of_lt_mul (by omega)
    have HP : Hid (x * 2 ^ s = p) := hp
    have bcy : cy < 2147483648 := by omega
    have HCY : Hid ((cy + p) / 4294967296 < 2 ^ s) := hcy'
    clear hx hp hP1 bp0 hcy hcy'
    go_wp2_with (at_builtin; refine wpList_append_one rfl _ _ 78 rfl w.heap.size 180 i0 Tryz.underlying78 hi hz0 hz1 hz2 _ (m + k) zs rfl (hown.alloc _) wr.heap.size ((cy + p) % 4294967296) rfl (cell_new1 _ _ _ _ (by omega)) (by omega) (by simp; omega) ?_)
    intro v' w1 hown1 hgrow1
    have hb1 : Below w.heap.size w w1 := (hnx.alloc hsz _).grown hgrow1 (by simp; omega) (fun k hk => (hown.lt k hk).1)
    clear hown; go_wp2
    go_roundw
    case rel =>
     exact ⟨k + 1, zs ++ [(cy + p) % 4294967296], (cy + p) / 4294967296, by omega, by go_num, by go_num, HCY.out, by simp [HZ.out]; omega, lz.snoc (by omega), up_step HZ.out HE.out HX.out HP.out, own_snoc hown1, hb1⟩
    case measure => simp [intOf]; omega
  · obtain rfl : k = xs.length := by omega
    have bcy : cy < 4294967296 := by omega
    clear hcy hP1
    go_wp2_with (at_builtin; refine wpList_append_one rfl _ _ 78 rfl w.heap.size 180 i0 Tryz.underlying78 hi hz0 hz1 hz2 _ _ zs rfl (hown.alloc _) wr.heap.size cy rfl (cell_new1 _ _ _ _ (by omega)) (by omega) (by simp; omega) ?_)
    intro v' w1 hown1 hgrow1
    have hb1 : Below w.heap.size w w1 := (hnx.alloc hsz _).grown hgrow1 (by simp; omega) (fun k hk => (hown.lt k hk).1)
    have o1 := own_snoc hown1
    have lts := lz.snoc bcy
    obtain ⟨ts, hts⟩ : ∃ ts, zs ++ [cy] = ts := ⟨_, rfl⟩
    have htl : ts.length ≤ 1000000000 := by rw [← hts]; simp [HZ.out]; omega
    rw [hts] at o1 lts
    have HT : Hid (zs ++ [cy] = ts) := hts
    obtain ⟨a', cap', rfl, hres⟩ := Res.of lts o1
    clear hown1 hown hts o1
    go_wp2_with fail
    refine (rtrim_any _ _ _ _ hres.rd htl).mono ?_
    rintro e w2 ⟨a2, c2, rfl, hr2, hb2⟩; go_wp2
    go_ret
    refine ⟨a2, c2, _, rfl, ?_, tr_strip _, hr2.mono hb1.size, hb1.trans (hb2.mono hb1.size)⟩
    have h1 := HE.out
    rw [List.take_length] at h1; rw [V_strip, ← HT.out, V_snoc, HZ.out, h1, HPW.out, Nat.mul_left_comm]
theorem rsub_any (a : Option Addr) (cap : Nat) (xs : List Nat) (b : Option Addr) (cbp : Nat) (ys : List Nat) (w : World) (ha : Rd w a cap xs) (hb : Rd w b cbp ys) (hla : xs.length ≤ 500000000) (hlb : ys.length ≤ 500000000) :
    Calls Tryz.prog 135 #[.slice a xs.length cap, .slice b ys.length cbp] w fun e w' =>
     ∃ a' cap' zs, e = .returned (.slice a' zs.length cap') ∧ V zs = V xs - V ys ∧ Tr zs ∧ Res 180 w.heap.size w' a' cap' zs ∧ Below w.heap.size w w' := by
 obtain ⟨i0, hi, hz0, hz1, hz2⟩ := info_parts info_limb
 by_cases hle : V xs ≤ V ys
 · have hc := cmpN_le hle
   go_enter Tryz.func135, Tryz.ntmps135
   go_wp2_with fail
   refine (rcmp_any _ _ _ _ _ _ _ ha hb).mono ?_
   rintro e w1 ⟨rfl, rfl⟩
   generalize cmpN (V xs) (V ys) = q at hc ⊢
   go_wp2
   go_ret
   refine ⟨none, 0, [], rfl, ?_, tr_nil, ⟨Lim.nil, World.ownsRow_nil _ _ _ _⟩, Below.refl _ _⟩
   show 0 = _; omega
 · have hc := cmpN_gt (Nat.lt_of_not_le hle)
   have HC : Hid (cmpN (V xs) (V ys) = 1) := hc
   have HV : Hid (V ys < V xs) := Nat.lt_of_not_le hle
   have lL := ha.lim
   have lS := hb.lim
   have fL := ha.fm
   have fS := hb.fm
   have q1 := ha.le
   have q2 := ha.cap
   unfold maxLen at q2
   clear hc
   go_enter Tryz.func135, Tryz.ntmps135
   go_wp2_with fail
   refine (rcmp_any _ _ _ _ _ _ _ ha hb).mono ?_
   rintro e w0 ⟨rfl, rfl⟩; rw [HC.out]; clear ha hb; go_wp2
   go_loopw [5, 6, 7] (fun out c i wr => ∃ (k : Nat) (zs : List Nat) (cy : Nat), k ≤ xs.length ∧ i = .int .i64 k ∧ c = .int .u64 cy ∧ cy ≤ 1 ∧ zs.length = k ∧ Lim zs ∧ V zs + V (ys.take k) = V (xs.take k) + 4294967296 ^ k * cy ∧ wr.ownsRow w.heap.size 180 1 out k (zs.map U) ∧ Below w.heap.size w wr) (fun _ _ i _ => xs.length - (intOf i).toNat)
   case atStart => exact ⟨0, [], 0, Nat.zero_le _, rfl, rfl, Nat.zero_le _, rfl, Lim.nil, by simp [V], World.ownsRow_nil _ _ _ _, Below.refl _ _⟩
   case round =>
    obtain ⟨k, zs, cy, hk, rfl, rfl, hcy, hzl, lz, heq, hown, hnx⟩ := hrel
    have HE : Hid (V zs + V (ys.take k) = V (xs.take k) + 4294967296 ^ k * cy) := heq
    have HZ : Hid (zs.length = k) := hzl
    have hsz := hnx.size
    clear heq hzl
    by_cases hkn : k < xs.length
    · obtain ⟨bl, ol, rfl, _, hcl⟩ := fL.at hnx k hkn
      obtain ⟨x, hx⟩ : ∃ x, xs.getD k 0 = x := ⟨_, rfl⟩
      obtain ⟨y, hy⟩ : ∃ y, ys.getD k 0 = y := ⟨_, rfl⟩
      have bx : x < 4294967296 := by rw [← hx]; exact lL.getD k
      have byy : y < 4294967296 := by rw [← hy]; exact lS.getD k
      rw [hx] at hcl
      have HX : Hid (xs.getD k 0 = x) := hx
      have HY : Hid (ys.getD k 0 = y) := hy
      clear hx hy
      by_cases hkm : k < ys.length
      · obtain ⟨bs, os, rfl, _, hcs⟩ := fS.at hnx k hkm
        rw [HY.out] at hcs
        go_wp2_with (at_builtin; refine wpList_append_one rfl _ _ 78 rfl w.heap.size 180 i0 Tryz.underlying78 hi hz0 hz1 hz2 _ k zs rfl (hown.alloc _) wr.heap.size ((x + 4294967296 - cy - y) % 4294967296) rfl (cell_new1 _ _ _ _ (by omega)) (by omega) (by simp; omega) ?_)
        intro v' w1 hown1 hgrow1
        have hb1 : Below w.heap.size w w1 := (hnx.alloc hsz _).grown hgrow1 (by simp; omega) (fun k hk => (hown.lt k hk).1)
        clear hown; go_wp2
        go_roundw
        case rel =>
         exact ⟨k + 1, zs ++ [(x + 4294967296 - cy - y) % 4294967296], 1 - (x + 4294967296 - cy - y) / 4294967296, by omega, by go_num, u64_eq (by omega), by omega, by simp [HZ.out], lz.snoc (by omega), sub_step HZ.out HE.out HX.out HY.out (by omega) hcy byy bx, own_snoc hown1, hb1⟩
        case measure => simp [intOf]; omega
      · have y0 : y = 0 := by rw [← HY.out]; exact getD_past _ _ (by omega)
        subst y0
        go_wp2_with (at_builtin; refine wpList_append_one rfl _ _ 78 rfl w.heap.size 180 i0 Tryz.underlying78 hi hz0 hz1 hz2 _ k zs rfl (hown.alloc _) wr.heap.size ((x + 4294967296 - cy) % 4294967296) rfl (cell_new1 _ _ _ _ (by omega)) (by omega) (by simp; omega) ?_)
        intro v' w1 hown1 hgrow1
        have hb1 : Below w.heap.size w w1 := (hnx.alloc hsz _).grown hgrow1 (by simp; omega) (fun k hk => (hown.lt k hk).1)
        clear hown; go_wp2
        go_roundw
        case rel =>
         exact ⟨k + 1, zs ++ [(x + 4294967296 - cy) % 4294967296], 1 - (x + 4294967296 - cy) / 4294967296, by omega, by go_num, u64_eq (by omega), by omega, by simp [HZ.out], lz.snoc (by omega), sub_step HZ.out HE.out HX.out HY.out (by omega) hcy byy bx, own_snoc hown1, hb1⟩
        case measure => simp [intOf]; omega
    · obtain rfl : k = xs.length := by omega
      obtain ⟨a', cap', rfl, hres⟩ := Res.of lz hown
      clear hown
      go_wp2_with fail
      refine (rtrim_any _ _ _ _ hres.rd (by rw [HZ.out]; omega)).mono ?_
      rintro e w2 ⟨a2, c2, rfl, hr2, hb2⟩; go_wp2
      go_ret
      refine ⟨a2, c2, _, rfl, ?_, tr_strip _, hr2.mono hsz, hnx.trans (hb2.mono hsz)⟩
      rw [V_strip]
      exact sub_end lz HZ.out HE.out lL HV.out
end Go.Proofs.YtngmcghmniakeaaGreat
