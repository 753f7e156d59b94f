/-
  foundryref12.Few, Points, Ends: the walks.
  foundryref14.Few, foundrylaw14.few, foundrylaw14.awake: the walks.
  Stores: their bytes; what is written is read (plain mathematics).
  Packed lists: what is packed is read (plain mathematics).
-/
import Derived.Test.YtngmcghmniakeaaGreatZY15
import Derived.Test.YtngmcghmniakeaaGreatZY21
import Derived.Test.YtngmcghmniakeaaGreatZY7
import Derived.Test.YtngmcghmniakeaaGreatZY12
set_option maxHeartbeats 4000000
set_option maxRecDepth 100000
set_option linter.unusedSimpArgs false
set_option linter.unusedVariables false
namespace Go.Proofs.YtngmcghmniakeaaGreat
open Go.RowKit Go.Maps
def totO (cs : List (List Pn)) : Nat := cs.length + cs.flatten.length
def fewB (o : Ol) : Bool := decide (totO o.cs ≤ 1000) && decide (o.ps.length ≤ 100)
theorem totO_take {cs : List (List Pn)} {k : Nat} (hk : k < cs.length) : totO (cs.take (k + 1)) = totO (cs.take k) + (1 + (cs.getD k []).length) := by
 unfold totO
 rw [flat_take_succ hk, List.length_take, List.length_take]
 omega
theorem totO_le (cs : List (List Pn)) (k : Nat) : totO (cs.take k) ≤ totO cs := by
 unfold totO
 have := flat_take_le cs k
 rw [List.length_take]
 omega
theorem fewB_of {o : Ol} (h : fewB o = true) : o.cs.length ≤ 1000 ∧ o.cs.flatten.length ≤ 1000 ∧ o.ps.length ≤ 100 := by
 unfold fewB totO at h
 rw [Bool.and_eq_true, decide_eq_true_iff, decide_eq_true_iff] at h
 omega
theorem sfewO_any (S : Nat → Prop) (a : Option Addr) (ca : Nat) (b : Option Addr) (cb : Nat) (o : Ol) (w : World) (hc : Gr PnE.row S w a ca o.cs) (hp : Gr PaE S w b cb o.ps) :
    Calls Tryz.prog 23 #[.agg #[.slice a o.cs.length ca, .slice b o.ps.length cb]] w fun e w' => e = .returned (.bool (fewB o)) ∧ Below w.heap.size w w' := by
 have k1 := hc.lenB
 have k2 := hp.lenB
 obtain ⟨W, hW, X1, hbW⟩ : ∃ W, W = w.alloc (.cells #[.slice a o.cs.length ca, .slice b o.ps.length cb] 25) ∧ Bk 25 W w.heap.size [.slice a o.cs.length ca, .slice b o.ps.length cb] ∧ Below w.heap.size w W := ⟨_, rfl, Bk.new _ _ _, bl1 _⟩
 obtain ⟨x0, x1, _⟩ := X1.two
 have HC : Hid (Gr PnE.row S W a ca o.cs) := hc.below hbW
 have HF : Hid (fewB o = (decide (totO o.cs ≤ 1000) && decide (o.ps.length ≤ 100))) := rfl
 clear hc hp X1
 generalize fewB o = fb at *
 go_enter Tryz.func23, Tryz.ntmps23
 go_wp2; rw [← hW]; clear hW
 go_loopw [3, 4] (fun nv i wr => ∃ k n : Nat, k ≤ o.cs.length ∧ i = .int .i64 k ∧ nv = .int .i64 (n : Int) ∧ n = totO (o.cs.take k) ∧ n ≤ 140737488361232 ∧ W = wr) (fun _ i _ => o.cs.length - (intOf i).toNat)
 case atStart => exact ⟨0, 0, Nat.zero_le _, rfl, rfl, rfl, by omega, rfl⟩
 case round =>
  obtain ⟨k, n, hk, rfl, rfl, hn, hnb, rfl⟩ := hrel
  have HN : Hid (n = totO (o.cs.take k)) := hn
  clear hn
  by_cases hgo : k < o.cs.length ∧ n ≤ 1000
  · obtain ⟨hkn, hn1⟩ := hgo
    obtain ⟨b1, off, a1, c1, ea, hb, d0, hrow, hlb, _⟩ := HC.out.rw (Below.refl _ _) k hkn
    subst ea
    have hst := totO_take hkn
    rw [← HN.out] at hst
    obtain ⟨c, hcc⟩ : ∃ c, o.cs.getD k [] = c := ⟨_, rfl⟩
    rw [hcc] at d0 hst hlb
    have HN2 : Hid (n + (1 + c.length) = totO (o.cs.take (k + 1))) := hst.symm
    have g1 : decide (k < o.cs.length) = true := decide_eq_true hkn
    have g2 : decide ((n : Int) ≤ 1000) = true := decide_eq_true (by omega)
    have i1 : (0 : Int) ≤ (k : Int) := by omega
    have i2 : (k : Int) < (o.cs.length : Int) := by omega
    clear hst hcc hrow HN; go_wp2
    go_roundw
    case rel => exact ⟨k + 1, n + (1 + c.length), by omega, by go_num, by go_num, HN2.out, by omega, trivial⟩
    case measure => simp [intOf]; omega
  · have hle := totO_le o.cs k
    have HFF : Hid (fb = (decide ((n : Int) ≤ 1000) && decide ((o.ps.length : Int) ≤ 100))) := by
     show _ = _
     rw [HF.out]
     have h1 : decide (totO o.cs ≤ 1000) = decide ((n : Int) ≤ 1000) := by
      rw [decide_eq_decide]
      by_cases hkk : k < o.cs.length
      · rw [← HN.out] at hle
        omega
      · have : o.cs.take k = o.cs := List.take_of_length_le (by omega)
        have h2 := HN.out
        rw [this] at h2
        omega
     have h2 : decide (o.ps.length ≤ 100) = decide ((o.ps.length : Int) ≤ 100) := by
      rw [decide_eq_decide]
      omega
     rw [h1, h2]
    clear HN hle
    by_cases hkn : k < o.cs.length
    · have g1 : decide (k < o.cs.length) = true := decide_eq_true hkn
      have g2 : decide ((n : Int) ≤ 1000) = false := decide_eq_false (by omega)
      rw [g2, Bool.false_and] at HFF; go_wp2
      go_ret
      exact ⟨rt_bool HFF.out.symm, hbW⟩
    · have g1 : decide (k < o.cs.length) = false := decide_eq_false hkn
      by_cases hn1 : n ≤ 1000
      · have g2 : decide ((n : Int) ≤ 1000) = true := decide_eq_true (by omega)
        rw [g2, Bool.true_and] at HFF; go_wp2
        go_ret
        exact ⟨rt_bool HFF.out.symm, hbW⟩
      · have g2 : decide ((n : Int) ≤ 1000) = false := decide_eq_false (by omega)
        rw [g2, Bool.false_and] at HFF; go_wp2
        go_ret
        exact ⟨rt_bool HFF.out.symm, hbW⟩
theorem spointsO_any (S : Nat → Prop) (a : Option Addr) (ca : Nat) (vb : Value) (cs : List (List Pn)) (w : World) (h : Gr PnE.row S w a ca cs) (hl : cs.flatten.length ≤ 100000) (hv : vb.cells = #[vb]) :
    Calls Tryz.prog 78 #[.agg #[.slice a cs.length ca, vb]] w fun e w' => ∃ a' c', e = .returned (.slice a' cs.flatten.length c') ∧ Gr PnE (fun _ => True) w' a' c' cs.flatten ∧ (∀ b o, a' = some ⟨b, o, none⟩ → w.heap.size ≤ b ∧ b < w'.heap.size) ∧ Below w.heap.size w w' := by
 have k2 := h.lenB
 obtain ⟨W, hW, X1, hbW⟩ : ∃ W, W = w.alloc (.cells #[.slice a cs.length ca, vb] 25) ∧ Bk 25 W w.heap.size [.slice a cs.length ca, vb] ∧ Below w.heap.size w W := ⟨_, rfl, Bk.new _ _ _, bl1 _⟩
 have HH : Hid (Gr PnE.row S w a ca cs) := h
 have HX : Hid (Bk 25 W w.heap.size [.slice a cs.length ca, vb]) := X1
 have HB0 : Hid (Below w.heap.size w W) := hbW
 have HGL : Hid (w.heap.size < W.heap.size) := X1.lt
 clear h X1 hbW
 go_enter Tryz.func78, Tryz.ntmps78
 go_wp2; rw [← hW]; clear hW
 go_loopw [3, 4] (fun v i wr => ∃ k : Nat, k ≤ cs.length ∧ i = .int .i64 k ∧ Gw PnE 54 W.heap.size (fun _ => True) wr v ((cs.take k).flatten) ∧ Below W.heap.size W wr) (fun _ i _ => cs.length - (intOf i).toNat)
 case atStart => exact ⟨0, Nat.zero_le _, rfl, Gw.nil _ _ _ _ _, Below.refl _ _⟩
 case round =>
  obtain ⟨k, hk, rfl, hT, hB⟩ := hrel; obtain ⟨a2, c2, rfl, hgr, hblk⟩ := hT.slice
  have HT : Hid (Gw PnE 54 W.heap.size (fun _ => True) wr (.slice a2 ((cs.take k).flatten).length c2) ((cs.take k).flatten)) := hT
  obtain ⟨x0, x1, _⟩ := (HX.out.below hB).two
  have hBw : Below w.heap.size w wr := HB0.out.trans (hB.mono HB0.out.size)
  clear hT
  by_cases hkn : k < cs.length
  · obtain ⟨b, off, a1, c1, ea, hb, d0, hrow, hlb, _⟩ := HH.out.rw hBw k hkn
    subst ea
    have hst := flat_take_succ hkn
    have hle := flat_take_le cs (k + 1)
    obtain ⟨c, hc⟩ : ∃ c, cs.getD k [] = c := ⟨_, rfl⟩
    have HS : Hid (_) := flat_take_snoc hkn hc
    rw [hc] at d0 hst hlb hrow
    have hll : ((cs.take k).flatten).length + c.length ≤ 1000000 := by omega
    have i1 : (0 : Int) ≤ (k : Int) := by omega
    have i2 : (k : Int) < (cs.length : Int) := by omega
    have hbs : W.heap.size ≤ wr.heap.size := hB.size
    clear hc hst hle hlb hgr hblk
    generalize (cs.take k).flatten = L at *
    go_wp2_with (at_builtin; refine wpList_append_el 55 54 Tryz.underlying55 info_pn rfl (by decide) (by decide) rfl _ _ rfl W.heap.size (fun _ => True) _ L rfl HT.out a1 c1 _ c rfl rfl hrow.anyP hll hbs ?_)
    intro v9 w9 hT9 hgrow _
    have hB9 : Below W.heap.size W w9 := hB.grown hgrow hbs (fun k hk => (HT.out.lo hk).1)
    rw [← HS.out] at hT9; clear hgrow hbs hll HS; go_wp2
    go_roundw
    case rel => exact ⟨k + 1, by omega, by go_num, hT9, hB9⟩
    case measure => simp [intOf]; omega
  · obtain rfl : k = cs.length := by omega
    rw [List.take_length] at HT hgr ⊢
    have HB2 : Hid (∀ b o, a2 = some ⟨b, o, none⟩ → w.heap.size ≤ b ∧ b < wr.heap.size) := fun b o e => ⟨Nat.le_trans (Nat.le_of_lt HGL.out) (hblk b o e).1, (hblk b o e).2⟩
    have g4 : ¬ (cs.length : Int) < (cs.length : Int) := by omega
    clear hblk; go_wp2
    go_ret
    exact ⟨a2, c2, rfl, hgr, HB2.out, hBw⟩
theorem wrapU {z : Int} (h1 : -9223372036854775808 ≤ z) (h2 : z ≤ 9223372036854775807) : IntKind.i64.wrap z = z := by
 unfold IntKind.wrap
 simp [IntKind.bits, IntKind.signed]
 omega
def szT (t : Tu) : Nat := 1 + t.rg.length + t.pts.length + t.dx.length + t.dy.length
def totT (l : List Tu) : Nat := (l.map szT).sum
def fewT (l : List Tu) : Bool := decide (totT l ≤ 3000) && decide (l.length ≤ 30)
theorem totT_take {l : List Tu} {k : Nat} (hk : k < l.length) : totT (l.take (k + 1)) = totT (l.take k) + szT (l.getD k Tu.none) := by
 unfold totT
 rw [take_snoc (d := Tu.none) hk, List.map_append, List.sum_append]
 simp
theorem totT_le (l : List Tu) (k : Nat) : totT (l.take k) ≤ totT l := by
 have h : totT l = totT (l.take k) + totT (l.drop k) := by
  unfold totT
  rw [← List.sum_append, ← List.map_append, List.take_append_drop]
 omega
theorem fewT_of {l : List Tu} (h : fewT l = true) : l.length ≤ 30 ∧ totT l ≤ 3000 := by
 unfold fewT at h
 rw [Bool.and_eq_true, decide_eq_true_iff, decide_eq_true_iff] at h
 exact ⟨h.2, h.1⟩
theorem sfewT_any (S : Nat → Prop) (a : Option Addr) (ca : Nat) (l : List Tu) (w : World) (hl : Gr TuE S w a ca l) :
    Calls Tryz.prog 24 #[.slice a l.length ca] w fun e w' => e = .returned (.bool (fewT l)) ∧ Below w.heap.size w w' := by
 have k1 := hl.lenB
 have HC : Hid (Gr TuE S w a ca l) := hl
 have HF : Hid (fewT l = (decide (totT l ≤ 3000) && decide (l.length ≤ 30))) := rfl
 clear hl
 generalize fewT l = fb at *
 go_enter Tryz.func24, Tryz.ntmps24
 go_wp2
 go_loopw [3, 4] (fun nv i wr => ∃ k n : Nat, k ≤ l.length ∧ i = .int .i64 k ∧ nv = .int .i64 (n : Int) ∧ n = totT (l.take k) ∧ n ≤ 562949953425001 ∧ Below w.heap.size w wr) (fun _ i _ => l.length - (intOf i).toNat)
 case atStart => exact ⟨0, 0, Nat.zero_le _, rfl, rfl, rfl, by omega, Below.refl _ _⟩
 case round =>
  obtain ⟨k, n, hk, rfl, rfl, hn, hnb, hB⟩ := hrel
  have HN : Hid (n = totT (l.take k)) := hn
  have HB : Hid (Below w.heap.size w wr) := hB
  clear hn
  by_cases hgo : k < l.length ∧ n ≤ 3000
  · obtain ⟨hkn, hn1⟩ := hgo
    obtain ⟨b0, off, ra, rc, pa, pc, xa, xc, ya, yc, ea, hb, ht, d0, d1, d2, d3, d4⟩ := HC.out.tu hB k hkn
    subst ea
    have hst := totT_take hkn
    rw [← HN.out] at hst; obtain ⟨l1, l2, l3, l4⟩ := ht.len
    obtain ⟨t, htt⟩ : ∃ t, l.getD k Tu.none = t := ⟨_, rfl⟩
    rw [htt] at d0 d1 d2 d3 d4 hst l1 l2 l3 l4
    unfold szT at hst
    generalize t.rg.length = r at *
    generalize t.pts.length = p at *
    generalize t.dx.length = x at *
    generalize t.dy.length = y at *
    have HN2 : Hid (n + (1 + r + p + x + y) = totT (l.take (k + 1))) := hst.symm
    have g1 : decide (k < l.length) = true := decide_eq_true hkn
    have g2 : decide ((n : Int) ≤ 3000) = true := decide_eq_true (by omega)
    have i1 : (0 : Int) ≤ (k : Int) := by omega
    have i2 : (k : Int) < (l.length : Int) := by omega
    have w1 : IntKind.i64.wrap (1 + (r : Int)) = 1 + (r : Int) := wrapU (by omega) (by omega)
    have w2 : IntKind.i64.wrap (1 + (r : Int) + (p : Int)) = 1 + (r : Int) + (p : Int) := wrapU (by omega) (by omega)
    have w3 : IntKind.i64.wrap (1 + (r : Int) + (p : Int) + (x : Int)) = 1 + (r : Int) + (p : Int) + (x : Int) := wrapU (by omega) (by omega)
    have w4 : IntKind.i64.wrap (1 + (r : Int) + (p : Int) + (x : Int) + (y : Int)) = 1 + (r : Int) + (p : Int) + (x : Int) + (y : Int) := wrapU (by omega) (by omega)
    have w5 : IntKind.i64.wrap ((n : Int) + (1 + (r : Int) + (p : Int) + (x : Int) + (y : Int))) = (n : Int) + (1 + (r : Int) + (p : Int) + (x : Int) + (y : Int)) := wrapU (by omega) (by omega)
    clear hst htt ht HN hB
    go_upto_region 5 with fail
    refine wp_region_held_drew (S := fun w9 => w9.cell? ⟨b0, off + k * 5, none⟩ = some (.slice ra r rc) ∧ w9.cell? ⟨b0, off + k * 5 + 2, none⟩ = some (.slice pa p pc) ∧ w9.cell? ⟨b0, off + k * 5 + 3, none⟩ = some (.slice xa x xc) ∧ w9.cell? ⟨b0, off + k * 5 + 4, none⟩ = some (.slice ya y yc)) (by kernel_rfl) ?_ (fun hHeld => ?_)
    · (try dsimp only)
      go_keep
    have hdr : Below wr.heap.size wr wr.drew := Below.drew1
    generalize wr.drew = Z at hdr hHeld ⊢
    clear d0 d1 d2 d3 d4; refine hT 0 hHeld ?_; refine hT 1 hHeld ?_; refine hT 2 hHeld ?_; refine hT 3 hHeld ?_; refine hT 4 hHeld ?_; refine hT 5 hHeld ?_; refine hT 6 hHeld ?_; refine hT 7 hHeld ?_; refine hT 8 hHeld ?_; refine hT 9 hHeld ?_; refine hT 10 hHeld ?_; refine hT 11 hHeld ?_; refine hT 12 hHeld ?_
    refine hT 13 hHeld ?_; refine hT 14 hHeld ?_; refine hT 15 hHeld ?_; refine hT 16 hHeld ?_; refine hT 17 hHeld ?_; refine hT 18 hHeld ?_; refine hT 19 hHeld ?_; refine hT 20 hHeld ?_; refine hT 21 hHeld ?_; refine hT 22 hHeld ?_; refine hT 23 hHeld ?_; refine hT 24 hHeld ?_; refine hT 25 hHeld ?_
    refine hT 26 hHeld ?_; refine hT 27 hHeld ?_; refine hT 28 hHeld ?_; refine hT 29 hHeld ?_; refine hT 30 hHeld ?_
    refine wpAnyH_done (by kernel_rfl) ?_ _
    have HB2 : Hid (Below w.heap.size w Z) := HB.out.trans (hdr.mono HB.out.size)
    clear hHeld hdr; go_wp2
    go_roundw
    case rel => exact ⟨k + 1, n + (1 + r + p + x + y), by omega, by go_num, by exact congrArg (Value.int .i64) (by omega), HN2.out, by omega, HB2.out⟩
    case measure => simp [intOf]; omega
  · have hle := totT_le l k
    have HFF : Hid (fb = (decide ((n : Int) ≤ 3000) && decide ((l.length : Int) ≤ 30))) := by
     show _ = _
     rw [HF.out]
     have h1 : decide (totT l ≤ 3000) = decide ((n : Int) ≤ 3000) := by
      rw [decide_eq_decide]
      by_cases hkk : k < l.length
      · rw [← HN.out] at hle
        omega
      · have : l.take k = l := List.take_of_length_le (by omega)
        have h2 := HN.out
        rw [this] at h2
        omega
     have h2 : decide (l.length ≤ 30) = decide ((l.length : Int) ≤ 30) := by
      rw [decide_eq_decide]
      omega
     rw [h1, h2]
    clear HN hle
    by_cases hkn : k < l.length
    · have g1 : decide (k < l.length) = true := decide_eq_true hkn
      have g2 : decide ((n : Int) ≤ 3000) = false := decide_eq_false (by omega)
      rw [g2, Bool.false_and] at HFF; go_wp2
      go_ret
      exact ⟨rt_bool HFF.out.symm, hB⟩
    · have g1 : decide (k < l.length) = false := decide_eq_false hkn
      by_cases hn1 : n ≤ 3000
      · have g2 : decide ((n : Int) ≤ 3000) = true := decide_eq_true (by omega)
        rw [g2, Bool.true_and] at HFF; go_wp2
        go_ret
        exact ⟨rt_bool HFF.out.symm, hB⟩
      · have g2 : decide ((n : Int) ≤ 3000) = false := decide_eq_false (by omega)
        rw [g2, Bool.false_and] at HFF; go_wp2
        go_ret
        exact ⟨rt_bool HFF.out.symm, hB⟩
theorem few14_any (S : Nat → Prop) (a : Option Addr) (ca : Nat) (b : Option Addr) (cb : Nat) (o : Ol) (la : Option Addr) (lc : Nat) (l : List Tu) (ga : Option Addr) (gn gc : Nat) (w : World) (hc : Gr PnE.row S w a ca o.cs) (hp : Gr PaE S w b cb o.ps) (hl : Gr TuE S w la lc l) (hg : gn ≤ 9223372036854775807) :
    Calls Tryz.prog 7 #[.agg #[.slice a o.cs.length ca, .slice b o.ps.length cb, .slice la l.length lc], .slice ga gn gc] w fun e w' => e = .returned (.bool (fewB o && (fewT l && decide (gn ≤ 20)))) ∧ Below w.heap.size w w' := by
 obtain ⟨W, hW, X1, hbW⟩ : ∃ W, W = w.alloc (.cells #[.slice a o.cs.length ca, .slice b o.ps.length cb, .slice la l.length lc] 28) ∧ Bk 28 W w.heap.size [.slice a o.cs.length ca, .slice b o.ps.length cb, .slice la l.length lc] ∧ Below w.heap.size w W := ⟨_, rfl, Bk.new _ _ _, bl1 _⟩
 obtain ⟨p0, p1, p2, _⟩ := X1.three
 have c1 := sfewO_any S a ca b cb o W (hc.below hbW) (hp.below hbW)
 have c2 := fun U (hb : Below W.heap.size W U) => sfewT_any S la lc l U ((hl.below hbW).below hb)
 obtain ⟨Q, hQ⟩ : ∃ q, (fewB o && (fewT l && decide (gn ≤ 20))) = q := ⟨_, rfl⟩
 have HQ : Hid ((fewB o && (fewT l && decide (gn ≤ 20))) = Q) := hQ
 rw [hQ]; clear hQ hc hp hl
 cases h1 : fewB o with
 | false =>
  have HF : Hid (Q = false) := by show _ = _; rw [← HQ.out, h1]; rfl
  rw [h1] at c1; clear h1 HQ c2
  go_enter Tryz.func7, Tryz.ntmps7
  go_upto_region 1 with fail
  rw [← hW]; clear hW
  go_wp2_with fail
  refine c1.mono ?_
  rintro e m1 ⟨rfl, hb1⟩
  have hfin := hbW.trans (hb1.mono hbW.size)
  clear hb1 c1; go_wp2
  go_ret
  exact ⟨rt_bool HF.out.symm, hfin⟩
 | true =>
 rw [h1] at c1
 cases h2 : fewT l with
 | false =>
  have HF : Hid (Q = false) := by show _ = _; rw [← HQ.out, h1, h2]; rfl
  rw [h2] at c2; clear h1 h2 HQ
  go_enter Tryz.func7, Tryz.ntmps7
  go_upto_region 1 with fail
  rw [← hW]; clear hW
  go_wp2_with fail
  refine c1.mono ?_
  rintro e m1 ⟨rfl, hb1⟩; replace X1 := X1.below hb1; clear p0 p1 p2 c1; obtain ⟨p0, p1, p2, _⟩ := X1.three
  go_wp2_with fail
  refine (c2 _ hb1).mono ?_
  rintro e m2 ⟨rfl, hb2⟩
  have hfin := (hbW.trans (hb1.mono hbW.size)).trans (hb2.mono (Nat.le_trans hbW.size hb1.size))
  clear hb1 hb2 c2; go_wp2
  go_ret
  exact ⟨rt_bool HF.out.symm, hfin⟩
 | true =>
 rw [h2] at c2
 have HF : Hid (Q = decide ((gn : Int) ≤ 20)) := by
  show _ = _
  rw [← HQ.out, h1, h2, Bool.true_and, Bool.true_and, decide_eq_decide]
  omega
 clear h1 h2 HQ
 go_enter Tryz.func7, Tryz.ntmps7
 go_upto_region 1 with fail
 rw [← hW]; clear hW
 go_wp2_with fail
 refine c1.mono ?_
 rintro e m1 ⟨rfl, hb1⟩; replace X1 := X1.below hb1; clear p0 p1 p2 c1; obtain ⟨p0, p1, p2, _⟩ := X1.three
 go_wp2_with fail
 refine (c2 _ hb1).mono ?_
 rintro e m2 ⟨rfl, hb2⟩
 have hfin := (hbW.trans (hb1.mono hbW.size)).trans (hb2.mono (Nat.le_trans hbW.size hb1.size))
 clear hb1 hb2 c2; go_wp2
 go_ret
 exact ⟨rt_bool HF.out.symm, hfin⟩
def awT : Tu := ⟨[⟨0, 16384, 16384⟩], true, [], [5], [-3]⟩
def awO : Ol := ⟨[[⟨10, 0, false⟩]], []⟩
theorem aw14a : atE awO [awT] [8192] = 0 ∧ (atO awO [awT] [8192]).cs.map (fun c => c.map (fun p => (p.x, p.y, p.on))) = [[(13, -1, false)]] ∧ (atO awO [awT] [8192]).ps.length = 0 := by
 decide +kernel
theorem ol_of {o : Ol} (h1 : o.cs.map (fun c => c.map (fun p => (p.x, p.y, p.on))) = [[(13, -1, false)]]) (h2 : o.ps.length = 0) : o = ⟨[[⟨13, -1, false⟩]], []⟩ := by
 obtain ⟨cs, ps⟩ := o
 obtain rfl : ps = [] := List.length_eq_zero_iff.1 h2
 rcases cs with _ | ⟨c, _ | ⟨d, cs⟩⟩
 · simp at h1
 · rcases c with _ | ⟨p, _ | ⟨q, c⟩⟩
   · simp at h1
   · obtain ⟨x, y, on⟩ := p
     simp at h1
     obtain ⟨rfl, rfl, rfl⟩ := h1
     rfl
   · simp at h1
 · simp at h1
theorem aw14 : atE awO [awT] [8192] = 0 ∧ atO awO [awT] [8192] = ⟨[[⟨13, -1, false⟩]], []⟩ := ⟨aw14a.1, ol_of aw14a.2.1 aw14a.2.2⟩
theorem awake14_any (w : World) :
    Calls Tryz.prog 6 #[] w fun e w' => e = .returned (.bool true) ∧ Below w.heap.size w w' := by
 obtain ⟨V1, hV1, A1, b1⟩ : ∃ V, V = w.alloc (.cells #[.int .i64 10, .int .i64 0, .bool false] 54) ∧ Bk 54 V w.heap.size [.int .i64 10, .int .i64 0, .bool false] ∧ Below w.heap.size w V := ⟨_, rfl, Bk.new _ _ _, bl1 _⟩
 obtain ⟨V2, hV2, A2, b2⟩ : ∃ V, V = V1.alloc (.cells #[.slice (some ⟨w.heap.size, 0, none⟩) 1 1] 55) ∧ Bk 55 V V1.heap.size [.slice (some ⟨w.heap.size, 0, none⟩) 1 1] ∧ Below V1.heap.size V1 V := ⟨_, rfl, Bk.new _ _ _, bl1 _⟩
 obtain ⟨V3, hV3, A3, b3⟩ : ∃ V, V = V2.alloc (.cells #[.slice (some ⟨V1.heap.size, 0, none⟩) 1 1, .slice none 0 0] 25) ∧ Bk 25 V V2.heap.size [.slice (some ⟨V1.heap.size, 0, none⟩) 1 1, .slice none 0 0] ∧ Below V2.heap.size V2 V := ⟨_, rfl, Bk.new _ _ _, bl1 _⟩
 obtain ⟨V4, hV4, A4, b4⟩ : ∃ V, V = V3.alloc (.cells #[.int .i64 0, .int .i64 16384, .int .i64 16384] 57) ∧ Bk 57 V V3.heap.size [.int .i64 0, .int .i64 16384, .int .i64 16384] ∧ Below V3.heap.size V3 V := ⟨_, rfl, Bk.new _ _ _, bl1 _⟩
 obtain ⟨V5, hV5, A5, b5⟩ : ∃ V, V = V4.alloc (.cells #[.int .i64 5] 3) ∧ Bk 3 V V4.heap.size [.int .i64 5] ∧ Below V4.heap.size V4 V := ⟨_, rfl, Bk.new _ _ _, bl1 _⟩
 obtain ⟨V6, hV6, A6, b6⟩ : ∃ V, V = V5.alloc (.cells #[.int .i64 (-3)] 3) ∧ Bk 3 V V5.heap.size [.int .i64 (-3)] ∧ Below V5.heap.size V5 V := ⟨_, rfl, Bk.new _ _ _, bl1 _⟩
 obtain ⟨V7, hV7, A7, b7⟩ : ∃ V, V = V6.alloc (.cells #[.slice (some ⟨V3.heap.size, 0, none⟩) 1 1, .bool true, .slice none 0 0, .slice (some ⟨V4.heap.size, 0, none⟩) 1 1, .slice (some ⟨V5.heap.size, 0, none⟩) 1 1] 60) ∧ Bk 60 V V6.heap.size [.slice (some ⟨V3.heap.size, 0, none⟩) 1 1, .bool true, .slice none 0 0, .slice (some ⟨V4.heap.size, 0, none⟩) 1 1, .slice (some ⟨V5.heap.size, 0, none⟩) 1 1] ∧ Below V6.heap.size V6 V := ⟨_, rfl, Bk.new _ _ _, bl1 _⟩
 obtain ⟨V8, hV8, A8, b8⟩ : ∃ V, V = V7.alloc (.cells #[.int .i64 8192] 3) ∧ Bk 3 V V7.heap.size [.int .i64 8192] ∧ Below V7.heap.size V7 V := ⟨_, rfl, Bk.new _ _ _, bl1 _⟩
 have hbW : Below w.heap.size w V8 := (((((((b1.trans (b2.mono b1.size)).trans (b3.mono (Nat.le_trans b1.size b2.size))).trans (b4.mono (Nat.le_trans (Nat.le_trans b1.size b2.size) b3.size))).trans (b5.mono (Nat.le_trans (Nat.le_trans (Nat.le_trans b1.size b2.size) b3.size) b4.size)))).trans (b6.mono (Nat.le_trans (Nat.le_trans (Nat.le_trans (Nat.le_trans b1.size b2.size) b3.size) b4.size) b5.size))).trans (b7.mono (Nat.le_trans (Nat.le_trans (Nat.le_trans (Nat.le_trans (Nat.le_trans b1.size b2.size) b3.size) b4.size) b5.size) b6.size))).trans (b8.mono (Nat.le_trans (Nat.le_trans (Nat.le_trans (Nat.le_trans (Nat.le_trans (Nat.le_trans b1.size b2.size) b3.size) b4.size) b5.size) b6.size) b7.size))
 replace A1 := ((((((A1.below b2).below b3).below b4).below b5).below b6).below b7).below b8
 replace A2 := (((((A2.below b3).below b4).below b5).below b6).below b7).below b8
 have A3' := A3
 replace A3 := ((((A3.below b4).below b5).below b6).below b7).below b8
 replace A4 := (((A4.below b5).below b6).below b7).below b8
 replace A5 := ((A5.below b6).below b7).below b8
 replace A6 := (A6.below b7).below b8
 replace A7 := A7.below b8
 have g1 : Gr PnE (fun _ => True) V8 (some ⟨w.heap.size, 0, none⟩) 1 [⟨10, 0, false⟩] := Gr.one (vs := pnC ⟨10, 0, false⟩) (PnE_rep.2 ⟨rfl, ⟨by decide, by decide⟩, ⟨by decide, by decide⟩⟩) A1.lt (fun j hj => A1.cell j hj)
 have g2 : Gr PnE.row (fun _ => True) V8 (some ⟨V1.heap.size, 0, none⟩) 1 awO.cs := Gr.one (vs := [.slice (some ⟨w.heap.size, 0, none⟩) 1 1]) ⟨_, _, rfl, fun _ _ _ _ => trivial, g1, by decide⟩ A2.lt (fun j hj => A2.cell j hj)
 have g3 : Gr TeE (fun _ => True) V8 (some ⟨V3.heap.size, 0, none⟩) 1 awT.rg := Gr.one (vs := teV ⟨0, 16384, 16384⟩) (TeE_rep.2 ⟨rfl, ⟨by decide, by decide⟩, ⟨by decide, by decide⟩, ⟨by decide, by decide⟩⟩) A4.lt (fun j hj => A4.cell j hj)
 have g4 : Gr El.int (fun _ => True) V8 (some ⟨V4.heap.size, 0, none⟩) 1 awT.dx := Gr.one (vs := [.int .i64 5]) ⟨rfl, by decide, by decide⟩ A5.lt (fun j hj => A5.cell j hj)
 have g5 : Gr El.int (fun _ => True) V8 (some ⟨V5.heap.size, 0, none⟩) 1 awT.dy := Gr.one (vs := [.int .i64 (-3)]) ⟨rfl, by decide, by decide⟩ A6.lt (fun j hj => A6.cell j hj)
 have g6 : Gr TuE (fun _ => True) V8 (some ⟨V6.heap.size, 0, none⟩) 1 [awT] := Gr.one (vs := [.slice (some ⟨V3.heap.size, 0, none⟩) 1 1, .bool true, .slice none 0 0, .slice (some ⟨V4.heap.size, 0, none⟩) 1 1, .slice (some ⟨V5.heap.size, 0, none⟩) 1 1]) (TuE_rep.2 ⟨some ⟨V3.heap.size, 0, none⟩, 1, none, 0, some ⟨V4.heap.size, 0, none⟩, 1, some ⟨V5.heap.size, 0, none⟩, 1, rfl, ⟨_, _, rfl, fun _ _ _ _ => trivial, g3, by decide⟩, ⟨_, _, rfl, fun _ _ _ _ => trivial, Gr.nil _ _ _ _ _ (Nat.zero_le _) (fun _ => rfl), by decide⟩, ⟨_, _, rfl, fun _ _ _ _ => trivial, g4, by decide⟩, ⟨_, _, rfl, fun _ _ _ _ => trivial, g5, by decide⟩⟩) A7.lt (fun j hj => A7.cell j hj)
 have g7 : Ri V8 (some ⟨V7.heap.size, 0, none⟩) 1 [8192] := Gr.ri (Gr.one (S := fun _ => True) (vs := [.int .i64 8192]) ⟨rfl, by decide, by decide⟩ A8.lt (fun j hj => A8.cell j hj))
 have hat := uat_any (fun _ => True) (some ⟨V1.heap.size, 0, none⟩) 1 none 0 awO (fun _ => True) (some ⟨V6.heap.size, 0, none⟩) 1 [awT] (some ⟨V7.heap.size, 0, none⟩) 1 [8192] V8 g2 (Gr.nil _ _ _ _ _ (Nat.zero_le _) (fun _ => rfl)) g6 g7
 rw [aw14.1, aw14.2] at hat
 replace hat : Calls Tryz.prog 10 #[.agg #[.slice (some ⟨V1.heap.size, 0, none⟩) 1 1, .slice none 0 0], .slice (some ⟨V6.heap.size, 0, none⟩) 1 1, .slice (some ⟨V7.heap.size, 0, none⟩) 1 1] V8 fun e w' => ∃ a1 c1 a2 c2, e = .returned (.tuple #[.agg #[.slice a1 1 c1, .slice a2 0 c2], .int .i64 0]) ∧ Gr PnE.row (fun k => V8.heap.size ≤ k) w' a1 c1 [[⟨13, -1, false⟩]] ∧ Gr PaE (fun k => V8.heap.size ≤ k) w' a2 c2 [] ∧ ((∀ b o, a1 = some ⟨b, o, none⟩ → V8.heap.size ≤ b) ∧ ∀ b o, a2 = some ⟨b, o, none⟩ → V8.heap.size ≤ b) ∧ Below V8.heap.size V8 w' := hat
 obtain ⟨p0, p1, _⟩ := A3'.two; clear A1 A2 A3 A4 A5 A6 A7 A8 A3' g1 g2 g3 g4 g5 g6 g7 b1 b2 b3 b4 b5 b6 b7 b8
 go_enter Tryz.func6, Tryz.ntmps6
 go_upto_region 2 with fail
 have s1 : w.heap.size + 1 = V1.heap.size := by rw [hV1]; simp
 have s2 : V1.heap.size + 1 = V2.heap.size := by rw [hV2]; simp
 rw [← hV1, ← hV2, s1]
 try rw [s2]
 rw [← hV3]
 have HS : Hid (V3.heap.size + 1 = V4.heap.size ∧ V4.heap.size + 1 = V5.heap.size ∧ V5.heap.size + 1 = V6.heap.size ∧ V6.heap.size + 1 = V7.heap.size) := ⟨by rw [hV4]; simp, by rw [hV5]; simp, by rw [hV6]; simp, by rw [hV7]; simp⟩
 have HV4 : Hid (_ = _) := hV4
 have HV5 : Hid (_ = _) := hV5
 have HV6 : Hid (_ = _) := hV6
 have HV7 : Hid (_ = _) := hV7
 have HV8 : Hid (_ = _) := hV8
 clear s1 s2 hV1 hV2 hV3 hV4 hV5 hV6 hV7 hV8
 go_wp2_with fail
 rw [← HV4.out, ← HV5.out, ← HV6.out, HS.out.1, HS.out.2.1, HS.out.2.2.1, ← HV7.out, HS.out.2.2.2, ← HV8.out]; clear HV4 HV5 HV6 HV7 HV8 HS p0 p1
 refine hat.mono ?_
 rintro e m1 ⟨a1, c1, a2, c2, rfl, hg1, hg2, -, hb1⟩; clear hat
 obtain ⟨q0, o0, q1, c3, e1, hq0, k0, hr0, -, -⟩ := hg1.rw (Below.refl _ _) 0 (by decide)
 subst e1
 replace hr0 : Gr PnE (fun k => V8.heap.size ≤ k) m1 q1 c3 [⟨13, -1, false⟩] := hr0
 replace k0 : m1.cell? ⟨q0, o0, none⟩ = some (.slice q1 1 c3) := k0
 obtain ⟨r0, s0, e2, hq1, -, k1, k2, k3⟩ := hr0.pn (Below.refl _ _) 0 (by decide)
 subst e2
 replace k1 : m1.cell? ⟨r0, s0, none⟩ = some (.int .i64 13) := by simpa using k1
 replace k2 : m1.cell? ⟨r0, s0 + 1, none⟩ = some (.int .i64 (-1)) := by simpa using k2
 obtain ⟨V, hV, X1, hb2⟩ : ∃ V, V = m1.alloc (.cells #[.slice (some ⟨q0, o0, none⟩) 1 c1, .slice a2 0 c2] 25) ∧ Bk 25 V m1.heap.size [.slice (some ⟨q0, o0, none⟩) 1 c1, .slice a2 0 c2] ∧ Below m1.heap.size m1 V := ⟨_, rfl, Bk.new _ _ _, bl1 _⟩
 replace k0 := (hb2.cell (p := ⟨q0, o0, none⟩) hq0).trans k0
 replace k1 := (hb2.cell (p := ⟨r0, s0, none⟩) hq1).trans k1
 replace k2 := (hb2.cell (p := ⟨r0, s0 + 1, none⟩) hq1).trans k2
 obtain ⟨x0, x1, _⟩ := X1.two
 have hfin := (hbW.trans (hb1.mono hbW.size)).trans (hb2.mono (Nat.le_trans hbW.size hb1.size))
 clear hg1 hg2 hr0 k3 hb1 hb2
 go_upto_region 3 with fail
 rw [← hV]; clear hV; go_wp2
 go_ret
 exact ⟨rfl, hfin⟩
def teE (t : Te) : List Nat := be2 t.st ++ (be2 t.pk ++ be2 t.en)
def tesE : List Te → List Nat
 | [] => []
 | t :: l => teE t ++ tesE l
theorem tesE_append (l m : List Te) : tesE (l ++ m) = tesE l ++ tesE m := by
 induction l with
 | nil => rfl
 | cons t l ih => rw [List.cons_append, tesE, tesE, ih, List.append_assoc]
theorem teE_len (t : Te) : (teE t).length = 6 := rfl
theorem tesE_len (l : List Te) : (tesE l).length = 6 * l.length := by
 induction l with
 | nil => rfl
 | cons t l ih => rw [tesE, List.length_append, ih, teE_len, List.length_cons]; omega
def teAt (b : List Nat) (p : Nat) : Te := ⟨sx16 (nmV b (p : Int) 2), sx16 (nmV b ((p + 2 : Nat) : Int) 2), sx16 (nmV b ((p + 4 : Nat) : Int) 2)⟩
def tesAt (b : List Nat) (p n : Nat) : List Te := (List.range n).map (fun i => teAt b (p + 6 * i))
theorem tesAt_len (b : List Nat) (p n : Nat) : (tesAt b p n).length = n := by simp [tesAt]
theorem tesAt_succ (b : List Nat) (p n : Nat) : tesAt b p (n + 1) = tesAt b p n ++ [teAt b (p + 6 * n)] := by simp [tesAt, List.range_succ]
structure Fit (P : Pk) (R : Rp) (D : Int → Prop) : Prop where
 hM : 0 < P.M
 eM : R.M = P.M
 top : ∀ x, D x → P.M * P.c x + P.M ≤ R.top ∧ P.M * P.c x + P.M ≤ 256
 sz : ∀ x, D x → (P.en (P.c x) x).length = R.sz (P.c x)
 vl : ∀ b A Z x, D x → b = A ++ (P.en (P.c x) x ++ Z) → R.vl b (P.c x) A.length = x
 by' : ∀ x, D x → Byt (P.en (P.c x) x)
theorem body_len {P : Pk} {R : Rp} {D : Int → Prop} (hf : Fit P R D) {kd : Nat} : ∀ {m : List Int}, (∀ x ∈ m, D x ∧ P.c x = kd) → (m.flatMap (P.en kd)).length = m.length * R.sz kd := by
 intro m
 induction m with
 | nil => intro _; simp
 | cons x t ih =>
  intro h
  obtain ⟨h1, h2⟩ := h x (by simp)
  have := hf.sz x h1
  rw [h2] at this
  rw [List.flatMap_cons, List.length_append, this, ih (fun y hy => h y (by simp [hy])), List.length_cons, Nat.add_mul]
  omega
theorem run_kinds {P : Pk} {l : List Int} : ∀ x ∈ l.take (rn P.c P.M l), P.c x = P.c (l.getD 0 0) := by
 intro x hx
 obtain ⟨i, hi, e⟩ := List.getElem_of_mem hx
 have h1 : i < rn P.c P.M l := by rw [List.length_take] at hi; omega
 have h2 := rn_same h1
 rw [← e]; rw [List.length_take] at hi
 have h3 : l.getD i 0 = (l.take (rn P.c P.M l))[i] := by simp [List.getD, show i < l.length by omega]
 rw [← h3]
 exact h2
theorem byt_pk {P : Pk} {R : Rp} {D : Int → Prop} (hf : Fit P R D) : ∀ (n : Nat) (l : List Int), l.length = n → (∀ x ∈ l, D x) → Byt (pk P l) := by
 intro n
 induction n using Nat.strongRecOn with
 | ind n ih =>
  intro l hn hD
  by_cases hl : l = []
  · subst hl; exact Byt.nil
  have h1 := rn_pos (c := P.c) hf.hM hl
  obtain ⟨h2, h3⟩ := rn_le (c := P.c) (M := P.M) l
  have hx0 : l.getD 0 0 ∈ l := by
   have : 0 < l.length := List.length_pos_iff.2 hl
   rw [List.getD_eq_getElem?_getD, List.getElem?_eq_getElem this]
   exact List.getElem_mem this
  rw [pk_cons P hf.hM hl]
  refine Byt.append (fun y hy => ?_) (Byt.append (fun y hy => ?_) (ih (l.length - rn P.c P.M l) (by omega) _ (by rw [List.length_drop]) (fun x hx => hD x (List.mem_of_mem_drop hx))))
  · rw [List.mem_singleton] at hy
    have := (hf.top _ (hD _ hx0)).2
    omega
  · obtain ⟨x, hx, hy⟩ := List.mem_flatMap.1 hy
    have hc := run_kinds (P := P) x hx
    rw [← hc] at hy
    exact hf.by' x (hD x (List.mem_of_mem_take hx)) y hy
theorem pk_short {P : Pk} {R : Rp} {D : Int → Prop} (hf : Fit P R D) {m : Nat} (hm : ∀ x, D x → R.sz (P.c x) + 1 ≤ m) : ∀ (n : Nat) (l : List Int), l.length = n → (∀ x ∈ l, D x) → (pk P l).length ≤ m * l.length := by
 intro n
 induction n using Nat.strongRecOn with
 | ind n ih =>
  intro l hn hD
  by_cases hl : l = []
  · subst hl; exact Nat.zero_le _
  have hpos : 0 < l.length := List.length_pos_iff.2 hl
  have h1 := rn_pos (c := P.c) hf.hM hl
  obtain ⟨h2, h3⟩ := rn_le (c := P.c) (M := P.M) l
  have hx0 : l.getD 0 0 ∈ l := by
   rw [List.getD_eq_getElem?_getD, List.getElem?_eq_getElem hpos]
   exact List.getElem_mem hpos
  have hrec := ih (l.drop (rn P.c P.M l)).length (by rw [List.length_drop]; omega) _ rfl (fun x hx => hD x (List.mem_of_mem_drop hx))
  have hbl := body_len hf (m := l.take (rn P.c P.M l)) (fun x hx => ⟨hD x (List.mem_of_mem_take hx), run_kinds x hx⟩)
  have hs := hm _ (hD _ hx0)
  have hlt : (l.take (rn P.c P.M l)).length = rn P.c P.M l := by rw [List.length_take]; omega
  rw [hlt] at hbl; rw [List.length_drop] at hrec; rw [pk_cons P hf.hM hl]
  simp only [List.length_append, List.length_singleton]
  rw [hbl]
  generalize rn P.c P.M l = k at *
  have e : l.length = k + (l.length - k) := by omega
  rw [e, Nat.mul_add]
  have h5 : 1 + k * R.sz (P.c (l.getD 0 0)) ≤ m * k := by
   have : k * (R.sz (P.c (l.getD 0 0)) + 1) ≤ k * m := Nat.mul_le_mul_left k hs
   rw [Nat.mul_add, Nat.mul_one, Nat.mul_comm k m] at this
   omega
  omega
end Go.Proofs.YtngmcghmniakeaaGreat
