/-
  (*strokes.source).count, (*strokes.source).step: the walks.
  (*strokes.source).step: the walk.
  (*strokes.source).drawing, strokes.Read: the walks.
-/
import Derived.Test.YtkbbdkecillnpaaGreatZY28
import Derived.Test.YtkbbdkecillnpaaGreatZY18
import Derived.Test.YtkbbdkecillnpaaGreatZY22
import Derived.Test.YtkbbdkecillnpaaGreatZY2
import Derived.Test.YtkbbdkecillnpaaGreatZY24
namespace Go.Proofs.YtkbbdkecillnpaaGreat
open Go.RowKit Go.Maps
set_option linter.unusedSimpArgs false
set_option linter.unusedVariables false

theorem Kp.newD {g b : Nat} {a w : World} (h : Kp g a w) (hb : a.heap.size ≤ b) (j : Nat) (z : Value) : Kp g a (w.setCell ⟨b, j, none⟩ z) := Keep.setCell h (p := ⟨b, j, none⟩) (fun e => Nat.not_lt.2 hb e.1) z
theorem Sc.ofD {t : TypeId} {w u : World} {g : Nat} {pa : Option Addr} {pc : Nat} {xs : List Nat} {p q : Nat} (h : Sc t w g pa pc xs p) (hk : Kp g w u) (hb : Bk t u g [.slice pa xs.length pc, .int .i64 (q : Int)]) : Sc t u g pa pc xs q :=
  ⟨hb, h.rb.keep' hk.size (fun b o hlt e hne => hk.block hlt (h.2.2 b o e hne)), h.2.2⟩
theorem inB_drop (xs : List Nat) (p n : Nat) (hn : 1 ≤ n) : inB xs.length (p : Int) (n : Int) = decide (n ≤ (xs.drop p).length) := by
  unfold inB
  rw [List.length_drop]
  congr 1
  apply propext
  omega
def ckB (xs : List Nat) (p m : Nat) : Bool := decide (2 ≤ (xs.drop p).length) && decide (hd2 (xs.drop p) ≤ m)

set_option maxHeartbeats 4000000 in
set_option maxRecDepth 100000 in
theorem count_any (sb : Nat) (a : Option Addr) (cap : Nat) (xs : List Nat) (p m : Nat) (w : World) (hS : Sc 90 w sb a cap xs p) (hp : p ≤ 1000000) (hm : m ≤ 100) :
    Calls Tryz.prog 37 #[.pointer (some ⟨sb, 0, none⟩), .int .i64 (m : Int)] w fun e w' => e = .returned (.tuple #[.int .i64 ((hd2 (xs.drop p) : Nat) : Int), .bool (ckB xs p m)]) ∧ Bk 90 w' sb [.slice a xs.length cap, .int .i64 ((p + 2 : Nat) : Int)] ∧ Kp sb w w' := by
  have kx := hS.rb.le
  have kx2 := hS.rb.cap
  unfold maxLen at kx2
  have hn := nmV_lt hS.rb.lim (p : Int) 2
  have hu := fun U (hr : Rb U a cap xs) => u16_any a cap xs (p : Int) U hr ⟨by omega, by omega⟩
  have ei : inB xs.length (p : Int) 2 = decide (2 ≤ (xs.drop p).length) := inB_drop xs p 2 (by omega)
  rw [nmV_hd2] at hn
  simp only [nmV_hd2, ei] at hu
  have HCK : Hid (ckB xs p m = (decide (2 ≤ (xs.drop p).length) && decide (hd2 (xs.drop p) ≤ m))) := rfl
  generalize hd2 (xs.drop p) = n at *
  obtain ⟨th, hth⟩ : ∃ q, decide (2 ≤ (xs.drop p).length) = q := ⟨_, rfl⟩
  simp only [hth] at hu
  rw [hth] at HCK
  clear ei hth
  have HS : Hid (Sc 90 w sb a cap xs p) := hS
  obtain ⟨z0, z1, -⟩ := hS.bk.two
  have hsl := hS.bk.lt
  clear hS
  go_enter Tryz.func37, Tryz.ntmps37
  go_upto_region 1 with fail
  refine wp_region_held_drew (S := fun w9 => w9.cell? ⟨sb, 0, none⟩ = some (.slice a xs.length cap) ∧ w9.cell? ⟨sb, 1, none⟩ = some (.int .i64 (p : Int))) (by kernel_rfl) ?_ (fun hHeld => ?_)
  · (try dsimp only)
    go_keep
  have hdr : Below w.heap.size w w.drew := Below.drew1
  generalize w.drew = Z at hdr hHeld ⊢
  have hSZ := HS.out.below hdr
  have hKp : Kp sb w Z := Kp.of hdr
  clear hdr z0 z1
  refine hT 0 hHeld ?_
  refine hT 1 hHeld ?_
  refine hT 2 hHeld ?_
  refine hT 3 hHeld ?_
  refine hT 4 hHeld ?_
  refine hT 5 hHeld ?_
  refine hT 6 hHeld ?_
  refine hT 7 hHeld ?_
  refine hCall (i := 8) rfl (by kernel_rfl) (by rfl) (fun K hK => ?_)
  go_simp
  refine (hu _ hSZ.rb).mono ?_
  rintro e u ⟨rfl, rfl⟩
  go_wp2_with fail
  refine hK.out _ _ ?_ (fun hHeld => ?_)
  · (try dsimp only)
    exact hHeld
  clear hK K
  try simp only [Act.put, List.setIfInBounds_toArray, List.set_cons_zero, List.set_cons_succ]
  refine hT 9 hHeld ?_
  refine hT 10 hHeld ?_
  refine hT 11 hHeld ?_
  refine hT 12 hHeld ?_
  refine hT 13 hHeld ?_
  refine wpAnyH_done (by kernel_rfl) ?_ _
  clear hHeld hu
  obtain ⟨z0, z1, f0, f1⟩ := hSZ.bk.two
  have hw2 : IntKind.i64.wrap ((p : Int) + 2) = ((p + 2 : Nat) : Int) := by rw [wrapi64 (by omega) (by omega)]; omega
  obtain ⟨V, hV, hBV, hKV⟩ : ∃ V, V = Z.setCell ⟨sb, 1, none⟩ (.int .i64 ((p : Int) + 2)) ∧ Bk 90 V sb [.slice a xs.length cap, .int .i64 ((p + 2 : Nat) : Int)] ∧ Kp sb w V := ⟨_, rfl, by rw [show ((p + 2 : Nat) : Int) = (p : Int) + 2 by omega]; exact hSZ.bk.set 1 _, hKp.setCell 1 _⟩
  clear hSZ hKp
  cases th with
  | false =>
    have HC2 : Hid (ckB xs p m = false) := HCK.out
    clear HCK
    go_wp2
    rw [← hV]
    go_ret2
    exact ⟨by rw [HC2.out]; rfl, hBV, hKV⟩
  | true =>
    by_cases hq : n ≤ m
    · have HC2 : Hid (ckB xs p m = true) := by show _ = _; rw [HCK.out, decide_eq_true hq]; rfl
      have g1 : decide ((n : Int) ≤ (m : Int)) = true := decide_eq_true (by omega)
      have g2 : decide (n ≤ m) = true := decide_eq_true hq
      clear HCK
      go_wp2
      rw [← hV]
      go_ret2
      exact ⟨by rw [HC2.out]; rfl, hBV, hKV⟩
    · have HC2 : Hid (ckB xs p m = false) := by show _ = _; rw [HCK.out, decide_eq_false hq]; rfl
      have g1 : decide ((n : Int) ≤ (m : Int)) = false := decide_eq_false (by omega)
      have g2 : decide (n ≤ m) = false := decide_eq_false hq
      clear HCK
      go_wp2
      rw [← hV]
      go_ret2
      exact ⟨by rw [HC2.out]; rfl, hBV, hKV⟩

end Go.Proofs.YtkbbdkecillnpaaGreat

namespace Go.Proofs.YtkbbdkecillnpaaGreat
open Go.RowKit Go.Maps
set_option linter.unusedSimpArgs false
set_option linter.unusedVariables false

theorem sx16_i64D {v : Nat} (h : v < 65536) : I64 (sx16 v) := by unfold sx16 I64; split <;> omega
/-- What the call answers: a step, or none. -/
structure StY (n sb : Nat) (a : Option Addr) (cap : Nat) (xs : List Nat) (p : Nat) (e : Ending) (w' : World) : Prop where
  ok : okSp (xs.drop p) = true
  out : ∃ xa xc, e = .returned (.tuple #[.agg #[.int .i64 (rdSp (xs.drop p)).d, .slice xa (rdSp (xs.drop p)).ar.length xc], .bool true]) ∧ SpE.rep (fun k => n ≤ k) w' [.int .i64 (rdSp (xs.drop p)).d, .slice xa (rdSp (xs.drop p)).ar.length xc] (rdSp (xs.drop p))
  bk : Bk 90 w' sb [.slice a xs.length cap, .int .i64 ((p + usP (xs.drop p) : Nat) : Int)]
structure StN (xs : List Nat) (p : Nat) (e : Ending) : Prop where
  ok : okSp (xs.drop p) = false
  out : e = .returned (.tuple #[.agg #[.int .i64 0, .slice none 0 0], .bool false])
theorem drop_two (xs : List Nat) (p k : Nat) : (xs.drop (p + 1)).drop (4 * k) = xs.drop (p + 1 + 4 * k) := by rw [List.drop_drop]
theorem hd1_lt {xs : List Nat} (h : Byt xs) (p : Nat) : hd1 (xs.drop p) < 256 := by
  have := nmV_lt h (p : Int) 1
  rw [nmV_hd1] at this
  exact this

set_option maxHeartbeats 8000000 in
set_option maxRecDepth 100000 in
theorem step_any (sb : Nat) (a : Option Addr) (cap : Nat) (xs : List Nat) (p : Nat) (w : World) (hS : Sc 90 w sb a cap xs p) (hp : p ≤ 1000000) :
    Calls Tryz.prog 56 #[.pointer (some ⟨sb, 0, none⟩)] w fun e w' => (StY w.heap.size sb a cap xs p e w' ∨ StN xs p e) ∧ Kp sb w w' := by
  have kx := hS.rb.le
  have kx2 := hS.rb.cap
  unfold maxLen at kx2
  obtain ⟨W, hW, XR, hbW⟩ : ∃ W, W = w.alloc (.cells #[.int .i64 0, .slice none 0 0] 50) ∧ Bk 50 W w.heap.size [.int .i64 0, .slice none 0 0] ∧ Below w.heap.size w W := ⟨_, rfl, Bk.new _ _ _, bl1 _⟩
  have HS0 : Hid (Sc 90 w sb a cap xs p) := hS
  have HBY : Hid (Byt xs) := hS.rb.lim
  have hsl := hS.bk.lt
  have hKp : Kp sb w W := Kp.of hbW
  have hSW := hS.below hbW
  have hu := fun U (hr : Rb U a cap xs) => u8_any a cap xs (p : Int) U hr ⟨by omega, by omega⟩
  simp only [nmV_hd1] at hu
  have hd256 := hd1_lt hS.rb.lim p
  obtain ⟨gr, hgr⟩ : ∃ n, w.heap.size = n := ⟨_, rfl⟩
  have HGR : Hid (w.heap.size = gr) := hgr
  rw [hgr] at XR hsl
  have HUS : Hid (usP (xs.drop p) = 1 + 4 * (arD ((hd1 (xs.drop p) : Nat) : Int)).toNat) := rfl
  have HRD : Hid (rdSp (xs.drop p) = ⟨((hd1 (xs.drop p) : Nat) : Int), rdSls (arD ((hd1 (xs.drop p) : Nat) : Int)).toNat (xs.drop (p + 1))⟩) := by show _ = _; unfold rdSp; rw [List.drop_drop]
  have HN1 : Hid (arD ((hd1 (xs.drop p) : Nat) : Int) = -1 → okSp (xs.drop p) = false) := okSp_no1
  have HN2 : Hid ((xs.drop p).length < usP (xs.drop p) → okSp (xs.drop p) = false) := okSp_no2
  have HY1 : Hid (1 ≤ arD ((hd1 (xs.drop p) : Nat) : Int) → usP (xs.drop p) ≤ (xs.drop p).length → okSp (xs.drop p) = true) := fun h1 h2 => okSp_iff.2 ⟨h1, h2⟩
  generalize hd1 (xs.drop p) = dn at *
  generalize inB xs.length (p : Int) 1 = th0 at *
  clear hS hbW
  go_enter Tryz.func56, Tryz.ntmps56
  go_upto_region 1 with fail
  rw [← hW]
  try rw [hgr]
  clear hW hgr
  obtain ⟨z0, z1, -⟩ := hSW.bk.two
  refine wp_region_held_drew (S := fun w9 => w9.cell? ⟨sb, 0, none⟩ = some (.slice a xs.length cap) ∧ w9.cell? ⟨sb, 1, none⟩ = some (.int .i64 (p : Int))) (by kernel_rfl) ?_ (fun hHeld => ?_)
  · (try dsimp only)
    go_keep
  have hdr : Below W.heap.size W W.drew := Below.drew1
  generalize W.drew = Z at hdr hHeld ⊢
  replace hSW := hSW.below hdr
  replace XR := XR.below hdr
  replace hKp := hKp.trans (Kp.of hdr)
  clear hdr z0 z1
  refine hT 0 hHeld ?_
  refine hT 1 hHeld ?_
  refine hT 2 hHeld ?_
  refine hT 3 hHeld ?_
  refine hT 4 hHeld ?_
  refine hT 5 hHeld ?_
  refine hT 6 hHeld ?_
  refine hT 7 hHeld ?_
  refine hCall (i := 8) rfl (by kernel_rfl) (by rfl) (fun K hK => ?_)
  go_simp
  refine (hu _ hSW.rb).mono ?_
  rintro e u ⟨rfl, rfl⟩
  go_wp2_with fail
  refine hK.out _ _ ?_ (fun hHeld => ?_)
  · (try dsimp only)
    exact hHeld
  clear hK K
  try simp only [Act.put, List.setIfInBounds_toArray, List.set_cons_zero, List.set_cons_succ]
  refine hT 9 hHeld ?_
  refine hT 10 hHeld ?_
  refine hT 11 hHeld ?_
  refine hT 12 hHeld ?_
  refine hT 13 hHeld ?_
  refine wpAnyH_done (by kernel_rfl) ?_ _
  clear hHeld hu
  have hag := argsOf_any (dn : Int) Z ⟨by omega, by omega⟩
  rcases agN_arD (dn : Int) with ⟨e1, e2⟩ | ⟨e0, e6, e2⟩
  · rw [e1] at hag
    have HNO : Hid (okSp (xs.drop p) = false) := HN1.out e2
    obtain ⟨y0, y1, f0, f1⟩ := XR.two
    have HXR : Hid (Bk 50 ((Z.setCell ⟨gr, 0, none⟩ (.int .i64 0)).setCell ⟨gr, 1, none⟩ (.slice none 0 0)) gr [.int .i64 0, .slice none 0 0]) := (XR.set 0 _).set 1 _
    have HKF : Hid (Kp sb w ((Z.setCell ⟨gr, 0, none⟩ (.int .i64 0)).setCell ⟨gr, 1, none⟩ (.slice none 0 0))) := (hKp.newD (by have := HGR.out; omega) 0 _).newD (by have := HGR.out; omega) 1 _
    clear e1 e2 HN1 HN2 HY1 hSW XR hKp
    go_wp2_with fail
    refine hag.mono ?_
    rintro e u ⟨rfl, rfl⟩
    clear hag
    go_wp2
    refine bodyPost_ret (v := .tuple #[.agg #[.int .i64 0, .slice none 0 0], .bool false]) (by obtain ⟨r0, r1, -⟩ := HXR.out.two; simp [results, Tryz.results56, go_sem, r0, r1]) rfl ⟨.inr ⟨HNO.out, rfl⟩, HKF.out⟩
  rw [e2] at HUS HRD HY1
  obtain ⟨n, hn⟩ : ∃ n : Nat, agN (dn : Int) = (n : Int) := ⟨(agN (dn : Int)).toNat, by omega⟩
  rw [hn] at hag HUS HRD HY1
  rw [Int.toNat_natCast] at HUS HRD
  have hn1 : 1 ≤ n := by omega
  have hn6 : n ≤ 6 := by omega
  have g0 : ((n : Int) == 0) = false := beq_eq_false_iff_ne.2 (by omega)
  have HYE : Hid (usP (xs.drop p) ≤ (xs.drop p).length → okSp (xs.drop p) = true) := HY1.out (by omega)
  have hw1 : IntKind.i64.wrap ((p : Int) + 1) = ((p + 1 : Nat) : Int) := by rw [wrapi64 (by omega) (by omega)]; omega
  obtain ⟨zc0, zc1, fc0, fc1⟩ := hSW.bk.two
  obtain ⟨V, hV, hBV, hKV, XV⟩ : ∃ V, V = Z.setCell ⟨sb, 1, none⟩ (.int .i64 ((p : Int) + 1)) ∧ Bk 90 V sb [.slice a xs.length cap, .int .i64 ((p + 1 : Nat) : Int)] ∧ Kp sb w V ∧ Bk 50 V gr [.int .i64 0, .slice none 0 0] := ⟨_, rfl, by rw [show ((p + 1 : Nat) : Int) = (p : Int) + 1 by omega]; exact hSW.bk.set 1 _, hKp.setCell 1 _, XR.other 1 _ (by omega)⟩
  clear e0 e6 e2 HN1 HY1 hSW XR hKp hn
  go_wp2_with fail
  refine hag.mono ?_
  rintro e u ⟨rfl, rfl⟩
  clear hag
  go_upto_region 6 with fail
  rw [← hV]
  clear hV zc0 zc1 fc0 fc1 hw1 g0
  obtain ⟨w1, hmk, hI0, hb1, hs1⟩ := makeG SlE (fun _ => False) 48 79 Tryz.underlying48 info_slD (by decide) n (by omega) V
  have hVs : gr < V.heap.size := XV.lt
  obtain ⟨g, hgg⟩ : ∃ g, V.heap.size = g := ⟨_, rfl⟩
  rw [hgg] at hI0 hmk hVs
  replace hBV := hBV.below hb1
  replace hKV := hKV.trans (Kp.of hb1)
  replace XV := XV.below hb1
  have hgs : g ≤ w1.heap.size := by omega
  have hI1 : Gw SlE 79 g (fun _ => False) w1 (.slice (some ⟨g, 0, none⟩) 0 n) (rdSls 0 (xs.drop (p + 1))) := hI0
  have hBV1 : Bk 90 w1 sb [.slice a xs.length cap, .int .i64 ((p + 1 + 4 * 0 : Nat) : Int)] := hBV
  clear hI0 hb1 hs1 hBV
  go_wp2
  clear hmk hgg
  go_loopw [7, 39] (fun v i wr => ∃ (k : Nat), k ≤ n ∧ i = .int .i64 (k : Int) ∧ Gw SlE 79 g (fun _ => False) wr v (rdSls k (xs.drop (p + 1))) ∧ Bk 90 wr sb [.slice a xs.length cap, .int .i64 ((p + 1 + 4 * k : Nat) : Int)] ∧ Bk 50 wr gr [.int .i64 0, .slice none 0 0] ∧ Kp sb w wr ∧ g ≤ wr.heap.size ∧ Hid (k ≠ 0 → p + 1 + 4 * k ≤ xs.length)) (fun _ i _ => n - (intOf i).toNat)
  case atStart => exact ⟨0, Nat.zero_le _, rfl, hI1, hBV1, XV, hKV, hgs, fun h => absurd rfl h⟩
  case round =>
    clear hI1 hBV1 XV hKV hgs
    obtain ⟨k, hk, rfl, hGw, hB, hX, hK, hgs, HLK⟩ := hrel
    obtain ⟨a7, c7, e7, hgr7, hb7⟩ := hGw.slice
    subst e7
    rw [rdSls_len] at hGw ⊢
    by_cases hkn : k < n
    rotate_left
    · have hkk : k = n := by omega
      subst hkk
      have g4 : ¬ (k : Int) < (k : Int) := by omega
      have HOK : Hid (okSp (xs.drop p) = true) := HYE.out (by rw [HUS.out, List.length_drop]; have := HLK.out (by omega); omega)
      have HPE : Hid (p + usP (xs.drop p) = p + 1 + 4 * k) := by show _ = _; rw [HUS.out]; omega
      obtain ⟨y0, y1, f0, f1⟩ := hX.two
      have HXR : Hid (Bk 50 ((wr.setCell ⟨gr, 0, none⟩ (.int .i64 (dn : Int))).setCell ⟨gr, 1, none⟩ (.slice a7 k c7)) gr [.int .i64 (dn : Int), .slice a7 k c7]) := (hX.set 0 _).set 1 _
      have HKF : Hid (Kp sb w ((wr.setCell ⟨gr, 0, none⟩ (.int .i64 (dn : Int))).setCell ⟨gr, 1, none⟩ (.slice a7 k c7))) := (hK.newD (by have := HGR.out; omega) 0 _).newD (by have := HGR.out; omega) 1 _
      have HBF : Hid (Bk 90 ((wr.setCell ⟨gr, 0, none⟩ (.int .i64 (dn : Int))).setCell ⟨gr, 1, none⟩ (.slice a7 k c7)) sb [.slice a xs.length cap, .int .i64 ((p + 1 + 4 * k : Nat) : Int)]) := (hB.other 0 _ (by omega)).other 1 _ (by omega)
      have HGF : Hid (Gr SlE (fun _ => False) ((wr.setCell ⟨gr, 0, none⟩ (.int .i64 (dn : Int))).setCell ⟨gr, 1, none⟩ (.slice a7 k c7)) a7 c7 (rdSls k (xs.drop (p + 1)))) := hgr7.stay (by simp [World.setCell]) (fun k h => h.elim) (fun b o e _ _ => by
        have hbg := (hb7 b o e).1
        rw [Below.heap_setCell _ _ _ _ (fun e => by have e2 : b = gr := e; omega), Below.heap_setCell _ _ _ _ (fun e => by have e2 : b = gr := e; omega)])
      have HLO : Hid (∀ b o, a7 = some ⟨b, o, none⟩ → g ≤ b) := fun b o e => (hb7 b o e).1
      clear hGw hgr7 hb7 hB hX hK
      go_wp2
      refine bodyPost_ret (v := .tuple #[.agg #[.int .i64 (dn : Int), .slice a7 k c7], .bool true]) (by obtain ⟨r0, r1, -⟩ := HXR.out.two; simp [results, Tryz.results56, go_sem, r0, r1]) rfl ⟨.inl ⟨HOK.out, ⟨a7, c7, ?_, ?_⟩, ?_⟩, HKF.out⟩
      · rw [HRD.out]
        dsimp only
        rw [rdSls_len]
      · rw [HRD.out]
        dsimp only
        refine SpE_rep.2 ⟨a7, c7, rfl, ⟨by show _ ≤ (dn : Int); omega, by show (dn : Int) ≤ _; omega⟩, ⟨a7, c7, rfl, fun b o e _ => ?_, HGF.out.wide (fun k h _ => h.elim), by show (rdSls k (xs.drop (p + 1))).length ≤ _; rw [rdSls_len]; omega⟩⟩
        have := HLO.out b o e
        have := HGR.out
        omega
      · rw [HPE.out]
        exact HBF.out
    have g2 : (k : Int) < (n : Int) := by omega
    have hSc := HS0.out.ofD hK hB
    have HSC : Hid (_) := rdSls_succ k (xs.drop (p + 1))
    rw [drop_two, show (xs.drop (p + 1)).drop (4 * k + 2) = xs.drop (p + 1 + 4 * k + 2) by rw [List.drop_drop]; congr 1] at HSC
    have hpk : p + 1 + 4 * k ≤ 1000100 := by omega
    obtain ⟨q, hq⟩ : ∃ q, p + 1 + 4 * k = q := ⟨_, rfl⟩
    have HQ : Hid (p + 1 + 4 * k = q) := hq
    rw [hq] at hB hSc HSC hpk
    have hi1 := fun U (hr : Rb U a cap xs) => i16_any a cap xs (q : Int) U hr ⟨by omega, by omega⟩
    have hi2 := fun U (hr : Rb U a cap xs) => i16_any a cap xs ((q + 2 : Nat) : Int) U hr ⟨by omega, by omega⟩
    have hv1 := sx16_i64D (nmV_lt HBY.out (q : Int) 2)
    have hv2 := sx16_i64D (nmV_lt HBY.out ((q + 2 : Nat) : Int) 2)
    have HTH : Hid (inB xs.length ((q + 2 : Nat) : Int) 2 = true ↔ q + 4 ≤ xs.length) := by
      show _ ↔ _
      unfold inB
      rw [decide_eq_true_iff]
      omega
    simp only [nmV_hd2] at hi1 hi2
    rw [nmV_hd2] at hv1 hv2
    generalize sx16 (hd2 (xs.drop q)) = v1 at *
    generalize sx16 (hd2 (xs.drop (q + 2))) = v2 at *
    generalize inB xs.length (q : Int) 2 = th1 at *
    generalize inB xs.length ((q + 2 : Nat) : Int) 2 = th2 at *
    have hw2 : IntKind.i64.wrap ((q : Int) + 2) = ((q + 2 : Nat) : Int) := by rw [wrapi64 (by omega) (by omega)]; omega
    have hw4 : IntKind.i64.wrap ((q : Int) + 4) = ((q + 4 : Nat) : Int) := by rw [wrapi64 (by omega) (by omega)]; omega
    have HOW : Hid (∀ q, (Value.slice a7 k c7).ownBlock = some q → g ≤ q ∧ q < wr.heap.size) := fun q e => hGw.lo e
    clear hgr7 hb7 hq
    -- base
    go_upto_region 9 with fail
    obtain ⟨z0, z1, -⟩ := hB.two
    refine wp_region_held_drew (S := fun w9 => w9.cell? ⟨sb, 0, none⟩ = some (.slice a xs.length cap) ∧ w9.cell? ⟨sb, 1, none⟩ = some (.int .i64 (q : Int))) (by kernel_rfl) ?_ (fun hHeld => ?_)
    · (try dsimp only)
      go_keep
    have hdr : Below wr.heap.size wr wr.drew := Below.drew1
    generalize wr.drew = Z1 at hdr hHeld ⊢
    replace hSc := hSc.below hdr
    replace hX := hX.below hdr
    replace hK := hK.trans (Kp.of hdr)
    replace hGw := hGw.below hdr
    have hs1 := hdr.size
    clear hdr z0 z1 hB
    refine hT 0 hHeld ?_
    refine hT 1 hHeld ?_
    refine hT 2 hHeld ?_
    refine hT 3 hHeld ?_
    refine hT 4 hHeld ?_
    refine hT 5 hHeld ?_
    refine hT 6 hHeld ?_
    refine hT 7 hHeld ?_
    refine hCall (i := 8) rfl (by kernel_rfl) (by rfl) (fun K hK => ?_)
    go_simp
    refine (hi1 _ hSc.rb).mono ?_
    rintro e u ⟨rfl, rfl⟩
    go_wp2_with fail
    refine hK.out _ _ ?_ (fun hHeld => ?_)
    · (try dsimp only)
      exact hHeld
    clear hK K
    try simp only [Act.put, List.setIfInBounds_toArray, List.set_cons_zero, List.set_cons_succ]
    refine hT 9 hHeld ?_
    refine hT 10 hHeld ?_
    refine hT 11 hHeld ?_
    refine hT 12 hHeld ?_
    refine hT 13 hHeld ?_
    refine wpAnyH_done (by kernel_rfl) ?_ _
    clear hHeld hi1
    -- row
    go_upto_region 10 with fail
    obtain ⟨z0, z1, -⟩ := hSc.bk.two
    refine wp_region_held_drew (S := fun w9 => w9.cell? ⟨sb, 0, none⟩ = some (.slice a xs.length cap) ∧ w9.cell? ⟨sb, 1, none⟩ = some (.int .i64 (q : Int))) (by kernel_rfl) ?_ (fun hHeld => ?_)
    · (try dsimp only)
      go_keep
    have hdr : Below Z1.heap.size Z1 Z1.drew := Below.drew1
    generalize Z1.drew = Z2 at hdr hHeld ⊢
    replace hSc := hSc.below hdr
    replace hX := hX.below hdr
    replace hK := hK.trans (Kp.of hdr)
    replace hGw := hGw.below hdr
    have hs2 := hdr.size
    clear hdr z0 z1
    refine hT 0 hHeld ?_
    refine hT 1 hHeld ?_
    refine hT 2 hHeld ?_
    refine hT 3 hHeld ?_
    refine hT 4 hHeld ?_
    refine hT 5 hHeld ?_
    refine hT 6 hHeld ?_
    refine hT 7 hHeld ?_
    refine hT 8 hHeld ?_
    refine hCall (i := 9) rfl (by kernel_rfl) (by rfl) (fun K hK => ?_)
    go_simp
    refine (hi2 _ hSc.rb).mono ?_
    rintro e u ⟨rfl, rfl⟩
    go_wp2_with fail
    refine hK.out _ _ ?_ (fun hHeld => ?_)
    · (try dsimp only)
      exact hHeld
    clear hK K
    try simp only [Act.put, List.setIfInBounds_toArray, List.set_cons_zero, List.set_cons_succ]
    refine hT 10 hHeld ?_
    refine hT 11 hHeld ?_
    refine hT 12 hHeld ?_
    refine hT 13 hHeld ?_
    refine hT 14 hHeld ?_
    refine wpAnyH_done (by kernel_rfl) ?_ _
    clear hHeld hi2 hw2
    cases th2 with
    | false =>
      have HNO : Hid (okSp (xs.drop p) = false) := HN2.out (by
        have h1 : ¬ q + 4 ≤ xs.length := fun h => by have := HTH.out.2 h; cases this
        have h2 := HQ.out
        rw [HUS.out, List.length_drop]
        omega)
      obtain ⟨y0, y1, f0, f1⟩ := hX.two
      have HXR : Hid (Bk 50 ((Z2.setCell ⟨gr, 0, none⟩ (.int .i64 0)).setCell ⟨gr, 1, none⟩ (.slice none 0 0)) gr [.int .i64 0, .slice none 0 0]) := (hX.set 0 _).set 1 _
      have HKF : Hid (Kp sb w ((Z2.setCell ⟨gr, 0, none⟩ (.int .i64 0)).setCell ⟨gr, 1, none⟩ (.slice none 0 0))) := (hK.newD (by have := HGR.out; omega) 0 _).newD (by have := HGR.out; omega) 1 _
      clear hSc hX hK hGw
      go_wp2
      refine bodyPost_ret (v := .tuple #[.agg #[.int .i64 0, .slice none 0 0], .bool false]) (by obtain ⟨r0, r1, -⟩ := HXR.out.two; simp [results, Tryz.results56, go_sem, r0, r1]) rfl ⟨.inr ⟨HNO.out, rfl⟩, HKF.out⟩
    | true =>
    have HLE : Hid (k + 1 ≠ 0 → p + 1 + 4 * (k + 1) ≤ xs.length) := fun _ => by
      have h1 := HTH.out.1 rfl
      have h2 := HQ.out
      omega
    have HQ2 : Hid (((q + 4 : Nat) : Int) = ((p + 1 + 4 * (k + 1) : Nat) : Int)) := by show _ = _; have := HQ.out; omega
    obtain ⟨z0, z1, f0, f1⟩ := hSc.bk.two
    obtain ⟨V3, hV3, hB3, hK3, hX3, hG3⟩ : ∃ V, V = Z2.setCell ⟨sb, 1, none⟩ (.int .i64 ((q : Int) + 4)) ∧ Bk 90 V sb [.slice a xs.length cap, .int .i64 ((q + 4 : Nat) : Int)] ∧ Kp sb w V ∧ Bk 50 V gr [.int .i64 0, .slice none 0 0] ∧ Gw SlE 79 g (fun _ => False) V (.slice a7 k c7) (rdSls k (xs.drop (p + 1))) :=
      ⟨_, rfl, by rw [show ((q + 4 : Nat) : Int) = (q : Int) + 4 by omega]; exact hSc.bk.set 1 _, hK.setCell 1 _, hX.other 1 _ (by omega), hGw.kp hSc.bk (by decide) ((Kp.refl sb Z2).setCell 1 _)⟩
    have hs3 : Z2.heap.size = V3.heap.size := by rw [hV3]; simp [World.setCell]
    clear hSc hK hX hGw HTH
    go_upto_region 14 with fail
    rw [← hV3]
    clear hV3 z0 z1 f0 f1 hw4
    obtain ⟨V9, hV9, Y9, hb9⟩ : ∃ V, V = V3.alloc (.cells #[.int .i64 v1, .int .i64 v2] 79) ∧ Bk 79 V V3.heap.size [.int .i64 v1, .int .i64 v2] ∧ Below V3.heap.size V3 V := ⟨_, rfl, Bk.new _ _ _, bl1 _⟩
    have hGb := hG3.below hb9
    have hrep : SlE.rep (fun q => False ∧ (Value.slice a7 k c7).ownBlock ≠ some q) V9 [.int .i64 v1, .int .i64 v2] (v1, v2) := SlE_rep.2 ⟨rfl, hv1, hv2⟩
    have hone := Gr.one (E := SlE) hrep Y9.lt (fun j hj => Y9.cell j hj)
    have hs9 := hb9.size
    have hbs : g ≤ V9.heap.size := by omega
    have hll : (rdSls k (xs.drop (p + 1))).length + 1 ≤ 1000000 := by rw [rdSls_len]; omega
    replace hB3 := hB3.below hb9
    replace hX3 := hX3.below hb9
    replace hK3 := hK3.trans (Kp.of hb9)
    clear hrep hG3
    go_wp2_with (at_builtin; rw [← hV9]; refine wpList_append_el (E := SlE) 48 79 Tryz.underlying48 info_slD rfl (by decide) (by decide) rfl _ _ rfl g (fun _ => False) _ (rdSls k (xs.drop (p + 1))) rfl hGb (some ⟨V3.heap.size, 0, none⟩) 1 1 [(v1, v2)] rfl rfl hone hll hbs ?_)
    intro v9 w9 hT9 hgrow _
    rw [← hV9] at hgrow
    rw [← HSC.out] at hT9
    have hng : (Value.slice a7 k c7).ownBlock ≠ some sb := fun e => by have := (HOW.out sb e).1; omega
    have hnr : (Value.slice a7 k c7).ownBlock ≠ some gr := fun e => by have := (HOW.out gr e).1; omega
    have hB9 := hB3.grown hgrow hng
    have hX9 := hX3.grown hgrow hnr
    have hK9 := hK3.grown hgrow (fun q hq => by have := (HOW.out q hq).1; have := HGR.out; omega)
    have hs10 : g ≤ w9.heap.size := Nat.le_trans hbs hgrow.size
    rw [HQ2.out] at hB9
    clear hgrow hGb hone hbs hll hV9 Y9 hb9 hng hnr hB3 hX3 hK3 hs9 hs3 hs2 hs1
    go_wp2
    go_roundw
    case rel => exact ⟨k + 1, by omega, by go_num, hT9, hB9, hX9, hK9, hs10, HLE⟩
    case measure => simp [intOf]; omega

end Go.Proofs.YtkbbdkecillnpaaGreat

namespace Go.Proofs.YtkbbdkecillnpaaGreat
open Go.RowKit Go.Maps
set_option linter.unusedSimpArgs false
set_option linter.unusedVariables false

theorem Gw.kpS {α : Type} {E : El α} {t : TypeId} {base g : Nat} {w w' : World} {v : Value} {l : List α} (h : Gw E t base (fun k => base ≤ k) w v l) (hg : g < base) (hk : Kp g w w') : Gw E t base (fun k => base ≤ k) w' v l :=
  h.stay hk.size (fun k h1 _ h3 => ⟨h1, hk.block h3 (by omega)⟩) (fun k hv => hk.block (h.lo hv).2 (by have := (h.lo hv).1; omega))
theorem hd2_lt {xs : List Nat} (h : Byt xs) (p : Nat) : hd2 (xs.drop p) < 65536 := by
  have := nmV_lt h (p : Int) 2
  rw [nmV_hd2] at this
  exact this
theorem usP_le (b : List Nat) : usP b ≤ 25 := by unfold usP; have := arD_le ((hd1 b : Nat) : Int); omega
theorem usPs_le : ∀ (n : Nat) (b : List Nat), usPs n b ≤ 25 * n := by
  intro n
  induction n with
  | zero => intro b; exact Nat.zero_le _
  | succ n ih =>
    intro b
    have h1 := usP_le b
    have h2 := ih (b.drop (usP b))
    rw [usPs]
    omega
theorem usW_le (b : List Nat) : usW b ≤ 1502 := by
  unfold usW
  have h1 := usPs_le (mD b) (b.drop 2)
  have h2 : mD b ≤ 60 := by unfold mD; split <;> omega
  omega
theorem usWs_le : ∀ (n : Nat) (b : List Nat), usWs n b ≤ 1502 * n := by
  intro n
  induction n with
  | zero => intro b; exact Nat.zero_le _
  | succ n ih =>
    intro b
    have h1 := usW_le b
    have h2 := ih (b.drop (usW b))
    rw [usWs]
    omega
theorem ckB_iff {xs : List Nat} {p m : Nat} : ckB xs p m = true ↔ 2 ≤ (xs.drop p).length ∧ hd2 (xs.drop p) ≤ m := by unfold ckB; rw [Bool.and_eq_true, decide_eq_true_iff, decide_eq_true_iff]
theorem okDw_no1 {b : List Nat} {xs : List Nat} {p : Nat} (e : xs.drop p = b) (h : ckB xs p 60 = false) : okDw b = false := by
  unfold okDw
  rw [← e]
  unfold ckB at h
  rw [h]
  rfl
theorem okDw_no2 {xs : List Nat} {p : Nat} (h : okSps (hd2 (xs.drop p)) (xs.drop (p + 2)) = false) : okDw (xs.drop p) = false := by
  unfold okDw
  rw [List.drop_drop, h, Bool.and_false]
theorem okDw_y {xs : List Nat} {p : Nat} (h0 : ckB xs p 60 = true) (h : okSps (hd2 (xs.drop p)) (xs.drop (p + 2)) = true) : okDw (xs.drop p) = true ∧ rdDw (xs.drop p) = rdSps (hd2 (xs.drop p)) (xs.drop (p + 2)) ∧ usW (xs.drop p) = 2 + usPs (hd2 (xs.drop p)) (xs.drop (p + 2)) := by
  have h1 := ckB_iff.1 h0
  refine ⟨okDw_iff.2 ⟨h1, by rw [List.drop_drop]; exact h⟩, ?_, ?_⟩
  · rw [rdDw, mD_of h1.2, List.drop_drop]
  · rw [usW, mD_of h1.2, List.drop_drop]
/-- What the call answers: a drawing, or none. -/
structure DwY (n sb : Nat) (a : Option Addr) (cap : Nat) (xs : List Nat) (p : Nat) (e : Ending) (w' : World) : Prop where
  ok : okDw (xs.drop p) = true
  out : ∃ xa xc, e = .returned (.tuple #[.slice xa (rdDw (xs.drop p)).length xc, .bool true]) ∧ SpE.row.rep (fun k => n ≤ k) w' [.slice xa (rdDw (xs.drop p)).length xc] (rdDw (xs.drop p))
  bk : Bk 90 w' sb [.slice a xs.length cap, .int .i64 ((p + usW (xs.drop p) : Nat) : Int)]
structure DwN (xs : List Nat) (p : Nat) (e : Ending) : Prop where
  ok : okDw (xs.drop p) = false
  out : e = .returned (.tuple #[.slice none 0 0, .bool false])

set_option maxHeartbeats 8000000 in
set_option maxRecDepth 100000 in
theorem drawing_any (sb : Nat) (a : Option Addr) (cap : Nat) (xs : List Nat) (p : Nat) (w : World) (hS : Sc 90 w sb a cap xs p) (hp : p ≤ 100000) :
    Calls Tryz.prog 38 #[.pointer (some ⟨sb, 0, none⟩)] w fun e w' => (DwY w.heap.size sb a cap xs p e w' ∨ DwN xs p e) ∧ Kp sb w w' := by
  have HS0 : Hid (Sc 90 w sb a cap xs p) := hS
  have hsl := hS.bk.lt
  have hc := count_any sb a cap xs p 60 w hS (by omega) (by omega)
  have hn16 := hd2_lt hS.rb.lim p
  have HN1 : Hid (ckB xs p 60 = false → okDw (xs.drop p) = false) := okDw_no1 rfl
  have HN2 : Hid (okSps (hd2 (xs.drop p)) (xs.drop (p + 2)) = false → okDw (xs.drop p) = false) := okDw_no2
  have HYY : Hid (ckB xs p 60 = true → okSps (hd2 (xs.drop p)) (xs.drop (p + 2)) = true → okDw (xs.drop p) = true ∧ rdDw (xs.drop p) = rdSps (hd2 (xs.drop p)) (xs.drop (p + 2)) ∧ usW (xs.drop p) = 2 + usPs (hd2 (xs.drop p)) (xs.drop (p + 2))) := okDw_y
  have HN3 : Hid (ckB xs p 60 = true → hd2 (xs.drop p) ≤ 60) := fun h => (ckB_iff.1 h).2
  generalize hd2 (xs.drop p) = n at *
  clear hS
  go_enter Tryz.func38, Tryz.ntmps38
  cases hck : ckB xs p 60 with
  | false =>
    rw [hck] at hc
    have HNO : Hid (okDw (xs.drop p) = false) := HN1.out hck
    clear hck HN1 HN2 HYY HN3
    go_wp2_with fail
    refine hc.mono ?_
    rintro e u ⟨rfl, -, hk⟩
    clear hc
    go_wp2
    go_ret2
    exact ⟨.inr ⟨HNO.out, rfl⟩, hk⟩
  | true =>
  rw [hck] at hc
  have HY2 : Hid (_) := HYY.out hck
  have hn60 := HN3.out hck
  clear hck HN1 HYY HN3
  go_wp2_with fail
  refine hc.mono ?_
  rintro e u ⟨rfl, hB, hK⟩
  clear hc
  obtain ⟨w1, hmk, hI0, hb1, hs1⟩ := makeG SpE (fun k => u.heap.size ≤ k) 52 50 Tryz.underlying52 info_stD (by decide) n (by omega) u
  have hus : sb < u.heap.size := hB.lt
  have HWU : Hid (w.heap.size ≤ u.heap.size) := hK.size
  obtain ⟨g, hgg⟩ : ∃ g, u.heap.size = g := ⟨_, rfl⟩
  rw [hgg] at hI0 hmk hus HWU
  replace hB := hB.below hb1
  replace hK := hK.trans (Kp.of hb1)
  have hgs : g ≤ w1.heap.size := by omega
  have hI1 : Gw SpE 50 g (fun k => g ≤ k) w1 (.slice (some ⟨g, 0, none⟩) 0 n) (rdSps 0 (xs.drop (p + 2))) := hI0
  have hB1 : Bk 90 w1 sb [.slice a xs.length cap, .int .i64 ((p + 2 + usPs 0 (xs.drop (p + 2)) : Nat) : Int)] := hB
  clear hI0 hb1 hs1 hB
  go_wp2
  clear hmk hgg
  go_loopw [6, 19] (fun v i wr => ∃ (k : Nat), k ≤ n ∧ i = .int .i64 (k : Int) ∧ Gw SpE 50 g (fun k => g ≤ k) wr v (rdSps k (xs.drop (p + 2))) ∧ Bk 90 wr sb [.slice a xs.length cap, .int .i64 ((p + 2 + usPs k (xs.drop (p + 2)) : Nat) : Int)] ∧ Kp sb w wr ∧ g ≤ wr.heap.size ∧ Hid (okSps k (xs.drop (p + 2)) = true)) (fun _ i _ => n - (intOf i).toNat)
  case atStart => exact ⟨0, Nat.zero_le _, rfl, hI1, hB1, hK, hgs, (by show okSps 0 _ = true; rfl)⟩
  case round =>
    clear hI1 hB1 hK hgs
    obtain ⟨k, hk, rfl, hGw, hB, hK, hgs, HOK⟩ := hrel
    obtain ⟨a7, c7, e7, hgr7, hb7⟩ := hGw.slice
    subst e7
    rw [rdSps_len] at hGw ⊢
    by_cases hkn : k < n
    rotate_left
    · have hkk : k = n := by omega
      subst hkk
      have g4 : ¬ (k : Int) < (k : Int) := by omega
      obtain ⟨y1, y2, y3⟩ := HY2.out HOK.out
      have HY : Hid (okDw (xs.drop p) = true) := y1
      have HR : Hid (_) := y2
      have HBF : Hid (Bk 90 wr sb [.slice a xs.length cap, .int .i64 ((p + usW (xs.drop p) : Nat) : Int)]) := by show Bk _ _ _ _; rw [y3, ← Nat.add_assoc]; exact hB
      have HRP : Hid (SpE.row.rep (fun q => w.heap.size ≤ q) wr [.slice a7 k c7] (rdSps k (xs.drop (p + 2)))) := ⟨a7, c7, by rw [rdSps_len], fun b o e _ => Nat.le_trans HWU.out (hb7 b o e).1, hgr7.wide (fun q h1 _ => Nat.le_trans HWU.out h1), by rw [rdSps_len]; omega⟩
      have HLN : Hid ((rdSps k (xs.drop (p + 2))).length = k) := rdSps_len _ _
      clear hGw hgr7 hb7 hB y1 y2 y3
      go_wp2
      go_ret2
      exact ⟨.inl ⟨HY.out, ⟨a7, c7, by rw [HR.out, HLN.out]; rfl, by rw [HR.out, HLN.out]; exact HRP.out⟩, HBF.out⟩, hK⟩
    have g2 : (k : Int) < (n : Int) := by omega
    have hpk : p + 2 + usPs k (xs.drop (p + 2)) ≤ 110000 := by have := usPs_le k (xs.drop (p + 2)); omega
    have hSc := HS0.out.ofD hK hB
    obtain ⟨hs1, hs2⟩ := rdSps_succ k (xs.drop (p + 2))
    have hs3 := okSps_succ k (xs.drop (p + 2))
    have HNO3 : Hid (okSp (xs.drop (p + 2 + usPs k (xs.drop (p + 2)))) = false → okDw (xs.drop p) = false) := fun h => HN2.out (okSps_no hkn (by rw [List.drop_drop]; exact h))
    rw [List.drop_drop] at hs1 hs2 hs3
    have HS1 : Hid (_) := hs1
    have HS2 : Hid (p + 2 + usPs (k + 1) (xs.drop (p + 2)) = p + 2 + usPs k (xs.drop (p + 2)) + usP (xs.drop (p + 2 + usPs k (xs.drop (p + 2))))) := by show _ = _; rw [hs2]; omega
    have HS3 : Hid (okSp (xs.drop (p + 2 + usPs k (xs.drop (p + 2)))) = true → okSps (k + 1) (xs.drop (p + 2)) = true) := fun h => by rw [hs3, HOK.out, h]; rfl
    have HLM : Hid ((rdSps k (xs.drop (p + 2))).length = k) := rdSps_len _ _
    have HOW : Hid (∀ q, (Value.slice a7 k c7).ownBlock = some q → g ≤ q ∧ q < wr.heap.size) := fun q e => hGw.lo e
    clear hs1 hs2 hs3 hgr7 hb7
    obtain ⟨q, hq⟩ : ∃ q, p + 2 + usPs k (xs.drop (p + 2)) = q := ⟨_, rfl⟩
    rw [hq] at hB hSc hpk HNO3 HS1 HS2 HS3
    obtain ⟨M, hM⟩ : ∃ M, rdSps k (xs.drop (p + 2)) = M := ⟨_, rfl⟩
    rw [hM] at hGw HS1 HLM
    have hst := step_any sb a cap xs q wr hSc (by omega)
    clear hq hM hSc
    go_wp2_with fail
    refine hst.mono ?_
    rintro e u4 ⟨hyn, hk4⟩
    have hGw4 := hGw.kpS hus hk4
    have hK4 := hK.trans hk4
    have hs4 := hk4.size
    rcases hyn with ⟨hok, ⟨xa, xc, rfl, hrep⟩, hb4⟩ | ⟨hok, rfl⟩
    rotate_left
    · have HNO : Hid (okDw (xs.drop p) = false) := HNO3.out hok
      have hfin := hK4.alloc (.cells #[.int .i64 0, .slice none 0 0] 50)
      clear hst hok hGw hGw4 hK hk4 hB
      go_wp2
      go_ret2
      exact ⟨.inr ⟨HNO.out, rfl⟩, hfin⟩
    have HOK2 : Hid (_) := HS3.out hok
    rw [← HS2.out] at hb4
    obtain ⟨x, hx⟩ : ∃ x, rdSp (xs.drop q) = x := ⟨_, rfl⟩
    rw [hx] at hrep HS1 ⊢
    have h6 : x.ar.length ≤ 6 := by rw [← hx]; show (rdSls _ _).length ≤ 6; rw [rdSls_len]; exact arD_le _
    have HWS : Hid (wr.heap.size ≤ u4.heap.size) := hs4
    obtain ⟨V, hV, X0, hb0⟩ : ∃ V, V = u4.alloc (.cells #[.int .i64 x.d, .slice xa x.ar.length xc] 50) ∧ Bk 50 V u4.heap.size [.int .i64 x.d, .slice xa x.ar.length xc] ∧ Below u4.heap.size u4 V := ⟨_, rfl, Bk.new _ _ _, bl1 _⟩
    replace hGw4 := hGw4.below hb0
    replace hK4 := hK4.trans (Kp.of hb0)
    replace hb4 := hb4.below hb0
    replace hrep := SpE.stay hrep hb0.size (S' := fun q => g ≤ q ∧ (Value.slice a7 k c7).ownBlock ≠ some q) (fun q hq hl => ⟨⟨by omega, fun e => by have := (HOW.out q e).2; omega⟩, hb0.block q hl⟩)
    obtain ⟨q0, q1, -⟩ := X0.two
    have hs0 := hb0.size
    clear hst hok hGw hK hk4 hB hx
    go_upto_region 8 with fail
    rw [← hV]
    clear hV
    obtain ⟨V9, hV9, Y9, hb9⟩ : ∃ W, W = V.alloc (.cells #[.int .i64 x.d, .slice xa x.ar.length xc] 50) ∧ Bk 50 W V.heap.size [.int .i64 x.d, .slice xa x.ar.length xc] ∧ Below V.heap.size V W := ⟨_, rfl, Bk.new _ _ _, bl1 _⟩
    have hone := Gr.one (E := SpE) (SpE.stay hrep hb9.size (fun k hk hl => ⟨hk, hb9.block k hl⟩)) Y9.lt (fun j hj => Y9.cell j hj)
    have hGb := hGw4.below hb9
    have hs9 := hb9.size
    have hbs : g ≤ V9.heap.size := by omega
    have hll : M.length + 1 ≤ 1000000 := by have := HLM.out; omega
    replace hb4 := hb4.below hb9
    replace hK4 := hK4.trans (Kp.of hb9)
    clear hrep hGw4 X0 hb0
    go_wp2_with (at_builtin; rw [← hV9]; refine wpList_append_el (E := SpE) 52 50 Tryz.underlying52 info_stD rfl (by decide) (by decide) rfl _ _ rfl g (fun k => g ≤ k) _ M rfl hGb (some ⟨V.heap.size, 0, none⟩) 1 1 [x] rfl rfl hone hll hbs ?_)
    intro v9 w9 hT9 hgrow _
    rw [← hV9] at hgrow
    rw [← HS1.out] at hT9
    have hng : (Value.slice a7 k c7).ownBlock ≠ some sb := fun e => by have := (HOW.out sb e).1; omega
    have hB9 := hb4.grown hgrow hng
    have hK9 := hK4.grown hgrow (fun q hq => by have := (HOW.out q hq).1; have := HWU.out; omega)
    have hs10 : g ≤ w9.heap.size := Nat.le_trans hbs hgrow.size
    clear hgrow hGb hone hbs hll hV9 Y9 hb9 hng hb4 hK4 hs9 hs0 q0 q1
    go_wp2
    go_roundw
    case rel => exact ⟨k + 1, by omega, by go_num, hT9, hB9, hK9, hs10, HOK2⟩
    case measure => simp [intOf]; omega

end Go.Proofs.YtkbbdkecillnpaaGreat
