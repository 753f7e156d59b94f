/-
  store.sum: the walk.
  One cell of a block. Nothing here is a walk.
  store.Change: the walk.
  store.Value, store.Rounded: the walks.
  glyphs.Depth, Size, Advance, Formed: the walks.
-/
import Derived.Test.YtkmcodofnckdmaaGreatZS12
import Derived.Test.YtkmcodofnckdmaaGreatZS5
import Derived.Test.YtkmcodofnckdmaaGreatZS17
import Derived.Test.YtkmcodofnckdmaaGreatZS15
import Derived.Deep.CutRange
import Derived.Test.YtkmcodofnckdmaaGreatZS1
import Derived.Test.YtkmcodofnckdmaaGreatZS26
import Derived.Test.YtkmcodofnckdmaaGreatZS23
import Derived.Test.YtkmcodofnckdmaaGreatZS18
set_option maxHeartbeats 8000000
set_option maxRecDepth 100000
set_option linter.unusedSimpArgs false
set_option linter.unusedVariables false
namespace Go.Proofs.YtkmcodofnckdmaaGreat
open Go.RowKit Go.Maps
def lmbS (n : Nat) : Nat := if n = 0 then 2 else 21 * n - 1
theorem lmbS_two (n : Nat) : 2 ≤ lmbS n := by unfold lmbS; split <;> omega
theorem lmbS_le {n : Nat} (h : n ≤ 1000) : lmbS n ≤ 21000 := by unfold lmbS; split <;> omega
theorem lmbS_add {n h : Nat} (h1 : 1 ≤ h) (h2 : h < n) : lmbS h + lmbS (n - h) + 1 ≤ lmbS n := by unfold lmbS; rw [if_neg (by omega), if_neg (by omega), if_neg (by omega)]; omega
theorem csum_any : ∀ (n : Nat) (a : Option Addr) (cap : Nat) (qs : List Rat) (w : World), qs.length = n → n ≤ 1000 → Rz w a cap 20 qs →
    Calls Tryz.prog 168 #[.slice a n cap] w fun e w' => ∃ v', e = .returned v' ∧ Fr w' v' (lmbS n) (suQ qs) ∧ Below w.heap.size w w' := by
 intro n
 induction n using Nat.strongRecOn with
 | ind n ih =>
  intro a cap qs w hn hn1 h
  have hcap := h.1
  have hcm := h.2.1
  unfold maxLen at hcm
  have HL : Hid (qs.length = n) := hn
  have HH : Hid (Rz w a cap 20 qs) := h
  rw [hn] at hcap; clear h hn
  obtain ⟨W, hW, B0, hbW⟩ : ∃ W, W = w.alloc (.cells #[.bool false, .slice none 0 0, .slice none 0 0] 125) ∧ Box 125 W w.heap.size (.bool false) (.slice none 0 0) (.slice none 0 0) ∧ Below w.heap.size w W := ⟨_, rfl, Box.new _ _ _ _ _, al1 _⟩
  by_cases h0 : n = 0
  · subst h0
    have HQ : Hid (((0 : Int) : Rat) = suQ qs) := by
     show _ = _
     rw [List.length_eq_zero_iff.1 HL.out, suQ]
     rfl
    clear ih
    go_enter Tryz.func168, Tryz.ntmps168
    go_wp2_with fail
    rw [← hW]; clear hW
    refine (whole_any 0 _ (by decide) (by decide)).mono ?_
    rintro e u1 ⟨v1, rfl, hF9, hb1⟩; replace B0 := B0.below hb1
    replace hbW := hbW.trans (hb1.mono hbW.size)
    clear hb1; rw [HQ.out] at hF9; obtain ⟨n9, x9, y9, ⟨a9, c9, b9, d9, rfl, hx9, hy9⟩, hF9⟩ := hF9; obtain ⟨q1, q2, q3, q4, q5, q6⟩ := B0.cells
    have hs := B0.lt
    go_wp2
    refine ret3 (v := .agg #[.bool n9, .slice a9 x9.length c9, .slice b9 y9.length d9]) B0 rfl (fun U hU => by obtain ⟨r1, r2, r3, _⟩ := hU.cells; simp [results, Tryz.results168, go_sem, r1, r2, r3]) (fun U hU hK => ⟨_, rfl, ⟨_, _, _, ⟨_, _, _, _, rfl, hK _ _ _ hx9, hK _ _ _ hy9⟩, hF9⟩, hU _ _ hbW (by omega)⟩)
  by_cases h1 : n = 1
  · subst h1
    have HQ : Hid (qs.getD 0 0 = suQ qs) := by
     show _ = _
     obtain ⟨q, hq⟩ := List.length_eq_one_iff.1 HL.out
     rw [hq, suQ_one]
     rfl
    clear ih h0
    obtain ⟨b, off, x, y, z, ea, hb, c0, c1, c2, hF9⟩ := HH.out.2.2 0 (by rw [HL.out]; omega)
    subst ea
    replace c0 := (hbW.cell (p := ⟨b, off + 0 * 3, none⟩) hb).trans c0
    replace c1 := (hbW.cell (p := ⟨b, off + 0 * 3 + 1, none⟩) hb).trans c1
    replace c2 := (hbW.cell (p := ⟨b, off + 0 * 3 + 2, none⟩) hb).trans c2
    rw [HQ.out] at hF9; obtain ⟨n9, x9, y9, ⟨a9, c9, b9, d9, e9, hx9, hy9⟩, hF9⟩ := hF9
    simp only [Value.agg.injEq, Array.mk.injEq, List.cons.injEq, and_true] at e9
    obtain ⟨rfl, rfl, rfl⟩ := e9
    simp only [Nat.zero_mul, Nat.add_zero, Nat.zero_add] at c0 c1 c2
    subst hW; clear B0
    go_enter Tryz.func168, Tryz.ntmps168
    go_wp2
    refine bodyPost_ret (v := .agg #[.bool n9, .slice a9 x9.length c9, .slice b9 y9.length d9]) (by obtain ⟨r1, r2, r3, _⟩ := (Box.new 125 w (.bool n9) (.slice a9 x9.length c9) (.slice b9 y9.length d9)).cells; simp [results, Tryz.results168, go_sem, r1, r2, r3]) rfl ⟨_, rfl, ⟨_, _, _, ⟨_, _, _, _, rfl, hx9.below (al1 _), hy9.below (al1 _)⟩, hF9.1, by have := hF9.2.1; simp [lmbS]; omega, by have := hF9.2.2.1; simp [lmbS]; omega, hF9.2.2.2⟩, al1 _⟩
  obtain ⟨h, hh⟩ : ∃ h, n / 2 = h := ⟨_, rfl⟩
  have e1 : 1 ≤ h := by omega
  have e2 : h < n := by omega
  have hdv : (n : Int).tdiv 2 = (h : Int) := by rw [Int.tdiv_eq_ediv_of_nonneg (by omega)]; omega
  have g0 : ((n : Int) == 0) = false := beq_eq_false_iff_ne.2 (by omega)
  have g1 : ((n : Int) == 1) = false := beq_eq_false_iff_ne.2 (by omega)
  have hz1 := HH.out.take h
  have hz2 := HH.out.from h (by rw [HL.out]; exact e2)
  have hc1 := fun U hU => ih h e2 a cap (qs.take h) U (by rw [List.length_take, HL.out]; omega) (by omega) hU
  have hc2 := fun U hU => ih (n - h) (by omega) (a.map (fun x => x.add (h * 3))) (cap - h) (qs.drop h) U (by rw [List.length_drop, HL.out]) (by omega) hU
  have HQ : Hid (suQ (qs.take h) + suQ (qs.drop h) = suQ qs) := suQ_half _ _
  have HM : Hid (lmbS h + lmbS (n - h) + 1 ≤ lmbS n) := lmbS_add e1 e2
  have HM2 : Hid (2 ≤ lmbS h ∧ 2 ≤ lmbS (n - h) ∧ lmbS h ≤ 21000 ∧ lmbS (n - h) ≤ 21000) := ⟨lmbS_two _, lmbS_two _, lmbS_le (by omega), lmbS_le (by omega)⟩
  have hcn : ¬ cap = h := by omega
  clear ih h0 h1 hh
  generalize qs.take h = q1 at *
  generalize qs.drop h = q2 at *
  generalize lmbS h = k1 at *
  generalize hk2 : lmbS (n - h) = k2 at *
  clear hk2
  have hle : h ≤ n := by omega
  have hlc : h ≤ cap := by omega
  go_enter Tryz.func168, Tryz.ntmps168
  go_upto_region 7 with fail
  rw [← hW]; clear hW; replace hz1 := hz1.below hbW; replace hz2 := hz2.below hbW
  refine wp_region_held_drew (S := (fun _ => True)) (by kernel_rfl) ?_ (fun hHeld => ?_)
  · (try dsimp only)
    all_goals go_keep
  have hdr : Below W.heap.size W W.drew := Below.drew1
  generalize W.drew = ud1 at hdr hHeld ⊢
  replace hz1 := hz1.below hdr; replace hz2 := hz2.below hdr; replace B0 := B0.below hdr
  replace hbW : Below w.heap.size w ud1 := hbW.trans (hdr.mono hbW.size)
  clear hdr; refine hT 0 hHeld ?_; refine hT 1 hHeld ?_
  refine hTake (i := 2) (v := .slice a h cap) rfl (by kernel_rfl) (by kernel_rfl) (by kernel_rfl) (fun _ _ _ h => h) (Or.inl ⟨by rfl, ?y2⟩) hHeld ?r2
  case y2 =>
   intro w9 hSw
   (try dsimp only at hSw)
   go_simp
  try simp only [Act.put, pZ]
  refine hT 4 hHeld ?_; refine hT 5 hHeld ?_
  refine hTake (i := 6) (v := .slice (a.map (fun x => x.add (h * 3))) (n - h) (cap - h)) rfl (by kernel_rfl) (by kernel_rfl) (by kernel_rfl) (fun _ _ _ h => h) (Or.inl ⟨by rfl, ?y3⟩) hHeld ?r3
  case y3 =>
   intro w9 hSw
   (try dsimp only at hSw)
   go_simp
  try simp only [Act.put, pZ]
  refine hCall (i := 3) rfl (by kernel_rfl) (by rfl) (fun K hK => ?_)
  go_simp
  refine (hc1 _ hz1).mono ?_
  rintro e u1 ⟨v5, rfl, hF5, hb1⟩; replace hz1 := hz1.below hb1; replace hz2 := hz2.below hb1; replace B0 := B0.below hb1
  replace hbW : Below w.heap.size w u1 := hbW.trans (hb1.mono hbW.size)
  clear hb1
  go_wp2_with fail
  refine hK.out _ _ ?_ (fun hHeld => ?_)
  · (try dsimp only)
    all_goals trivial
  clear hK K
  try simp only [Act.put, pZ]
  refine hCall (i := 7) rfl (by kernel_rfl) (by rfl) (fun K hK => ?_)
  go_simp
  refine (hc2 _ hz2).mono ?_
  rintro e u2 ⟨v6, rfl, hF6, hb2⟩; replace hz1 := hz1.below hb2; replace hz2 := hz2.below hb2; replace B0 := B0.below hb2; replace hF5 := hF5.below hb2
  replace hbW : Below w.heap.size w u2 := hbW.trans (hb2.mono hbW.size)
  clear hb2
  go_wp2_with fail
  refine hK.out _ _ ?_ (fun hHeld => ?_)
  · (try dsimp only)
    all_goals trivial
  clear hK K
  try simp only [Act.put, pZ]
  refine hCall (i := 8) rfl (by kernel_rfl) (by rfl) (fun K hK => ?_)
  go_simp
  refine (qadd_any k1 k2 (suQ q1) (suQ q2) _ _ _ hF5.ct hF6.ct (by have := HM2.out; omega) (by have := HM2.out; omega) HM2.out.1 HM2.out.2.1).mono ?_
  rintro e u3 ⟨v9, rfl, hF9, hb3⟩; replace hz1 := hz1.below hb3; replace hz2 := hz2.below hb3; replace B0 := B0.below hb3; replace hF5 := hF5.below hb3; replace hF6 := hF6.below hb3
  replace hbW : Below w.heap.size w u3 := hbW.trans (hb3.mono hbW.size)
  clear hb3; rw [HQ.out] at hF9; obtain ⟨n9, x9, y9, ⟨a9, c9, b9, d9, rfl, hx9, hy9⟩, hF9⟩ := hF9
  go_wp2_with fail
  refine hK.out _ _ ?_ (fun hHeld => ?_)
  · (try dsimp only)
    all_goals trivial
  clear hK K
  try simp only [Act.put, pZ]
  refine hCall (i := 9) rfl (by kernel_rfl) (by rfl) (fun K hK => ?_)
  go_simp
  have hs := B0.lt
  obtain ⟨f1, f2, f3, f4, f5, f6⟩ := B0.cells
  try go_simp
  obtain ⟨u64, hU, C9, hbU, hK9, ho⟩ := set3_world B0 (.bool n9) (.slice a9 x9.length c9) (.slice b9 y9.length d9)
  rw [← hU]; clear hU f1 f2 f3 f4 f5 f6
  replace hbW := hbU _ _ hbW (by omega)
  replace hx9 := hK9 _ _ _ hx9
  replace hy9 := hK9 _ _ _ hy9
  clear hbU hK9 ho
  refine hK.out _ _ ?_ (fun hHeld => ?_)
  · (try dsimp only)
    all_goals trivial
  clear hK K
  try simp only [Act.put, pZ]
  refine wpAnyH_done (by kernel_rfl) ?_ _
  clear hHeld; go_wp2
  refine bodyPost_ret (by obtain ⟨r1, r2, r3, _⟩ := C9.cells; simp [results, Tryz.results168, go_sem, r1, r2, r3]) rfl ⟨_, rfl, Fr.le (k := k1 + k2 + 1) ⟨_, _, _, ⟨_, _, _, _, rfl, hx9, hy9⟩, hF9⟩ HM.out, hbW⟩
def Cl (w : World) (g o : Nat) (v : Value) : Prop := g < w.heap.size ∧ w.cell? ⟨g, o, none⟩ = some v
theorem Cl.below {w w' : World} {g o : Nat} {v : Value} (h : Cl w g o v) (hb : Below w.heap.size w w') : Cl w' g o v := ⟨Nat.lt_of_lt_of_le h.1 hb.size, (hb.cell (p := ⟨g, o, none⟩) h.1).trans h.2⟩
theorem Box.new1S (t : TypeId) (w : World) (o : Obj) (x y z : Value) : Box t ((w.alloc o).alloc (.cells #[x, y, z] t)) (w.heap.size + 1) x y z := by
 have h := Box.new t (w.alloc o) x y z
 simpa using h
theorem rwB_no {s : Sr} {i : Int} (h : hrB s i = false) : rwB s i = false := by
 rw [Bool.eq_false_iff]
 intro e
 have := rwB_iff.1 e
 rw [hrB, decide_eq_true this.1, decide_eq_true this.2.1] at h
 cases h
theorem cchange_any (a : Option Addr) (ca : Nat) (b : Option Addr) (cb : Nat) (s : Sr) (i : Int) (pa : Option Addr) (pc : Nat) (cs : List Int) (w : World) (hg : Tzz w a ca s.rg) (hm : Rii w b cb s.rw) (hp : Ri w pa pc cs) (hl : s.rg.length ≤ 40) (h8 : ∀ l ∈ s.rg, l.length ≤ 8) :
    Calls Tryz.prog 113 #[.agg #[.slice a s.rg.length ca, .slice b s.rw.length cb], .int .i64 i, .slice pa cs.length pc] w fun e w' => ∃ v', e = .returned v' ∧ Fr w' v' 1000 (chQ s i cs) ∧ Below w.heap.size w w' := by
 have k1 := hg.lenB
 have k2 := hm.lenB
 have k3 := hp.lenB
 have HG : Hid (Tzz w a ca s.rg) := hg
 have HM : Hid (Rii w b cb s.rw) := hm
 have HP : Hid (Ri w pa pc cs) := hp
 have HL8 : Hid (∀ l ∈ s.rg, l.length ≤ 8) := h8
 clear hg hm hp h8
 obtain ⟨W, hW, X1, B0, hbW⟩ : ∃ W, W = (w.alloc (.cells #[.slice a s.rg.length ca, .slice b s.rw.length cb] 26)).alloc (.cells #[.bool false, .slice none 0 0, .slice none 0 0] 125) ∧ BxS W w.heap.size (.slice a s.rg.length ca) (.slice b s.rw.length cb) ∧ Box 125 W (w.heap.size + 1) (.bool false) (.slice none 0 0) (.slice none 0 0) ∧ Below w.heap.size w W := ⟨_, rfl, (BxS.new _ _ _).below (bl1 _), Box.new1S _ _ _ _ _ _, bl2 _ _⟩
 have hhr := fun U => chasRow_any (.slice a s.rg.length ca) b cb s i U k2 rfl
 cases hh : hrB s i with
 | false =>
  have HQ : Hid (((0 : Int) : Rat) = chQ s i cs) := by show _ = _; rw [chQ_no (rwB_no hh)]; rfl
  simp only [hh] at hhr
  clear hh
  go_enter Tryz.func113, Tryz.ntmps113
  go_upto_region 1 with fail
  rw [← hW]; clear hW; obtain ⟨p00, p01, _⟩ := X1.cells
  refine wp_region_held_drew (S := (fun u => u.cell? ⟨w.heap.size, 0, none⟩ = some (.slice a s.rg.length ca) ∧ u.cell? ⟨w.heap.size, 1, none⟩ = some (.slice b s.rw.length cb))) (by kernel_rfl) ?_ (fun hHeld => ?_)
  · (try dsimp only)
    go_keep
  have hdr : Below W.heap.size W W.drew := Below.drew1
  generalize W.drew = ud1 at hdr hHeld ⊢
  replace B0 := B0.below hdr; replace X1 := X1.below hdr
  replace hbW : Below w.heap.size w ud1 := hbW.trans (hdr.mono hbW.size)
  clear hdr; clear p00 p01; obtain ⟨p00, p01, _⟩ := X1.cells; refine hT 0 hHeld ?_; refine hT 1 hHeld ?_
  refine hCall (i := 2) rfl (by kernel_rfl) (by rfl) (fun K hK => ?_)
  go_simp
  refine (hhr _).mono ?_
  rintro e u1 ⟨rfl, hb1⟩; replace B0 := B0.below hb1; replace X1 := X1.below hb1
  replace hbW : Below w.heap.size w u1 := hbW.trans (hb1.mono hbW.size)
  clear hb1; clear p00 p01; obtain ⟨p00, p01, _⟩ := X1.cells
  go_wp2_with fail
  refine hK.out _ _ ?_ (fun hHeld => ?_)
  · (try dsimp only)
    exact ⟨p00, p01⟩
  clear hK K
  try simp only [Act.put, pZ]
  refine hT 3 hHeld ?_; refine hT 4 hHeld ?_; refine hN 5 hHeld ?_; refine hN 6 hHeld ?_; refine hN 7 hHeld ?_; refine hN 8 hHeld ?_; refine hN 9 hHeld ?_; refine hN 10 hHeld ?_; refine hN 11 hHeld ?_; refine hN 12 hHeld ?_; refine hN 13 hHeld ?_; refine hN 14 hHeld ?_; refine hT 15 hHeld ?_
  refine wpAnyH_done (by kernel_rfl) ?_ _
  clear hHeld
  go_wp2_with fail
  refine (whole_any 0 _ (by decide) (by decide)).mono ?_
  rintro e u8 ⟨v9, rfl, hF9, hb8⟩; replace B0 := B0.below hb8
  replace hbW := hbW.trans (hb8.mono hbW.size)
  clear hb8; rw [HQ.out] at hF9; obtain ⟨n9, x9, y9, ⟨a9, c9, b9, d9, rfl, hx9, hy9⟩, hF9⟩ := hF9; obtain ⟨q1, q2, q3, q4, q5, q6⟩ := B0.cells
  have hs := B0.lt
  go_wp2
  refine ret3 (v := .agg #[.bool n9, .slice a9 x9.length c9, .slice b9 y9.length d9]) B0 rfl (fun U hU => by obtain ⟨r1, r2, r3, _⟩ := hU.cells; simp [results, Tryz.results113, go_sem, r1, r2, r3]) (fun U hU hK => ⟨_, rfl, Fr.le (k := 2) ⟨_, _, _, ⟨_, _, _, _, rfl, hK _ _ _ hx9, hK _ _ _ hy9⟩, hF9⟩ (by decide), hU _ _ hbW (by omega)⟩)
 | true =>
  simp only [hh] at hhr
  have hij : 0 ≤ i ∧ i < (s.rw.length : Int) := by
   rw [hrB, Bool.and_eq_true, decide_eq_true_iff, decide_eq_true_iff] at hh
   exact hh
  clear hh
  obtain ⟨j, rfl⟩ : ∃ j : Nat, i = (j : Int) := ⟨i.toNat, (Int.toNat_of_nonneg hij.1).symm⟩
  have hj : j < s.rw.length := by omega
  obtain ⟨b1, o1, a1, c1, ea, hb1, d0, hr⟩ := HM.out.2.2 j hj
  have HRQ : Hid (rwB s (j : Int) = decide ((s.rw.getD j []).length = s.rg.length)) := by
   show _ = _
   rw [rwB, Int.toNat_natCast]
   exact decide_eq_decide.2 ⟨fun h => h.2.2, fun h => ⟨hij.1, hij.2, h⟩⟩
  have HCQ : Hid (rwB s (j : Int) = true → chQ s (j : Int) cs = chK s.rg (s.rw.getD j []) cs s.rg.length) := fun h => by rw [chQ_yes h, Int.toNat_natCast]
  obtain ⟨r, hrr⟩ : ∃ r, s.rw.getD j [] = r := ⟨_, rfl⟩
  rw [hrr] at d0 hr HRQ HCQ
  have HR : Hid (Ri w a1 c1 r) := hr
  have k4 := hr.lenB
  subst ea
  have A0 : Cl W b1 (o1 + j) (.slice a1 r.length c1) := ⟨Nat.lt_of_lt_of_le hb1 hbW.size, (hbW.cell (p := ⟨b1, o1 + j, none⟩) hb1).trans d0⟩
  clear hrr hr
  have i1 : (0 : Int) ≤ (j : Int) := by omega
  have i2 : (j : Int) < (s.rw.length : Int) := by omega
  clear d0
  by_cases hlen : r.length = s.rg.length
  · have HQ : Hid (chK s.rg r cs r.length = chQ s (j : Int) cs) := by show _ = _; rw [HCQ.out (by rw [HRQ.out]; exact decide_eq_true hlen), hlen]
    have g5 : ((r.length : Int) != (s.rg.length : Int)) = false := by simp [hlen]
    have HLN : Hid (r.length = s.rg.length) := hlen
    have q0 := A0.2
    clear HRQ HCQ hlen
    go_enter Tryz.func113, Tryz.ntmps113
    go_upto_region 1 with fail
    rw [← hW]; clear hW; obtain ⟨p00, p01, _⟩ := X1.cells
    refine wp_region_held_drew (S := (fun u => u.cell? ⟨w.heap.size, 0, none⟩ = some (.slice a s.rg.length ca) ∧ u.cell? ⟨w.heap.size, 1, none⟩ = some (.slice (some ⟨b1, o1, none⟩) s.rw.length cb) ∧ u.cell? ⟨b1, o1 + j, none⟩ = some (.slice a1 r.length c1))) (by kernel_rfl) ?_ (fun hHeld => ?_)
    · (try dsimp only)
      go_keep
    have hdr : Below W.heap.size W W.drew := Below.drew1
    generalize W.drew = ud2 at hdr hHeld ⊢
    replace A0 := A0.below hdr; replace B0 := B0.below hdr; replace X1 := X1.below hdr
    replace hbW : Below w.heap.size w ud2 := hbW.trans (hdr.mono hbW.size)
    clear hdr; clear p00 p01; obtain ⟨p00, p01, _⟩ := X1.cells; refine hT 0 hHeld ?_; refine hT 1 hHeld ?_
    refine hCall (i := 2) rfl (by kernel_rfl) (by rfl) (fun K hK => ?_)
    go_simp
    refine (hhr _).mono ?_
    rintro e u1 ⟨rfl, hb1⟩; replace A0 := A0.below hb1; replace B0 := B0.below hb1; replace X1 := X1.below hb1
    replace hbW : Below w.heap.size w u1 := hbW.trans (hb1.mono hbW.size)
    clear hb1; clear p00 p01; obtain ⟨p00, p01, _⟩ := X1.cells
    go_wp2_with fail
    refine hK.out _ _ ?_ (fun hHeld => ?_)
    · (try dsimp only)
      exact ⟨p00, p01, A0.2⟩
    clear hK K
    try simp only [Act.put, pZ]
    refine hT 3 hHeld ?_; refine hT 4 hHeld ?_; refine hT 5 hHeld ?_; refine hT 6 hHeld ?_; refine hT 7 hHeld ?_; refine hT 8 hHeld ?_; refine hT 9 hHeld ?_; refine hT 10 hHeld ?_; refine hT 11 hHeld ?_; refine hT 12 hHeld ?_; refine hT 13 hHeld ?_; refine hT 14 hHeld ?_; refine hT 15 hHeld ?_
    refine wpAnyH_done (by kernel_rfl) ?_ _
    clear hHeld hhr
    have q0 := A0.2
    go_wp2
    have HX : Hid (BxS u1 w.heap.size (.slice a s.rg.length ca) (.slice (some ⟨b1, o1, none⟩) s.rw.length cb)) := X1
    have HB0 : Hid (Box 125 u1 (w.heap.size + 1) (.bool false) (.slice none 0 0) (.slice none 0 0)) := B0
    have HBW : Hid (Below w.heap.size w u1) := hbW
    clear X1 B0 hbW A0 q0 p00 p01 g5
    go_loopw [7, 34] (fun v i wr => ∃ (k : Nat) (qs : List Rat), k ≤ r.length ∧ i = .int .i64 (k : Int) ∧ qs.length ≤ k ∧ suQ qs = chK s.rg r cs k ∧ Ro 125 u1.heap.size wr v 20 qs ∧ Below u1.heap.size u1 wr) (fun _ i _ => r.length - (intOf i).toNat)
    case atStart => exact ⟨0, [], Nat.zero_le _, rfl, Nat.le_refl _, rfl, Ro.nil _ _ _ _, Below.refl _ _⟩
    case round =>
     obtain ⟨k, qs, hk, rfl, hql, hsum, hT, hBV⟩ := hrel; obtain ⟨a2, c2, rfl, hts⟩ := hT.slice
     have HT : Hid (Ro 125 u1.heap.size wr (.slice a2 qs.length c2) 20 qs) := hT
     have HSU : Hid (suQ qs = chK s.rg r cs k) := hsum
     clear hT hsum
     have hbW := HBW.out.trans (hBV.mono HBW.out.size)
     by_cases hkn : k < r.length
     · clear hts
       have hkg : k < s.rg.length := by rw [← HLN.out]; exact hkn
       obtain ⟨rb, ro, er, hrb, dz⟩ := HR.out.at hbW k hkn
       subst er
       have hzi := HR.out.i64 hkn
       obtain ⟨z, hz⟩ : ∃ z, r.getD k 0 = z := ⟨_, rfl⟩
       have HZ : Hid (r.getD k 0 = z) := hz
       rw [hz] at dz hzi; clear hz
       by_cases hz0 : z = 0
       · have g6 : (z == 0) = true := by simp [hz0]
         have HS2 : Hid (suQ qs = chK s.rg r cs (k + 1)) := chK_skip HSU.out (.inl (by rw [HZ.out, hz0]))
         clear hz0 HZ HSU; go_wp2
         go_roundw
         case rel => exact ⟨k + 1, qs, by omega, by go_num, by omega, HS2.out, HT.out, hBV⟩
         case measure => simp [intOf]; omega
       have g6 : (z == 0) = false := by simp [hz0]
       obtain ⟨b3, o3, a3, c3, e3, hb3, d3, hl3⟩ := HG.out.at hbW k hkg
       have hl8 := HL8.out _ (getL_mem hkg)
       obtain ⟨l, hl⟩ : ∃ l, s.rg.getD k [] = l := ⟨_, rfl⟩
       have HL : Hid (s.rg.getD k [] = l) := hl
       rw [hl] at d3 hl3 hl8; subst e3; clear hl hz0
       have X1 := HX.out.below hBV
       obtain ⟨q1, q2, _⟩ := X1.cells
       have hp := HP.out.below hbW
       have hca := callT_any a3 c3 l pa pc cs wr hl3 hp (by omega)
       obtain ⟨q, hq⟩ : ∃ q, alQ l cs = q := ⟨_, rfl⟩
       have HQL : Hid (alQ l cs = q) := hq
       rw [hq] at hca; clear hq hp hl3
       go_wp2_with fail
       refine hca.mono ?_
       rintro e t1 ⟨v8, rfl, hF8, hb1⟩; obtain ⟨n8, x8, y8, ⟨a8, c8, b8, d8, rfl, hx8, hy8⟩, hF8⟩ := hF8
       obtain ⟨U, hU, P8, hb9⟩ : ∃ U, U = t1.alloc (.cells #[.bool n8, .slice a8 x8.length c8, .slice b8 y8.length d8] 125) ∧ Box 125 U t1.heap.size (.bool n8) (.slice a8 x8.length c8) (.slice b8 y8.length d8) ∧ Below t1.heap.size t1 U := ⟨_, rfl, Box.new _ _ _ _ _, al1 _⟩
       have hF8 : Fr U (.agg #[.bool n8, .slice a8 x8.length c8, .slice b8 y8.length d8]) (2 + 2 * l.length) q := Fr.below ⟨_, _, _, ⟨_, _, _, _, rfl, hx8, hy8⟩, hF8⟩ hb9
       have hbR : Below wr.heap.size wr U := hb1.trans (hb9.mono hb1.size)
       have hg8 : wr.heap.size ≤ t1.heap.size := hb1.size
       clear hca hx8 hy8 X1 q1 q2 d3 dz
       go_wp2_with fail
       rw [← hU]; clear hU hb9 hb1
       generalize t1.heap.size = g8 at *
       refine (qsign_any (2 + 2 * l.length) q _ _ hF8.ct (by omega) (by omega)).mono ?_
       rintro e t2 ⟨rfl, hb2⟩; replace P8 := P8.below hb2; replace hF8 := hF8.below hb2
       replace hbR := hbR.trans (hb2.mono hbR.size)
       replace hbW := hbW.trans (hbR.mono hbW.size)
       clear hb2
       by_cases hq : q = 0
       · have e1 : sgnQ q = 0 := sgnQ_zero.2 hq
         have HS2 : Hid (suQ qs = chK s.rg r cs (k + 1)) := chK_skip HSU.out (.inr (by rw [HL.out, HQL.out, hq]))
         have hT2 := HT.out.below hbR
         have hBV2 := hBV.trans (hbR.mono hBV.size)
         rw [e1]; clear e1 hq HZ HSU hF8 P8 hbR hbW; go_wp2
         go_roundw
         case rel => exact ⟨k + 1, qs, by omega, by go_num, by omega, HS2.out, hT2, hBV2⟩
         case measure => simp [intOf]; omega
       have HS2 : Hid (suQ (qs ++ [((z : Int) : Rat) * q]) = chK s.rg r cs (k + 1)) := by
        have := chK_sum (k := k) HSU.out
        rw [HZ.out, HL.out, HQL.out] at this
        exact this
       have e1 : ¬ sgnQ q = 0 := fun e => hq (sgnQ_zero.1 e)
       have g1 : (sgnQ q != 0) = true := by simp [e1]
       generalize sgnQ q = sg at *
       clear e1 hq HZ HSU HL HQL
       have hll : qs.length + 1 ≤ 1000000 := by have := HLN.out; omega
       go_upto_region 10 with fail
       obtain ⟨p00, p01, p02, _⟩ := P8.cells
       refine wp_region_held_drew (S := (fun u => u.cell? ⟨g8, 0, none⟩ = some (.bool n8) ∧ u.cell? ⟨g8, 1, none⟩ = some (.slice a8 x8.length c8) ∧ u.cell? ⟨g8, 2, none⟩ = some (.slice b8 y8.length d8))) (by kernel_rfl) ?_ (fun hHeld => ?_)
       · (try dsimp only)
         go_keep
       have hdr : Below t2.heap.size t2 t2.drew := Below.drew1
       generalize t2.drew = ud3 at hdr hHeld ⊢
       replace hF8 := hF8.below hdr; replace P8 := P8.below hdr
       replace hbW : Below w.heap.size w ud3 := hbW.trans (hdr.mono hbW.size)
       replace hbR : Below wr.heap.size wr ud3 := hbR.trans (hdr.mono hbR.size)
       clear hdr; clear p00 p01 p02; obtain ⟨p00, p01, p02, _⟩ := P8.cells; refine hT 0 hHeld ?_; refine hT 1 hHeld ?_; refine hT 3 hHeld ?_
       refine hCall (i := 2) rfl (by kernel_rfl) (by rfl) (fun K hK => ?_)
       go_simp
       refine (whole_any z _ hzi.1 (by have := hzi.2; omega)).mono ?_
       rintro e u3 ⟨v6, rfl, hF6, hb3⟩; replace hF8 := hF8.below hb3; replace P8 := P8.below hb3
       replace hbW : Below w.heap.size w u3 := hbW.trans (hb3.mono hbW.size)
       replace hbR : Below wr.heap.size wr u3 := hbR.trans (hb3.mono hbR.size)
       clear hb3; clear p00 p01 p02; obtain ⟨p00, p01, p02, _⟩ := P8.cells
       go_wp2_with fail
       refine hK.out _ _ ?_ (fun hHeld => ?_)
       · (try dsimp only)
         exact ⟨p00, p01, p02⟩
       clear hK K
       try simp only [Act.put, pZ]
       refine hCall (i := 4) rfl (by kernel_rfl) (by rfl) (fun K hK => ?_)
       go_simp
       refine (qmul_any 2 (2 + 2 * l.length) _ _ _ _ _ hF6.ct hF8.ct (by decide) (by omega) (by decide) (by omega)).mono ?_
       rintro e u4 ⟨v9, rfl, hF9, hb4⟩; replace hF8 := hF8.below hb4; replace hF6 := hF6.below hb4; replace P8 := P8.below hb4
       replace hbW : Below w.heap.size w u4 := hbW.trans (hb4.mono hbW.size)
       replace hbR : Below wr.heap.size wr u4 := hbR.trans (hb4.mono hbR.size)
       clear hb4; obtain ⟨n9, x9, y9, ⟨a9, c9, b9, d9, rfl, hx9, hy9⟩, hF9⟩ := hF9
       have hF9 : Fr u4 (.agg #[.bool n9, .slice a9 x9.length c9, .slice b9 y9.length d9]) 20 (((z : Int) : Rat) * q) := Fr.le (k := 2 + (2 + 2 * l.length)) ⟨_, _, _, ⟨_, _, _, _, rfl, hx9, hy9⟩, hF9⟩ (by omega)
       clear hx9 hy9; clear p00 p01 p02; obtain ⟨p00, p01, p02, _⟩ := P8.cells
       go_wp2_with fail
       refine hK.out _ _ ?_ (fun hHeld => ?_)
       · (try dsimp only)
         exact ⟨p00, p01, p02⟩
       clear hK K
       try simp only [Act.put, pZ]
       refine hCall (i := 5) rfl (by kernel_rfl) (by rfl) (fun K hK => ?_)
       go_simp
       obtain ⟨u65, hU4, B4, hb4⟩ : ∃ U4, U4 = u4.alloc (.cells #[.bool n9, .slice a9 x9.length c9, .slice b9 y9.length d9] 125) ∧ Box 125 U4 u4.heap.size (.bool n9) (.slice a9 x9.length c9) (.slice b9 y9.length d9) ∧ Below u4.heap.size u4 U4 := ⟨_, rfl, Box.new _ _ _ _ _, bl1 _⟩
       rw [← hU4]; clear hU4; replace hF8 := hF8.below hb4; replace hF9 := hF9.below hb4; replace P8 := P8.below hb4
       replace hbW : Below w.heap.size w u65 := hbW.trans (hb4.mono hbW.size)
       replace hbR : Below wr.heap.size wr u65 := hbR.trans (hb4.mono hbR.size)
       clear p00 p01 p02; obtain ⟨p00, p01, p02, _⟩ := P8.cells
       refine hK.out _ _ ?_ (fun hHeld => ?_)
       · (try dsimp only)
         exact ⟨p00, p01, p02⟩
       clear hK K
       try simp only [Act.put, pZ]
       refine hCall (i := 6) rfl (by kernel_rfl) (by rfl) (fun K hK => ?_)
       obtain ⟨r0, r1, r2, _⟩ := B4.cells
       have hT4 := HT.out.below hbR
       have hbs : u1.heap.size ≤ u65.heap.size := Nat.le_trans hBV.size hbR.size
       refine wp_append_rt _ _ rfl u1.heap.size _ 20 qs (((z : Int) : Rat) * q) rfl hT4 u4.heap.size _ _ _ rfl r0 r1 r2 hF9 hll hbs ?_
       intro v' w9 hT9 hgrow
       have hB9 : Below u1.heap.size u1 w9 := (hBV.trans (hbR.mono hBV.size)).grown hgrow hbs (fun k hk => (HT.out.lo hk).1)
       have hne : some g8 ≠ Value.ownBlock (.slice a2 qs.length c2) := fun e => absurd (HT.out.lo e.symm).2 (Nat.not_lt.2 hg8)
       replace p00 := hgrow.cell p00 hne
       replace p01 := hgrow.cell p01 hne
       replace p02 := hgrow.cell p02 hne
       refine hK.out _ _ ?_ (fun hHeld => ?_)
       · (try dsimp only)
         exact ⟨p00, p01, p02⟩
       clear hK K
       try simp only [Act.put, pZ]
       refine hT 7 hHeld ?_
       refine wpAnyH_done (by kernel_rfl) ?_ _
       clear hHeld; go_wp2
       go_roundw
       case rel => exact ⟨k + 1, qs ++ [((z : Int) : Rat) * q], by omega, by go_num, by simp; omega, HS2.out, hT9, hB9⟩
       case measure => simp [intOf]; omega
     · obtain rfl : k = r.length := by omega
       have hsu := csum_any qs.length a2 c2 qs wr rfl (by have := HLN.out; omega) hts
       rw [HSU.out, HQ.out] at hsu
       have B0 := HB0.out.below hBV
       clear hts HSU
       go_wp2_with fail
       refine hsu.mono ?_
       rintro e u8 ⟨v9, rfl, hF9, hb8⟩; replace B0 := B0.below hb8
       replace hbW := hbW.trans (hb8.mono hbW.size)
       clear hb8 hsu
       have HLM : Hid (lmbS qs.length ≤ 1000) := by show _ ≤ _; have := HLN.out; unfold lmbS; split <;> omega
       generalize lmbS qs.length = km at *
       obtain ⟨n9, x9, y9, ⟨a9, c9, b9, d9, rfl, hx9, hy9⟩, hF9⟩ := hF9; obtain ⟨q1, q2, q3, q4, q5, q6⟩ := B0.cells
       have hs := B0.lt
       go_wp2
       refine ret3 (v := .agg #[.bool n9, .slice a9 x9.length c9, .slice b9 y9.length d9]) B0 rfl (fun U hU => by obtain ⟨r1, r2, r3, _⟩ := hU.cells; simp [results, Tryz.results113, go_sem, r1, r2, r3]) (fun U hU hK => ⟨_, rfl, Fr.le (k := km) ⟨_, _, _, ⟨_, _, _, _, rfl, hK _ _ _ hx9, hK _ _ _ hy9⟩, hF9⟩ HLM.out, hU _ _ hbW (by omega)⟩)
  · have HQ : Hid (((0 : Int) : Rat) = chQ s (j : Int) cs) := by show _ = _; rw [chQ_no (by rw [HRQ.out]; exact decide_eq_false hlen)]; rfl
    have g5 : ((r.length : Int) != (s.rg.length : Int)) = true := bne_iff_ne.2 (by omega)
    have q0 := A0.2
    clear HRQ HCQ hlen
    go_enter Tryz.func113, Tryz.ntmps113
    go_upto_region 1 with fail
    rw [← hW]; clear hW; obtain ⟨p00, p01, _⟩ := X1.cells
    refine wp_region_held_drew (S := (fun u => u.cell? ⟨w.heap.size, 0, none⟩ = some (.slice a s.rg.length ca) ∧ u.cell? ⟨w.heap.size, 1, none⟩ = some (.slice (some ⟨b1, o1, none⟩) s.rw.length cb) ∧ u.cell? ⟨b1, o1 + j, none⟩ = some (.slice a1 r.length c1))) (by kernel_rfl) ?_ (fun hHeld => ?_)
    · (try dsimp only)
      go_keep
    have hdr : Below W.heap.size W W.drew := Below.drew1
    generalize W.drew = ud4 at hdr hHeld ⊢
    replace A0 := A0.below hdr; replace B0 := B0.below hdr; replace X1 := X1.below hdr
    replace hbW : Below w.heap.size w ud4 := hbW.trans (hdr.mono hbW.size)
    clear hdr; clear p00 p01; obtain ⟨p00, p01, _⟩ := X1.cells; refine hT 0 hHeld ?_; refine hT 1 hHeld ?_
    refine hCall (i := 2) rfl (by kernel_rfl) (by rfl) (fun K hK => ?_)
    go_simp
    refine (hhr _).mono ?_
    rintro e u1 ⟨rfl, hb1⟩; replace A0 := A0.below hb1; replace B0 := B0.below hb1; replace X1 := X1.below hb1
    replace hbW : Below w.heap.size w u1 := hbW.trans (hb1.mono hbW.size)
    clear hb1; clear p00 p01; obtain ⟨p00, p01, _⟩ := X1.cells
    go_wp2_with fail
    refine hK.out _ _ ?_ (fun hHeld => ?_)
    · (try dsimp only)
      exact ⟨p00, p01, A0.2⟩
    clear hK K
    try simp only [Act.put, pZ]
    refine hT 3 hHeld ?_; refine hT 4 hHeld ?_; refine hT 5 hHeld ?_; refine hT 6 hHeld ?_; refine hT 7 hHeld ?_; refine hT 8 hHeld ?_; refine hT 9 hHeld ?_; refine hT 10 hHeld ?_; refine hT 11 hHeld ?_; refine hT 12 hHeld ?_; refine hT 13 hHeld ?_; refine hT 14 hHeld ?_; refine hT 15 hHeld ?_
    refine wpAnyH_done (by kernel_rfl) ?_ _
    clear hHeld
    go_wp2_with fail
    refine (whole_any 0 _ (by decide) (by decide)).mono ?_
    rintro e u8 ⟨v9, rfl, hF9, hb8⟩; replace B0 := B0.below hb8
    replace hbW := hbW.trans (hb8.mono hbW.size)
    clear hb8; rw [HQ.out] at hF9; obtain ⟨n9, x9, y9, ⟨a9, c9, b9, d9, rfl, hx9, hy9⟩, hF9⟩ := hF9; obtain ⟨q1, q2, q3, q4, q5, q6⟩ := B0.cells
    have hs := B0.lt
    go_wp2
    refine ret3 (v := .agg #[.bool n9, .slice a9 x9.length c9, .slice b9 y9.length d9]) B0 rfl (fun U hU => by obtain ⟨r1, r2, r3, _⟩ := hU.cells; simp [results, Tryz.results113, go_sem, r1, r2, r3]) (fun U hU hK => ⟨_, rfl, Fr.le (k := 2) ⟨_, _, _, ⟨_, _, _, _, rfl, hK _ _ _ hx9, hK _ _ _ hy9⟩, hF9⟩ (by decide), hU _ _ hbW (by omega)⟩)
theorem Box.new2S (t : TypeId) (w : World) (o o' : Obj) (x y z : Value) : Box t (((w.alloc o).alloc o').alloc (.cells #[x, y, z] t)) (w.heap.size + 2) x y z := by
 have h := Box.new t ((w.alloc o).alloc o') x y z
 simpa using h
def roN (s : Sr) (x r : Int) (cs : List Int) : Int := if fiS s x r then fldN (vaQ s x r cs + 1 / 2).floor else 0
def roE (s : Sr) (x r : Int) (cs : List Int) : Int := if fiS s x r then fldE (vaQ s x r cs + 1 / 2).floor else 1
theorem cvalue_any (a : Option Addr) (ca : Nat) (b : Option Addr) (cb : Nat) (s : Sr) (x r : Int) (pa : Option Addr) (pc : Nat) (cs : List Int) (w : World) (hg : Tzz w a ca s.rg) (hm : Rii w b cb s.rw) (hp : Ri w pa pc cs) (hx : I64 x) (hr : I64 r) (hl : s.rg.length ≤ 40) (h8 : ∀ l ∈ s.rg, l.length ≤ 8) :
    Calls Tryz.prog 68 #[.agg #[.slice a s.rg.length ca, .slice b s.rw.length cb], .agg #[.int .i64 x, .int .i64 r], .slice pa cs.length pc] w fun e w' => ∃ v', e = .returned v' ∧ Fr w' v' 1003 (vaQ s x r cs) ∧ Below w.heap.size w w' := by
 have k3 := hp.lenB
 have HV : Hid (((x : Int) : Rat) + chQ s r cs = vaQ s x r cs) := rfl
 have hch := fun U h1 h2 h3 => cchange_any a ca b cb s r pa pc cs U h1 h2 h3 hl h8
 obtain ⟨W, hW, X1, X2, B0, hbW⟩ : ∃ W, W = ((w.alloc (.cells #[.slice a s.rg.length ca, .slice b s.rw.length cb] 26)).alloc (.cells #[.int .i64 x, .int .i64 r] 60)).alloc (.cells #[.bool false, .slice none 0 0, .slice none 0 0] 125) ∧ BxS W w.heap.size (.slice a s.rg.length ca) (.slice b s.rw.length cb) ∧ BxL W (w.heap.size + 1) (.int .i64 x) (.int .i64 r) ∧ Box 125 W (w.heap.size + 2) (.bool false) (.slice none 0 0) (.slice none 0 0) ∧ Below w.heap.size w W := ⟨_, rfl, ((BxS.new _ _ _).below (bl1 _)).below (bl1 _), (BxL.new1 _ _ _ _).below (bl1 _), Box.new2S _ _ _ _ _ _ _, (bl2 _ _).trans ((bl1 _).mono (by simp; omega))⟩
 replace hg := hg.below hbW; replace hm := hm.below hbW; replace hp := hp.below hbW
 generalize chQ s r cs = qc at *
 clear h8
 go_enter Tryz.func68, Tryz.ntmps68
 go_upto_region 1 with fail
 rw [← hW]; clear hW; obtain ⟨p00, p01, _⟩ := X1.cells; obtain ⟨p10, p11, _⟩ := X2.cells
 refine wp_region_held_drew (S := (fun u => u.cell? ⟨w.heap.size, 0, none⟩ = some (.slice a s.rg.length ca) ∧ u.cell? ⟨w.heap.size, 1, none⟩ = some (.slice b s.rw.length cb) ∧ u.cell? ⟨w.heap.size + 1, 0, none⟩ = some (.int .i64 x) ∧ u.cell? ⟨w.heap.size + 1, 1, none⟩ = some (.int .i64 r))) (by kernel_rfl) ?_ (fun hHeld => ?_)
 · (try dsimp only)
   go_keep
 have hdr : Below W.heap.size W W.drew := Below.drew1
 generalize W.drew = ud1 at hdr hHeld ⊢
 replace hg := hg.below hdr; replace hm := hm.below hdr; replace hp := hp.below hdr; replace B0 := B0.below hdr; replace X1 := X1.below hdr; replace X2 := X2.below hdr
 replace hbW : Below w.heap.size w ud1 := hbW.trans (hdr.mono hbW.size)
 clear hdr; clear p00 p01 p10 p11; obtain ⟨p00, p01, _⟩ := X1.cells; obtain ⟨p10, p11, _⟩ := X2.cells; refine hT 0 hHeld ?_; refine hT 1 hHeld ?_; refine hT 3 hHeld ?_; refine hT 4 hHeld ?_; refine hT 5 hHeld ?_; refine hT 6 hHeld ?_
 refine hCall (i := 2) rfl (by kernel_rfl) (by rfl) (fun K hK => ?_)
 go_simp
 refine (whole_any x _ hx.1 (by have := hx.2; omega)).mono ?_
 rintro e u1 ⟨v5, rfl, hF5, hb1⟩; replace hg := hg.below hb1; replace hm := hm.below hb1; replace hp := hp.below hb1; replace B0 := B0.below hb1; replace X1 := X1.below hb1; replace X2 := X2.below hb1
 replace hbW : Below w.heap.size w u1 := hbW.trans (hb1.mono hbW.size)
 clear hb1; clear p00 p01 p10 p11; obtain ⟨p00, p01, _⟩ := X1.cells; obtain ⟨p10, p11, _⟩ := X2.cells
 go_wp2_with fail
 refine hK.out _ _ ?_ (fun hHeld => ?_)
 · (try dsimp only)
   exact ⟨p00, p01, p10, p11⟩
 clear hK K
 try simp only [Act.put, pZ]
 refine hCall (i := 7) rfl (by kernel_rfl) (by rfl) (fun K hK => ?_)
 go_simp
 refine (hch _ hg hm hp).mono ?_
 rintro e u2 ⟨v6, rfl, hF6, hb2⟩; replace hg := hg.below hb2; replace hm := hm.below hb2; replace hp := hp.below hb2; replace B0 := B0.below hb2; replace hF5 := hF5.below hb2; replace X1 := X1.below hb2; replace X2 := X2.below hb2
 replace hbW : Below w.heap.size w u2 := hbW.trans (hb2.mono hbW.size)
 clear hb2; clear p00 p01 p10 p11; obtain ⟨p00, p01, _⟩ := X1.cells; obtain ⟨p10, p11, _⟩ := X2.cells
 go_wp2_with fail
 refine hK.out _ _ ?_ (fun hHeld => ?_)
 · (try dsimp only)
   exact ⟨p00, p01, p10, p11⟩
 clear hK K
 try simp only [Act.put, pZ]
 refine hCall (i := 8) rfl (by kernel_rfl) (by rfl) (fun K hK => ?_)
 go_simp
 refine (qadd_any 2 1000 _ _ _ _ _ hF5.ct hF6.ct (by decide) (by decide) (by decide) (by decide)).mono ?_
 rintro e u3 ⟨v9, rfl, hF9, hb3⟩; replace hg := hg.below hb3; replace hm := hm.below hb3; replace hp := hp.below hb3; replace B0 := B0.below hb3; replace hF5 := hF5.below hb3; replace hF6 := hF6.below hb3; replace X1 := X1.below hb3; replace X2 := X2.below hb3
 replace hbW : Below w.heap.size w u3 := hbW.trans (hb3.mono hbW.size)
 clear hb3; rw [HV.out] at hF9; obtain ⟨n9, x9, y9, ⟨a9, c9, b9, d9, rfl, hx9, hy9⟩, hF9⟩ := hF9; clear p00 p01 p10 p11; obtain ⟨p00, p01, _⟩ := X1.cells; obtain ⟨p10, p11, _⟩ := X2.cells
 go_wp2_with fail
 refine hK.out _ _ ?_ (fun hHeld => ?_)
 · (try dsimp only)
   exact ⟨p00, p01, p10, p11⟩
 clear hK K
 try simp only [Act.put, pZ]
 refine hCall (i := 9) rfl (by kernel_rfl) (by rfl) (fun K hK => ?_)
 go_simp
 have hs := B0.lt
 obtain ⟨f1, f2, f3, f4, f5, f6⟩ := B0.cells
 try go_simp
 obtain ⟨u64, hU, C9, hbU, hK9, ho⟩ := set3_world B0 (.bool n9) (.slice a9 x9.length c9) (.slice b9 y9.length d9)
 rw [← hU]; clear hU f1 f2 f3 f4 f5 f6
 replace hbW := hbU _ _ hbW (by omega)
 replace hx9 := hK9 _ _ _ hx9
 replace hy9 := hK9 _ _ _ hy9
 replace X1 : BxS u64 w.heap.size (.slice a s.rg.length ca) (.slice b s.rw.length cb) := (ho _ (by omega)).trans X1
 replace X2 : BxL u64 (w.heap.size + 1) (.int .i64 x) (.int .i64 r) := (ho _ (by omega)).trans X2
 clear hbU hK9 ho; clear p00 p01 p10 p11; obtain ⟨p00, p01, _⟩ := X1.cells; obtain ⟨p10, p11, _⟩ := X2.cells
 refine hK.out _ _ ?_ (fun hHeld => ?_)
 · (try dsimp only)
   exact ⟨p00, p01, p10, p11⟩
 clear hK K
 try simp only [Act.put, pZ]
 refine wpAnyH_done (by kernel_rfl) ?_ _
 clear hHeld; go_wp2
 refine bodyPost_ret (by obtain ⟨r1, r2, r3, _⟩ := C9.cells; simp [results, Tryz.results68, go_sem, r1, r2, r3]) rfl ⟨_, rfl, ⟨_, _, _, ⟨_, _, _, _, rfl, hx9, hy9⟩, hF9⟩, hbW⟩
theorem crounded_any (a : Option Addr) (ca : Nat) (b : Option Addr) (cb : Nat) (s : Sr) (x r : Int) (pa : Option Addr) (pc : Nat) (cs : List Int) (w : World) (hg : Tzz w a ca s.rg) (hm : Rii w b cb s.rw) (hp : Ri w pa pc cs) (hx : I64 x) (hr : I64 r) (hl : s.rg.length ≤ 40) (h8 : ∀ l ∈ s.rg, l.length ≤ 8) :
    Calls Tryz.prog 36 #[.agg #[.slice a s.rg.length ca, .slice b s.rw.length cb], .agg #[.int .i64 x, .int .i64 r], .slice pa cs.length pc] w fun e w' => e = .returned (.tuple #[.int .i64 (roN s x r cs), .int .i64 (roE s x r cs)]) ∧ Below w.heap.size w w' := by
 have k2 := hm.lenB
 have k3 := hp.lenB
 have hfi := fun U => cfits_any a ca b cb s x r U k2 hx hr
 have hva := fun U h1 h2 h3 => cvalue_any a ca b cb s x r pa pc cs U h1 h2 h3 hx hr hl h8
 obtain ⟨W, hW, X1, X2, hbW⟩ : ∃ W, W = (w.alloc (.cells #[.slice a s.rg.length ca, .slice b s.rw.length cb] 26)).alloc (.cells #[.int .i64 x, .int .i64 r] 60) ∧ BxS W w.heap.size (.slice a s.rg.length ca) (.slice b s.rw.length cb) ∧ BxL W (w.heap.size + 1) (.int .i64 x) (.int .i64 r) ∧ Below w.heap.size w W := ⟨_, rfl, (BxS.new _ _ _).below (bl1 _), BxL.new1 _ _ _ _, bl2 _ _⟩
 replace hg := hg.below hbW; replace hm := hm.below hbW; replace hp := hp.below hbW; clear h8 hx hr
 cases hf : fiS s x r with
 | false =>
  have HE : Hid (roN s x r cs = 0 ∧ roE s x r cs = 1) := by
   show _ ∧ _
   constructor
   · rw [roN, hf]; rfl
   · rw [roE, hf]; rfl
  simp only [hf] at hfi
  clear hf hg hm hp hva
  go_enter Tryz.func36, Tryz.ntmps36
  go_wp2_with fail
  rw [← hW]; clear hW
  refine (hfi _).mono ?_
  rintro e u1 ⟨rfl, hb1⟩
  replace hbW := hbW.trans (hb1.mono hbW.size)
  clear hb1 hfi; go_wp2
  go_ret2
  exact ⟨by rw [HE.out.1, HE.out.2]; rfl, hbW⟩
 | true =>
  have HE : Hid (roN s x r cs = fldN (vaQ s x r cs + 1 / 2).floor ∧ roE s x r cs = fldE (vaQ s x r cs + 1 / 2).floor) := by
   show _ ∧ _
   constructor
   · rw [roN, hf]; rfl
   · rw [roE, hf]; rfl
  simp only [hf] at hfi
  clear hf
  go_enter Tryz.func36, Tryz.ntmps36
  go_wp2_with fail
  rw [← hW]; clear hW
  refine (hfi _).mono ?_
  rintro e u1 ⟨rfl, hb1⟩; replace hg := hg.below hb1; replace hm := hm.below hb1; replace hp := hp.below hb1; replace X1 := X1.below hb1; replace X2 := X2.below hb1
  replace hbW := hbW.trans (hb1.mono hbW.size)
  clear hb1 hfi; obtain ⟨p0, p1, _⟩ := X1.cells; obtain ⟨p2, p3, _⟩ := X2.cells
  go_wp2_with fail
  refine (hva _ hg hm hp).mono ?_
  rintro e u2 ⟨v2, rfl, hF2, hb2⟩
  replace hbW := hbW.trans (hb2.mono hbW.size)
  clear hb2 hva hg hm hp X1 X2 p0 p1 p2 p3
  generalize vaQ s x r cs = q at *
  go_wp2_with fail
  refine (field_any 1003 q _ _ hF2.ct (by decide) (by decide)).mono ?_
  rintro e u3 ⟨rfl, hb3⟩
  replace hbW := hbW.trans (hb3.mono hbW.size)
  rw [← HE.out.1, ← HE.out.2]; clear hb3 hF2; go_wp2
  go_ret2
  exact ⟨rfl, hbW⟩
theorem of_none {l : List Gl} {g : Int} (h : ∀ k, dq l 6 g = some k → 6 < k + 0) : dq l 6 g = none := by
 cases hd : dq l 6 g with
 | none => rfl
 | some k =>
  have h1 := h k hd
  have h2 := dq_le hd
  omega
theorem dpG_some {l : List Gl} {g : Int} {k : Nat} (h : dq l 6 g = some k) : dpG l g = (k : Int) := by unfold dpG; rw [h]; rfl
theorem dpG_none {l : List Gl} {g : Int} (h : dq l 6 g = none) : dpG l g = -1 := by unfold dpG; rw [h]; rfl
theorem gask_any (S : Nat → Prop) (a : Option Addr) (ca : Nat) (l : List Gl) (g : Int) (w U : World) (hl : Gr GlE S w a ca l) (hps : ∀ x ∈ l, x.o.ps.length ≤ 12) (hg : I64 g) (hS : Bk 119 U (w.heap.size + 1) [.slice a l.length ca, .map (some w.heap.size)]) (hM : Mp U w.heap.size 0 (fun _ => none)) (hB : Below w.heap.size w U) :
    Calls Tryz.prog 32 #[.pointer (some ⟨w.heap.size + 1, 0, none⟩), .int .i64 g, .int .i64 0] U fun e w' => ((∃ k : Nat, dq l 6 g = some k ∧ e = .returned (.tuple #[.agg #[.int .i64 (k : Int), .int .i64 ((szG l g : Nat) : Int)], .bool true])) ∨ (dq l 6 g = none ∧ e = .returned (.tuple #[.agg #[.int .i64 0, .int .i64 0], .bool false]))) ∧ Below w.heap.size w w' := by
 refine (gof_any w S a ca l hl hps (w.heap.size + 1) w.heap.size (Nat.le_refl _) (by omega) 7 0 rfl g 0 _ U hg (by have := tk_le (Nat.le_refl 7); omega) hB hS hM (KnG.nil l)).mono ?_
 rintro e w' ⟨h1, h2, h3⟩
 refine ⟨?_, hB.trans (h3.below hB.size (Nat.le_refl _))⟩
 rcases h1 with h1 | ⟨h1, h4⟩
 · exact .inl h1
 · exact .inr ⟨of_none h1, h4⟩
theorem gdepth_any (S : Nat → Prop) (a : Option Addr) (ca : Nat) (l : List Gl) (g : Int) (w : World) (hl : Gr GlE S w a ca l) (hps : ∀ x ∈ l, x.o.ps.length ≤ 12) (hg : I64 g) :
    Calls Tryz.prog 11 #[.slice a l.length ca, .int .i64 g] w fun e w' => e = .returned (.int .i64 (dpG l g)) ∧ Below w.heap.size w w' := by
 have kl := hl.lenB
 go_enter Tryz.func11, Tryz.ntmps11
 go_wp2_with fail
 refine (gsurvey_any a l.length ca w).mono ?_
 rintro e U ⟨rfl, hS, hM, hB⟩
 have hask := gask_any S a ca l g w U hl hps hg hS hM hB
 clear hS hM hl
 go_wp2_with fail
 refine hask.mono ?_
 rintro e u ⟨hans, hb⟩; clear hask
 rcases hans with ⟨k, hk, rfl⟩ | ⟨hk, rfl⟩
 · have HD : Hid (_) := dpG_some hk
   obtain ⟨V, hV, X, hbV⟩ : ∃ V, V = u.alloc (.cells #[.int .i64 (k : Int), .int .i64 ((szG l g : Nat) : Int)] 71) ∧ Bk 71 V u.heap.size [.int .i64 (k : Int), .int .i64 ((szG l g : Nat) : Int)] ∧ Below u.heap.size u V := ⟨_, rfl, Bk.new _ _ _, bl1 _⟩
   replace hb := hb.trans (hbV.mono hb.size)
   obtain ⟨x0, x1, _⟩ := X.two; clear hk hbV X
   go_upto_region 2 with fail
   rw [← hV]; clear hV; go_wp2
   go_ret
   exact ⟨by rw [HD.out]; rfl, hb⟩
 · have HD : Hid (_) := dpG_none hk
   have hb2 : Below w.heap.size w (u.alloc (.cells #[.int .i64 0, .int .i64 0] 71)) := hb.trans ((bl1 _).mono hb.size)
   clear hk hb; go_wp2
   go_ret
   exact ⟨by rw [HD.out]; rfl, hb2⟩
theorem gsize_any (S : Nat → Prop) (a : Option Addr) (ca : Nat) (l : List Gl) (g : Int) (w : World) (hl : Gr GlE S w a ca l) (hps : ∀ x ∈ l, x.o.ps.length ≤ 12) (hg : I64 g) :
    Calls Tryz.prog 13 #[.slice a l.length ca, .int .i64 g] w fun e w' => e = .returned (.int .i64 ((szG l g : Nat) : Int)) ∧ Below w.heap.size w w' := by
 have kl := hl.lenB
 go_enter Tryz.func13, Tryz.ntmps13
 go_wp2_with fail
 refine (gsurvey_any a l.length ca w).mono ?_
 rintro e U ⟨rfl, hS, hM, hB⟩
 have hask := gask_any S a ca l g w U hl hps hg hS hM hB
 clear hS hM hl
 go_wp2_with fail
 refine hask.mono ?_
 rintro e u ⟨hans, hb⟩; clear hask
 rcases hans with ⟨k, hk, rfl⟩ | ⟨hk, rfl⟩
 · obtain ⟨V, hV, X, hbV⟩ : ∃ V, V = u.alloc (.cells #[.int .i64 (k : Int), .int .i64 ((szG l g : Nat) : Int)] 71) ∧ Bk 71 V u.heap.size [.int .i64 (k : Int), .int .i64 ((szG l g : Nat) : Int)] ∧ Below u.heap.size u V := ⟨_, rfl, Bk.new _ _ _, bl1 _⟩
   replace hb := hb.trans (hbV.mono hb.size)
   obtain ⟨x0, x1, _⟩ := X.two; clear hk hbV X
   go_upto_region 2 with fail
   rw [← hV]; clear hV; go_wp2
   go_ret
   exact ⟨rfl, hb⟩
 · have HD : Hid (szG l g = 0) := szG_none hk
   obtain ⟨V, hV, X, hbV⟩ : ∃ V, V = u.alloc (.cells #[.int .i64 0, .int .i64 0] 71) ∧ Bk 71 V u.heap.size [.int .i64 0, .int .i64 0] ∧ Below u.heap.size u V := ⟨_, rfl, Bk.new _ _ _, bl1 _⟩
   replace hb := hb.trans (hbV.mono hb.size)
   obtain ⟨x0, x1, _⟩ := X.two; clear hk hbV X
   go_upto_region 2 with fail
   rw [← hV]; clear hV; go_wp2
   go_ret
   exact ⟨by rw [HD.out]; rfl, hb⟩
def avN (l : List Gl) (s : Sr) (g : Int) (cs : List Int) : Int := match gAt l g with | none => 0 | some x => roN s x.ab x.ar cs
def avE (l : List Gl) (s : Sr) (g : Int) (cs : List Int) : Int := match gAt l g with | none => 5 | some x => roE s x.ab x.ar cs
theorem av_none {l : List Gl} {s : Sr} {g : Int} {cs : List Int} (h : gAt l g = none) : avN l s g cs = 0 ∧ avE l s g cs = 5 := by unfold avN avE; rw [h]; exact ⟨rfl, rfl⟩
theorem av_some {l : List Gl} {s : Sr} {g : Int} {cs : List Int} {x : Gl} (h : gAt l g = some x) : avN l s g cs = roN s x.ab x.ar cs ∧ avE l s g cs = roE s x.ab x.ar cs := by unfold avN avE; rw [h]; exact ⟨rfl, rfl⟩
theorem gadvance_any (S : Nat → Prop) (a : Option Addr) (ca : Nat) (l : List Gl) (ga : Option Addr) (gc : Nat) (ma : Option Addr) (mc : Nat) (s : Sr) (g : Int) (pa : Option Addr) (pc : Nat) (cs : List Int) (w : World) (hl : Gr GlE S w a ca l) (hg : Tzz w ga gc s.rg) (hm : Rii w ma mc s.rw) (hp : Ri w pa pc cs) (hi : I64 g) (h40 : s.rg.length ≤ 40) (h8 : ∀ l ∈ s.rg, l.length ≤ 8) :
    Calls Tryz.prog 15 #[.slice a l.length ca, .agg #[.slice ga s.rg.length gc, .slice ma s.rw.length mc], .int .i64 g, .slice pa cs.length pc] w fun e w' => e = .returned (.tuple #[.int .i64 (avN l s g cs), .int .i64 (avE l s g cs)]) ∧ Below w.heap.size w w' := by
 have kl := hl.lenB
 have k2 := hm.lenB
 have k3 := hp.lenB
 obtain ⟨W, hW, X1, hbW⟩ : ∃ W, W = w.alloc (.cells #[.slice ga s.rg.length gc, .slice ma s.rw.length mc] 26) ∧ Bk 26 W w.heap.size [.slice ga s.rg.length gc, .slice ma s.rw.length mc] ∧ Below w.heap.size w W := ⟨_, rfl, Bk.new _ _ _, bl1 _⟩
 obtain ⟨x0, x1, _⟩ := X1.two
 have hig := isg_any a l.length ca g W (by omega) hi
 cases hgi : isG l.length g with
 | false =>
  rw [hgi] at hig
  have HA : Hid (_) := av_none (s := s) (cs := cs) (isG_none hgi)
  clear hgi
  go_enter Tryz.func15, Tryz.ntmps15
  go_upto_region 1 with fail
  rw [← hW]; clear hW
  go_wp2_with fail
  refine hig.mono ?_
  rintro e u ⟨rfl, rfl⟩; clear hig; go_wp2
  go_ret2
  exact ⟨by rw [HA.out.1, HA.out.2]; rfl, hbW⟩
 | true =>
  rw [hgi] at hig
  have HA : Hid (_) := av_some (s := s) (cs := cs) (isG_at hgi)
  obtain ⟨hg0, hg1⟩ := isG_some hgi
  obtain ⟨kg, rfl⟩ : ∃ k : Nat, g = (k : Int) := ⟨g.toNat, by omega⟩
  rw [Int.toNat_natCast] at HA
  have hkl : kg < l.length := by omega
  obtain ⟨b1, off, xa, xc, qa, qc, ta, tc, ea, hb1, hGC, c0, c1, c2, c3, c4, c5⟩ := hl.gl hbW kg hkl
  obtain ⟨x, hx⟩ : ∃ x, l.getD kg Gl.none = x := ⟨_, rfl⟩
  rw [hx] at hGC c3 c4 HA; subst ea
  have hro := fun U hU => crounded_any ga gc ma mc s x.ab x.ar pa pc cs U ((hg.below hbW).below hU) ((hm.below hbW).below hU) ((hp.below hbW).below hU) hGC.2.2.2.1 hGC.2.2.2.2 h40 h8
  generalize x.ab = xb at *
  generalize x.ar = xr at *
  have hX1l := X1.lt
  clear hgi hx c0 c1 c2 c5 hg hm hp hl hGC X1
  go_enter Tryz.func15, Tryz.ntmps15
  go_upto_region 1 with fail
  rw [← hW]; clear hW
  go_wp2_with fail
  refine hig.mono ?_
  rintro e u ⟨rfl, rfl⟩; clear hig
  go_upto_region 3 with fail
  refine wp_region_held_drew (S := fun w9 => w9.cell? ⟨w.heap.size, 0, none⟩ = some (.slice ga s.rg.length gc) ∧ w9.cell? ⟨w.heap.size, 1, none⟩ = some (.slice ma s.rw.length mc) ∧ w9.cell? ⟨b1, off + kg * 6 + 3, none⟩ = some (.int .i64 xb) ∧ w9.cell? ⟨b1, off + kg * 6 + 4, none⟩ = some (.int .i64 xr)) (by kernel_rfl) ?_ (fun hHeld => ?_)
  · (try dsimp only)
    go_keep
  have hdr : Below W.heap.size W W.drew := Below.drew1
  have hro2 := hro _ hdr
  generalize W.drew = Z at hdr hHeld hro2 ⊢
  have hb1W : b1 < W.heap.size := Nat.lt_of_lt_of_le hb1 hbW.size
  replace x0 := (hdr.cell (p := ⟨w.heap.size, 0, none⟩) hX1l).trans x0
  replace x1 := (hdr.cell (p := ⟨w.heap.size, 1, none⟩) hX1l).trans x1
  replace c3 := (hdr.cell (p := ⟨b1, off + kg * 6 + 3, none⟩) hb1W).trans c3
  replace c4 := (hdr.cell (p := ⟨b1, off + kg * 6 + 4, none⟩) hb1W).trans c4
  replace hbW := hbW.trans (hdr.mono hbW.size)
  have hzs := hdr.size
  clear hdr hro; refine hT 0 hHeld ?_; refine hT 1 hHeld ?_; refine hT 2 hHeld ?_; refine hT 3 hHeld ?_; refine hT 4 hHeld ?_; refine hT 5 hHeld ?_; refine hT 6 hHeld ?_
  refine hCall (i := 7) rfl (by kernel_rfl) (by rfl) (fun K hK => ?_)
  go_simp
  refine hro2.mono ?_
  rintro e u ⟨rfl, hb⟩
  replace x0 := (hb.cell (p := ⟨w.heap.size, 0, none⟩) (by show w.heap.size < _; omega)).trans x0
  replace x1 := (hb.cell (p := ⟨w.heap.size, 1, none⟩) (by show w.heap.size < _; omega)).trans x1
  replace c3 := (hb.cell (p := ⟨b1, off + kg * 6 + 3, none⟩) (by show b1 < _; omega)).trans c3
  replace c4 := (hb.cell (p := ⟨b1, off + kg * 6 + 4, none⟩) (by show b1 < _; omega)).trans c4
  replace hbW := hbW.trans (hb.mono hbW.size)
  clear hb hro2
  go_wp2_with fail
  refine hK.out _ _ ?_ (fun hHeld => ?_)
  · (try dsimp only)
    exact ⟨x0, x1, c3, c4⟩
  clear hK K
  try simp only [Act.put, pZ]
  refine hT 8 hHeld ?_; refine hT 9 hHeld ?_; refine hT 10 hHeld ?_; refine hT 11 hHeld ?_
  refine wpAnyH_done (by kernel_rfl) ?_ _
  clear hHeld x0 x1 c3 c4; go_wp2
  go_ret2
  exact ⟨by rw [HA.out.1, HA.out.2]; rfl, hbW⟩
end Go.Proofs.YtkmcodofnckdmaaGreat
