/-
  (*tuples.source).tent, (*tuples.source).changes: the walks.
-/
import Derived.Test.YtngmcghmniakeaaGreatZY28
import Derived.Test.YtngmcghmniakeaaGreatZY20
set_option maxHeartbeats 4000000
set_option maxRecDepth 100000
set_option linter.unusedSimpArgs false
set_option linter.unusedVariables false
namespace Go.Proofs.YtngmcghmniakeaaGreat
open Go.RowKit Go.Maps
theorem Rb.from {w : World} {a : Option Addr} {cap : Nat} {xs : List Nat} (h : Rb w a cap xs) (n : Nat) (hn : n ≤ xs.length) : Rb w (if cap = n then a else a.map (fun x => x.add n)) (cap - n) (xs.drop n) := by
 by_cases h0 : n < xs.length
 · have := h.le
   rw [if_neg (by omega)]
   have hc := h.cut n (xs.length - n) (by omega)
   rwa [List.take_of_length_le (by rw [List.length_drop]; exact Nat.le_refl _)] at hc
 · have e : xs.drop n = [] := List.drop_eq_nil_of_le (by omega)
   rw [e]
   refine Rb.nil _ _ _ (Nat.le_trans (Nat.sub_le _ _) h.cap) (fun e2 => ?_)
   have h4 := h.2.2.2.1
   by_cases hc : cap = n
   · omega
   · rw [if_neg hc] at e2
     have := h4 (by cases a with | none => rfl | some x => cases e2)
     omega
theorem Ri.keepU {w w' : World} {a : Option Addr} {cap : Nat} {l : List Int} (h : Ri w a cap l) (hs : w.heap.size ≤ w'.heap.size) (hb : ∀ b o, a = some ⟨b, o, none⟩ → w'.heap[b]? = w.heap[b]?) : Ri w' a cap l := by
 obtain ⟨h1, h2, h3, h4⟩ := h
 refine ⟨h1, h2, h3, ?_⟩
 rcases h4 with h4 | ⟨b, off, e, h5, h6⟩
 · exact .inl h4
 · exact .inr ⟨b, off, e, Nat.lt_of_lt_of_le h5 hs, fun i hi => (World.cell?_of_block (w := w) (a := ⟨b, off + i, none⟩) (hb b off e)).trans (h6 i hi)⟩
theorem Kp.new {g b : Nat} {a w : World} (h : Kp g a w) (hb : a.heap.size ≤ b) (j : Nat) (z : Value) : Kp g a (w.setCell ⟨b, j, none⟩ z) := Keep.setCell h (p := ⟨b, j, none⟩) (fun e => Nat.not_lt.2 hb e.1) z
theorem Rb.blk {w : World} {a : Option Addr} {cap : Nat} {xs : List Nat} (h : Rb w a cap xs) (hne : xs ≠ []) {b o : Nat} (e : a = some ⟨b, o, none⟩) : b < w.heap.size := by
 rcases h.2.2.2.2 with h0 | ⟨b', o', e', hb, _⟩
 · exact absurd h0 hne
 · rw [e] at e'
   cases e'
   exact hb
theorem Sc.of {t : TypeId} {w u : World} {g : Nat} {pa : Option Addr} {pc : Nat} {xs : List Nat} {p q : Nat} (h : Sc t w g pa pc xs p) (hk : Kp g w u) (hb : Bk t u g [.slice pa xs.length pc, .int .i64 (q : Int)]) : Sc t u g pa pc xs q :=
 ⟨hb, h.rb.keep' hk.size (fun b o hlt e hne => hk.block hlt (h.2.2 b o e hne)), h.2.2⟩
theorem Gw.setB {α : Type} {E : El α} {t u : TypeId} {base g : Nat} {w : World} {v : Value} {l : List α} {cs : List Value} (h : Gw E t base (fun _ => False) w v l) (hb : Bk u w g cs) (ht : u ≠ t) (j : Nat) (z : Value) : Gw E t base (fun _ => False) (w.setCell ⟨g, j, none⟩ z) v l := h.kp hb ht ((Kp.refl g w).setCell j z)
def nv3 (z0 z1 z2 : Int) (k : Nat) : List Value := [.int .i64 (if 0 < k then z0 else 0), .int .i64 (if 1 < k then z1 else 0), .int .i64 (if 2 < k then z2 else 0)]
def zAt (b : List Nat) (p k : Nat) : Int := sx16 (nmV b ((p + 2 * k : Nat) : Int) 2)
theorem nv3_set (b : List Nat) (p k : Nat) (hk : k < 3) : (nv3 (zAt b p 0) (zAt b p 1) (zAt b p 2) k).set k (.int .i64 (zAt b p k)) = nv3 (zAt b p 0) (zAt b p 1) (zAt b p 2) (k + 1) := by
 match k, hk with
 | 0, _ => simp [nv3]
 | 1, _ => simp [nv3]
 | 2, _ => simp [nv3]
theorem nv3_get (z0 z1 z2 : Int) (k : Nat) (hk : k < 3) (j : Nat) (hj : j < 3) : ∃ z, (nv3 z0 z1 z2 k)[j]? = some (.int .i64 z) := by
 match j, hj with
 | 0, _ => exact ⟨_, rfl⟩
 | 1, _ => exact ⟨_, rfl⟩
 | 2, _ => exact ⟨_, rfl⟩
theorem zAt_i64 {b : List Nat} (hb : Byt b) (p k : Nat) : -32768 ≤ zAt b p k ∧ zAt b p k ≤ 32767 := by
 have := nmV_lt hb ((p + 2 * k : Nat) : Int) 2
 unfold zAt sx16
 split <;> omega
theorem teAt_z (b : List Nat) (p : Nat) : teAt b p = ⟨zAt b p 0, zAt b p 1, zAt b p 2⟩ := rfl
theorem utent_any (g : Nat) (pa : Option Addr) (pc : Nat) (xs : List Nat) (p : Nat) (w : World) (h : Sc 106 w g pa pc xs p) (hp : p ≤ 1000000) :
    Calls Tryz.prog 102 #[pg g] w fun e w' => e = .returned (.agg #[.int .i64 (teAt xs p).st, .int .i64 (teAt xs p).pk, .int .i64 (teAt xs p).en]) ∧ Sc 106 w' g pa pc xs (p + 6) ∧ Kp g w w' := by
 have HTZ : Hid (teAt xs p = ⟨zAt xs p 0, zAt xs p 1, zAt xs p 2⟩) := teAt_z xs p
 rw [HTZ.out]
 have hglt := h.bk.lt
 obtain ⟨W, hW, XT, XN, hbW⟩ : ∃ W, W = (w.alloc (.cells #[.int .i64 0, .int .i64 0, .int .i64 0] 57)).alloc (.cells #[.int .i64 0, .int .i64 0, .int .i64 0] 192) ∧ Bk 57 W w.heap.size [.int .i64 0, .int .i64 0, .int .i64 0] ∧ Bk 192 W (w.heap.size + 1) [.int .i64 0, .int .i64 0, .int .i64 0] ∧ Below w.heap.size w W :=
  ⟨_, rfl, (Bk.new _ _ [.int .i64 0, .int .i64 0, .int .i64 0]).below (bl1 _), Bk.new1 _ _ _ [.int .i64 0, .int .i64 0, .int .i64 0], (bl1 _).alloc (by simp) _⟩
 have hN0 : Bk 192 W (w.heap.size + 1) (nv3 (zAt xs p 0) (zAt xs p 1) (zAt xs p 2) 0) := XN
 have HS0 : Hid (Sc 106 w g pa pc xs p) := h
 have hS0 : Sc 106 W g pa pc xs (p + 2 * 0) := h.below hbW
 have hK0 : Kp g w W := Kp.of hbW
 have HBY : Hid (Byt xs) := h.rb.lim
 clear h XN hbW
 obtain ⟨gt, hgt⟩ : ∃ n, w.heap.size = n := ⟨_, rfl⟩
 have HGT : Hid (w.heap.size = gt) := hgt
 rw [hgt] at XT hN0 hglt
 go_enter Tryz.func102, Tryz.ntmps102
 go_upto_region 2 with fail
 rw [← hW]; clear hW; go_wp2; clear hgt
 go_loopw [5] (fun i wr => ∃ k : Nat, k ≤ 3 ∧ i = .int .i64 k ∧ Sc 106 wr g pa pc xs (p + 2 * k) ∧ Bk 192 wr (gt + 1) (nv3 (zAt xs p 0) (zAt xs p 1) (zAt xs p 2) k) ∧ Bk 57 wr gt [.int .i64 0, .int .i64 0, .int .i64 0] ∧ Kp g w wr) (fun i _ => 3 - (intOf i).toNat)
 case atStart => exact ⟨0, Nat.zero_le _, rfl, hS0, hN0, XT, hK0⟩
 case round =>
  clear hS0 hN0 XT hK0; obtain ⟨k, hk, rfl, hS, hN, hX, hKp⟩ := hrel
  by_cases hkn : k < 3
  · have hF := fun U (hr : Rb U pa pc xs) => i16_any pa pc xs ((p + 2 * k : Nat) : Int) U hr ⟨by omega, by omega⟩
    have HZ : Hid (sx16 (nmV xs ((p + 2 * k : Nat) : Int) 2) = zAt xs p k) := rfl
    simp only [HZ.out] at hF
    have hzb := zAt_i64 HBY.out p k
    have HNX : Hid (_) := nv3_set xs p k hkn
    obtain ⟨zo, hzo⟩ := nv3_get (zAt xs p 0) (zAt xs p 1) (zAt xs p 2) k hkn k hkn
    generalize zAt xs p k = zk at *
    generalize inB xs.length ((p + 2 * k : Nat) : Int) 2 = qb at hF
    obtain ⟨q, hq⟩ : ∃ q, p + 2 * k = q := ⟨_, rfl⟩
    have HQ2 : Hid (p + 2 * (k + 1) = q + 2) := by show _ = _; omega
    have hq6 : q ≤ 1000010 := by omega
    rw [hq] at hS hF; clear hq; obtain ⟨x0, x1, _⟩ := hS.bk.two
    have i1 : (0 : Int) ≤ (k : Int) := by omega
    have i2 : (k : Int) < 3 := by omega
    go_upto_region 5 with fail
    refine wp_region_held_drew (S := (fun u => u.cell? ⟨g, 0, none⟩ = some (.slice pa xs.length pc) ∧ u.cell? ⟨g, 1, none⟩ = some (.int .i64 (q : Int)))) (by kernel_rfl) ?_ (fun hHeld => ?_)
    · (try dsimp only)
      go_keep
    have hdr : Below wr.heap.size wr wr.drew := Below.drew1
    replace hKp : Kp g w wr.drew := hKp.drew
    generalize wr.drew = ud at hdr hKp hHeld ⊢
    replace hS := hS.below hdr; replace hN := hN.below hdr; replace hX := hX.below hdr; clear hdr x0 x1; refine hT 0 hHeld ?_; refine hT 1 hHeld ?_; refine hT 2 hHeld ?_; refine hT 3 hHeld ?_; refine hT 4 hHeld ?_; refine hT 5 hHeld ?_; refine hT 6 hHeld ?_; refine hT 7 hHeld ?_; refine hT 8 hHeld ?_
    refine hCall (i := 9) rfl (by kernel_rfl) (by rfl) (fun K hK => ?_)
    go_simp
    refine (hF _ hS.rb).mono ?_
    rintro e u1 ⟨rfl, rfl⟩
    go_wp2_with fail
    refine hK.out _ _ ?_ (fun hHeld => ?_)
    · (try dsimp only)
      exact hHeld
    clear hK K
    try simp only [Act.put, pZ]
    refine hT 10 hHeld ?_; refine hT 11 hHeld ?_; refine hT 12 hHeld ?_; refine hT 13 hHeld ?_
    refine hCall (i := 14) rfl (by kernel_rfl) (by rfl) (fun K hK => ?_)
    have hce := (hN.cell k (by simpa [nv3] using hkn)).trans hzo
    have hfz := hN.fz k
    go_simp
    have hN2 := hN.set k (.int .i64 zk)
    rw [HNX.out] at hN2
    have hS2 : Sc 106 (ud.setCell ⟨gt + 1, k, none⟩ (.int .i64 zk)) g pa pc xs q := HS0.out.of (hKp.new (by rw [HGT.out]; omega) k _) (hS.bk.other k _ (by omega))
    have hX2 := hX.other k (.int .i64 zk) (b := gt + 1) (by omega)
    have hK2 : Kp g w (ud.setCell ⟨gt + 1, k, none⟩ (.int .i64 zk)) := hKp.new (by rw [HGT.out]; omega) k _
    clear hN hS hX hKp hce hfz hzo HNX
    generalize ud.setCell ⟨gt + 1, k, none⟩ (.int .i64 zk) = u2 at *
    obtain ⟨x0, x1, _⟩ := hS2.bk.two
    refine hK.out _ _ ?_ (fun hHeld => ?_)
    · (try dsimp only)
      exact ⟨x0, x1⟩
    clear hK K
    try simp only [Act.put, pZ]
    refine wpAnyH_done (by kernel_rfl) ?_ _
    clear hHeld; obtain ⟨-, -, f0, f1⟩ := hS2.bk.two
    have hpn : (q : Int) + 2 = ((q + 2 : Nat) : Int) := by omega
    have HS : Hid (Sc 106 (u2.setCell ⟨g, 1, none⟩ (.int .i64 ((q + 2 : Nat) : Int))) g pa pc xs (q + 2)) := hS2.step (q + 2)
    have HK2 : Hid (Kp g w (u2.setCell ⟨g, 1, none⟩ (.int .i64 ((q + 2 : Nat) : Int)))) := hK2.setCell 1 _
    have HN3 : Hid (Bk 192 (u2.setCell ⟨g, 1, none⟩ (.int .i64 ((q + 2 : Nat) : Int))) (gt + 1) (nv3 (zAt xs p 0) (zAt xs p 1) (zAt xs p 2) (k + 1))) := hN2.other 1 _ (by omega)
    have HX3 : Hid (Bk 57 (u2.setCell ⟨g, 1, none⟩ (.int .i64 ((q + 2 : Nat) : Int))) gt [.int .i64 0, .int .i64 0, .int .i64 0]) := hX2.other 1 _ (by omega)
    obtain ⟨m, hm⟩ : ∃ m : Nat, q + 2 = m := ⟨_, rfl⟩
    have hml : m ≤ 1000012 := by omega
    rw [hm] at hpn HS HK2 HN3 HX3 HQ2; clear hm hN2 hS2 hX2 hK2; go_wp2
    go_roundw
    case rel => exact ⟨k + 1, by omega, by go_num, by rw [HQ2.out]; exact HS.out, HN3.out, HX3.out, HK2.out⟩
    case measure => simp [intOf]; omega
  · obtain rfl : k = 3 := by omega
    obtain ⟨n0, n1, n2, _⟩ := (show Bk 192 wr (gt + 1) [.int .i64 (zAt xs p 0), .int .i64 (zAt xs p 1), .int .i64 (zAt xs p 2)] from hN).three
    obtain ⟨y0, y1, y2, f0, f1, f2⟩ := hX.three
    have bz0 := zAt_i64 HBY.out p 0
    have bz1 := zAt_i64 HBY.out p 1
    have bz2 := zAt_i64 HBY.out p 2
    have hX3 := ((hX.set 0 (.int .i64 (zAt xs p 0))).set 1 (.int .i64 (zAt xs p 1))).set 2 (.int .i64 (zAt xs p 2))
    have hk3 : Kp g w (((wr.setCell ⟨gt, 0, none⟩ (.int .i64 (zAt xs p 0))).setCell ⟨gt, 1, none⟩ (.int .i64 (zAt xs p 1))).setCell ⟨gt, 2, none⟩ (.int .i64 (zAt xs p 2))) := ((hKp.new (by rw [HGT.out]; omega) 0 _).new (by rw [HGT.out]; omega) 1 _).new (by rw [HGT.out]; omega) 2 _
    have hS3 := HS0.out.of hk3 (((hS.bk.other 0 (.int .i64 (zAt xs p 0)) (b := gt) (by omega)).other 1 (.int .i64 (zAt xs p 1)) (b := gt) (by omega)).other 2 (.int .i64 (zAt xs p 2)) (b := gt) (by omega))
    have HF : Hid (Sc 106 (((wr.setCell ⟨gt, 0, none⟩ (.int .i64 (zAt xs p 0))).setCell ⟨gt, 1, none⟩ (.int .i64 (zAt xs p 1))).setCell ⟨gt, 2, none⟩ (.int .i64 (zAt xs p 2))) g pa pc xs (p + 6) ∧ Kp g w (((wr.setCell ⟨gt, 0, none⟩ (.int .i64 (zAt xs p 0))).setCell ⟨gt, 1, none⟩ (.int .i64 (zAt xs p 1))).setCell ⟨gt, 2, none⟩ (.int .i64 (zAt xs p 2)))) := ⟨hS3, hk3⟩
    have HX3 : Hid (_) := hX3.three
    clear hS3 hk3 hS hKp hN hX3 HTZ; go_wp2
    refine bodyPost_ret (v := .agg #[.int .i64 (zAt xs p 0), .int .i64 (zAt xs p 1), .int .i64 (zAt xs p 2)]) (by obtain ⟨r0, r1, r2, _⟩ := HX3.out; simp [results, Tryz.results102, go_sem, r0, r1, r2]) rfl ⟨rfl, HF.out.1, HF.out.2⟩
theorem rcN_nat (b : List Nat) (n : Int) : ∃ q : Nat, rcN b n = (q : Int) ∧ q ≤ b.length ∧ (rcN b n).toNat = q := by
 unfold rcN
 cases h : rcO b n with
 | none => exact ⟨0, rfl, Nat.zero_le _, rfl⟩
 | some r =>
  refine ⟨r.2, rfl, ?_, rfl⟩
  unfold rcO at h
  split at h
  · exact (rdF_len _ _ _ _ _ _ _ (show rdF RC b n.toNat 0 n.toNat = some (r.1, r.2) from h)).2.2 (Nat.zero_le _)
  · cases h
theorem rcE_ok (b : List Nat) (n : Int) : (rcE b n == 0) = (rcO b n).isSome := by
 unfold rcE
 cases rcO b n with
 | none =>
  show ((if 0 ≤ n ∧ n ≤ 2000 then (2 : Int) else 4) == 0) = false
  split <;> decide
 | some r => rfl
theorem uchg_any (g : Nat) (pa : Option Addr) (pc : Nat) (xs : List Nat) (p : Nat) (n : Int) (w : World) (h : Sc 106 w g pa pc xs p) (hp : p ≤ xs.length) (hl : xs.length ≤ 100000) (hn : I64 n) :
    Calls Tryz.prog 104 #[pg g, .int .i64 n] w fun e w' => ∃ a' c', e = .returned (.tuple #[.slice a' (rcL (xs.drop p) n).length c', .bool (rcO (xs.drop p) n).isSome]) ∧ Ri w' a' c' (rcL (xs.drop p) n) ∧ (∀ b o, a' = some ⟨b, o, none⟩ → w.heap.size ≤ b) ∧ (a' = none → c' = 0) ∧ Sc 106 w' g pa pc xs (p + (rcN (xs.drop p) n).toNat) ∧ Kp g w w' := by
 have HDL : Hid ((xs.drop p).length = xs.length - p) := List.length_drop ..
 have hglt := h.bk.lt
 have hF := fun U (hr : Rb U pa pc xs) => cReadChangesL_any _ _ (xs.drop p) n U (hr.from p hp) (by rw [HDL.out]; omega) hn
 rw [HDL.out] at hF
 have HPA : Hid ((if pc = p then pa else pa.map (fun x => x.add p)) = (if pc = p then pa else pa.map (fun x => x.add p))) := rfl
 obtain ⟨pa2, hpa2⟩ : ∃ x, (if pc = p then pa else pa.map (fun x => x.add p)) = x := ⟨_, rfl⟩
 rw [hpa2] at hF
 replace HPA : Hid ((if pc = p then pa else pa.map (fun x => x.add p)) = pa2) := hpa2
 obtain ⟨q, hq1, hq2, hq3⟩ := rcN_nat (xs.drop p) n
 have HE := rcE_ok (xs.drop p) n
 rw [HDL.out] at hq2; rw [hq3]; rw [hq1] at hF
 have hpc := h.rb.le
 have hpm := h.rb.cap
 unfold maxLen at hpm
 obtain ⟨b2, hb2⟩ : ∃ b, xs.drop p = b := ⟨_, rfl⟩
 rw [hb2] at hF HE ⊢; rw [← HE]; clear hb2 hq1 hq3 HE hpa2
 obtain ⟨er, her⟩ : ∃ x, rcE b2 n = x := ⟨_, rfl⟩
 rw [her] at hF ⊢; clear her; obtain ⟨x0, x1, _⟩ := h.bk.two
 go_enter Tryz.func104, Tryz.ntmps104
 go_upto_region 1 with fail
 refine wp_region_held_drew (S := (fun u => u.cell? ⟨g, 0, none⟩ = some (.slice pa xs.length pc) ∧ u.cell? ⟨g, 1, none⟩ = some (.int .i64 (p : Int)))) (by kernel_rfl) ?_ (fun hHeld => ?_)
 · (try dsimp only)
   go_keep
 have hdr : Below w.heap.size w w.drew := Below.drew1
 have hkp : Kp g w w.drew := (Kp.refl g w).drew
 have hsd : w.heap.size ≤ w.drew.heap.size := hdr.size
 generalize w.drew = ud at hdr hkp hHeld hsd ⊢
 replace h := h.below hdr; clear hdr x0 x1; refine hT 0 hHeld ?_; refine hT 1 hHeld ?_; refine hT 2 hHeld ?_; refine hT 3 hHeld ?_; refine hT 4 hHeld ?_; refine hT 5 hHeld ?_; refine hT 6 hHeld ?_; refine hT 7 hHeld ?_
 refine hTake (i := 8) (v := .slice pa2 (xs.length - p) (pc - p)) rfl (by kernel_rfl) (by kernel_rfl) (by kernel_rfl) (fun _ _ _ h => h) (Or.inl ⟨by rfl, ?y1⟩) hHeld ?r1
 case y1 =>
  intro w9 hSw
  (try dsimp only at hSw)
  go_simp
  exact HPA.out
 try simp only [Act.put, pZ]
 refine hT 9 hHeld ?_
 refine hCall (i := 10) rfl (by kernel_rfl) (by rfl) (fun K hK => ?_)
 go_simp
 refine (hF _ h.rb).mono ?_
 rintro e u1 ⟨a1, c1, rfl, hri, hlo, hno, hb1⟩; replace h := h.below hb1
 replace hkp := hkp.trans (Kp.of hb1)
 obtain ⟨x0, x1, _⟩ := h.bk.two
 go_wp2_with fail
 refine hK.out _ _ ?_ (fun hHeld => ?_)
 · (try dsimp only)
   exact ⟨x0, x1⟩
 clear hK K x0 x1
 try simp only [Act.put, pZ]
 refine hT 11 hHeld ?_; refine hT 12 hHeld ?_; refine hT 13 hHeld ?_; refine hT 14 hHeld ?_; refine hT 15 hHeld ?_; refine hT 16 hHeld ?_; refine hT 17 hHeld ?_
 refine wpAnyH_done (by kernel_rfl) ?_ _
 clear hHeld; obtain ⟨x0, x1, f0, f1⟩ := h.bk.two
 have hpn : (p : Int) + (q : Int) = ((p + q : Nat) : Int) := by omega
 have HS : Hid (Sc 106 (u1.setCell ⟨g, 1, none⟩ (.int .i64 ((p + q : Nat) : Int))) g pa pc xs (p + q)) := h.step (p + q)
 have HK2 : Hid (Kp g w (u1.setCell ⟨g, 1, none⟩ (.int .i64 ((p + q : Nat) : Int)))) := hkp.setCell 1 _
 have HR2 : Hid (Ri (u1.setCell ⟨g, 1, none⟩ (.int .i64 ((p + q : Nat) : Int))) a1 c1 (rcL b2 n) ∧ (∀ b o, a1 = some ⟨b, o, none⟩ → w.heap.size ≤ b) ∧ (a1 = none → c1 = 0)) :=
  ⟨hri.keepU (by simp [World.setCell]) (fun b o e => Below.heap_setCell _ _ _ _ (fun e2 => by have := hlo b o e; have e3 : b = g := e2; omega)), fun b o e => Nat.le_trans hsd (hlo b o e), hno⟩
 have hmm : p + q ≤ 200000 := by omega
 obtain ⟨m, hm⟩ : ∃ m : Nat, p + q = m := ⟨_, rfl⟩
 rw [hm] at hpn HS HK2 HR2 hmm
 have HM : Hid (p + q = m) := hm
 clear hm h hkp hri hlo hno hb1 hF hsd; go_wp2
 go_ret2
 exact ⟨a1, c1, rfl, HR2.out.1, HR2.out.2.1, HR2.out.2.2, by rw [HM.out]; exact HS.out, HK2.out⟩
end Go.Proofs.YtngmcghmniakeaaGreat
