/-
  nat.Mul: the walk.
-/
import Derived.Test.YtefdkajjdaplbabDoorAddM
import Derived.Outline
namespace Go.Proofs.YtefdkajjdaplbabDoor
open Go.RowKit
set_option linter.unusedSimpArgs false
set_option linter.unusedVariables false

theorem getD_zeros (n i : Nat) : (List.replicate n 0).getD i 0 = 0 := by
  by_cases h : i < n <;> simp [List.getD, h]

/-- One round of a product. -/
theorem mul_step {cs ds a b : List Nat} {i x c : Nat} (hx : a.getD i 0 = x) (hl : cs.length = ds.length) (hlen : i + b.length < ds.length) (hinv : Sv (fun j => cs.getD j 0) (i + b.length) = V (a.take i) * V b)
    (hsame : ∀ j, j < i ∨ i + b.length ≤ j → ds.getD j 0 = cs.getD j 0)
    (he : Sv (fun j => ds.getD (i + j) 0) b.length + 4294967296 ^ b.length * c = Sv (fun j => cs.getD (i + j) 0) b.length + V b * x) :
    Sv (fun j => (ds.set (i + b.length) c).getD j 0) (i + 1 + b.length) = V (a.take (i + 1)) * V b := by
  rw [show i + 1 + b.length = i + b.length + 1 by omega, Sv, getD_set_eq _ _ _ hlen]
  rw [Sv_congr (g := fun j => ds.getD j 0) (fun j hj => getD_set_ne _ _ _ _ (by omega))]
  rw [Sv_add] at hinv ⊢
  rw [Sv_congr (f := fun j => ds.getD j 0) (g := fun j => cs.getD j 0) (fun j hj => hsame j (by omega)), V_take_succ, hx, Nat.pow_add]
  generalize 4294967296 ^ i = p at hinv ⊢
  generalize 4294967296 ^ b.length = q at he ⊢
  generalize Sv (fun j => cs.getD j 0) i = A at hinv ⊢
  generalize Sv (fun j => cs.getD (i + j) 0) b.length = C at he hinv ⊢
  generalize Sv (fun j => ds.getD (i + j) 0) b.length = D at he ⊢
  generalize V (a.take i) = E at hinv ⊢
  generalize V b = F at he hinv ⊢
  have h1 : p * (D + q * c) = p * (C + F * x) := by rw [he]
  grind

theorem trim_n (a : Option Addr) (cap n : Nat) (xs : List Nat) (w : World) (hn : n = xs.length) (h : Rd w a cap xs) (hl : xs.length ≤ 1000000000) :
    Calls Tryd.prog 22 #[.slice a n cap] w fun e w' => ∃ a' cap', e = .returned (.slice a' (strip xs).length cap') ∧ Res 33 w.heap.size w' a' cap' (strip xs) ∧ Below w.heap.size w w' := by
  subst hn; exact trim_any a cap xs w h hl

set_option maxHeartbeats 1600000 in
theorem mul_any (a : Option Addr) (cap : Nat) (xs : List Nat) (b : Option Addr) (cbp : Nat) (ys : List Nat) (w : World) (ha : Rd w a cap xs) (hb : Rd w b cbp ys) (hla : xs.length ≤ 400000000) (hlb : ys.length ≤ 400000000) :
    Calls Tryd.prog 30 #[.slice a xs.length cap, .slice b ys.length cbp] w fun e w' =>
      ∃ a' cap' zs, e = .returned (.slice a' zs.length cap') ∧ V zs = V xs * V ys ∧ Tr zs ∧ Res 33 w.heap.size w' a' cap' zs ∧ Below w.heap.size w w' := by
  obtain ⟨i0, hi, hz0, hz1, hz2⟩ := info_parts info_limb
  have Xr := ha.strip
  have Yr := hb.strip
  have lx := strip_length_le xs
  have ly := strip_length_le ys
  go_enter Tryd.func30, Tryd.ntmps30
  go_wp2_with fail
  refine (sig_any a cap xs _ ha).mono ?_
  rintro e w' ⟨rfl, rfl⟩
  go_wp2_with fail
  refine (sig_any b cbp ys _ hb).mono ?_
  rintro e w' ⟨rfl, rfl⟩
  clear ha hb
  have HV : Hid (V (strip xs) = V xs ∧ V (strip ys) = V ys) := ⟨V_strip xs, V_strip ys⟩
  generalize strip xs = X at Xr lx HV ⊢
  generalize strip ys = Y at Yr ly HV ⊢
  have fX := Xr.fm
  have lX := Xr.lim
  clear Xr
  go_wp2_with (at_make; refine wpList_make_full _ rfl _ _ 27 rfl w.heap.size 33 i0 (.int .u32 0) 1 Tryd.underlying27 hi hz0 hz1 _ _ _ _ (X.length + Y.length) rfl rfl (by omega) (by omega) (by rw [hz2]; omega) (by unfold maxLen; omega) (Nat.le_refl _) ?_)
  intro u0 hown0 hgrow0
  have hb0 : Below w.heap.size w u0 := (Below.refl _ _).grown hgrow0 (Nat.le_refl _) (fun k h => by cases h)
  have hB0 := blk_made hown0
  clear hown0 hgrow0
  go_wp2
  go_loopw [20] (fun i wr => ∃ (k : Nat) (cs : List Nat), k ≤ X.length ∧ i = .int .i64 k ∧ cs.length = X.length + Y.length ∧ Lim cs ∧ Sv (fun j => cs.getD j 0) (k + Y.length) = V (X.take k) * V Y ∧ Blk 33 wr w.heap.size cs ∧ Below w.heap.size w wr) (fun i _ => X.length - (intOf i).toNat)
  case atStart => exact ⟨0, _, Nat.zero_le _, rfl, List.length_replicate, fun x hx => by rw [List.eq_of_mem_replicate hx]; decide, by rw [Sv_zero (fun i hi => getD_zeros _ _)]; simp [V], hB0, hb0⟩
  case round =>
    obtain ⟨k, cs, hk, rfl, hcl, lc, hinv, hB, hnx⟩ := hrel
    have HC : Hid (cs.length = X.length + Y.length) := hcl
    have HI : Hid (Sv (fun j => cs.getD j 0) (k + Y.length) = V (X.take k) * V Y) := hinv
    have hsz := hnx.size
    clear hinv hcl
    by_cases hkn : k < X.length
    · obtain ⟨b1, o1, rfl, hlt, c1⟩ := fX.at hnx k hkn
      obtain ⟨x, hx⟩ : ∃ x, X.getD k 0 = x := ⟨_, rfl⟩
      rw [hx] at c1
      have bx : x < 4294967296 := by rw [← hx]; exact lX.getD k
      have HX : Hid (X.getD k 0 = x) := hx
      clear hx
      have hsep : ∀ k o, b = some ⟨k, o, none⟩ → Y ≠ [] → k ≠ w.heap.size := fun k o e hne => by
        subst e
        have := Yr.lt hne
        omega
      go_wp2_with fail
      refine (addm_any w.heap.size k _ cs b cbp Y x wr hB lc (Yr.below hnx) hsep bx (by rw [HC.out]; omega) (by rw [HC.out]; omega)).mono ?_
      rintro e w1 ⟨ds, c, rfl, hc, hdl, ld, hsame, heq, hB1, hg1⟩
      have hb1 : Below w.heap.size w w1 := hnx.grown hg1 hsz (fun k hk => by cases hk; exact Nat.le_refl _)
      have HD : Hid (ds.length = cs.length) := hdl
      have HS : Hid (∀ j, j < k ∨ k + Y.length ≤ j → ds.getD j 0 = cs.getD j 0) := hsame
      have HQ : Hid (Sv (fun j => ds.getD (k + j) 0) Y.length + 4294967296 ^ Y.length * c = Sv (fun j => cs.getD (k + j) 0) Y.length + V Y * x) := heq
      have c2 := hB1.cell (k + Y.length) (by rw [HD.out, HC.out]; omega)
      have c3 := hB1.frozen (k + Y.length)
      obtain ⟨o, ho⟩ : ∃ o, ds.getD (k + Y.length) 0 = o := ⟨_, rfl⟩
      rw [ho] at c2
      clear hdl hsame heq ho c1
      go_wp2
      go_roundw
      case rel =>
        exact ⟨k + 1, ds.set (k + Y.length) c, by omega, by go_num, by rw [List.length_set, HD.out]; exact HC.out, ld.set _ hc, mul_step HX.out HD.out.symm (by rw [HD.out, HC.out]; omega) HI.out HS.out HQ.out, hB1.set _ _ _ (by rw [HD.out, HC.out]; omega) rfl, hb1.setCell (Nat.le_refl _) _⟩
      case measure => simp [intOf]; omega
    · obtain rfl : k = X.length := by omega
      have hr := hB.rd lc 0 (X.length + Y.length) (X.length + Y.length) (by rw [HC.out]; omega) (Nat.le_refl _) (by unfold maxLen; omega)
      rw [List.drop_zero, List.take_of_length_le (by rw [HC.out]; exact Nat.le_refl _)] at hr
      go_wp2_with fail
      refine (trim_n _ _ (X.length + Y.length) cs _ HC.out.symm hr (by rw [HC.out]; omega)).mono ?_
      rintro e w2 ⟨a2, c2, rfl, hr2, hb2⟩
      go_wp2
      go_ret
      refine ⟨a2, c2, _, rfl, ?_, tr_strip _, hr2.mono hsz, hnx.trans (hb2.mono hsz)⟩
      have h1 := HI.out
      rw [List.take_length, HV.out.1, HV.out.2] at h1
      rw [V_strip, V_Sv, HC.out, h1]

end Go.Proofs.YtefdkajjdaplbabDoor
