/-
  nat.digitGroups: the walk.
-/
import Derived.Test.YtefdkajjdaplbabDoorDig
import Derived.Test.YtefdkajjdaplbabDoorDiv
import Derived.Test.YtefdkajjdaplbabDoorTrim
import Derived.Deep.LoopGhost
namespace Go.Proofs.YtefdkajjdaplbabDoor
open Go.RowKit
set_option linter.unusedSimpArgs false
set_option linter.unusedVariables false

theorem grp_len {xs gs : List Nat} {v : Nat} (lX : Lim xs) (he : G gs + 1000000000 ^ gs.length * v = V xs) (hv : 1 ≤ v) : gs.length < 32 * xs.length := by
  have h1 := V_lt lX
  have h2 : 2 ^ gs.length ≤ 1000000000 ^ gs.length := Nat.pow_le_pow_left (by decide) _
  have h3 : 1000000000 ^ gs.length * 1 ≤ 1000000000 ^ gs.length * v := Nat.mul_le_mul_left _ hv
  have e : 4294967296 ^ xs.length = 2 ^ (32 * xs.length) := by rw [Nat.pow_mul]
  rw [e] at h1
  have h4 : 2 ^ gs.length < 2 ^ (32 * xs.length) := by omega
  exact (Nat.pow_lt_pow_iff_right (by decide)).1 h4

theorem G_top {gs : List Nat} (hn : gs.getD (gs.length - 1) 0 ≠ 0) (k : Nat) (hk : k < gs.length) : 1 ≤ G (gs.drop k) := by
  obtain ⟨m, hm⟩ : ∃ m, gs.length - 1 - k = m := ⟨_, rfl⟩
  induction m generalizing k with
  | zero =>
    rw [G_drop, show k = gs.length - 1 by omega]
    omega
  | succ m ih =>
    rw [G_drop]
    have := ih (k + 1) (by omega) (by omega)
    omega

theorem Blk.take {e : TypeId} {w : World} {g : Nat} {zs : List Nat} (h : Blk e w g zs) (n : Nat) : Blk e w g (zs.take n) := by
  obtain ⟨cur, h1, h2, h3⟩ := h
  refine ⟨cur, h1, by simp; omega, ?_⟩
  rw [List.map_take, ← h3, List.take_take, List.length_take]

theorem getD_last (gs : List Nat) (r : Nat) : (gs ++ [r]).getD ((gs ++ [r]).length - 1) 0 = r := by simp [List.getD]

/-- One round's reckoning. -/
theorem grp_step {xs gs : List Nat} {l q r : Nat} (he : G gs + 1000000000 ^ gs.length * l = V xs) (hq : q * 1000000000 + r = l) : G (gs ++ [r]) + 1000000000 ^ (gs ++ [r]).length * q = V xs := by
  rw [G_snoc, List.length_append, List.length_singleton, Nat.pow_succ, ← he, ← hq]
  generalize 1000000000 ^ gs.length = p
  generalize G gs = a
  grind

/-- The groups' list: nine digits each; the topmost is not 0, but of 0 itself. -/
def Grps (gs : List Nat) (v : Nat) : Prop := gs ≠ [] ∧ G gs = v ∧ (∀ x ∈ gs, x < 1000000000) ∧ (gs.length = 1 ∨ gs.getD (gs.length - 1) 0 ≠ 0)

theorem sig_n (a : Option Addr) (cap n : Nat) (xs : List Nat) (w : World) (hn : n = xs.length) (h : Rd w a cap xs) :
    Calls Tryd.prog 19 #[.slice a n cap] w fun e w' => e = .returned (.slice a (strip xs).length cap) ∧ w = w' := by
  subst hn; exact sig_any a cap xs w h

set_option maxHeartbeats 1000000 in
set_option maxRecDepth 100000 in
theorem groups_any (a : Option Addr) (cap : Nat) (xs : List Nat) (w : World) (h : Rd w a cap xs) (hl : xs.length ≤ 10000000) :
    Calls Tryd.prog 36 #[.slice a xs.length cap] w fun e w' =>
      ∃ a' cap' gs, e = .returned (.slice a' gs.length cap') ∧ Grps gs (V xs) ∧ gs.length ≤ 32 * xs.length + 1 ∧ Res 33 w.heap.size w' a' cap' gs ∧ Below w.heap.size w w' := by
  obtain ⟨i0, hi, hz0, hz1, hz2⟩ := info_parts info_limb
  have lX := h.lim
  go_enter Tryd.func36, Tryd.ntmps36
  go_wp2_with fail
  refine (trim_any a cap xs _ h (by omega)).mono ?_
  rintro e w1 ⟨a1, c1, rfl, hr1, hb1⟩
  have HV0 : Hid (V (strip xs) = V xs) := V_strip xs
  have tX := tr_strip xs
  have hsl := strip_length_le xs
  generalize strip xs = X0 at *
  have hs1 := hb1.size
  have k1 := hr1.rd.le
  have k2 := hr1.rd.cap
  have k3 : a1 = none → c1 = 0 := hr1.rd.2.2.2.1
  have hbk : X0 = [] ∨ ∃ g, a1 = some ⟨g, 0, none⟩ ∧ w.heap.size ≤ g ∧ g < w1.heap.size ∧ Blk 33 w1 g X0 := by
    rcases hr1.blk with h | ⟨g, h1, h2, h3⟩
    · exact .inl h
    · exact .inr ⟨g, h1, h2, h3.lt, h3⟩
  have lX0 := hr1.lim
  clear hr1 h
  unfold maxLen at *
  go_wp2
  go_loopg [3, 4] (V X0) (fun gk lf gr wr => ∃ (aL : Option Addr) (L gs : List Nat), lf = .slice aL L.length c1 ∧ V L = gk ∧ Tr L ∧ Lim L ∧ L.length ≤ X0.length ∧ (aL = none → c1 = 0) ∧ (∀ x ∈ gs, x < 1000000000) ∧ G gs + 1000000000 ^ gs.length * V L = V xs ∧ (gs = [] ∨ 1 ≤ V L) ∧
    (L = [] ∨ ∃ g, aL = some ⟨g, 0, none⟩ ∧ w.heap.size ≤ g ∧ g < w1.heap.size ∧ Blk 33 wr g L) ∧ wr.ownsRow w1.heap.size 33 1 gr gs.length (gs.map U) ∧ w1.heap.size ≤ wr.heap.size ∧ Below w.heap.size w wr)
  case atStart => exact ⟨a1, X0, [], rfl, rfl, tX, lX0, Nat.le_refl _, k3, by simp, by simp [G]; exact HV0.out, .inl rfl, hbk, World.ownsRow_nil _ _ _ _, Nat.le_refl _, hb1⟩
  case round =>
    obtain ⟨aL, L, gs, rfl, hgk, tL, lL, hLl, hn0, hlt, heq, hpos, hbL, hown, hsw, hnx⟩ := hrel
    have HE : Hid (G gs + 1000000000 ^ gs.length * V L = V xs) := heq
    have HK : Hid (V L = gk) := hgk
    have HP : Hid (gs = [] ∨ 1 ≤ V L) := hpos
    have HL : Hid (∀ x ∈ gs, x < 1000000000) := hlt
    have hgl : gs.length ≤ 32 * xs.length := by
      rcases hpos with h | h
      · rw [h]; exact Nat.zero_le _
      · exact Nat.le_of_lt (grp_len lX heq h)
    clear heq hgk hlt hpos
    rcases hbL with hL0 | ⟨g, rfl, hg1, hg2, hB⟩
    · have HG0 : Hid (gs = []) := by
        rcases HP.out with h | h
        · exact h
        · rw [hL0] at h; exact absurd h (by decide)
      have HX0 : Hid (V xs = 0) := by show _ = _; rw [← HE.out, HG0.out, hL0]; rfl
      subst hL0
      go_wp2_with fail
      refine (divl_nil aL c1 1000000000 _).mono ?_
      rintro e w2 ⟨rfl, rfl⟩
      go_wp2_with (at_builtin; refine wpList_append_one rfl _ _ 26 rfl w1.heap.size 33 i0 Tryd.underlying26 hi hz0 hz1 hz2 _ gs.length gs rfl (hown.alloc _) wr.heap.size 0 rfl (cell_new1 _ _ _ _ (by omega)) (by omega) (by simp; omega) ?_)
      intro v' w2 hown1 hgrow1
      have hb2 : Below w.heap.size w w2 := (hnx.alloc hnx.size _).grown hgrow1 (by simp; omega) (fun k hk => by have := (hown.lt k hk).1; omega)
      obtain ⟨a', cap', rfl, hres⟩ := Res.of ((Lim.nil).snoc (x := 0) (by decide)) (by rw [HG0.out] at hown1; exact hown1)
      clear hown hown1
      go_wp2_with fail
      refine (sig_any aL c1 [] _ (Rd.nil _ _ _ k2 hn0)).mono ?_
      rintro e w3 ⟨rfl, rfl⟩
      go_wp2
      go_ret
      refine ⟨a', cap', [0], rfl, ⟨by simp, ?_, by simp, .inl rfl⟩, by simp, hres.mono hs1, hb2⟩
      rw [HX0.out]; rfl
    · go_wp2_with fail
      refine (divl_any g c1 L 1000000000 _ hB lL (by decide) (by decide) (by omega)).mono ?_
      rintro e w2 ⟨cs, r, rfl, hr, hcl, lc, hdv, hB2, hg2'⟩
      have hb2 : Below w.heap.size w w2 := hnx.grown hg2' hnx.size (fun k hk => by cases hk; omega)
      have hsw2 := hg2'.size
      have hown2 := hown.kept hg2' (.inr (fun h => by have := (hown.lt g h).1; omega))
      have HD : Hid (V cs * 1000000000 + r = V L) := hdv
      have HCL : Hid (cs.length = L.length) := hcl
      clear hown hdv hcl hB hg2'
      go_wp2_with (at_builtin; refine wpList_append_one rfl _ _ 26 rfl w1.heap.size 33 i0 Tryd.underlying26 hi hz0 hz1 hz2 _ gs.length gs rfl (hown2.alloc _) w2.heap.size r rfl (cell_new1 _ _ _ _ (by omega)) (by omega) (by simp; omega) ?_)
      intro v' w3 hown3 hgrow3
      replace hown3 := own_snoc hown3
      have hb3 : Below w.heap.size w w3 := (hb2.alloc hb2.size _).grown hgrow3 (by simp; omega) (fun k hk => by have := (hown2.lt k hk).1; omega)
      have hs3 := hgrow3.size
      have hB3 : Blk 33 w3 g cs := by
        have hBa := hB2.below ((Below.refl w2.heap.size w2).alloc (Nat.le_refl _) (.cells #[.int .u32 (r : Int)] 33))
        have hlg := hBa.lt
        obtain ⟨cur, c1', c2'⟩ := hBa
        exact ⟨cur, (hgrow3.block g hlg (fun h => by have := (hown2.lt g h.symm).1; omega)).trans c1', c2'⟩
      have hrd := hB3.rd lc 0 L.length c1 (by rw [HCL.out]; omega) (by omega) k2
      rw [List.drop_zero, List.take_of_length_le (by rw [HCL.out]; exact Nat.le_refl _)] at hrd
      clear hown2 hgrow3 hB2
      go_wp2_with fail
      refine (sig_n _ _ L.length cs _ HCL.out.symm hrd).mono ?_
      rintro e w4 ⟨rfl, rfl⟩
      have hVs := V_strip cs
      have tS := tr_strip cs
      have lS := lc.strip
      have hSl := strip_length_le cs
      have hBS : Blk 33 w3 g (strip cs) := by rw [strip_take]; exact hB3.take _
      have HE2 := grp_step HE.out HD.out
      rw [← hVs] at HE2
      have HVS : Hid (V (strip cs) = V cs) := hVs
      clear hrd hB3 hVs
      generalize strip cs = S at *
      have hgs : ∀ x ∈ gs ++ [r], x < 1000000000 := by
        intro x hx
        rcases List.mem_append.1 hx with h | h
        · exact HL.out x h
        · rw [List.mem_singleton] at h; omega
      have htop : V S = 0 → (gs ++ [r]).length = 1 ∨ (gs ++ [r]).getD ((gs ++ [r]).length - 1) 0 ≠ 0 := by
        intro h0
        rcases HP.out with h | h
        · left; rw [h]; rfl
        · right
          rw [getD_last]
          have := HD.out
          rw [← HVS.out, h0] at this
          omega
      have hgl2 : (gs ++ [r]).length ≤ 32 * xs.length + 1 := by simp; omega
      obtain ⟨ts, hts⟩ : ∃ ts, gs ++ [r] = ts := ⟨_, rfl⟩
      have hlts : gs.length + 1 = ts.length := by rw [← hts]; simp
      have hne : ts ≠ [] := by rw [← hts]; simp
      have hlim : Lim ts := fun x hx => by rw [← hts] at hx; have := hgs x hx; omega
      rw [hts] at HE2 hgs htop hgl2 hown3
      have HT : Hid (V S = 0 → ts.length = 1 ∨ ts.getD (ts.length - 1) 0 ≠ 0) := htop
      have HE3 : Hid (G ts + 1000000000 ^ ts.length * V S = V xs) := HE2
      have HGS : Hid (∀ x ∈ ts, x < 1000000000) := hgs
      rw [hlts] at hown3
      clear htop HE2 hgs hts hlts
      by_cases hS0 : S.length = 0
      · have HS0 : Hid (V S = 0) := by show _ = _; rw [List.length_eq_zero_iff.1 hS0]; rfl
        have hS1 : ((S.length : Int) == 0) = true := beq_iff_eq.2 (by omega)
        obtain ⟨a', cap', rfl, hres⟩ := Res.of hlim hown3
        clear hown3
        go_wp2
        go_ret
        refine ⟨a', cap', ts, rfl, ⟨hne, ?_, HGS.out, HT.out HS0.out⟩, hgl2, hres.mono hs1, hb3⟩
        have := HE3.out
        rw [HS0.out, Nat.mul_zero, Nat.add_zero] at this
        exact this
      · have hS1 : ((S.length : Int) == 0) = false := beq_eq_false_iff_ne.2 (by omega)
        have HPS : Hid (1 ≤ V S) := by
          show _ ≤ _
          rcases Nat.eq_zero_or_pos (V S) with h | h
          · exact absurd (by rw [eq_nil_of_V tS h]; rfl) hS0
          · exact h
        have HLT : Hid (V S < gk) := by
          show _ < _
          rw [← HK.out, ← HD.out, ← HVS.out]
          have := HPS.out
          omega
        have hSX : S.length ≤ X0.length := by have := HCL.out; omega
        clear hS0
        go_wp2
        go_roundg (V S)
        case measure => exact HLT.out
        case rel => exact ⟨some ⟨g, 0, none⟩, S, ts, rfl, rfl, tS, lS, hSX, by simp, HGS.out, HE3.out, .inr HPS.out, .inr ⟨g, rfl, hg1, hg2, hBS⟩, hown3, by simp at hs3; omega, hb3⟩

end Go.Proofs.YtefdkajjdaplbabDoor
