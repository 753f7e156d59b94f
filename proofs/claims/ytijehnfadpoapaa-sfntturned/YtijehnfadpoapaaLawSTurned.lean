/-
  foundrylaw05.SfntTurned: the walk.
-/
import Derived.Test.YtijehnfadpoapaaLawST0
import Derived.Test.YtijehnfadpoapaaLawSBack
namespace Go.Proofs.Ytijehnfadpoapaa
open Go.RowKit Go.Maps
set_option linter.unusedSimpArgs false
set_option linter.unusedVariables false

set_option maxHeartbeats 4000000 in
set_option maxRecDepth 100000 in
theorem sfntTurned_any (C : Cod) (a : Option Addr) (cap : Nat) (l : List Tb) (p y : Nat) (w : World) (h : Ts w a cap l) (hp : p < 65536) (hy : y < 256) :
    Calls Try.prog 7 #[.slice a l.length cap, .int .u16 (p : Int), .int .u8 (y : Int)] w fun e w' => e = .returned (.bool true) ∧ Below w.heap.size w w' := by
  obtain ⟨i0, hi, hz0, hz1, hz2⟩ := info_parts info_byte
  have HT : Hid (∀ u, Below w.heap.size w u → Ts u a cap l) := fun u hu => h.below hu
  have HBY : Hid (∀ t ∈ l, Byt t.bs) := fun t ht => (h.bs t ht).1
  clear h
  by_cases hf : fewT l = true
  rotate_left
  · have hf : fewT l = false := by simpa using hf
    go_enter Try.func7, Try.ntmps7
    go_wp2_with fail
    refine (awake5_any C _).mono ?_
    rintro e u ⟨rfl, hb⟩
    go_wp2_with fail
    refine (few5_any a cap l _ (HT.out u hb)).mono ?_
    rintro e u' ⟨rfl, rfl⟩
    rw [hf]
    go_wp2_with fail
    refine (awake5_any C _).mono ?_
    rintro e u2 ⟨rfl, hb2⟩
    go_wp2
    go_ret
    exact ⟨rfl, hb.trans (hb2.mono hb.size)⟩
  by_cases hy0 : y = 0
  · subst hy0
    go_enter Try.func7, Try.ntmps7
    go_wp2_with fail
    refine (awake5_any C _).mono ?_
    rintro e u ⟨rfl, hb⟩
    go_wp2_with fail
    refine (few5_any a cap l _ (HT.out u hb)).mono ?_
    rintro e u' ⟨rfl, rfl⟩
    rw [hf]
    go_wp2_with fail
    refine (awake5_any C _).mono ?_
    rintro e u2 ⟨rfl, hb2⟩
    go_wp2
    go_ret
    exact ⟨rfl, hb.trans (hb2.mono hb.size)⟩
  have hyb : ((y : Int) == 0) = false := beq_eq_false_iff_ne.2 (by omega)
  have hl60 : l.length ≤ 60 := by simp [fewT] at hf; exact hf.2
  by_cases hfr : Frm l
  rotate_left
  · obtain ⟨p1, p2⟩ := pck_bad hfr
    have hP := fun w h => C.pack a cap l w h
    rw [p1, p2] at hP
    clear p1 p2 hfr
    go_enter Try.func7, Try.ntmps7
    go_wp2_with fail
    refine (awake5_any C _).mono ?_
    rintro e u ⟨rfl, hb⟩
    go_wp2_with fail
    refine (few5_any a cap l _ (HT.out u hb)).mono ?_
    rintro e u' ⟨rfl, rfl⟩
    rw [hf]
    go_wp2_with fail
    refine (hP _ (HT.out u hb)).mono ?_
    rintro e u2 ⟨a2, c2, rfl, hr2, hb2⟩
    have B2 : Below w.heap.size w u2 := hb.trans (hb2.mono hb.size)
    clear hr2 hb2 hP
    go_wp2
    go_ret
    exact ⟨rfl, B2⟩
  obtain ⟨p1, p2⟩ := pck_few hf hfr
  have hfl := few_file hf hfr
  obtain ⟨f1, f2⟩ := fil_of hfr (by omega)
  have hP := fun w h => C.pack a cap l w h
  rw [p1, p2] at hP
  have hlen : (fileS l).length = 12 + 16 * l.length + (bods (srt l)).length := by rw [fileS, fileR_len (fun t ht => hfr.srt.tag ht), srt_len]
  have hmod := f2.mod
  obtain ⟨D, hD⟩ : ∃ D, (bods (srt l)).length = D := ⟨_, rfl⟩
  rw [hD] at hlen
  have HTU : Hid (∀ k z, 12 + 16 * l.length ≤ k → k < (fileS l).length → z < 256 → z ≠ (fileS l).getD k 0 → unpE ((fileS l).set k z) = 2) := fun k z h1 h2 h3 h4 => (unp_bad (turned_no hfr HBY.out (by omega) h1 h2 h3 h4) (by simp; omega)).1
  have HOK : Hid (unpE (fileS l) = 0) := (unp_ok f2 (by omega)).1
  have HCU : Hid (unpE ((fileS l).take ((fileS l).length - 1)) = 2) := (unp_bad (mod_no (by simp; omega)) (by simp; omega)).1
  have HLO : Hid (unpE (fileS l ++ [y]) = 2) := (unp_bad (mod_no (by simp; omega)) (by simp; omega)).1
  have HP : Hid (∀ (w : World), Ts w a cap l → Calls Try.prog 11 #[.slice a l.length cap] w fun e w' => ∃ a' cap', e = .returned (.tuple #[.slice a' (fileS l).length cap', .int .i64 0]) ∧ Rb w' a' cap' (fileS l) ∧ Below w.heap.size w w') := hP
  clear p1 p2 f1 f2 hfr hP hD hmod
  generalize fileS l = fs at *
  obtain ⟨L, hL⟩ : ∃ L, fs.length = L := ⟨_, rfl⟩
  have HL : Hid (fs.length = L) := hL
  rw [hL] at hlen hfl
  obtain ⟨n, hn⟩ : ∃ n, l.length = n := ⟨_, rfl⟩
  have HN : Hid (l.length = n) := hn
  rw [hn] at hlen hl60
  obtain ⟨r, hr⟩ : ∃ r, p % (D + 1) = r := ⟨_, rfl⟩
  have hrD : r ≤ D := by have := Nat.mod_lt p (show 0 < D + 1 by omega); omega
  have hdv : (L : Int) - 12 - 16 * (n : Int) + 1 = ((D + 1 : Nat) : Int) := by omega
  have hrem : (p : Int).tmod ((D : Int) + 1) = (r : Int) := by
    rw [show (D : Int) + 1 = ((D + 1 : Nat) : Int) by omega, ← Int.ofNat_tmod, hr]
  have hdv2 : (L : Int) - 12 - 16 * (n : Int) + 1 = (D : Int) + 1 := by omega
  have hd0 : ((D : Int) + 1 == 0) = false := beq_eq_false_iff_ne.2 (by omega)
  obtain ⟨K, hK⟩ : ∃ K, 12 + 16 * n + r = K := ⟨_, rfl⟩
  have hK1 : 12 + 16 * (n : Int) + (r : Int) = (K : Int) := by omega
  have hK2 : 12 + 16 * n ≤ K := by omega
  have hKL : r < D → K < L := by omega
  have hKL2 : ¬ r < D → K = L := by omega
  have HKL : Hid (r < D → K < L) := hKL
  have HKL2 : Hid (¬ r < D → K = L) := hKL2
  have hL12 : 12 ≤ L := by omega
  have hL16 : 16 * n + 12 ≤ L := by omega
  clear hL hn hr hdv hK hlen hKL hKL2
  have HFW : Hid (fewT l = true) := hf
  clear hf
  go_enter Try.func7, Try.ntmps7
  go_wp2_with fail
  refine (awake5_any C _).mono ?_
  rintro e u ⟨rfl, hb⟩
  go_wp2_with fail
  refine (few5_any a cap l _ (HT.out u hb)).mono ?_
  rintro e u' ⟨rfl, rfl⟩
  rw [HFW.out]
  go_wp2_with fail
  refine (HP.out _ (HT.out u hb)).mono ?_
  rintro e u2 ⟨a2, c2, rfl, hr2, hb2⟩
  have B2 : Below w.heap.size w u2 := hb.trans (hb2.mono hb.size)
  have k1 := hr2.le
  have k2 := hr2.cap
  unfold maxLen at k2
  rw [HL.out] at k1
  have R2 : Hid (∀ v, Below u2.heap.size u2 v → Rb v a2 c2 fs) := fun v hv => hr2.below hv
  clear hb2 hb hr2
  rw [HL.out, HN.out]
  go_wp2_with (at_builtin; refine wpList_append_rw rfl _ _ 23 rfl u2 5 i0 Try.underlying23 hi hz0 hz1 hz2 none 0 [] rfl (Rw.nil _ _) (Below.refl _ _) a2 c2 _ fs rfl HL.out.symm (R2.out u2 (Below.refl _ _)) (by rw [HL.out]; simp; omega) ?_)
  intro a6 c6 t6 w6 T6 R6 B6
  have L6 : Hid (t6 = fs) := by show t6 = fs; have := T6.out; simpa using this
  have hl6 : t6.length = L := by rw [L6.out, HL.out]
  have R6' : Hid (Rw 5 u2.heap.size w6 a6 c6 fs) := by show Rw 5 u2.heap.size w6 a6 c6 fs; rw [← L6.out]; exact R6.out
  clear T6 R6
  rw [hl6]
  clear hl6 L6
  have hLi : (L : Int) - 1 = ((L - 1 : Nat) : Int) := by omega
  obtain ⟨L1, hL1⟩ : ∃ L1, L - 1 = L1 := ⟨_, rfl⟩
  rw [hL1] at hLi
  have HL1 : Hid (L - 1 = L1) := hL1
  have q1 : (0 : Int) ≤ (L1 : Int) := by omega
  have q2 : (L1 : Int) ≤ (c2 : Int) := by omega
  have q3 : L1 ≤ c2 := by omega
  clear hL1
  have HTL : Hid ((fs.take L1).length = L1) := by show (fs.take L1).length = L1; have := HL.out; have := HL1.out; simp; omega
  have HCU2 : Hid (unpE (fs.take L1) = 2) := by have := HCU.out; rw [HL.out, HL1.out] at this; exact this
  have hU2 : ∀ v, Below u2.heap.size u2 v → Calls Try.prog 21 #[.slice a2 L1 c2] v fun e w' => ∃ a' cap', e = .returned (.tuple #[.slice a' (unpL (fs.take L1)).length cap', .int .i64 2]) ∧ Ts w' a' cap' (unpL (fs.take L1)) ∧ Below v.heap.size v w' := by
    intro v hv
    have h1 := C.unpack a2 c2 (fs.take L1) v ((R2.out v hv).take L1)
    rw [HTL.out, HCU2.out] at h1
    exact h1
  have HU2 : Hid (∀ v, Below u2.heap.size u2 v → Calls Try.prog 21 #[.slice a2 L1 c2] v fun e w' => ∃ a' cap', e = .returned (.tuple #[.slice a' (unpL (fs.take L1)).length cap', .int .i64 2]) ∧ Ts w' a' cap' (unpL (fs.take L1)) ∧ Below v.heap.size v w') := hU2
  clear hU2
  by_cases hrl : r < D
  · have hkl := HKL.out hrl
    have g1 : (K : Int) < (L : Int) := by omega
    have i1 : (0 : Int) ≤ (K : Int) := by omega
    have hne : fs ≠ [] := by intro e; have := HL.out; rw [e] at this; simp at this; omega
    obtain ⟨g, rfl, hg1, hg2, hcl, hst⟩ := R6'.out.block hne
    obtain ⟨cK, fK⟩ := hcl K (by rw [HL.out]; exact hkl)
    obtain ⟨x, hx⟩ : ∃ x, fs.getD K 0 = x := ⟨_, rfl⟩
    rw [hx] at cK
    have hxb : x < 256 := by rw [← hx]; exact R6'.out.lim.getD K
    obtain ⟨z1, z2⟩ := xor_turn hxb hy hy0
    have hxo := xor_u8 x y hxb hy
    have hst2 := hst K (x ^^^ y) (by rw [HL.out]; exact hkl) z1
    have hun := HTU.out K (x ^^^ y) (by rw [HN.out]; exact hK2) (by rw [HL.out]; exact hkl) z1 (by rw [hx]; exact z2)
    generalize x ^^^ y = z at *
    have HST : Hid (Rw 5 u2.heap.size (w6.setCell ⟨g, K, none⟩ (.int .u8 (z : Int))) (some ⟨g, 0, none⟩) c6 (fs.set K z)) := hst2
    have hUB := C.unpack _ _ _ _ hst2.rd
    rw [hun, List.length_set, HL.out] at hUB
    have BB : Below u2.heap.size u2 (w6.setCell ⟨g, K, none⟩ (.int .u8 (z : Int))) := B6.out.setCell (p := ⟨g, K, none⟩) hg1 _
    clear hst hcl hx hst2 hun z2
    go_wp2_with fail
    refine hUB.mono ?_
    rintro e w7 ⟨a7, c7, rfl, ht7, hb7⟩
    have B7 : Below u2.heap.size u2 w7 := BB.trans (hb7.mono BB.size)
    clear ht7 hb7 hUB BB cK fK
    go_wp2_with fail
    refine (HU2.out w7 B7).mono ?_
    rintro e w8 ⟨a8, c8, rfl, ht8, hb8⟩
    have B8 : Below u2.heap.size u2 w8 := B7.trans (hb8.mono B7.size)
    clear ht8 hb8
    have hr8 := R2.out w8 B8
    go_wp2_with (at_builtin; refine wpList_append_rw rfl _ _ 23 rfl u2 5 i0 Try.underlying23 hi hz0 hz1 hz2 none 0 [] rfl (Rw.nil _ _) B8 a2 c2 _ fs rfl HL.out.symm hr8 (by rw [HL.out]; simp; omega) ?_)
    intro a9 c9 t9 w9 T9 R9 B9
    have L9 : Hid (t9 = fs) := by show t9 = fs; have := T9.out; simpa using this
    have hrz := rb_new w9 5 [y] #[Value.int IntKind.u8 (y : Int)] (by simp [Y]) (Byt.mk hy Byt.nil) (by simp [maxLen])
    have hr9 := R9.out.below (bl1 (w := w9) (.cells #[Value.int IntKind.u8 (y : Int)] 5))
    have hb9 := B9.out.alloc B9.out.size (.cells #[Value.int IntKind.u8 (y : Int)] 5)
    clear hr8
    go_wp2_with (at_builtin; refine wpList_append_rw rfl _ _ 23 rfl u2 5 i0 Try.underlying23 hi hz0 hz1 hz2 a9 c9 t9 rfl hr9 hb9 (some ⟨w9.heap.size, 0, none⟩) 1 _ [y] rfl rfl hrz (by have := HL.out; rw [L9.out]; simp; omega) ?_)
    intro a10 c10 t10 w10 T10 R10 B10
    have L10 : Hid (unpE t10 = 2) := by show unpE t10 = 2; rw [T10.out, L9.out]; exact HLO.out
    clear hrz hr9 hb9
    go_wp2_with fail
    refine (C.unpack a10 c10 t10 _ R10.out.rd).mono ?_
    rintro e w11 ⟨a11, c11, rfl, ht11, hb11⟩
    have B11 : Below u2.heap.size u2 w11 := B10.out.trans (hb11.mono B10.out.size)
    have BW := B2.trans (B11.mono B2.size)
    rw [L10.out]
    clear ht11 hb11
    go_wp2
    go_ret
    exact ⟨rt_bool (by first | rfl | simp), BW⟩
  · have hkl := HKL2.out hrl
    subst hkl
    have g1 : ¬ (K : Int) < (K : Int) := by omega
    have hUB := C.unpack _ _ _ _ R6'.out.rd
    rw [HOK.out, HL.out] at hUB
    go_wp2_with fail
    refine hUB.mono ?_
    rintro e w7 ⟨a7, c7, rfl, ht7, hb7⟩
    have B7 : Below u2.heap.size u2 w7 := B6.out.trans (hb7.mono B6.out.size)
    clear ht7 hb7 hUB
    go_wp2_with fail
    refine (HU2.out w7 B7).mono ?_
    rintro e w8 ⟨a8, c8, rfl, ht8, hb8⟩
    have B8 : Below u2.heap.size u2 w8 := B7.trans (hb8.mono B7.size)
    clear ht8 hb8
    have hr8 := R2.out w8 B8
    go_wp2_with (at_builtin; refine wpList_append_rw rfl _ _ 23 rfl u2 5 i0 Try.underlying23 hi hz0 hz1 hz2 none 0 [] rfl (Rw.nil _ _) B8 a2 c2 _ fs rfl HL.out.symm hr8 (by rw [HL.out]; simp; omega) ?_)
    intro a9 c9 t9 w9 T9 R9 B9
    have L9 : Hid (t9 = fs) := by show t9 = fs; have := T9.out; simpa using this
    have hrz := rb_new w9 5 [y] #[Value.int IntKind.u8 (y : Int)] (by simp [Y]) (Byt.mk hy Byt.nil) (by simp [maxLen])
    have hr9 := R9.out.below (bl1 (w := w9) (.cells #[Value.int IntKind.u8 (y : Int)] 5))
    have hb9 := B9.out.alloc B9.out.size (.cells #[Value.int IntKind.u8 (y : Int)] 5)
    clear hr8
    go_wp2_with (at_builtin; refine wpList_append_rw rfl _ _ 23 rfl u2 5 i0 Try.underlying23 hi hz0 hz1 hz2 a9 c9 t9 rfl hr9 hb9 (some ⟨w9.heap.size, 0, none⟩) 1 _ [y] rfl rfl hrz (by have := HL.out; rw [L9.out]; simp; omega) ?_)
    intro a10 c10 t10 w10 T10 R10 B10
    have L10 : Hid (unpE t10 = 2) := by show unpE t10 = 2; rw [T10.out, L9.out]; exact HLO.out
    clear hrz hr9 hb9
    go_wp2_with fail
    refine (C.unpack a10 c10 t10 _ R10.out.rd).mono ?_
    rintro e w11 ⟨a11, c11, rfl, ht11, hb11⟩
    have B11 : Below u2.heap.size u2 w11 := B10.out.trans (hb11.mono B10.out.size)
    have BW := B2.trans (B11.mono B2.size)
    rw [L10.out]
    clear ht11 hb11
    go_wp2
    go_ret
    exact ⟨rt_bool (by first | rfl | simp), BW⟩

end Go.Proofs.Ytijehnfadpoapaa
