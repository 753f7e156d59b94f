/-
  foundrylaw17: the walk of a law.
-/
import Derived.Test.YtgambbmonbhpnaaZ6
import Derived.Test.YtgambbmonbhpnaaZ7
namespace Go.Proofs.Ytgambbmonbhpnaa
open Go.RowKit Go.Maps
set_option linter.unusedSimpArgs false
set_option linter.unusedVariables false

theorem foC_noR {l : List Rn} {n c : Int} (h : foC l n = true) (hn : n ≤ 65536) : NoR l c := by
  intro k hk hi
  obtain ⟨h1, h2, h3, h4, h5⟩ := rnB_iff.1 (foC_el h k hk)
  have h6 := of_decide_eq_true hi
  unfold I64
  omega
theorem ch_b {l : List Rn} {n g c : Int} (h : foC l n = true) (hc : c ∈ chK g l) : 0 ≤ c ∧ c ≤ 1114111 := by
  obtain ⟨k, hk, h1, rfl⟩ := chK_mem.1 hc
  have h2 := of_decide_eq_true (ch_in h1)
  obtain ⟨h3, h4, h5, -⟩ := rnB_iff.1 (foC_el h k hk)
  omega
theorem getD_memK {xs : List Int} {k : Nat} (hk : k < xs.length) : xs.getD k 0 ∈ xs := by
  rw [List.getD_eq_getElem?_getD, List.getElem?_eq_getElem hk]
  exact List.getElem_mem hk
def hdB (l : List Rn) (c : Int) (k : Nat) : Bool := (l.take k).any (fun x => inR x c)
theorem hdB_succ {l : List Rn} {c : Int} {k : Nat} (hk : k < l.length) : hdB l c (k + 1) = (hdB l c k || inR (l.getD k Rn.none) c) := by
  unfold hdB
  rw [rn_snoc hk, List.any_append]
  simp
def fdB (ys : List Int) (c : Int) (k : Nat) : Bool := (ys.take k).any (fun y => y == c)
theorem fdB_succ {ys : List Int} {c : Int} {k : Nat} (hk : k < ys.length) : fdB ys c (k + 1) = (fdB ys c k || (ys.getD k 0 == c)) := by
  unfold fdB
  rw [List.take_add_one, List.getElem?_eq_getElem hk, List.any_append]
  simp [List.getD, hk]
theorem inv_eq {l : List Rn} {n c : Int} (h : foC l n = true) : fdB (chK (glR c l) l) c (chK (glR c l) l).length = hdB l c l.length := by
  rw [Bool.eq_iff_iff]
  unfold fdB hdB
  rw [List.take_length, List.take_length, List.any_eq_true, List.any_eq_true]
  constructor
  · rintro ⟨y, hy, e⟩
    obtain rfl : y = c := by simpa using e
    obtain ⟨k, hk, hi⟩ := (ch_both h).1 hy
    exact ⟨l.getD k Rn.none, by rw [List.getD_eq_getElem?_getD, List.getElem?_eq_getElem hk]; exact List.getElem_mem hk, hi⟩
  · rintro ⟨x, hx, hi⟩
    obtain ⟨k, hk, e⟩ := List.getElem_of_mem hx
    refine ⟨c, (ch_both h).2 ⟨k, hk, ?_⟩, by simp⟩
    rw [List.getD_eq_getElem?_getD, List.getElem?_eq_getElem hk, Option.getD_some, e]
    exact hi
theorem two_c {n b p q : Nat} {w U : World} {v0 v1 : Value} (hb : Below n w U) (hlt : b < n) (hC : w.cell? ⟨b, p, none⟩ = some v0 ∧ w.cell? ⟨b, q, none⟩ = some v1) : U.cell? ⟨b, p, none⟩ = some v0 ∧ U.cell? ⟨b, q, none⟩ = some v1 :=
  ⟨(hb.cell (p := ⟨b, p, none⟩) hlt).trans hC.1, (hb.cell (p := ⟨b, q, none⟩) hlt).trans hC.2⟩

set_option maxHeartbeats 8000000 in
set_option maxRecDepth 100000 in
theorem charsInverse_any (S : Nat → Prop) (a : Option Addr) (ca : Nat) (l : List Rn) (c g : Int) (w : World) (hl : Gr RnE S w a ca l) (hc : I64 c) (hg : I64 g) :
    Calls Try.prog 6 #[.slice a l.length ca, .int .i64 c, .int .i64 g] w fun e w' => e = .returned (.bool true) ∧ Below w.heap.size w w' := by
  have kl := hl.lenB
  have hbW := Below.refl w.heap.size w
  go_enter Try.func6, Try.ntmps6
  go_wp2_with fail
  refine (awake17_any _).mono ?_
  rintro e y1 ⟨rfl, hb1⟩
  replace hl := hl.below hb1
  replace hbW := hbW.trans (hb1.mono hbW.size)
  clear hb1
  have hcc := cformC_any S a ca l 65536 _ hl ⟨by omega, by omega⟩
  cases hf : foC l 65536 with
  | false =>
    rw [hf] at hcc
    clear hf
    go_wp2_with fail
    refine hcc.mono ?_
    rintro e y2 ⟨rfl, hb1⟩
    clear hcc
    replace hl := hl.below hb1
    replace hbW := hbW.trans (hb1.mono hbW.size)
    clear hb1
    go_wp2_with fail
    refine (awake17_any _).mono ?_
    rintro e uz ⟨rfl, hbz⟩
    have hfin := hbW.trans (hbz.mono hbW.size)
    clear hbz
    go_wp2
    go_ret
    exact ⟨rfl, hfin⟩
  | true =>
  rw [hf] at hcc
  have HNO : Hid (∀ z, NoR l z) := fun z => foC_noR hf (by omega)
  have HXE : Hid (chC l g = chK g l) := chC_yes hf
  have HYE : Hid (chC l (glR c l) = chK (glR c l) l) := chC_yes hf
  have HGL : Hid (∀ z ∈ chK g l, glR z l = g) := fun z hz => ch_gl hf hz
  have HBD : Hid (∀ z ∈ chK g l, 0 ≤ z ∧ z ≤ 1114111) := fun z hz => ch_b hf hz
  have HRI : Hid (∀ i, i + 1 < (chK g l).length → (chK g l).getD i 0 < (chK g l).getD (i + 1) 0) := fun i hi => ch_rise hf hi
  have HEQ : Hid (fdB (chK (glR c l) l) c (chK (glR c l) l).length = hdB l c l.length) := inv_eq hf
  have HL4 : Hid (l.length ≤ 40) := (foC_iff.1 hf).1
  clear hf
  go_wp2_with fail
  refine hcc.mono ?_
  rintro e y2 ⟨rfl, hb1⟩
  clear hcc
  replace hl := hl.below hb1
  replace hbW := hbW.trans (hb1.mono hbW.size)
  clear hb1
  have hcc := cchars_any S a ca l g _ hl hg
  go_wp2_with fail
  refine hcc.mono ?_
  rintro e y3 ⟨v3, rfl, hI3, hb1⟩
  clear hcc
  replace hl := hl.below hb1
  replace hbW := hbW.trans (hb1.mono hbW.size)
  clear hb1
  rw [HXE.out] at hI3
  obtain ⟨a3, c3, rfl, R3⟩ := hI3.slice
  have hl3 := R3.lenB
  have hl3b := Nat.le_trans (chK_len g l) HL4.out
  obtain ⟨xs, hxs⟩ : ∃ xs, chK g l = xs := ⟨_, rfl⟩
  rw [hxs] at R3 HGL HBD HRI hl3 hl3b
  have HL : Hid (Gr RnE S y3 a ca l) := hl
  have HR : Hid (Ri y3 a3 c3 xs) := R3
  have HBW : Hid (Below w.heap.size w y3) := hbW
  try rw [hxs]
  clear hI3 hl R3 hbW hxs HXE
  go_wp2
  go_loopw [8] (fun i wr => ∃ (k : Nat), k ≤ xs.length ∧ i = .int .i64 k ∧ Below y3.heap.size y3 wr) (fun i _ => xs.length - (intOf i).toNat)
  case atStart => exact ⟨0, Nat.zero_le _, rfl, Below.refl _ _⟩
  case round =>
    obtain ⟨k, hk, rfl, hB⟩ := hrel
    by_cases hkn : k < xs.length
    · obtain ⟨b1, off, ea, hb1, c0⟩ := HR.out.at hB k hkn
      subst ea
      have HPV : Hid (∀ j, j + 1 = k → wr.cell? ⟨b1, off + j, none⟩ = some (.int .i64 (xs.getD j 0)) ∧ xs.getD j 0 < xs.getD k 0 ∧ I64 (xs.getD j 0)) := fun j hj => by
        obtain ⟨b2, o2, e2, _, r1⟩ := HR.out.at hB j (by omega)
        injection e2 with e3
        injection e3 with e4 e5
        subst e4 e5
        refine ⟨r1, ?_, HR.out.i64 (by omega)⟩
        have := HRI.out j (by omega)
        rw [hj] at this
        exact this
      have hmem := getD_memK hkn
      have hglz := HGL.out _ hmem
      obtain ⟨hz0, hz1⟩ := HBD.out _ hmem
      obtain ⟨z, hz⟩ : ∃ z, xs.getD k 0 = z := ⟨_, rfl⟩
      rw [hz] at c0 HPV hz0 hz1 hglz
      have HGZ : Hid (∀ U, Below wr.heap.size wr U → Calls Try.prog 10 #[.slice a l.length ca, .int .i64 z] U fun e w' => e = .returned (.int .i64 g) ∧ Below U.heap.size U w') := fun U hU => by
        have := cglyph_any S a ca l z U ((HL.out.below hB).below hU) ⟨by omega, by omega⟩ (HNO.out z)
        rw [hglz] at this
        exact this
      have i1 : (0 : Int) ≤ (k : Int) := by omega
      have i2 : (k : Int) < (xs.length : Int) := by omega
      have hgg : (g != g) = false := by simp
      clear hz hmem hglz
      rcases Nat.eq_zero_or_pos k with hk0 | hk0
      · have d7 : decide ((0 : Int) < (k : Int)) = false := decide_eq_false (by omega)
        have d7n : decide (0 < k) = false := decide_eq_false (by omega)
        have HK0 : Hid (k = 0) := hk0
        clear hk0 HPV
        go_upto_region 7 with fail
        refine wp_region_held_drew (S := fun w9 => w9.cell? ⟨b1, off + k, none⟩ = some (.int .i64 z)) (by kernel_rfl) ?_ (fun hHeld => ?_)
        · (try dsimp only)
          go_keep
        have hdr : Below wr.heap.size wr wr.drew := (Below.refl _ _).drew
        generalize wr.drew = Z at hdr hHeld ⊢
        have HC0 : Hid (_) := c0
        clear c0
        refine hT 0 hHeld ?_
        refine hT 1 hHeld ?_
        refine hT 2 hHeld ?_
        refine hT 3 hHeld ?_
        refine hT 4 hHeld ?_
        refine hT 6 hHeld ?_
        refine hCall (i := 5) rfl (by kernel_rfl) (by rfl) (fun K hK => ?_)
        go_simp
        refine (HGZ.out _ hdr).mono ?_
        rintro e v5 ⟨rfl, hv5⟩
        replace hdr := hdr.trans (hv5.mono hdr.size)
        clear hv5
        go_wp2_with fail
        refine hK.out _ _ ?_ (fun hHeld => ?_)
        · (try dsimp only)
          exact (hdr.cell (p := ⟨b1, off + k, none⟩) (Nat.lt_of_lt_of_le hb1 hB.size)).trans HC0.out
        clear hK K
        try simp only [Act.put, List.setIfInBounds_toArray, List.set_cons_zero, List.set_cons_succ]
        refine hT 7 hHeld ?_
        refine hT 8 hHeld ?_
        refine hT 9 hHeld ?_
        refine hT 10 hHeld ?_
        refine hT 11 hHeld ?_
        refine hN 12 hHeld ?_
        refine hN 13 hHeld ?_
        refine hN 14 hHeld ?_
        refine hN 15 hHeld ?_
        refine hN 16 hHeld ?_
        refine hN 17 hHeld ?_
        refine hN 18 hHeld ?_
        refine hN 19 hHeld ?_
        refine hN 20 hHeld ?_
        refine hN 21 hHeld ?_
        refine hT 22 hHeld ?_
        refine hT 23 hHeld ?_
        refine wpAnyH_done (by kernel_rfl) ?_ _
        have hB9 := hB.trans (hdr.mono hB.size)
        clear hHeld HC0 hdr hB
        go_wp2
        go_roundw
        case rel => exact ⟨k + 1, by omega, by go_num, hB9⟩
        case measure => simp [intOf]; omega
      obtain ⟨j, hj⟩ : ∃ j, j + 1 = k := ⟨k - 1, by omega⟩
      obtain ⟨r1, hlt, ⟨r2, r3⟩⟩ := HPV.out j hj
      obtain ⟨y, hy⟩ : ∃ y, xs.getD j 0 = y := ⟨_, rfl⟩
      rw [hy] at r1 hlt r2 r3
      have HJ : Hid (j + 1 = k) := hj
      have s1 : (k : Int) - 1 = (j : Int) := by omega
      have s2 : IntKind.i64.wrap ((k : Int) - 1) = (j : Int) := by rw [s1]; exact wrapi64k (by omega) (by omega)
      have s3 : IntKind.i64.wrap (j : Int) = (j : Int) := wrapi64k (by omega) (by omega)
      have s4 : j < xs.length := by omega
      have s5 : (0 : Int) ≤ (j : Int) := by omega
      have s6 : (j : Int) < (xs.length : Int) := by omega
      have d7 : decide ((0 : Int) < (k : Int)) = true := decide_eq_true (by omega)
      have d7n : decide (0 < k) = true := decide_eq_true (by omega)
      have d8 : decide (z ≤ y) = false := decide_eq_false (by omega)
      clear hk0 HPV hj hy
      go_upto_region 7 with fail
      refine wp_region_held_drew (S := fun w9 => w9.cell? ⟨b1, off + k, none⟩ = some (.int .i64 z) ∧ w9.cell? ⟨b1, off + j, none⟩ = some (.int .i64 y)) (by kernel_rfl) ?_ (fun hHeld => ?_)
      · (try dsimp only)
        go_keep
      have hdr : Below wr.heap.size wr wr.drew := (Below.refl _ _).drew
      generalize wr.drew = Z at hdr hHeld ⊢
      have HC0 : Hid (_) := And.intro c0 (r1)
      clear c0 r1
      refine hT 0 hHeld ?_
      refine hT 1 hHeld ?_
      refine hT 2 hHeld ?_
      refine hT 3 hHeld ?_
      refine hT 4 hHeld ?_
      refine hT 6 hHeld ?_
      refine hCall (i := 5) rfl (by kernel_rfl) (by rfl) (fun K hK => ?_)
      go_simp
      refine (HGZ.out _ hdr).mono ?_
      rintro e v5 ⟨rfl, hv5⟩
      replace hdr := hdr.trans (hv5.mono hdr.size)
      clear hv5
      go_wp2_with fail
      refine hK.out _ _ ?_ (fun hHeld => ?_)
      · (try dsimp only)
        exact two_c hdr (Nat.lt_of_lt_of_le hb1 hB.size) HC0.out
      clear hK K
      try simp only [Act.put, List.setIfInBounds_toArray, List.set_cons_zero, List.set_cons_succ]
      refine hT 7 hHeld ?_
      refine hT 8 hHeld ?_
      refine hT 9 hHeld ?_
      refine hT 10 hHeld ?_
      refine hT 11 hHeld ?_
      refine hT 12 hHeld ?_
      refine hT 13 hHeld ?_
      refine hT 14 hHeld ?_
      refine hT 15 hHeld ?_
      refine hT 16 hHeld ?_
      refine hT 17 hHeld ?_
      refine hT 18 hHeld ?_
      refine hT 19 hHeld ?_
      refine hT 20 hHeld ?_
      refine hT 21 hHeld ?_
      refine hT 22 hHeld ?_
      refine hT 23 hHeld ?_
      refine wpAnyH_done (by kernel_rfl) ?_ _
      have hB9 := hB.trans (hdr.mono hB.size)
      clear hHeld HC0 hdr hB
      go_wp2
      go_roundw
      case rel => exact ⟨k + 1, by omega, by go_num, hB9⟩
      case measure => simp [intOf]; omega
    · have g4 : ¬ (k : Int) < (xs.length : Int) := by omega
      have HB : Hid (Below y3.heap.size y3 wr) := hB
      clear hB HGL HBD HRI HR
      go_wp2
      clear g4
      go_loopw [9, 10] (fun v i wq => ∃ (j : Nat) (hd : Bool), j ≤ l.length ∧ i = .int .i64 j ∧ v = .bool hd ∧ Hid (hd = hdB l c j) ∧ Below y3.heap.size y3 wq) (fun _ i _ => l.length - (intOf i).toNat)
      case atStart => exact ⟨0, false, Nat.zero_le _, rfl, rfl, (rfl : false = hdB l c 0), HB.out⟩
      case round =>
        rename World => wr2
        obtain ⟨j, hd, hj, rfl, rfl, HD, hB⟩ := hrel
        by_cases hjn : j < l.length
        · obtain ⟨b1, off, ea, hb1, hM, c0, c1, c2⟩ := HL.out.rn hB j hjn
          subst ea
          have HS : Hid (_) := hdB_succ (c := c) hjn
          rw [← HD.out] at HS
          obtain ⟨x, hx⟩ : ∃ x, l.getD j Rn.none = x := ⟨_, rfl⟩
          rw [hx] at hM c0 c1 c2 HS
          obtain ⟨⟨m1, m2⟩, ⟨m3, m4⟩, ⟨m5, m6⟩⟩ := hM
          have i1 : (0 : Int) ≤ (j : Int) := by omega
          have i2 : (j : Int) < (l.length : Int) := by omega
          clear hx HD
          cases hd with
          | true =>
            have HS2 : Hid (true = hdB l c (j + 1)) := by show _ = _; rw [HS.out]; rfl
            clear HS
            go_wp2
            go_roundw
            case rel => exact ⟨j + 1, true, by omega, by go_num, rfl, HS2, hB⟩
            case measure => simp [intOf]; omega
          | false =>
          by_cases f1 : x.fr ≤ c
          rotate_left
          · have d1 : decide (x.fr ≤ c) = false := decide_eq_false f1
            have HS2 : Hid (false = hdB l c (j + 1)) := by show _ = _; rw [HS.out]; unfold inR; rw [decide_eq_false (fun h => f1 h.1)]; rfl
            clear HS
            go_wp2
            go_roundw
            case rel => exact ⟨j + 1, false, by omega, by go_num, rfl, HS2, hB⟩
            case measure => simp [intOf]; omega
          have d1 : decide (x.fr ≤ c) = true := decide_eq_true f1
          by_cases f2 : c ≤ x.to
          rotate_left
          · have d2 : decide (c ≤ x.to) = false := decide_eq_false f2
            have HS2 : Hid (false = hdB l c (j + 1)) := by show _ = _; rw [HS.out]; unfold inR; rw [decide_eq_false (fun h => f2 h.2)]; rfl
            clear HS
            go_wp2
            go_roundw
            case rel => exact ⟨j + 1, false, by omega, by go_num, rfl, HS2, hB⟩
            case measure => simp [intOf]; omega
          have d2 : decide (c ≤ x.to) = true := decide_eq_true f2
          have HS2 : Hid (true = hdB l c (j + 1)) := by show _ = _; rw [HS.out]; unfold inR; rw [decide_eq_true ⟨f1, f2⟩]; rfl
          clear HS
          go_wp2
          go_roundw
          case rel => exact ⟨j + 1, true, by omega, by go_num, rfl, HS2, hB⟩
          case measure => simp [intOf]; omega
        · obtain rfl : j = l.length := by omega
          have g4 : ¬ (l.length : Int) < (l.length : Int) := by omega
          rw [← HD.out] at HEQ
          have hgl := cglyph_any S a ca l c wr2 (HL.out.below hB) hc (HNO.out c)
          have HIG : Hid (I64 (glR c l)) := glR_i64 (HNO.out c)
          obtain ⟨z, hz⟩ : ∃ z, glR c l = z := ⟨_, rfl⟩
          rw [hz] at hgl HIG HEQ HYE
          clear hz HD
          go_wp2_with fail
          refine hgl.mono ?_
          rintro e u4 ⟨rfl, hb1⟩
          replace hB := hB.trans (hb1.mono hB.size)
          have hch := cchars_any S a ca l z u4 (HL.out.below hB) HIG.out
          clear hgl hb1
          go_wp2_with fail
          refine hch.mono ?_
          rintro e u5 ⟨v5, rfl, hI5, hb1⟩
          replace hB := hB.trans (hb1.mono hB.size)
          rw [HYE.out] at hI5
          obtain ⟨a5, c5, rfl, R5⟩ := hI5.slice
          have hl5 := Nat.le_trans (chK_len z l) HL4.out
          obtain ⟨ys, hys⟩ : ∃ ys, chK z l = ys := ⟨_, rfl⟩
          rw [hys] at R5 HEQ hl5
          try rw [hys]
          have HR5 : Hid (Ri u5 a5 c5 ys) := R5
          have HFN : Hid (Below w.heap.size w u5) := HBW.out.trans (hB.mono HBW.out.size)
          clear hch hb1 hI5 hys R5 hB g4
          go_wp2
          go_loopw [12, 13] (fun v i wq => ∃ (m : Nat) (fd : Bool), m ≤ ys.length ∧ i = .int .i64 m ∧ v = .bool fd ∧ Hid (fd = fdB ys c m) ∧ Below u5.heap.size u5 wq) (fun _ i _ => ys.length - (intOf i).toNat)
          case atStart => exact ⟨0, false, Nat.zero_le _, rfl, rfl, (rfl : false = fdB ys c 0), Below.refl _ _⟩
          case round =>
            rename World => wr3
            obtain ⟨m, fd, hm, rfl, rfl, HFD, hB⟩ := hrel
            by_cases hmn : m < ys.length
            · obtain ⟨b1, off, ea, hb1, c0⟩ := HR5.out.at hB m hmn
              subst ea
              have HS : Hid (_) := fdB_succ (c := c) hmn
              rw [← HFD.out] at HS
              obtain ⟨y, hy⟩ : ∃ y, ys.getD m 0 = y := ⟨_, rfl⟩
              rw [hy] at c0 HS
              have i1 : (0 : Int) ≤ (m : Int) := by omega
              have i2 : (m : Int) < (ys.length : Int) := by omega
              clear hy HFD
              cases fd with
              | true =>
                have HS2 : Hid (true = fdB ys c (m + 1)) := by show _ = _; rw [HS.out]; rfl
                clear HS
                go_wp2
                go_roundw
                case rel => exact ⟨m + 1, true, by omega, by go_num, rfl, HS2, hB⟩
                case measure => simp [intOf]; omega
              | false =>
              cases hq : (y == c) with
              | false =>
                have HS2 : Hid (false = fdB ys c (m + 1)) := by show _ = _; rw [HS.out, hq]; rfl
                clear HS
                go_wp2
                go_roundw
                case rel => exact ⟨m + 1, false, by omega, by go_num, rfl, HS2, hB⟩
                case measure => simp [intOf]; omega
              | true =>
              have HS2 : Hid (true = fdB ys c (m + 1)) := by show _ = _; rw [HS.out, hq]; rfl
              clear HS
              go_wp2
              go_roundw
              case rel => exact ⟨m + 1, true, by omega, by go_num, rfl, HS2, hB⟩
              case measure => simp [intOf]; omega
            · obtain rfl : m = ys.length := by omega
              have g4 : ¬ (ys.length : Int) < (ys.length : Int) := by omega
              have hff : fd = hd := by rw [HFD.out]; exact HEQ.out
              have hfin := HFN.out.trans (hB.mono HFN.out.size)
              subst hff
              clear HFD HEQ HYE
              cases fd with
              | true =>
                go_wp2
                go_ret
                exact ⟨rfl, hfin⟩
              | false =>
                go_wp2
                go_ret
                exact ⟨rfl, hfin⟩

end Go.Proofs.Ytgambbmonbhpnaa
