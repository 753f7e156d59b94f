/-
  foundrylaw17: the walk of a law.
-/
import Derived.Test.YtgambbmonbhpnaaZ6
import Derived.Test.YtgambbmonbhpnaaZ12
import Derived.Test.YtgambbmonbhpnaaZ8
namespace Go.Proofs.Ytgambbmonbhpnaa
open Go.RowKit Go.Maps
set_option linter.unusedSimpArgs false
set_option linter.unusedVariables false

/-- Rows of runes that are read. -/
def Rk (w : World) (a : Option Addr) (cap : Nat) (zs : List Int) : Prop := zs.length ≤ cap ∧ cap ≤ maxLen ∧ (zs = [] ∨ ∃ b off, a = some ⟨b, off, none⟩ ∧ b < w.heap.size ∧ ∀ i, i < zs.length → w.cell? ⟨b, off + i, none⟩ = some (.int .i32 (zs.getD i 0)))
theorem Rk.below {w w' : World} {a : Option Addr} {cap : Nat} {zs : List Int} (h : Rk w a cap zs) (hb : Below w.heap.size w w') : Rk w' a cap zs := by
  obtain ⟨h1, h2, h3⟩ := h
  refine ⟨h1, h2, ?_⟩
  rcases h3 with h3 | ⟨b, off, e, h4, h5⟩
  · exact .inl h3
  · exact .inr ⟨b, off, e, Nat.lt_of_lt_of_le h4 hb.size, fun i hi => (hb.cell (p := ⟨b, off + i, none⟩) h4).trans (h5 i hi)⟩
theorem Rk.conv {w : World} {a : Option Addr} {cap : Nat} {zs : List Int} (h : Rk w a cap zs) : (convert 45 9 (.slice a zs.length cap)).run Try.prog w = .ok (.string (runesBytes zs)) w := by
  obtain ⟨h1, h2, h3⟩ := h
  rcases h3 with rfl | ⟨b, off, rfl, h4, h5⟩
  · cases a with
    | none => exact run_convert_runes_nil w 45 9 21 0 cap Try.underlying45 Try.underlying21 Try.underlying9
    | some x => exact run_convert_runes (P := Try.prog) w 45 9 21 x 0 cap [] (Nat.le_refl _) Try.underlying45 Try.underlying21 Try.underlying9 (fun j hj => by simp at hj)
  · have := run_convert_runes (P := Try.prog) w 45 9 21 ⟨b, off, none⟩ zs.length cap zs (Nat.le_refl _) Try.underlying45 Try.underlying21 Try.underlying9 (fun j hj => by
      have hadd : (⟨b, off, none⟩ : Addr).add j = ⟨b, off + j, none⟩ := by unfold Addr.add; split <;> simp_all
      rw [hadd]
      exact h5 j hj)
    rw [List.take_length] at this
    exact this
theorem Io.gr {base : Nat} {S : Nat → Prop} {w : World} {v : Value} {zs : List Int} (h : Io base w v zs) : ∃ a c, v = .slice a zs.length c ∧ Gr El.int S w a c zs := by
  obtain ⟨h1, h3⟩ := h
  rcases h3.2 with ⟨rfl, h0⟩ | ⟨g, cap, cur, rfl, hb, hg, hc1, hc2, hc3, ht⟩
  · have : zs = [] := List.length_eq_zero_iff.1 h0
    subst this
    exact ⟨none, 0, rfl, Gr.nil _ _ _ _ _ (Nat.zero_le _) (fun _ => rfl)⟩
  · refine ⟨_, cap, rfl, hc1, hc2, (fun e => by cases e), fun i hi => ⟨g, 0, [.int .i64 (zs.getD i 0)], rfl, (Array.getElem?_eq_some_iff.1 hg).1, ⟨rfl, ?_⟩, fun j hj => ?_⟩⟩
    · exact h1 _ (by rw [List.getD_eq_getElem?_getD, List.getElem?_eq_getElem hi]; exact List.getElem_mem hi)
    · obtain rfl : j = 0 := by simp [El.int, El.num] at hj; exact hj
      have := h3.cells (g := g) rfl i (.int .i64 (zs.getD i 0)) (by simp [List.getD, hi])
      have hadd : (⟨g, 0, none⟩ : Addr).add i = ⟨g, 0 + i, none⟩ := by unfold Addr.add; split <;> simp_all
      rw [hadd] at this
      show w.cell? ⟨g, 0 + i * 1 + 0, none⟩ = _
      rw [Nat.mul_one, Nat.add_zero]
      exact this
theorem encN_len (c : Nat) : (encN c).length ≤ 4 := by unfold encN; repeat' split
                                                       all_goals (simp)
theorem runes_size (rs : List Int) : (runesBytes rs).size ≤ 4 * rs.length := by
  rw [← sb_size, sb_runes]
  induction rs with
  | nil => exact Nat.le_refl _
  | cons r rs ih =>
    rw [List.map_cons, List.flatten_cons, List.length_append, List.length_cons, encR_eq]
    have := encN_len (fixR r)
    omega
theorem beh_eq (l : List Rn) (rs : List Int) (t : ByteArray) : mpC l (sb (runesBytes rs ++ t)) = mpC l (sb (runesBytes rs)) ++ mpC l (sb t) ∧ (mpC l (sb (runesBytes rs))).length = rs.length := by
  rw [sb_app, sb_runes]
  exact mpC_behind l rs (sb t)

set_option maxHeartbeats 8000000 in
set_option maxRecDepth 100000 in
theorem charsBehind_any (S : Nat → Prop) (a : Option Addr) (ca : Nat) (l : List Rn) (ra : Option Addr) (rc : Nat) (rs : List Int) (s : ByteArray) (w : World) (hl : Gr RnE S w a ca l) (hrk : Rk w ra rc rs) :
    Calls Try.prog 7 #[.slice a l.length ca, .slice ra rs.length rc, .string s] w fun e w' => e = .returned (.bool true) ∧ Below w.heap.size w w' := by
  have kl := hl.lenB
  have HL0 : Hid (∀ U, Below w.heap.size w U → Gr RnE S U a ca l) := fun U hU => hl.below hU
  have hbW := Below.refl w.heap.size w
  go_enter Try.func7, Try.ntmps7
  go_wp2_with fail
  refine (awake17_any _).mono ?_
  rintro e y1 ⟨rfl, hb1⟩
  replace hl := hl.below hb1
  replace hrk := hrk.below hb1
  replace hbW := hbW.trans (hb1.mono hbW.size)
  clear hb1
  have kr := hrk.1
  have kr2 := hrk.2.1
  unfold maxLen at kr2
  by_cases hxg1 : 100 < l.length
  · have g1 : decide ((100 : Int) < (l.length : Int)) = true := decide_eq_true (by omega)
    go_wp2_with fail
    refine (awake17_any _).mono ?_
    rintro e uz ⟨rfl, hbz⟩
    have hfin := hbW.trans (hbz.mono hbW.size)
    clear hbz
    go_wp2
    go_ret
    exact ⟨rfl, hfin⟩
  have g1 : decide ((100 : Int) < (l.length : Int)) = false := decide_eq_false (by omega)
  by_cases hxg2 : 1000 < rs.length
  · have g2 : decide ((1000 : Int) < (rs.length : Int)) = true := decide_eq_true (by omega)
    go_wp2_with fail
    refine (awake17_any _).mono ?_
    rintro e uz ⟨rfl, hbz⟩
    have hfin := hbW.trans (hbz.mono hbW.size)
    clear hbz
    go_wp2
    go_ret
    exact ⟨rfl, hfin⟩
  have g2 : decide ((1000 : Int) < (rs.length : Int)) = false := decide_eq_false (by omega)
  by_cases hxg3 : 1000 < s.size
  · have g3 : decide ((1000 : Int) < (s.size : Int)) = true := decide_eq_true (by omega)
    go_wp2_with fail
    refine (awake17_any _).mono ?_
    rintro e uz ⟨rfl, hbz⟩
    have hfin := hbW.trans (hbz.mono hbW.size)
    clear hbz
    go_wp2
    go_ret
    exact ⟨rfl, hfin⟩
  have g3 : decide ((1000 : Int) < (s.size : Int)) = false := decide_eq_false (by omega)
  have hcc := fair17_any S a ca l (0) _ hl ⟨by omega, by omega⟩
  go_wp2_with fail
  refine hcc.mono ?_
  rintro e y2 ⟨⟨q, rfl, HQ⟩, hb1⟩
  clear hcc
  replace HQ : Hid (q = true → FaR l ∧ smB (0) = true) := HQ
  replace hl := hl.below hb1
  replace hrk := hrk.below hb1
  replace hbW := hbW.trans (hb1.mono hbW.size)
  clear hb1
  cases q with
  | false =>
    go_wp2_with fail
    refine (awake17_any _).mono ?_
    rintro e uz ⟨rfl, hbz⟩
    have hfin := hbW.trans (hbz.mono hbW.size)
    clear hbz
    go_wp2
    go_ret
    exact ⟨rfl, hfin⟩
  | true =>
  have HQ2 : Hid (FaR l ∧ smB (0) = true) := HQ.out rfl
  clear HQ
  have HNA : Hid (∀ z : Int, 0 ≤ z → z ≤ 1114111 → NoR l z) := fun z h1 h2 => HQ2.out.1.no (by omega) (by omega)
  clear g1 g2 g3 HQ2
  have hcv := hrk.conv
  have hA := runes_size rs
  obtain ⟨hEQ, hLN⟩ := beh_eq l rs s
  obtain ⟨t, ht⟩ : ∃ t, runesBytes rs = t := ⟨_, rfl⟩
  rw [ht] at hcv hA hEQ hLN
  have HEQ : Hid (mpC l (sb (t ++ s)) = mpC l (sb t) ++ mpC l (sb s)) := hEQ
  have HLN : Hid ((mpC l (sb t)).length = rs.length) := hLN
  have hts : (t ++ s).size ≤ 100000 := by rw [ByteArray.size_append]; omega
  clear hEQ hLN ht
  have hcc := cmap_any S a ca l t _ hl (by omega) HNA.out
  go_wp2_with fail
  refine hcc.mono ?_
  rintro e y3 ⟨v3, rfl, hI3, hb1⟩
  clear hcc hcv
  replace hl := hl.below hb1
  replace hrk := hrk.below hb1
  replace hbW := hbW.trans (hb1.mono hbW.size)
  clear hb1
  obtain ⟨a3, c3, rfl, G3⟩ := hI3.gr (S := fun k => True ∧ (Value.slice none 0 0).ownBlock ≠ some k)
  have hm1 := mpC_len l (sb t)
  have hm2 := mpC_len l (sb s)
  rw [sb_size] at hm1 hm2
  have hW0 := hbW.size
  have hN0 : Gw El.int 3 w.heap.size (fun _ => True) y3 (.slice none 0 0) [] := Gw.nil _ _ _ _ _
  obtain ⟨m1, hm1e⟩ : ∃ m, mpC l (sb t) = m := ⟨_, rfl⟩
  rw [hm1e] at G3 HEQ HLN hm1
  try rw [hm1e]
  obtain ⟨m2, hm2e⟩ : ∃ m, mpC l (sb s) = m := ⟨_, rfl⟩
  rw [hm2e] at HEQ hm2
  have HM1 : Hid (mpC l (sb t) = m1) := hm1e
  have HM2 : Hid (mpC l (sb s) = m2) := hm2e
  have hll : ([] : List Int).length + m1.length ≤ 1000000 := by simp; omega
  clear hI3 hm1e hm2e
  go_wp2_with (at_builtin; refine wpList_append_el 27 3 Try.underlying27 infoA_i64 rfl (by decide) (by decide) rfl _ _ rfl w.heap.size (fun _ => True) _ [] rfl hN0 a3 c3 _ m1 rfl rfl G3 hll hW0 ?_)
  intro v4 y4 hT4 hgrow _
  have hb1 : Below y3.heap.size y3 y4 := (Below.refl _ _).grown hgrow (Nat.le_refl _) (fun q hq => by cases hq)
  clear hgrow G3 hN0 hll hW0
  replace hl := hl.below hb1
  replace hrk := hrk.below hb1
  replace hbW := hbW.trans (hb1.mono hbW.size)
  clear hb1
  obtain ⟨a4, c4, rfl, -, -⟩ := hT4.slice
  have hcc := cmap_any S a ca l s _ hl (by omega) HNA.out
  go_wp2_with fail
  refine hcc.mono ?_
  rintro e y5 ⟨v5, rfl, hI5, hb1⟩
  clear hcc
  replace hl := hl.below hb1
  replace hrk := hrk.below hb1
  replace hT4 := hT4.below hb1
  replace hbW := hbW.trans (hb1.mono hbW.size)
  clear hb1
  rw [HM2.out] at hI5
  obtain ⟨a5, c5, rfl, G5⟩ := hI5.gr (S := fun k => True ∧ (Value.slice a4 m1.length c4).ownBlock ≠ some k)
  have hll : m1.length + m2.length ≤ 1000000 := by omega
  have hW0 := hbW.size
  have HLO : Hid (∀ q, (Value.slice a4 m1.length c4).ownBlock = some q → w.heap.size ≤ q) := fun q hq => (hT4.lo hq).1
  clear hI5
  go_wp2_with (at_builtin; refine wpList_append_el 27 3 Try.underlying27 infoA_i64 rfl (by decide) (by decide) rfl _ _ rfl w.heap.size (fun _ => True) _ m1 rfl hT4 a5 c5 _ m2 rfl rfl G5 hll hW0 ?_)
  intro v6 y6 hT6 hgrow _
  have hbx : Below w.heap.size y5 y6 := (Below.refl _ _).grown hgrow hW0 (fun q hq => HLO.out q hq)
  replace hbW := hbW.trans hbx
  replace hl := HL0.out _ hbW
  clear hgrow hbx G5 hT4 hll hW0 HLO hrk
  obtain ⟨a6, c6, rfl, G6, -⟩ := hT6.slice
  clear hT6
  have R6 := G6.ri
  clear G6
  obtain ⟨m3, hm3⟩ : ∃ m, m1 ++ m2 = m := ⟨_, rfl⟩
  rw [hm3] at R6 HEQ
  try rw [hm3]
  have hk6 := R6.lenB
  obtain ⟨n6, hn6⟩ : ∃ n, m3.length = n := ⟨_, rfl⟩
  have HN6 : Hid (m3.length = n6) := hn6
  rw [hn6] at hk6
  try rw [hn6]
  clear hm3 hn6
  have hcc := cmap_any S a ca l (t ++ s) _ hl hts HNA.out
  go_wp2_with fail
  refine hcc.mono ?_
  rintro e y7 ⟨v7, rfl, hI7, hb1⟩
  clear hcc
  replace hl := hl.below hb1
  replace R6 := R6.below hb1
  replace hbW := hbW.trans (hb1.mono hbW.size)
  clear hb1
  rw [HEQ.out] at hI7
  obtain ⟨a7, c7, rfl, R7⟩ := hI7.slice
  rw [HN6.out]
  have hss := ssameI_any a7 a6 c7 c6 m3 _ R7 R6
  rw [HN6.out] at hss
  clear hI7
  go_wp2_with fail
  refine hss.mono ?_
  rintro e y8 ⟨rfl, hb1⟩
  clear hss R7
  replace hl := hl.below hb1
  replace R6 := R6.below hb1
  replace hbW := hbW.trans (hb1.mono hbW.size)
  clear hb1
  have hcc := cmap_any S a ca l t _ hl (by omega) HNA.out
  go_wp2_with fail
  refine hcc.mono ?_
  rintro e y9 ⟨v9, rfl, hI9, hb1⟩
  clear hcc
  replace hl := hl.below hb1
  replace R6 := R6.below hb1
  replace hbW := hbW.trans (hb1.mono hbW.size)
  clear hb1
  rw [HM1.out] at hI9
  obtain ⟨a9, c9, rfl, R9⟩ := hI9.slice
  rw [HLN.out]
  have hqq : ((rs.length : Int) == (rs.length : Int)) = true := by simp
  clear hI9 R9 R6
  go_wp2
  go_ret
  exact ⟨rfl, hbW⟩

end Go.Proofs.Ytgambbmonbhpnaa
