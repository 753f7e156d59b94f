/-
  A row of tables grows by one; foundrylaw05.plain, foundryref05.Formed: the walks.
-/
import Derived.Test.YtijehnfadpoapaaSR1
namespace Go.Proofs.Ytijehnfadpoapaa
open Go.RowKit Go.Maps
set_option linter.unusedSimpArgs false
set_option linter.unusedVariables false

theorem info_tab : (Try.prog.info? 65).map (fun i => (i.zero, i.size, i.bytes)) = some (some (.agg #[.string ⟨#[]⟩, .slice none 0 0]), 2, 40) := by kernel_rfl

theorem Rb.lt {w : World} {a : Option Addr} {cap : Nat} {xs : List Nat} (h : Rb w a cap xs) (hx : xs ≠ []) : ∀ b o, a = some ⟨b, o, none⟩ → b < w.heap.size := by
  intro b o e
  rcases h.2.2.2.2 with h0 | ⟨b', off, e', hb, _⟩
  · exact absurd h0 hx
  · rw [e'] at e
    cases e
    exact hb

/-- 'append(out, t)': t is laid in a block of its own first. -/
theorem wpList_append_tab {P : Program} {w : World} {ops : Array Oper} {rest : List Oper} {o : Oper} {a : Act} {Q : Exit → Act → World → Prop}
    (hgd : o.guard = none) (s x : Operand) (t : TypeId) (ho : o.op = .call { callee := .builtin .append, args := #[s, x], argTypes := #[t, t] })
    (base : Nat) (e : TypeId) (i : TypeInfo) (ht : P.underlying t = some (.slice e)) (hi : P.info? e = some i) (hz : i.zero = some (.agg #[.string ⟨#[]⟩, .slice none 0 0])) (hsize : i.size = 2) (hby : i.bytes = 40)
    (v : Value) (G : Nat → Prop) (l : List Tb) (hs : a.eval s = v) (hown : To e base G w v l)
    (g : Nat) (tb : Tb) (c0 : Option Addr) (c : Nat) (hx : a.eval x = .slice (some ⟨g, 0, none⟩) 1 1) (hc1 : w.cell? ⟨g, 0, none⟩ = some (.string tb.tx)) (hc2 : w.cell? ⟨g, 1, none⟩ = some (.slice c0 tb.bs.length c))
    (hsz : tb.tx.size ≤ maxLen) (hr : Rb w c0 c tb.bs) (hG : tb.bs ≠ [] → ∀ b o, c0 = some ⟨b, o, none⟩ → G b) (hlen : l.length + 1 ≤ 1000000) (hbase : base ≤ w.heap.size)
    (h : ∀ v' w', To e base G w' v' (l ++ [tb]) → w.grownBy w' v.ownBlock → (v'.ownBlock = v.ownBlock ∨ v'.ownBlock = some w.heap.size) → wpList P ops Q rest (a.put o.dst v') w') : wpList P ops Q (o :: rest) a w := by
  obtain ⟨h1, h2, xs, h3, h4⟩ := hown
  refine wpList_append_own_at w hgd s x t ho base e i (.agg #[.string ⟨#[]⟩, .slice none 0 0]) 2 40 ht hi hz hsize hby rfl (by decide) v l.length xs hs h3 ⟨g, 0, none⟩ 1 1 [.string tb.tx, .slice c0 tb.bs.length c] hx rfl ?_ ?_ (by unfold maxLen; omega) (by omega) hbase ?_
  · intro j u hj
    match j, hj with
    | 0, hj => simp at hj; subst hj; simpa [Addr.add] using hc1
    | 1, hj => simp at hj; subst hj; simpa [Addr.add] using hc2
  · intro u hu
    simp at hu
    rcases hu with rfl | rfl <;> rfl
  · intro v' w' k1 k2 _ k3
    have hK : Keep G w w' := (Keep.refl G w).grown k2 h1 (fun k hk => h2 k hk)
    refine h v' w' ⟨fun k hk => Nat.lt_of_lt_of_le (h1 k hk) hK.size, ?_, _, ?_, (h4.snoc tb c0 c hsz hr hG).kept hK⟩ k2 k3
    · intro k hk hGk
      rcases k3 with k3 | k3
      · exact h2 k (by rw [← k3]; exact hk) hGk
      · rw [k3] at hk
        have := h1 k hGk
        simp at hk
        omega
    · rw [List.length_append]
      exact k1

set_option maxHeartbeats 1000000 in
set_option maxRecDepth 100000 in
theorem plain5_any (a : Option Addr) (cap : Nat) (l : List Tb) (w : World) (h : Ts w a cap l) (hl : l.length ≤ 100000) :
    Calls Try.prog 13 #[.slice a l.length cap] w fun e w' => ∃ a' cap', e = .returned (.slice a' l.length cap') ∧ Ts w' a' cap' l ∧ Below w.heap.size w w' := by
  obtain ⟨i0, hi, hz0, hz1, hz2⟩ := info_parts info_tab
  have k1 := h.1
  have k2 := h.2.1
  unfold maxLen at k2
  go_enter Try.func13, Try.ntmps13
  go_wp2
  go_loopw [3, 4] (fun v i wr => ∃ k : Nat, k ≤ l.length ∧ i = .int .i64 k ∧ To 65 w.heap.size (· < w.heap.size) wr v (l.take k) ∧ Below w.heap.size w wr) (fun _ i _ => l.length - (intOf i).toNat)
  case atStart => exact ⟨0, Nat.zero_le _, rfl, To.nil _ _ _ _ (fun k hk => hk), Below.refl _ _⟩
  case round =>
    obtain ⟨k, hk, rfl, hT, hB⟩ := hrel
    obtain ⟨a2, c2, rfl, hts, hlo⟩ := hT.slice
    have hlen : (l.take k).length = k := by simp; omega
    rw [hlen] at hT ⊢
    have HT : Hid (To 65 w.heap.size (· < w.heap.size) wr (.slice a2 k c2) (l.take k)) := hT
    clear hT
    by_cases hkn : k < l.length
    · obtain ⟨b, off, c0, c, rfl, hb, d1, d2, hr⟩ := h.at hB k hkn
      obtain ⟨_, _, c0', c', e1, _, e3, e4, hr'⟩ := h.2.2.2 k hkn
      cases e1
      have e5 : some (Value.slice c0 (l.getD k Tb.none).bs.length c) = some (Value.slice c0' (l.getD k Tb.none).bs.length c') := by rw [← d2, ← e4]; exact hB.cell (p := ⟨b, off + k * 2 + 1, none⟩) hb
      cases e5
      have hG : (l.getD k Tb.none).bs ≠ [] → ∀ b o, c0 = some ⟨b, o, none⟩ → b < w.heap.size := hr'.lt
      have htx := h.tx hkn
      have hsn : l.take (k + 1) = l.take k ++ [l.getD k Tb.none] := by rw [List.take_succ_eq_append_getElem hkn]; simp [List.getD, hkn]
      have HSN : Hid (l.take (k + 1) = l.take k ++ [l.getD k Tb.none]) := hsn
      generalize hs : l.getD k Tb.none = s at *
      clear hsn hs e3 e4 hr' hts
      obtain ⟨tx, bs⟩ := s
      dsimp only at *
      have hT2 := HT.out.below (bl1 (.cells #[.string tx, .slice c0 bs.length c] 65))
      have hr2 := hr.below (bl1 (.cells #[.string tx, .slice c0 bs.length c] 65))
      go_wp2_with (at_builtin; refine wpList_append_tab rfl _ _ 30 rfl w.heap.size 65 i0 Try.underlying30 hi hz0 hz1 hz2 _ _ (l.take k) rfl hT2 wr.heap.size ⟨tx, bs⟩ c0 c rfl ?_ ?_ htx hr2 hG (by simp; omega) ?_ ?_)
      · have := hB.size
        simp
        omega
      · intro v' w2 hT3 hgrow hat
        have hB2 : Below w.heap.size w w2 := (hB.alloc hB.size _).grown hgrow (by have := hB.size; simp; omega) (fun k hk => (HT.out.lt hk).2)
        rw [← HSN.out] at hT3
        clear hgrow hat hT2 hr2
        go_wp2
        go_roundw
        case rel => exact ⟨k + 1, by omega, by go_num, hT3, hB2⟩
        case measure => simp [intOf]; omega
    · obtain rfl : k = l.length := by omega
      rw [List.take_length] at hts
      go_wp2
      go_ret
      exact ⟨a2, c2, rfl, hts, hB⟩

theorem Dis.iff {l : List Tb} : Dis l ↔ ∀ i j, i < j → j < l.length → (l.getD i Tb.none).tx ≠ (l.getD j Tb.none).tx := by
  unfold Dis
  rw [List.pairwise_iff_getElem]
  constructor
  · intro h i j hij hj
    have := h i j (by omega) hj hij
    simpa [List.getD, hj, show i < l.length by omega] using this
  · intro h i j hi hj hij
    have := h i j hij hj
    simpa [List.getD, hj, show i < l.length by omega] using this
theorem Frm.iff {l : List Tb} : Frm l ↔ (1 ≤ l.length ∧ l.length ≤ 32) ∧ ∀ j, j < l.length → (gd (sb (l.getD j Tb.none).tx) = true ∧ (l.getD j Tb.none).bs.length ≤ 1048576) ∧ ∀ i, i < j → (l.getD i Tb.none).tx ≠ (l.getD j Tb.none).tx := by
  unfold Frm
  rw [Dis.iff]
  constructor
  · rintro ⟨h1, h2, h3, h4⟩
    exact ⟨⟨h1, h2⟩, fun j hj => ⟨h3 _ (getD_mem hj), fun i hi => h4 i j hi hj⟩⟩
  · rintro ⟨⟨h1, h2⟩, h3⟩
    refine ⟨h1, h2, fun t ht => ?_, fun i j hij hj => (h3 j hj).2 i hij⟩
    obtain ⟨i, hi, e⟩ := List.getElem_of_mem ht
    have := (h3 i hi).1
    rw [List.getD_eq_getElem?_getD, List.getElem?_eq_getElem hi] at this
    simpa [e] using this

def frB (l : List Tb) : Bool := decide (1 ≤ l.length) && (decide (l.length ≤ 32) && (l.all (fun t => gd (sb t.tx) && decide (t.bs.length ≤ 1048576)) && decide (l.Pairwise (fun s t => s.tx ≠ t.tx))))
theorem frB_iff {l : List Tb} : frB l = true ↔ Frm l := by
  unfold frB Frm Dis
  simp
theorem frB_no {l : List Tb} (h : ¬ Frm l) : frB l = false := by
  rw [Bool.eq_false_iff]
  exact fun e => h (frB_iff.1 e)

set_option maxHeartbeats 1000000 in
set_option maxRecDepth 100000 in
theorem sformed_any (a : Option Addr) (cap : Nat) (l : List Tb) (w : World) (h : Ts w a cap l) :
    Calls Try.prog 20 #[.slice a l.length cap] w fun e w' => e = .returned (.bool (frB l)) ∧ Below w.heap.size w w' := by
  have k1 := h.1
  have k2 := h.2.1
  unfold maxLen at k2
  have HF : Hid (Frm l ↔ (1 ≤ l.length ∧ l.length ≤ 32) ∧ ∀ j, j < l.length → (gd (sb (l.getD j Tb.none).tx) = true ∧ (l.getD j Tb.none).bs.length ≤ 1048576) ∧ ∀ i, i < j → (l.getD i Tb.none).tx ≠ (l.getD j Tb.none).tx) := Frm.iff
  by_cases hn0 : l.length < 1
  · have g1 : ((l.length : Nat) : Int) < 1 := by omega
    go_enter Try.func20, Try.ntmps20
    go_wp2
    go_ret
    exact ⟨rt_bool (frB_no (fun hf => by have := (HF.out.1 hf).1.1; omega)).symm, Below.refl _ _⟩
  have g1 : ¬ ((l.length : Nat) : Int) < 1 := by omega
  by_cases hn1 : 32 < l.length
  · have g2 : 32 < ((l.length : Nat) : Int) := by omega
    go_enter Try.func20, Try.ntmps20
    go_wp2
    go_ret
    exact ⟨rt_bool (frB_no (fun hf => by have := (HF.out.1 hf).1.2; omega)).symm, Below.refl _ _⟩
  have g2 : ¬ 32 < ((l.length : Nat) : Int) := by omega
  go_enter Try.func20, Try.ntmps20
  go_wp2
  go_loopw [3] (fun i wr => ∃ k : Nat, k ≤ l.length ∧ i = .int .i64 k ∧ (∀ j, j < k → (gd (sb (l.getD j Tb.none).tx) = true ∧ (l.getD j Tb.none).bs.length ≤ 1048576) ∧ ∀ i, i < j → (l.getD i Tb.none).tx ≠ (l.getD j Tb.none).tx) ∧ Below w.heap.size w wr) (fun i _ => l.length - (intOf i).toNat)
  case atStart => exact ⟨0, Nat.zero_le _, rfl, fun j hj => by omega, Below.refl _ _⟩
  case round =>
    obtain ⟨k, hk, rfl, hok, hB⟩ := hrel
    have HOK : Hid (∀ j, j < k → (gd (sb (l.getD j Tb.none).tx) = true ∧ (l.getD j Tb.none).bs.length ≤ 1048576) ∧ ∀ i, i < j → (l.getD i Tb.none).tx ≠ (l.getD j Tb.none).tx) := hok
    clear hok
    by_cases hkn : k < l.length
    · obtain ⟨b, off, c0, c, rfl, hb, d1, d2, hr⟩ := h.at hB k hkn
      have htx := h.tx hkn
      have hle := hr.le
      have hcp := hr.cap
      unfold maxLen at hcp
      clear hr
      obtain ⟨s, hs⟩ : ∃ s, l.getD k Tb.none = s := ⟨_, rfl⟩
      rw [hs] at d1 d2 htx hle
      have HS : Hid (l.getD k Tb.none = s) := hs
      clear hs
      obtain ⟨tx, bs⟩ := s
      dsimp only at *
      by_cases hgd : gd (sb tx) = true
      rotate_left
      · have hgd : gd (sb tx) = false := by simpa using hgd
        go_wp2_with fail
        refine (sgood_any tx _ htx).mono ?_
        rintro e u ⟨rfl, rfl⟩
        rw [hgd]
        go_wp2
        go_ret
        refine ⟨rt_bool (frB_no (fun hf => ?_)).symm, hB⟩
        have := ((HF.out.1 hf).2 k hkn).1.1
        rw [HS.out, hgd] at this
        cases this
      by_cases hbl : 1048576 < bs.length
      · go_wp2_with fail
        refine (sgood_any tx _ htx).mono ?_
        rintro e u ⟨rfl, rfl⟩
        rw [hgd]
        have g3 : (1048576 : Int) < (bs.length : Int) := by omega
        go_wp2
        go_ret
        refine ⟨rt_bool (frB_no (fun hf => ?_)).symm, hB⟩
        have := ((HF.out.1 hf).2 k hkn).1.2
        rw [HS.out] at this
        dsimp only at this
        omega
      go_wp2_with fail
      refine (sgood_any tx _ htx).mono ?_
      rintro e u ⟨rfl, rfl⟩
      rw [hgd]
      have g3 : ¬ (1048576 : Int) < (bs.length : Int) := by omega
      go_wp2
      go_loopw [4] (fun i wr => ∃ m : Nat, m ≤ k ∧ i = .int .i64 m ∧ (∀ j, j < m → (l.getD j Tb.none).tx ≠ tx) ∧ Below w.heap.size w wr) (fun i _ => k - (intOf i).toNat)
      case atStart => exact ⟨0, Nat.zero_le _, rfl, fun j hj => by omega, hB⟩
      case round =>
        obtain ⟨m, hm, rfl, hmo, hB2⟩ := hrel
        have HMO : Hid (∀ j, j < m → (l.getD j Tb.none).tx ≠ tx) := hmo
        clear hmo
        by_cases hmk : m < k
        · obtain ⟨_, _, _, _, e1, _, d3, _, _⟩ := h.at hB2 m (by omega)
          cases e1
          obtain ⟨_, _, _, _, e1, _, d4, _, _⟩ := h.at hB2 k hkn
          cases e1
          rw [HS.out] at d4
          dsimp only at d4
          obtain ⟨s, hs⟩ : ∃ s, l.getD m Tb.none = s := ⟨_, rfl⟩
          rw [hs] at d3
          have HS2 : Hid (l.getD m Tb.none = s) := hs
          clear hs
          obtain ⟨ty, bt⟩ := s
          dsimp only at *
          have i1 : (0 : Int) ≤ (k : Int) := by omega
          have i2 : (k : Int) < (l.length : Int) := by omega
          have i3 : (0 : Int) ≤ (m : Int) := by omega
          have i4 : (m : Int) < (l.length : Int) := by omega
          by_cases hty : ty = tx
          · subst hty
            have hbq := teq_yes ty
            go_wp2_with fail
            go_quiet (fail)
            go_wp2
            go_ret
            refine ⟨rt_bool (frB_no (fun hf => ?_)).symm, below_drewN hB2 _⟩
            have := ((HF.out.1 hf).2 k hkn).2 m hmk
            rw [HS.out, HS2.out] at this
            exact this rfl
          · have hbq := teq_no hty
            have HN : Hid (∀ j, j < m + 1 → (l.getD j Tb.none).tx ≠ tx) := by
              show ∀ j, j < m + 1 → (l.getD j Tb.none).tx ≠ tx
              intro j hj
              rcases Nat.lt_or_ge j m with h1 | h1
              · exact HMO.out j h1
              · rw [show j = m by omega, HS2.out]; exact hty
            clear hty
            go_wp2_with fail
            go_quiet (fail)
            go_wp2
            go_roundw
            case rel => exact ⟨m + 1, by omega, by go_num, HN.out, below_drewN hB2 _⟩
            case measure => simp [intOf]; omega
        · obtain rfl : m = k := by omega
          go_wp2
          go_roundw
          case rel =>
            refine ⟨m + 1, by omega, by go_num, fun j hj => ?_, hB2⟩
            rcases Nat.lt_or_ge j m with h1 | h1
            · exact HOK.out j h1
            · rw [show j = m by omega, HS.out]
              exact ⟨⟨hgd, by dsimp only; omega⟩, HMO.out⟩
          case measure => simp [intOf]; omega
    · obtain rfl : k = l.length := by omega
      have hf : frB l = true := frB_iff.2 (HF.out.2 ⟨⟨by omega, by omega⟩, HOK.out⟩)
      go_wp2
      go_ret
      exact ⟨rt_bool hf.symm, hB⟩

end Go.Proofs.Ytijehnfadpoapaa
