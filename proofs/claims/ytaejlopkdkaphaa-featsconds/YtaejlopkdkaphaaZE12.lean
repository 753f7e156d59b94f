/-
  foundryref22.Holds, Looks, has: the walks.
  foundryref22.put, Chosen: the walks.
  foundryref06.SameInts: the walk.
  What a law is told of a slice of bytes, or of int32, that came in.
-/
import Derived.Test.YtaejlopkdkaphaaZE9
import Derived.Test.YtaejlopkdkaphaaZE10
import Derived.Test.YtaejlopkdkaphaaZE8
import Derived.BigQuiet
import Derived.Deep.QuietTactic
import Derived.WalkSmall
import Derived.Outline
import Derived.Test.YtaejlopkdkaphaaZE1
import Derived.ProofKit
namespace Go.Proofs.Ytaejlopkdkaphaa
open Go.RowKit Go.Maps
set_option linter.unusedSimpArgs false
set_option linter.unusedVariables false

set_option maxHeartbeats 4000000 in
set_option maxRecDepth 100000 in
theorem sholds22_any (S S2 : Nat → Prop) (b : Option Addr) (cb : Nat) (l : List Cn) (a : Option Addr) (ca : Nat) (cs : List Int) (w : World) (hl : Gr CnE S w b cb l) (hc : Gr El.int S2 w a ca cs) :
    Calls Try.prog 25 #[.slice b l.length cb, .slice a cs.length ca] w fun e w' => e = .returned (.bool (hoB cs l)) ∧ w = w' := by
  have kl := hl.lenB
  have kc := hc.lenB
  have HL : Hid (Gr CnE S w b cb l) := hl
  have HC : Hid (Gr El.int S2 w a ca cs) := hc
  clear hl hc
  go_enter Try.func25, Try.ntmps25
  go_wp2
  go_loopw [5] (fun i wr => ∃ k : Nat, k ≤ l.length ∧ i = .int .i64 k ∧ Hid (∀ j, j < k → hoC cs (l.getD j Cn.none) = true) ∧ wr = w) (fun i _ => l.length - (intOf i).toNat)
  case atStart => exact ⟨0, Nat.zero_le _, rfl, (fun j hj => by omega), rfl⟩
  case round =>
    obtain ⟨k, hk, rfl, HOK, rfl⟩ := hrel
    by_cases hkn : k < l.length
    · obtain ⟨b1, off, rfl, hb, ⟨m1, m2, m3⟩, d0, d1, d2⟩ := HL.out.cn (Below.refl _ _) k hkn
      have HBad : Hid (hoC cs (l.getD k Cn.none) = false → hoB cs l = false) := hoB_no hkn
      have HXX : Hid (∀ x, l.getD k Cn.none = x → hoC cs x = true → ∀ j, j < k + 1 → hoC cs (l.getD j Cn.none) = true) := fun x e h j hj => by
        rcases Nat.lt_or_ge j k with h1 | h1
        · exact HOK.out j h1
        · rw [show j = k by omega, e]; exact h
      obtain ⟨x, hx⟩ : ∃ x, l.getD k Cn.none = x := ⟨_, rfl⟩
      have HX2 : Hid (_) := HXX.out x hx
      rw [hx] at d0 d1 d2 m1 m2 m3 HBad
      clear hx HXX HOK
      obtain ⟨x1, x2, x3⟩ := x
      dsimp only at *
      have i1 : (0 : Int) ≤ (k : Int) := by omega
      have i2 : (k : Int) < (l.length : Int) := by omega
      by_cases h0 : 0 ≤ x1
      rotate_left
      · have HF : Hid (hoB cs l = false) := HBad.out (by unfold hoC; rw [decide_eq_false h0]; rfl)
        have g0 : x1 < 0 := by omega
        clear HBad HX2 h0
        go_wp2
        go_ret
        exact ⟨rt_bool HF.out.symm, rfl⟩
      have HQ : Hid (hoC cs ⟨x1, x2, x3⟩ = (decide (x2 ≤ cs.getD x1.toNat 0) && decide (cs.getD x1.toNat 0 ≤ x3))) := hoC_eq h0
      obtain ⟨q, rfl⟩ : ∃ q : Nat, x1 = (q : Int) := ⟨x1.toNat, by omega⟩
      rw [Int.toNat_natCast] at HQ
      have g0 : ¬ (q : Int) < 0 := by omega
      have i3 : (0 : Int) ≤ (q : Int) := by omega
      by_cases hq : q < cs.length
      · obtain ⟨b2, off2, rfl, hb2, hI, d4⟩ := HC.out.in1 (Below.refl _ _) q hq
        have g1 : (q : Int) < (cs.length : Int) := by omega
        obtain ⟨z, hz⟩ : ∃ z, cs.getD q 0 = z := ⟨_, rfl⟩
        rw [hz] at d4 HQ
        clear hz hI
        by_cases h1 : x2 ≤ z
        rotate_left
        · have HF : Hid (hoB cs l = false) := HBad.out (by rw [HQ.out, decide_eq_false h1]; rfl)
          have g2 : decide (z < x2) = true := decide_eq_true (by omega)
          clear HBad HX2 HQ h1
          go_wp2
          go_ret
          exact ⟨rt_bool HF.out.symm, rfl⟩
        have g2 : decide (z < x2) = false := decide_eq_false (by omega)
        by_cases h2 : z ≤ x3
        · have HOK2 : Hid (_) := HX2.out (by rw [HQ.out, decide_eq_true h1, decide_eq_true h2]; rfl)
          have g3 : decide (x3 < z) = false := decide_eq_false (by omega)
          clear HBad HX2 HQ h1 h2
          go_wp2
          go_roundw
          case rel => exact ⟨k + 1, by omega, by go_num, HOK2, trivial⟩
          case measure => simp [intOf]; omega
        · have HF : Hid (hoB cs l = false) := HBad.out (by rw [HQ.out, decide_eq_true h1, decide_eq_false h2]; rfl)
          have g3 : decide (x3 < z) = true := decide_eq_true (by omega)
          clear HBad HX2 HQ h1 h2
          go_wp2
          go_ret
          exact ⟨rt_bool HF.out.symm, rfl⟩
      · have g1 : ¬ (q : Int) < (cs.length : Int) := by omega
        have hz : cs.getD q 0 = 0 := by rw [List.getD_eq_getElem?_getD, List.getElem?_eq_none (by omega)]; rfl
        rw [hz] at HQ
        clear hz
        by_cases h1 : x2 ≤ 0
        rotate_left
        · have HF : Hid (hoB cs l = false) := HBad.out (by rw [HQ.out, decide_eq_false h1]; rfl)
          have g2 : decide (0 < x2) = true := decide_eq_true (by omega)
          clear HBad HX2 HQ h1
          go_wp2
          go_ret
          exact ⟨rt_bool HF.out.symm, rfl⟩
        have g2 : decide (0 < x2) = false := decide_eq_false (by omega)
        by_cases h2 : 0 ≤ x3
        · have HOK2 : Hid (_) := HX2.out (by rw [HQ.out, decide_eq_true h1, decide_eq_true h2]; rfl)
          have g3 : decide (x3 < 0) = false := decide_eq_false (by omega)
          clear HBad HX2 HQ h1 h2
          go_wp2
          go_roundw
          case rel => exact ⟨k + 1, by omega, by go_num, HOK2, trivial⟩
          case measure => simp [intOf]; omega
        · have HF : Hid (hoB cs l = false) := HBad.out (by rw [HQ.out, decide_eq_true h1, decide_eq_false h2]; rfl)
          have g3 : decide (x3 < 0) = true := decide_eq_true (by omega)
          clear HBad HX2 HQ h1 h2
          go_wp2
          go_ret
          exact ⟨rt_bool HF.out.symm, rfl⟩
    · have HF : Hid (hoB cs l = true) := hoB_iff.2 (fun j hj => HOK.out j (by omega))
      have g4 : ¬ (k : Int) < (l.length : Int) := by omega
      clear HOK
      go_wp2
      go_ret
      exact ⟨rt_bool HF.out.symm, rfl⟩

set_option maxHeartbeats 4000000 in
set_option maxRecDepth 100000 in
theorem slooks22_any (S : Nat → Prop) (a : Option Addr) (ca : Nat) (l : List Ft) (b : Option Addr) (cb : Nat) (sw : List Sw) (n : Int) (c : Option Addr) (cc : Nat) (cs : List Int) (w : World) (hl : Gr FtE S w a ca l) (hs : Gr SwE S w b cb sw) (hc : Gr El.int S w c cc cs) (hn : I64 n) (hb1 : ∀ f ∈ l, f.lk.length ≤ 1000) (hb2 : ∀ x ∈ sw, x.lk.length ≤ 1000) :
    Calls Try.prog 12 #[.slice a l.length ca, .slice b sw.length cb, .int .i64 n, .slice c cs.length cc] w fun e w' => RowF (lkQ l sw n cs) w.heap.size w' e ∧ Below w.heap.size w w' := by
  have kl := hl.lenB
  have ks := hs.lenB
  obtain ⟨hn0, hn1⟩ := hn
  have HL : Hid (Gr FtE S w a ca l) := hl
  have HS : Hid (Gr SwE S w b cb sw) := hs
  have HC : Hid (Gr El.int S w c cc cs) := hc
  have HB1 : Hid (∀ f ∈ l, f.lk.length ≤ 1000) := hb1
  have HB2 : Hid (∀ x ∈ sw, x.lk.length ≤ 1000) := hb2
  have hnil : Gi w.heap.size w (.slice none 0 0) [] := Gi.nil _ _
  have HNIL : Hid (_) := hnil
  clear hl hs hc hb1 hb2 hnil
  by_cases f1 : 0 ≤ n
  rotate_left
  · have HV : Hid (RowF (lkQ l sw n cs) w.heap.size w (.returned (.slice none 0 0))) := ⟨_, rfl, by rw [lkQ_out (fun h => f1 h.1)]; exact HNIL.out⟩
    have g1 : decide (n < 0) = true := decide_eq_true (by omega)
    clear f1
    go_enter Try.func12, Try.ntmps12
    go_wp2
    go_ret
    exact ⟨HV.out, Below.refl _ _⟩
  have g1 : decide (n < 0) = false := decide_eq_false (by omega)
  by_cases f2 : n < (l.length : Int)
  rotate_left
  · have HV : Hid (RowF (lkQ l sw n cs) w.heap.size w (.returned (.slice none 0 0))) := ⟨_, rfl, by rw [lkQ_out (fun h => f2 h.2)]; exact HNIL.out⟩
    have g2 : decide ((l.length : Int) ≤ n) = true := decide_eq_true (by omega)
    clear f1 f2
    go_enter Try.func12, Try.ntmps12
    go_wp2
    go_ret
    exact ⟨HV.out, Below.refl _ _⟩
  have g2 : decide ((l.length : Int) ≤ n) = false := decide_eq_false (by omega)
  have hn2 : 0 ≤ n ∧ n < (l.length : Int) := ⟨f1, f2⟩
  obtain ⟨m, rfl⟩ : ∃ m : Nat, n = (m : Int) := ⟨n.toNat, by omega⟩
  have HOWN : Hid (fsS cs (m : Int) sw = none → lkQ l sw (m : Int) cs = (l.getD m Ft.none).lk) := fun h => lkQ_own hn2 h
  have HSW : Hid (∀ x, fsS cs (m : Int) sw = some x → lkQ l sw (m : Int) cs = x) := fun x h => lkQ_sw hn2 h
  have hml : m < l.length := by omega
  have g3 : decide (l.length ≤ m) = false := decide_eq_false (by omega)
  clear hn2 f1 f2
  go_enter Try.func12, Try.ntmps12
  go_wp2
  clear g1 g2 g3
  go_loopw [10] (fun i wr => ∃ k : Nat, k ≤ sw.length ∧ i = .int .i64 k ∧ Hid (fsS cs (m : Int) sw = fsS cs (m : Int) (sw.drop k)) ∧ Below w.heap.size w wr) (fun i _ => sw.length - (intOf i).toNat)
  case atStart => exact ⟨0, Nat.zero_le _, rfl, (rfl : fsS cs (m : Int) sw = _), Below.refl _ _⟩
  case round =>
    obtain ⟨k, hk, rfl, HOK, hB⟩ := hrel
    by_cases hkn : k < sw.length
    · obtain ⟨b1, off, a1, c1, a2, c2, rfl, hb, hI, d0, d1, d2, hr1, hr2⟩ := HS.out.sw hB k hkn
      have HSK : Hid (¬ ((sw.getD k Sw.none).ft = (m : Int) ∧ hoB cs (sw.getD k Sw.none).cn = true) → fsS cs (m : Int) sw = fsS cs (m : Int) (sw.drop (k + 1))) := fun h => HOK.out.trans (fsS_skip hkn h)
      have HMT : Hid ((sw.getD k Sw.none).ft = (m : Int) ∧ hoB cs (sw.getD k Sw.none).cn = true → lkQ l sw (m : Int) cs = (sw.getD k Sw.none).lk) := fun h => HSW.out _ (HOK.out.trans (fsS_met hkn h))
      have hln := HB2.out _ (getF_mem (d := Sw.none) hkn)
      generalize sw.getD k Sw.none = x at *
      obtain ⟨cn, ft, lk⟩ := x
      dsimp only at *
      clear HOK
      have i1 : (0 : Int) ≤ (k : Int) := by omega
      have i2 : (k : Int) < (sw.length : Int) := by omega
      have hp := sholds22_any S S a1 c1 cn c cc cs wr (rowF_rep hr1).1 (HC.out.below hB)
      have HR2 : Hid (Gr El.int (fun k => False ∧ (Value.slice none 0 0).ownBlock ≠ some k) wr a2 c2 lk) := (rowF_rep hr2).1.anyF
      clear hr1 hr2
      by_cases hft : ft = (m : Int)
      rotate_left
      · have g0 : (ft == (m : Int)) = false := beq_eq_false_iff_ne.2 hft
        have HOK2 : Hid (_) := HSK.out (fun h => hft h.1)
        clear HSK HMT hp HR2 hft
        go_wp2
        go_roundw
        case rel => exact ⟨k + 1, by omega, by go_num, HOK2, hB⟩
        case measure => simp [intOf]; omega
      have g0 : (ft == (m : Int)) = true := beq_iff_eq.2 hft
      cases hh : hoB cs cn with
      | false =>
        rw [hh] at hp
        have HOK2 : Hid (_) := HSK.out (fun h => by rw [hh] at h; cases h.2)
        clear HSK HMT HR2 hh hft
        go_wp2_with fail
        refine hp.mono ?_
        rintro e u ⟨rfl, rfl⟩
        clear hp
        go_wp2
        go_roundw
        case rel => exact ⟨k + 1, by omega, by go_num, HOK2, hB⟩
        case measure => simp [intOf]; omega
      | true =>
        rw [hh] at hp
        have HE : Hid (lkQ l sw (m : Int) cs = lk) := HMT.out ⟨hft, hh⟩
        clear HSK HMT hh hft
        go_wp2_with fail
        refine hp.mono ?_
        rintro e u ⟨rfl, rfl⟩
        clear hp
        have hll : ([] : List Int).length + lk.length ≤ 1000000 := by simp; omega
        have hW := hB.size
        go_wp2_with (at_builtin; refine wpList_append_el (E := El.int) 26 3 Try.underlying26 info_i64F rfl (by decide) (by decide) rfl _ _ rfl w.heap.size (fun _ => False) _ [] rfl (Gi.nil _ _) _ _ _ lk rfl rfl HR2.out hll hW ?_)
        intro v1 w1 hT1 hgrow _
        have hB1 : Below w.heap.size w w1 := hB.grown hgrow hW (fun k hk => by simp [Value.ownBlock] at hk)
        have HV : Hid (RowF (lkQ l sw (m : Int) cs) w.heap.size w1 (.returned v1)) := ⟨v1, rfl, by rw [HE.out]; exact hT1⟩
        clear hgrow hT1 hll hW d0 d1 d2
        go_wp2
        go_ret
        exact ⟨HV.out, hB1⟩
    · have hks : k = sw.length := by omega
      have HE : Hid (lkQ l sw (m : Int) cs = (l.getD m Ft.none).lk) := HOWN.out (by rw [HOK.out, hks]; exact fsS_end)
      have g4 : ¬ (k : Int) < (sw.length : Int) := by omega
      obtain ⟨b1, off, a1, c1, rfl, hb, hsz, d0, d1, hr⟩ := HL.out.ft hB m hml
      have hln := HB1.out _ (getF_mem (d := Ft.none) hml)
      generalize l.getD m Ft.none = x at *
      obtain ⟨tg, lk⟩ := x
      dsimp only at *
      have i1 : (0 : Int) ≤ (m : Int) := by omega
      have i2 : (m : Int) < (l.length : Int) := by omega
      have HR2 : Hid (Gr El.int (fun k => False ∧ (Value.slice none 0 0).ownBlock ≠ some k) wr a1 c1 lk) := (rowF_rep hr).1.anyF
      have hll : ([] : List Int).length + lk.length ≤ 1000000 := by simp; omega
      have hW := hB.size
      clear HOK hks hr HOWN HSW
      go_wp2_with (at_builtin; refine wpList_append_el (E := El.int) 26 3 Try.underlying26 info_i64F rfl (by decide) (by decide) rfl _ _ rfl w.heap.size (fun _ => False) _ [] rfl (Gi.nil _ _) _ _ _ lk rfl rfl HR2.out hll hW ?_)
      intro v1 w1 hT1 hgrow _
      have hB1 : Below w.heap.size w w1 := hB.grown hgrow hW (fun k hk => by simp [Value.ownBlock] at hk)
      have HV : Hid (RowF (lkQ l sw (m : Int) cs) w.heap.size w1 (.returned v1)) := ⟨v1, rfl, by rw [HE.out]; exact hT1⟩
      clear hgrow hT1 hll hW d0 d1
      go_wp2
      go_ret
      exact ⟨HV.out, hB1⟩

set_option maxHeartbeats 2000000 in
set_option maxRecDepth 100000 in
theorem shas22_any (S : Nat → Prop) (a : Option Addr) (ca : Nat) (on : List ByteArray) (t : ByteArray) (w : World) (hl : Gr El.str S w a ca on) :
    Calls Try.prog 29 #[.slice a on.length ca, .string t] w fun e w' => e = .returned (.bool (hasT on t)) ∧ w = w' := by
  have kl := hl.lenB
  have HL : Hid (Gr El.str S w a ca on) := hl
  clear hl
  go_enter Try.func29, Try.ntmps29
  go_wp2
  go_loopw [5] (fun i wr => ∃ k : Nat, k ≤ on.length ∧ i = .int .i64 k ∧ Hid (∀ j, j < k → on.getD j ⟨#[]⟩ ≠ t) ∧ wr = w) (fun i _ => on.length - (inF i).toNat)
  case atStart => exact ⟨0, Nat.zero_le _, rfl, (fun j hj => by omega), rfl⟩
  case round =>
    obtain ⟨k, hk, rfl, HNO, rfl⟩ := hrel
    by_cases hkn : k < on.length
    · obtain ⟨b, off, rfl, hb, hW, d0⟩ := HL.out.st1 (Below.refl _ _) k hkn
      have HFA : Hid (on.getD k ⟨#[]⟩ = t → hasT on t = true) := hasT_at hkn
      have HN2 : Hid (on.getD k ⟨#[]⟩ ≠ t → ∀ j, j < k + 1 → on.getD j ⟨#[]⟩ ≠ t) := fun hn j hj => by
        rcases Nat.lt_or_ge j k with h1 | h1
        · exact HNO.out j h1
        · rw [show j = k by omega]; exact hn
      have i1 : (0 : Int) ≤ (k : Int) := by omega
      have i2 : (k : Int) < (on.length : Int) := by omega
      generalize on.getD k ⟨#[]⟩ = x at *
      by_cases htx : x = t
      · subst htx
        have HF : Hid (hasT on x = true) := HFA.out rfl
        clear HNO HN2 HFA
        go_wp2
        go_ret
        exact ⟨rt_bool HF.out.symm, rfl⟩
      · have hbq := teq_no (a := x) (b := t) htx
        have HNN : Hid (∀ j, j < k + 1 → on.getD j ⟨#[]⟩ ≠ t) := HN2.out htx
        clear HNO HN2 HFA htx
        go_wp2
        go_roundw
        case rel => exact ⟨k + 1, by omega, by go_num, HNN, trivial⟩
        case measure => simp [inF, Go.RowKit.intOf]; omega
    · have HF : Hid (hasT on t = false) := hasT_no (fun j hj => HNO.out j (by omega))
      have g4 : ¬ (k : Int) < (on.length : Int) := by omega
      clear HNO
      go_wp2
      go_ret
      exact ⟨rt_bool HF.out.symm, rfl⟩

end Go.Proofs.Ytaejlopkdkaphaa

namespace Go.Proofs.Ytaejlopkdkaphaa
open Go.RowKit Go.Maps
set_option linter.unusedSimpArgs false
set_option linter.unusedVariables false

theorem addF (b off q : Nat) : Option.map (fun (x : Addr) => x.add q) (some (⟨b, off, none⟩ : Addr)) = some ⟨b, off + q, none⟩ := by
  show some ((⟨b, off, none⟩ : Addr).add q) = _
  unfold Addr.add
  split <;> simp_all
theorem Gr.cutF {S : Nat → Prop} {w : World} {a : Option Addr} {cap : Nat} {l : List Int} (h : Gr El.int S w a cap l) (n : Nat) (hn : n ≤ l.length) : Gr El.int S w (if cap = n then a else a.map (fun x => x.add n)) (cap - n) (l.drop n) := by
  by_cases h0 : n < l.length
  · obtain ⟨b, off, e, hb⟩ := h.blk (fun e => by rw [e] at h0; simp at h0)
    subst e
    have := h.1
    rw [if_neg (by omega)]
    have hadd : (⟨b, off, none⟩ : Addr).add n = ⟨b, off + n * El.int.sz, none⟩ := by
      show _ = (⟨b, off + n * 1, none⟩ : Addr)
      rw [Nat.mul_one]
      unfold Addr.add
      split <;> simp_all
    show Gr El.int S w (some ((⟨b, off, none⟩ : Addr).add n)) _ _
    rw [hadd]
    exact h.from n hn
  · have e : l.drop n = [] := List.drop_eq_nil_of_le (by omega)
    rw [e]
    refine Gr.nil _ _ _ _ _ (Nat.le_trans (Nat.sub_le _ _) h.2.1) (fun e2 => ?_)
    by_cases hc : cap = n
    · omega
    · rw [if_neg hc] at e2
      have := h.2.2.1 (by cases a with | none => rfl | some x => cases e2)
      omega

theorem puT_len (n : Int) : ∀ l : List Int, (puT n l).length ≤ l.length + 1 := by
  intro l
  induction l with
  | nil => simp [puT]
  | cons x t ih =>
    rw [puT]
    split
    · simp only [List.length_cons]; omega
    · split <;> simp only [List.length_cons] <;> omega

set_option maxHeartbeats 4000000 in
set_option maxRecDepth 100000 in
theorem sput22_any (S : Nat → Prop) (a : Option Addr) (ca : Nat) (L : List Int) (n : Int) (w : World) (hl : Gr El.int S w a ca L) (hn : I64 n) (hL : L.length ≤ 400000) :
    Calls Try.prog 30 #[.slice a L.length ca, .int .i64 n] w fun e w' => RowF (puT n L) w.heap.size w' e ∧ Below w.heap.size w w' := by
  have kl := hl.lenB
  have HN : Hid (I64 n) := hn
  have HL : Hid (Gr El.int S w a ca L) := hl
  have HPU : Hid (∀ k, k ≤ L.length → (∀ j, j < k → L.getD j 0 < n) → (k < L.length → ¬ L.getD k 0 < n) → puT n L = L.take k ++ n :: L.drop (if k < L.length ∧ L.getD k 0 = n then k + 1 else k)) := fun k h1 h2 h3 => puT_at h1 h2 h3
  clear hl hn
  go_enter Try.func30, Try.ntmps30
  go_upto_block 0 with fail
  go_cut [5, 6] from 7 to 27 (fun s5 s6 wx => ∃ (k : Nat) (P : List Int), s6 = .int .i64 (k : Int) ∧ k ≤ L.length ∧ Hid (∀ j, j < k → L.getD j 0 < n) ∧ Hid (k < L.length → ¬ L.getD k 0 < n) ∧ Hid (P = L.take k) ∧ Hid (Gi w.heap.size wx s5 P) ∧ Below w.heap.size w wx)
  case first =>
    go_wp2_with fail
    go_loopw [5, 6] (fun v i wr => ∃ (k : Nat) (P : List Int), k ≤ L.length ∧ i = .int .i64 (k : Int) ∧ Hid (∀ j, j < k → L.getD j 0 < n) ∧ Hid (P = L.take k) ∧ Hid (Gi w.heap.size wr v P) ∧ Below w.heap.size w wr) (fun _ i _ => L.length - (intOf i).toNat)
    case atStart => exact ⟨0, [], Nat.zero_le _, rfl, (fun j hj => by omega), (rfl : [] = L.take 0), Gi.nil _ _, Below.refl _ _⟩
    case round =>
      obtain ⟨k, P, hk, rfl, HLE, HP, hGw, hB⟩ := hrel
      by_cases hkn : k < L.length
      rotate_left
      · have g1 : decide ((k : Int) < (L.length : Int)) = false := decide_eq_false (by omega)
        have g2 : ¬ (k : Int) < (L.length : Int) := by omega
        have HNX : Hid (k < L.length → ¬ L.getD k 0 < n) := fun h => absurd h hkn
        clear hkn
        go_wp2_with fail
        go_meet
        exact ⟨k, P, rfl, hk, HLE, HNX, HP, hGw, hB⟩
      have g1 : decide ((k : Int) < (L.length : Int)) = true := decide_eq_true (by omega)
      obtain ⟨b, off, rfl, hb, hI, d0⟩ := HL.out.in1 hB k hkn
      have i1 : (0 : Int) ≤ (k : Int) := by omega
      have i2 : (k : Int) < (L.length : Int) := by omega
      by_cases hlt : L.getD k 0 < n
      rotate_left
      · have HNX : Hid (k < L.length → ¬ L.getD k 0 < n) := fun _ => hlt
        generalize L.getD k 0 = x at d0 hI hlt
        have g2 : decide (x < n) = false := decide_eq_false hlt
        clear hkn hlt
        go_wp2_with fail
        go_meet
        exact ⟨k, P, rfl, hk, HLE, HNX, HP, hGw, hB⟩
      have HLE2 : Hid (∀ j, j < k + 1 → L.getD j 0 < n) := fun j hj => by
        rcases Nat.lt_or_ge j k with h1 | h1
        · exact HLE.out j h1
        · rw [show j = k by omega]; exact hlt
      have HSN : Hid (P ++ [L.getD k 0] = L.take (k + 1)) := by show _ = _; rw [HP.out, take_snocF (d := (0 : Int)) hkn]
      have hpl : P.length ≤ 400000 := by rw [HP.out, List.length_take]; omega
      generalize L.getD k 0 = x at d0 hI hlt HSN
      have g2 : decide (x < n) = true := decide_eq_true hlt
      obtain ⟨va, vc, rfl, -, -⟩ := hGw.out.slice
      obtain ⟨V9, hV9, Y9, hb9⟩ : ∃ V, V = wr.alloc (.cells #[.int .i64 x] 3) ∧ Bk 3 V wr.heap.size [.int .i64 x] ∧ Below wr.heap.size wr V := ⟨_, rfl, Bk.new _ _ _, bl1 _⟩
      have hGb := hGw.out.below hb9
      have hBb := hB.trans (hb9.mono hB.size)
      have hbs : w.heap.size ≤ V9.heap.size := hBb.size
      have hll : P.length + 1 ≤ 1000000 := by omega
      have hlt9 := Y9.lt
      have y0 : V9.cell? ⟨wr.heap.size, 0, none⟩ = some (.int .i64 x) := Y9.cell 0 (by simp)
      have HLO : Hid (∀ q, (Value.slice va P.length vc).ownBlock = some q → w.heap.size ≤ q) := fun q hq => (hGw.out.lo hq).1
      clear HLE HP hGw hkn hlt hpl
      go_wp2_with (at_builtin; rw [← hV9]; refine wpList_append_gi rfl _ _ rfl w.heap.size _ P rfl hGb wr.heap.size x rfl hlt9 y0 hI hll hbs ?_)
      intro v9 w9 hT9 hgrow _
      rw [← hV9] at hgrow
      have HT9 : Hid (Gi w.heap.size w9 v9 (P ++ [x])) := hT9
      have hB9 : Below w.heap.size w w9 := hBb.grown hgrow hBb.size (fun q hq => HLO.out q hq)
      clear hT9 hgrow hGb hbs hll hBb hV9 Y9 d0 hB y0 hlt9 hb9 g2
      go_wp2
      go_roundw
      case rel => exact ⟨k + 1, P ++ [x], by omega, by go_num, HLE2, HSN, HT9, hB9⟩
      case measure => simp [intOf]; omega
  case rest =>
  obtain ⟨k, P, rfl, hk, HLE, HNX, HP, hGw, hB⟩ := hcut
  have HF : Hid (_) := HPU.out k hk HLE.out HNX.out
  rw [← HP.out] at HF
  have hpl : P.length ≤ 400000 := by rw [HP.out, List.length_take]; omega
  obtain ⟨va, vc, rfl, -, -⟩ := hGw.out.slice
  obtain ⟨V9, hV9, Y9, hb9⟩ : ∃ V, V = wc.alloc (.cells #[.int .i64 n] 3) ∧ Bk 3 V wc.heap.size [.int .i64 n] ∧ Below wc.heap.size wc V := ⟨_, rfl, Bk.new _ _ _, bl1 _⟩
  have hGb := hGw.out.below hb9
  have hBb := hB.trans (hb9.mono hB.size)
  have hbs : w.heap.size ≤ V9.heap.size := hBb.size
  have hll : P.length + 1 ≤ 1000000 := by omega
  have hlt9 := Y9.lt
  have y0 : V9.cell? ⟨wc.heap.size, 0, none⟩ = some (.int .i64 n) := Y9.cell 0 (by simp)
  have HLO : Hid (∀ q, (Value.slice va P.length vc).ownBlock = some q → w.heap.size ≤ q) := fun q hq => (hGw.out.lo hq).1
  have hnn := HN.out
  clear HLE HP hGw HPU HNX
  go_wp2_with (at_builtin; rw [← hV9]; refine wpList_append_gi rfl _ _ rfl w.heap.size _ P rfl hGb wc.heap.size n rfl hlt9 y0 hnn hll hbs ?_)
  intro v2 w2 hT9 hgrow _
  rw [← hV9] at hgrow
  have hB2 : Below w.heap.size w w2 := hBb.grown hgrow hBb.size (fun q hq => HLO.out q hq)
  clear hgrow hGb hbs hll hBb hV9 Y9 hB y0 hlt9 hb9 hnn HLO
  have HF2 : Hid (puT n L = (P ++ [n]) ++ L.drop (if k < L.length ∧ L.getD k 0 = n then k + 1 else k)) := by show _ = _; rw [HF.out, List.append_assoc]; rfl
  have hrl : (P ++ [n]).length ≤ 400001 := by rw [List.length_append]; simp; omega
  generalize P ++ [n] = R at hT9 HF2 hrl
  obtain ⟨a2, c2, rfl, -, -⟩ := hT9.slice
  have HT2 : Hid (Gi w.heap.size w2 (.slice a2 R.length c2) R) := hT9
  clear hT9 HF hpl
  by_cases hkn : k < L.length
  rotate_left
  · rw [if_neg (fun h => hkn h.1)] at HF2
    have g1 : decide ((k : Int) < (L.length : Int)) = false := decide_eq_false (by omega)
    have g1n : decide (k < L.length) = false := decide_eq_false hkn
    have hqL : k ≤ L.length := hk
    clear hkn
    have HQ : Hid (Gr El.int (fun k9 => False ∧ (Value.slice a2 R.length c2).ownBlock ≠ some k9) w2 (if ca = k then a else Option.map (fun (x : Addr) => x.add k) a) (ca - k) (L.drop k)) := ((HL.out.below hB2).cutF k hqL).anyF
    have hlen3 : (L.drop k).length ≤ 400000 := by rw [List.length_drop]; omega
    have HLD : Hid (L.length - k = (L.drop k).length) := by show _ = _; rw [List.length_drop]
    have hqc : k ≤ ca := Nat.le_trans hqL HL.out.1
    obtain ⟨D, hD⟩ : ∃ D, L.drop k = D := ⟨_, rfl⟩
    rw [hD] at HQ hlen3 HLD HF2
    have hll3 : R.length + D.length ≤ 1000000 := by omega
    have hW2 := hB2.size
    clear hD
    by_cases hc : ca = k
    · subst hc
      rw [if_pos rfl, Nat.sub_self] at HQ
      have HLD0 : Hid (0 = D.length) := by have := HLD.out; have := HL.out.1; show _ = _; omega
      go_wp2_with (at_builtin; refine wpList_append_el (E := El.int) 26 3 Try.underlying26 info_i64F rfl (by decide) (by decide) rfl _ _ rfl w.heap.size (fun _ => False) _ R rfl HT2.out _ _ _ D HLD.out rfl HQ.out hll3 hW2 ?_)
      intro v3 w3 hT3 hgrow _
      have hB3 : Below w.heap.size w w3 := hB2.grown hgrow hW2 (fun k9 hk => (HT2.out.lo hk).1)
      have HV : Hid (RowF (puT n L) w.heap.size w3 (.returned v3)) := ⟨v3, rfl, by rw [HF2.out]; exact hT3⟩
      clear hgrow hT3 hll3 hW2
      go_wp2
      go_ret
      exact ⟨HV.out, hB3⟩
    · rw [if_neg hc] at HQ
      go_wp2_with (at_builtin; refine wpList_append_el (E := El.int) 26 3 Try.underlying26 info_i64F rfl (by decide) (by decide) rfl _ _ rfl w.heap.size (fun _ => False) _ R rfl HT2.out _ _ _ D HLD.out rfl HQ.out hll3 hW2 ?_)
      intro v3 w3 hT3 hgrow _
      have hB3 : Below w.heap.size w w3 := hB2.grown hgrow hW2 (fun k9 hk => (HT2.out.lo hk).1)
      have HV : Hid (RowF (puT n L) w.heap.size w3 (.returned v3)) := ⟨v3, rfl, by rw [HF2.out]; exact hT3⟩
      clear hgrow hT3 hll3 hW2
      go_wp2
      go_ret
      exact ⟨HV.out, hB3⟩
  have g1 : decide ((k : Int) < (L.length : Int)) = true := decide_eq_true (by omega)
  have g1n : decide (k < L.length) = true := decide_eq_true hkn
  obtain ⟨b, off, rfl, hb, hI, d0⟩ := HL.out.in1 hB2 k hkn
  have i1 : (0 : Int) ≤ (k : Int) := by omega
  have i2 : (k : Int) < (L.length : Int) := by omega
  by_cases heq : L.getD k 0 = n
  · rw [if_pos ⟨hkn, heq⟩] at HF2
    rw [heq] at d0
    have hqL : k + 1 ≤ L.length := hkn
    clear hkn heq
    obtain ⟨q, hq⟩ : ∃ q : Nat, k + 1 = q := ⟨_, rfl⟩
    have hqi : (k : Int) + 1 = (q : Int) := by omega
    rw [hq] at HF2 hqL
    go_upto_region 9 with fail
    try rw [hqi]
    clear hq hqi d0
    clear g1 g1n
    have HQ : Hid (Gr El.int (fun k => False ∧ (Value.slice a2 R.length c2).ownBlock ≠ some k) w2 (if ca = q then (some (⟨b, off, none⟩ : Addr)) else Option.map (fun (x : Addr) => x.add q) (some (⟨b, off, none⟩ : Addr))) (ca - q) (L.drop q)) := ((HL.out.below hB2).cutF q hqL).anyF
    have hlen3 : (L.drop q).length ≤ 400000 := by rw [List.length_drop]; omega
    have HLD : Hid (L.length - q = (L.drop q).length) := by show _ = _; rw [List.length_drop]
    have hqc : q ≤ ca := Nat.le_trans hqL HL.out.1
    obtain ⟨D, hD⟩ : ∃ D, L.drop q = D := ⟨_, rfl⟩
    rw [hD] at HQ hlen3 HLD HF2
    have hll3 : R.length + D.length ≤ 1000000 := by omega
    have hW2 := hB2.size
    clear hD
    by_cases hc : ca = q
    · subst hc
      rw [if_pos rfl, Nat.sub_self] at HQ
      have HLD0 : Hid (0 = D.length) := by have := HLD.out; have := HL.out.1; show _ = _; omega
      go_wp2_with (at_builtin; refine wpList_append_el (E := El.int) 26 3 Try.underlying26 info_i64F rfl (by decide) (by decide) rfl _ _ rfl w.heap.size (fun _ => False) _ R rfl HT2.out _ _ _ D HLD.out rfl HQ.out hll3 hW2 ?_)
      intro v3 w3 hT3 hgrow _
      have hB3 : Below w.heap.size w w3 := hB2.grown hgrow hW2 (fun k hk => (HT2.out.lo hk).1)
      have HV : Hid (RowF (puT n L) w.heap.size w3 (.returned v3)) := ⟨v3, rfl, by rw [HF2.out]; exact hT3⟩
      clear hgrow hT3 hll3 hW2
      go_wp2
      go_ret
      exact ⟨HV.out, hB3⟩
    · rw [if_neg hc, addF] at HQ
      go_wp2_with (at_builtin; refine wpList_append_el (E := El.int) 26 3 Try.underlying26 info_i64F rfl (by decide) (by decide) rfl _ _ rfl w.heap.size (fun _ => False) _ R rfl HT2.out _ _ _ D HLD.out rfl HQ.out hll3 hW2 ?_)
      intro v3 w3 hT3 hgrow _
      have hB3 : Below w.heap.size w w3 := hB2.grown hgrow hW2 (fun k hk => (HT2.out.lo hk).1)
      have HV : Hid (RowF (puT n L) w.heap.size w3 (.returned v3)) := ⟨v3, rfl, by rw [HF2.out]; exact hT3⟩
      clear hgrow hT3 hll3 hW2
      go_wp2
      go_ret
      exact ⟨HV.out, hB3⟩
  · rw [if_neg (fun h => heq h.2)] at HF2
    have hqL : k ≤ L.length := hk
    generalize L.getD k 0 = x at d0 heq
    have g2 : (x == n) = false := beq_eq_false_iff_ne.2 heq
    clear hkn heq hI
    clear hb
    have HQ : Hid (Gr El.int (fun k9 => False ∧ (Value.slice a2 R.length c2).ownBlock ≠ some k9) w2 (if ca = k then (some (⟨b, off, none⟩ : Addr)) else Option.map (fun (x : Addr) => x.add k) (some (⟨b, off, none⟩ : Addr))) (ca - k) (L.drop k)) := ((HL.out.below hB2).cutF k hqL).anyF
    have hlen3 : (L.drop k).length ≤ 400000 := by rw [List.length_drop]; omega
    have HLD : Hid (L.length - k = (L.drop k).length) := by show _ = _; rw [List.length_drop]
    have hqc : k ≤ ca := Nat.le_trans hqL HL.out.1
    obtain ⟨D, hD⟩ : ∃ D, L.drop k = D := ⟨_, rfl⟩
    rw [hD] at HQ hlen3 HLD HF2
    have hll3 : R.length + D.length ≤ 1000000 := by omega
    have hW2 := hB2.size
    clear hD
    by_cases hc : ca = k
    · subst hc
      rw [if_pos rfl, Nat.sub_self] at HQ
      have HLD0 : Hid (0 = D.length) := by have := HLD.out; have := HL.out.1; show _ = _; omega
      go_wp2_with (at_builtin; refine wpList_append_el (E := El.int) 26 3 Try.underlying26 info_i64F rfl (by decide) (by decide) rfl _ _ rfl w.heap.size (fun _ => False) _ R rfl HT2.out _ _ _ D HLD.out rfl HQ.out hll3 hW2 ?_)
      intro v3 w3 hT3 hgrow _
      have hB3 : Below w.heap.size w w3 := hB2.grown hgrow hW2 (fun k9 hk => (HT2.out.lo hk).1)
      have HV : Hid (RowF (puT n L) w.heap.size w3 (.returned v3)) := ⟨v3, rfl, by rw [HF2.out]; exact hT3⟩
      clear hgrow hT3 hll3 hW2
      go_wp2
      go_ret
      exact ⟨HV.out, hB3⟩
    · rw [if_neg hc, addF] at HQ
      go_wp2_with (at_builtin; refine wpList_append_el (E := El.int) 26 3 Try.underlying26 info_i64F rfl (by decide) (by decide) rfl _ _ rfl w.heap.size (fun _ => False) _ R rfl HT2.out _ _ _ D HLD.out rfl HQ.out hll3 hW2 ?_)
      intro v3 w3 hT3 hgrow _
      have hB3 : Below w.heap.size w w3 := hB2.grown hgrow hW2 (fun k9 hk => (HT2.out.lo hk).1)
      have HV : Hid (RowF (puT n L) w.heap.size w3 (.returned v3)) := ⟨v3, rfl, by rw [HF2.out]; exact hT3⟩
      clear hgrow hT3 hll3 hW2
      go_wp2
      go_ret
      exact ⟨HV.out, hB3⟩

set_option maxHeartbeats 4000000 in
set_option maxRecDepth 100000 in
theorem schosen22_any (S : Nat → Prop) (a : Option Addr) (ca : Nat) (l : List Ft) (b : Option Addr) (cb : Nat) (sw : List Sw) (c : Option Addr) (cc : Nat) (cs : List Int) (d : Option Addr) (cd : Nat) (on : List ByteArray) (w : World) (hl : Gr FtE S w a ca l) (hs : Gr SwE S w b cb sw) (hc : Gr El.int S w c cc cs) (ho : Gr El.str S w d cd on) (hb1 : ∀ f ∈ l, f.lk.length ≤ 1000) (hb2 : ∀ x ∈ sw, x.lk.length ≤ 1000) (hll : l.length ≤ 300) :
    Calls Try.prog 14 #[.slice a l.length ca, .slice b sw.length cb, .slice c cs.length cc, .slice d on.length cd] w fun e w' => RowF (chFt l sw cs on) w.heap.size w' e ∧ Below w.heap.size w w' := by
  have kl := hl.lenB
  have ks := hs.lenB
  have kc := hc.lenB
  have ko := ho.lenB
  have HL : Hid (Gr FtE S w a ca l) := hl
  have HS : Hid (Gr SwE S w b cb sw) := hs
  have HC : Hid (Gr El.int S w c cc cs) := hc
  have HO : Hid (Gr El.str S w d cd on) := ho
  have HB1 : Hid (∀ f ∈ l, f.lk.length ≤ 1000) := hb1
  have HB2 : Hid (∀ x ∈ sw, x.lk.length ≤ 1000) := hb2
  have HLN : Hid (∀ n, (lkQ l sw n cs).length ≤ 1000) := fun n => lkQ_all (p := fun x => x.length ≤ 1000) (by simp) hb1 hb2
  have HFIN : Hid (chFt l sw cs on = chT l sw cs on l.length) := rfl
  clear hl hs hc ho hb1 hb2
  go_enter Try.func14, Try.ntmps14
  go_wp2
  go_loopw [9, 10] (fun v i wr => ∃ (k : Nat) (M : List Int), k ≤ l.length ∧ i = .int .i64 (k : Int) ∧ Hid (M = chT l sw cs on k) ∧ M.length ≤ 1000 * k ∧ Hid (Gi w.heap.size wr v M) ∧ Below w.heap.size w wr) (fun _ i _ => l.length - (inF i).toNat)
  case atStart => exact ⟨0, [], Nat.zero_le _, rfl, (rfl : [] = chT l sw cs on 0), Nat.zero_le _, Gi.nil _ _, Below.refl _ _⟩
  case round =>
    obtain ⟨k, M, hk, rfl, HM, hml, hGw, hB⟩ := hrel
    obtain ⟨va, vc, rfl, -, -⟩ := hGw.out.slice
    by_cases hkn : k < l.length
    · obtain ⟨b1, off, a1, c1, ea, hb, hsz, d0, d1, hr⟩ := HL.out.ft hB k hkn
      have HT : Hid (chT l sw cs on (k + 1) = if hasT on (l.getD k Ft.none).tg then adT M (lkQ l sw (k : Int) cs) else M) := by show _ = _; rw [HM.out]; rfl
      have i1 : (0 : Int) ≤ (k : Int) := by omega
      have i2 : (k : Int) < (l.length : Int) := by omega
      generalize l.getD k Ft.none = x at *
      obtain ⟨tg, lk⟩ := x
      dsimp only at *
      have hco := shas22_any S d cd on tg wr (HO.out.below hB)
      have hlo := slooks22_any S a ca l b cb sw (k : Int) c cc cs wr (HL.out.below hB) (HS.out.below hB) (HC.out.below hB) ⟨by omega, by omega⟩ HB1.out HB2.out
      subst ea
      clear hr hsz HM
      cases hh : hasT on tg with
      | false =>
        rw [hh] at hco HT
        rw [if_neg (by decide)] at HT
        have HT2 : Hid (M = chT l sw cs on (k + 1)) := HT.out.symm
        clear HT hlo hh
        go_wp2_with fail
        refine hco.mono ?_
        rintro e u ⟨rfl, rfl⟩
        clear hco
        go_wp2
        go_roundw
        case rel => exact ⟨k + 1, M, by omega, by go_num, HT2, by omega, hGw, hB⟩
        case measure => simp [inF, Go.RowKit.intOf]; omega
      | true =>
        rw [hh] at hco HT
        rw [if_pos rfl] at HT
        clear hh
        go_wp2_with fail
        refine hco.mono ?_
        rintro e u ⟨rfl, rfl⟩
        clear hco
        go_wp2_with fail
        refine hlo.mono ?_
        rintro e u2 ⟨hrow, hb3⟩
        obtain ⟨v, rfl, hG⟩ := hrow.out
        have hxl := HLN.out (k : Int)
        have hg2 := hGw.out.below hb3
        replace hB := hB.trans (hb3.mono hB.size)
        obtain ⟨X, hX⟩ : ∃ X, lkQ l sw (k : Int) cs = X := ⟨_, rfl⟩
        rw [hX] at hG hxl HT
        obtain ⟨a2, c2, rfl, hgr, -⟩ := Gw.slice hG
        have HX : Hid (Gr El.int (fun _ => False) u2 a2 c2 X) := hgr
        have HG0 : Hid (Gi w.heap.size u2 (.slice va M.length vc) M) := hg2
        have HB0 : Hid (Below w.heap.size w u2) := hB
        have HAS : Hid (∀ j, j < X.length → adT M (X.take (j + 1)) = puT (X.getD j 0) (adT M (X.take j))) := fun j hj => adT_succ hj
        clear hlo hb3 hG hrow hX hgr hg2 hB hGw d0 d1
        have HA0 : Hid (M = adT M (X.take 0)) := rfl
        go_wp2
        go_loopw [9, 12] (fun v i wr2 => ∃ (j : Nat) (R : List Int), j ≤ X.length ∧ i = .int .i64 (j : Int) ∧ Hid (R = adT M (X.take j)) ∧ R.length ≤ 1000 * k + j ∧ Hid (Gi w.heap.size wr2 v R) ∧ Below u2.heap.size u2 wr2 ∧ Below w.heap.size w wr2) (fun _ i _ => X.length - (inF i).toNat)
        case atStart => exact ⟨0, M, Nat.zero_le _, rfl, HA0, by omega, HG0, Below.refl _ _, HB0.out⟩
        case round =>
          clear HG0 HB0 HA0
          rename World => wy
          obtain ⟨j, R, hj, rfl, HR, hrl, hGw, hX, hB⟩ := hrel
          obtain ⟨va2, vc2, rfl, hgr, -⟩ := Gw.slice hGw.out
          by_cases hjn : j < X.length
          · obtain ⟨b4, o4, ea, hb4, hI, d4⟩ := HX.out.in1 hX j hjn
            have HRN : Hid (puT (X.getD j 0) R = adT M (X.take (j + 1))) := by show _ = _; rw [HAS.out j hjn, HR.out]
            have hpl := puT_len (X.getD j 0) R
            generalize X.getD j 0 = z at d4 hI HRN hpl
            subst ea
            have i3 : (0 : Int) ≤ (j : Int) := by omega
            have i4 : (j : Int) < (X.length : Int) := by omega
            have hsp := sput22_any _ va2 vc2 R z wy hgr hI (by omega)
            clear HR hGw hgr hI
            go_wp2_with fail
            refine hsp.mono ?_
            rintro e u3 ⟨hrow, hb5⟩
            obtain ⟨v, rfl, hG⟩ := hrow.out
            have HG5 : Hid (Gi w.heap.size u3 v (puT z R)) := hG.lowF hB.size
            have hX5 := hX.trans (hb5.mono hX.size)
            have hB5 := hB.trans (hb5.mono hB.size)
            clear hsp hrow hb5 hG hX hB d4
            go_wp2
            go_roundw
            case rel => exact ⟨j + 1, puT z R, by omega, by go_num, HRN, by omega, HG5, hX5, hB5⟩
            case measure => simp [inF, Go.RowKit.intOf]; omega
          · have HT2 : Hid (R = chT l sw cs on (k + 1)) := by show _ = _; rw [HT.out, HR.out, show j = X.length by omega, List.take_length]
            have g4 : ¬ (j : Int) < (X.length : Int) := by omega
            clear HT HR hgr
            go_wp2
            go_roundw
            case rel => exact ⟨k + 1, R, by omega, by go_num, HT2, by omega, hGw, hB⟩
            case measure => simp [inF, Go.RowKit.intOf]; omega
    · obtain rfl : k = l.length := by omega
      have g4 : ¬ (l.length : Int) < (l.length : Int) := by omega
      have HV : Hid (RowF (chFt l sw cs on) w.heap.size wr (.returned (.slice va M.length vc))) := ⟨_, rfl, by rw [HFIN.out, ← HM.out]; exact hGw.out⟩
      clear hGw HM
      go_wp2
      go_ret
      exact ⟨HV.out, hB⟩

end Go.Proofs.Ytaejlopkdkaphaa

namespace Go.Proofs.Ytaejlopkdkaphaa
open Go.RowKit Go.Maps
set_option linter.unusedSimpArgs false
set_option linter.unusedVariables false

set_option maxHeartbeats 1000000 in
set_option maxRecDepth 100000 in
theorem ssameI_any (a b : Option Addr) (ca cb : Nat) (zs : List Int) (w : World) (ha : Ri w a ca zs) (hb : Ri w b cb zs) :
    Calls Try.prog 10 #[.slice a zs.length ca, .slice b zs.length cb] w fun e w' => e = .returned (.bool true) ∧ Below w.heap.size w w' := by
  have k1 := ha.2.1
  have k2 := ha.2.2.1
  unfold maxLen at k2
  have hne : ((zs.length : Int) != (zs.length : Int)) = false := by simp
  have HA : Hid (Ri w a ca zs) := ha
  have HB : Hid (Ri w b cb zs) := hb
  clear ha hb
  go_enter Try.func10, Try.ntmps10
  go_wp2
  go_loopw [5] (fun i wr => ∃ k : Nat, k ≤ zs.length ∧ i = .int .i64 k ∧ Below w.heap.size w wr) (fun i _ => zs.length - (intOf i).toNat)
  case atStart => exact ⟨0, Nat.zero_le _, rfl, Below.refl _ _⟩
  case round =>
    obtain ⟨k, hk, rfl, hnx⟩ := hrel
    by_cases hkn : k < zs.length
    · obtain ⟨b1, o1, rfl, _, c1⟩ := HA.out.at hnx k hkn
      obtain ⟨b2, o2, rfl, _, c2⟩ := HB.out.at hnx k hkn
      obtain ⟨x, hx⟩ : ∃ x, zs.getD k 0 = x := ⟨_, rfl⟩
      rw [hx] at c1 c2
      have hxx : ((x : Int) != (x : Int)) = false := by simp
      clear hx
      have i1 : (0 : Int) ≤ (k : Int) := by omega
      have i2 : (k : Int) < (zs.length : Int) := by omega
      go_wp2_with fail
      go_quiet (fail)
      go_wp2
      go_roundw
      case rel => exact ⟨k + 1, by omega, by go_num, below_drewN hnx _⟩
      case measure => simp [intOf]; omega
    · go_wp2
      go_ret
      exact ⟨rfl, hnx⟩

end Go.Proofs.Ytaejlopkdkaphaa

namespace Go.Proofs.Ytaejlopkdkaphaa
open Go.RowKit
set_option linter.unusedSimpArgs false
set_option linter.unusedVariables false

/-- A slice of integers that came in: it is nil; or it leads to a row of 'cap' cells, the numbers 'zs' (the first 'len' are its elements), each fitting its kind. -/
def IsRowK (k : IntKind) (w : World) (a : Option Addr) (len cap : Nat) (zs : List Int) : Prop :=
  (a = none ∧ len = 0 ∧ cap = 0 ∧ zs = []) ∨
  ∃ x, a = some x ∧ len ≤ cap ∧ cap ≤ maxLen ∧ zs.length = cap ∧ (∀ i, i < zs.length → w.cell? (x.add i) = some (.int k (zs.getD i 0))) ∧ ∀ n ∈ zs, (Lit.int k n).wf = true

theorem wfo_u8_bounds {n : Int} (h : (Lit.int .u8 n).wf = true) : 0 ≤ n ∧ n < 256 := by
  simp [Lit.wf, IntKind.min, IntKind.max, IntKind.bits, IntKind.signed] at h
  omega
theorem wfo_i32_bounds {n : Int} (h : (Lit.int .i32 n).wf = true) : -2147483648 ≤ n ∧ n ≤ 2147483647 := by
  simp [Lit.wf, IntKind.min, IntKind.max, IntKind.bits, IntKind.signed] at h
  omega
theorem wfo_i64_bounds {n : Int} (h : (Lit.int .i64 n).wf = true) : -9223372036854775808 ≤ n ∧ n ≤ 9223372036854775807 := by
  simp [Lit.wf, IntKind.min, IntKind.max, IntKind.bits, IntKind.signed] at h
  omega

theorem IsRowK.cells {k : IntKind} {w : World} {a : Option Addr} {len cap : Nat} {zs : List Int} (h : IsRowK k w a len cap zs) :
    ∃ ys : List Int, len = ys.length ∧ (∀ y ∈ ys, (Lit.int k y).wf = true) ∧ ys.length ≤ cap ∧ cap ≤ maxLen ∧ (a = none → cap = 0) ∧
      (ys = [] ∨ ∃ b off, a = some ⟨b, off, none⟩ ∧ b < w.heap.size ∧ ∀ i, i < ys.length → w.cell? ⟨b, off + i, none⟩ = some (.int k (ys.getD i 0))) := by
  rcases h with ⟨rfl, rfl, rfl, rfl⟩ | ⟨x, rfl, h1, h2, h3, hc, hw⟩
  · exact ⟨[], rfl, (fun y hy => by cases hy), Nat.le_refl _, Nat.zero_le _, fun _ => rfl, .inl rfl⟩
  · refine ⟨zs.take len, by simp; omega, fun y hy => hw y (List.mem_of_mem_take hy), by simp; omega, h2, (by simp), ?_⟩
    by_cases h0 : len = 0
    · exact .inl (by simp [h0])
    · obtain ⟨b, off, spot⟩ := x
      have c0 := hc 0 (by omega)
      have hspot : spot = none := by simpa [Addr.add] using World.cell?_spot c0
      subst hspot
      refine .inr ⟨b, off, rfl, ?_, fun i hi => ?_⟩
      · have := World.block_lt_of_cell? w _ c0
        simpa [Addr.add] using this
      · simp at hi
        have hadd : (⟨b, off, none⟩ : Addr).add i = ⟨b, off + i, none⟩ := by unfold Addr.add; split <;> simp_all
        have hci := hc i (by omega)
        rw [hadd] at hci
        rw [hci]
        simp [List.getD, show i < len by omega]

theorem IsRowK.rb {w : World} {a : Option Addr} {len cap : Nat} {zs : List Int} (h : IsRowK .u8 w a len cap zs) : ∃ xs : List Nat, len = xs.length ∧ Rb w a cap xs := by
  obtain ⟨ys, h1, h2, h3, h4, h5, h6⟩ := h.cells
  have hb : ∀ y ∈ ys, 0 ≤ y ∧ y < 256 := fun y hy => wfo_u8_bounds (h2 y hy)
  refine ⟨ys.map Int.toNat, by simp [h1], ?_, by simpa using h3, h4, h5, ?_⟩
  · intro x hx
    obtain ⟨y, hy, rfl⟩ := List.mem_map.1 hx
    have := hb y hy
    omega
  · rcases h6 with rfl | ⟨b, off, e, hlt, hc⟩
    · exact .inl rfl
    · refine .inr ⟨b, off, e, hlt, fun i hi => ?_⟩
      simp at hi
      rw [hc i hi]
      have h0 : ys.getD i 0 = ys[i] := by simp [List.getD, hi]
      have hy := hb ys[i] (List.getElem_mem hi)
      rw [h0]
      simp [List.getD, hi]
      omega

end Go.Proofs.Ytaejlopkdkaphaa
