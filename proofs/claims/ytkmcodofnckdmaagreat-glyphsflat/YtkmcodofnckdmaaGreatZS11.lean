/-
  outline.fields, partsFormed, contoursFormed, Formed: the walks.
  Infer: what is spread over an outline (plain mathematics).
  Fractions: integers as fractions, a fraction brought to -1 to 1, signs of differences (plain mathematics).
  Tents: whether they are formed, their parts, the parts of regions (plain mathematics).
  Rows of ints that are read, cut.
-/
import Derived.Test.YtkmcodofnckdmaaGreatZS10
import Derived.Test.YtkmcodofnckdmaaGreatZS6
import Derived.Test.YtkmcodofnckdmaaGreatZS9
import Derived.Test.YtkmcodofnckdmaaGreatZS5
set_option maxHeartbeats 4000000
set_option maxRecDepth 100000
set_option linter.unusedSimpArgs false
set_option linter.unusedVariables false
namespace Go.Proofs.YtkmcodofnckdmaaGreat
open Go.RowKit Go.Maps
theorem wrap_i16' (z : Int) : IntKind.i16.wrap z = if 32768 ≤ z % 65536 then z % 65536 - 65536 else z % 65536 := by
 simp [IntKind.wrap, IntKind.bits, IntKind.signed]
theorem wrap16_fd' (z : Int) : (IntKind.i16.wrap z != z) = !fdB z := by
 rw [wrap_i16', fdB, Bool.eq_iff_iff, bne_iff_ne, Bool.not_eq_true', decide_eq_false_iff_not]
 split <;> omega
theorem wrap64_16 (z : Int) : IntKind.i64.wrap (IntKind.i16.wrap z) = IntKind.i16.wrap z := by
 rw [wrap_i16']
 simp only [IntKind.wrap, IntKind.bits, IntKind.signed]
 split <;> (simp; omega)
theorem all_no' {α : Type} {p : α → Bool} {r : List α} {d : α} {k : Nat} (hk : k < r.length) (h : p (r.getD k d) = false) : r.all p = false := by
 rw [Bool.eq_false_iff]
 intro e
 have := List.all_eq_true.1 e (r.getD k d) (get_mem hk)
 rw [h] at this
 cases this
theorem all_yes' {α : Type} {p : α → Bool} {r : List α} {d : α} (h : ∀ j, j < r.length → p (r.getD j d) = true) : r.all p = true := by
 rw [List.all_eq_true]
 exact of_get h
theorem upto_succ {p : Nat → Prop} {k : Nat} (h : ∀ j, j < k → p j) (h1 : p k) : ∀ j, j < k + 1 → p j := fun j hj => by
 rcases Nat.lt_or_ge j k with h2 | h2
 · exact h j h2
 · rw [show j = k by omega]; exact h1
theorem cfields_any (a : Option Addr) (cap : Nat) (r : List Int) (w : World) (h : Ri w a cap r) :
    Calls Tryz.prog 130 #[.slice a r.length cap] w fun e w' => e = .returned (.bool (r.all fdB)) ∧ w = w' := by
 have k2 := h.lenB
 have HH : Hid (Ri w a cap r) := h
 clear h
 go_enter Tryz.func130, Tryz.ntmps130
 go_wp2
 go_loopw [7] (fun i wr => ∃ k : Nat, k ≤ r.length ∧ i = .int .i64 k ∧ (∀ j, j < k → fdB (r.getD j 0) = true) ∧ w = wr) (fun i _ => r.length - (intOf i).toNat)
 case atStart => exact ⟨0, Nat.zero_le _, rfl, (fun j hj => by omega), rfl⟩
 case round =>
  obtain ⟨k, hk, rfl, hok, rfl⟩ := hrel
  have HOK : Hid (∀ j, j < k → fdB (r.getD j 0) = true) := hok
  clear hok
  by_cases hkn : k < r.length
  · obtain ⟨b, off, ea, hb, d0⟩ := HH.out.at (Below.refl _ _) k hkn
    subst ea
    obtain ⟨z, hzz⟩ : ∃ z, r.getD k 0 = z := ⟨_, rfl⟩
    have HZ : Hid (r.getD k 0 = z) := hzz
    rw [hzz] at d0
    have i1 : (0 : Int) ≤ (k : Int) := by omega
    have i2 : (k : Int) < (r.length : Int) := by omega
    have hw1 := wrap64_16 z
    have hw2 := wrap16_fd' z
    clear hzz
    cases hf : fdB z with
    | false =>
     have HF : Hid (r.all fdB = false) := all_no' hkn (by rw [HZ.out]; exact hf)
     rw [hf] at hw2; clear hf HZ HOK; go_wp2
     go_ret
     exact ⟨rt_bool HF.out.symm, rfl⟩
    | true =>
     have HOK2 : Hid (∀ j, j < k + 1 → fdB (r.getD j 0) = true) := upto_succ HOK.out (by rw [HZ.out]; exact hf)
     rw [hf] at hw2; clear hf HZ HOK; go_wp2
     go_roundw
     case rel => exact ⟨k + 1, by omega, by go_num, HOK2.out, trivial⟩
     case measure => simp [intOf]; omega
  · obtain rfl : k = r.length := by omega
    have HF : Hid (r.all fdB = true) := all_yes' HOK.out
    have g1 : ¬ (r.length : Int) < (r.length : Int) := by omega
    clear HOK; go_wp2
    go_ret
    exact ⟨rt_bool HF.out.symm, rfl⟩
theorem ri_two (w : World) (x y : Int) (hx : I64 x) (hy : I64 y) : Ri (w.alloc (.cells #[.int .i64 x, .int .i64 y] 3)) (some ⟨w.heap.size, 0, none⟩) 2 [x, y] := by
 have hN := heap_alloc_new w (.cells #[.int .i64 x, .int .i64 y] 3)
 refine ⟨fun z hz => ?_, Nat.le_refl _, by unfold maxLen; omega, .inr ⟨w.heap.size, 0, rfl, by simp, fun i hi => ?_⟩⟩
 · simp at hz
   rcases hz with rfl | rfl
   · exact hx
   · exact hy
 · match i, hi with
   | 0, _ => exact cell_of_row _ w.heap.size 0 _ _ (0, 0) hN
   | 1, _ => exact cell_of_row _ w.heap.size 1 _ _ (0, 0) hN
theorem two_all (x y : Int) : [x, y].all fdB = (fdB x && fdB y) := by simp
theorem cpartsF_any (S : Nat → Prop) (a : Option Addr) (cap : Nat) (l : List Pa) (w : World) (h : Gr PaE S w a cap l) :
    Calls Tryz.prog 156 #[.slice a l.length cap] w fun e w' => e = .returned (.bool (decide (l.length ≤ 6) && l.all paF)) ∧ Below w.heap.size w w' := by
 have k2 := h.lenB
 have HH : Hid (Gr PaE S w a cap l) := h
 clear h
 by_cases h6 : 6 < l.length
 · have HF : Hid ((decide (l.length ≤ 6) && l.all paF) = false) := by show _ = _; rw [decide_eq_false (by omega), Bool.false_and]
   have g1 : (6 : Int) < (l.length : Int) := by omega
   go_enter Tryz.func156, Tryz.ntmps156
   go_wp2
   go_ret
   exact ⟨rt_bool HF.out.symm, Below.refl _ _⟩
 have HL : Hid ((decide (l.length ≤ 6) && l.all paF) = l.all paF) := by show _ = _; rw [decide_eq_true (by omega), Bool.true_and]
 have g1 : ¬ (6 : Int) < (l.length : Int) := by omega
 go_enter Tryz.func156, Tryz.ntmps156
 go_wp2
 go_loopw [10] (fun i wr => ∃ k : Nat, k ≤ l.length ∧ i = .int .i64 k ∧ (∀ j, j < k → paF (l.getD j Pa.none) = true) ∧ Below w.heap.size w wr) (fun i _ => l.length - (intOf i).toNat)
 case atStart => exact ⟨0, Nat.zero_le _, rfl, (fun j hj => by omega), Below.refl _ _⟩
 case round =>
  obtain ⟨k, hk, rfl, hok, hB⟩ := hrel
  have HOK : Hid (∀ j, j < k → paF (l.getD j Pa.none) = true) := hok
  clear hok
  by_cases hkn : k < l.length
  · obtain ⟨b, off, ea, hb, ⟨w0, w1, w2⟩, d0, d1, d2⟩ := HH.out.pa hB k hkn
    subst ea
    have HN : Hid (paF (l.getD k Pa.none) = false → (decide (l.length ≤ 6) && l.all paF) = false) := fun hf => by rw [HL.out]; exact all_no' hkn hf
    have HY : Hid (paF (l.getD k Pa.none) = true → ∀ j, j < k + 1 → paF (l.getD j Pa.none) = true) := fun hf => upto_succ HOK.out hf
    generalize l.getD k Pa.none = p at *
    obtain ⟨g, x, y⟩ := p; dsimp only at w0 w1 w2 d0 d1 d2
    have i1 : (0 : Int) ≤ (k : Int) := by omega
    have i2 : (k : Int) < (l.length : Int) := by omega
    clear HOK
    by_cases hg0 : g < 0
    · have HF : Hid ((decide (l.length ≤ 6) && l.all paF) = false) := HN.out (by unfold paF; rw [decide_eq_false (by show ¬ (0 ≤ g ∧ g ≤ 65535); omega), Bool.false_and])
      have g2 : decide (g < 0) = true := decide_eq_true hg0
      clear HN HY; go_wp2
      go_ret
      exact ⟨rt_bool HF.out.symm, hB.alloc hB.size _⟩
    have g2 : decide (g < 0) = false := decide_eq_false hg0
    by_cases hg1 : 65535 < g
    · have HF : Hid ((decide (l.length ≤ 6) && l.all paF) = false) := HN.out (by unfold paF; rw [decide_eq_false (by show ¬ (0 ≤ g ∧ g ≤ 65535); omega), Bool.false_and])
      have g3 : decide (65535 < g) = true := decide_eq_true hg1
      clear HN HY; go_wp2
      go_ret
      exact ⟨rt_bool HF.out.symm, hB.alloc hB.size _⟩
    have g3 : decide (65535 < g) = false := decide_eq_false hg1
    have hpf : paF ⟨g, x, y⟩ = (fdB x && fdB y) := by unfold paF; rw [decide_eq_true (by show 0 ≤ g ∧ g ≤ 65535; omega), Bool.true_and]
    rw [hpf] at HN HY
    obtain ⟨W, hW⟩ : ∃ W, W = (wr.alloc (.cells #[.int .i64 g, .int .i64 x, .int .i64 y] 54)).alloc (.cells #[.int .i64 x, .int .i64 y] 3) := ⟨_, rfl⟩
    have hri := ri_two (wr.alloc (.cells #[.int .i64 g, .int .i64 x, .int .i64 y] 54)) x y w1 w2
    have hsz : (wr.alloc (.cells #[.int .i64 g, .int .i64 x, .int .i64 y] 54)).heap.size = wr.heap.size + 1 := by simp
    rw [← hW, hsz] at hri
    have hbW : Below w.heap.size w W := by rw [hW]; exact (hB.alloc hB.size _).alloc (by simp; have := hB.size; omega) _
    have hfo := cfields_any _ _ _ _ hri
    rw [two_all] at hfo
    simp only [List.length_cons, List.length_nil, Nat.zero_add] at hfo
    clear hpf hri hsz
    cases hf : (fdB x && fdB y) with
    | false =>
     have HF : Hid ((decide (l.length ≤ 6) && l.all paF) = false) := HN.out hf
     rw [hf] at hfo; clear hf HN HY
     go_wp2_with fail
     rw [← hW]; clear hW
     refine hfo.mono ?_
     rintro e u1 ⟨rfl, rfl⟩; clear hfo; go_wp2
     go_ret
     exact ⟨rt_bool HF.out.symm, hbW⟩
    | true =>
     have HOK2 : Hid (∀ j, j < k + 1 → paF (l.getD j Pa.none) = true) := HY.out hf
     rw [hf] at hfo; clear hf HN HY
     go_wp2_with fail
     rw [← hW]; clear hW
     refine hfo.mono ?_
     rintro e u1 ⟨rfl, rfl⟩; clear hfo; go_wp2
     go_roundw
     case rel => exact ⟨k + 1, by omega, by go_num, HOK2.out, hbW⟩
     case measure => simp [intOf]; omega
  · obtain rfl : k = l.length := by omega
    have HF : Hid ((decide (l.length ≤ 6) && l.all paF) = true) := by show _ = _; rw [HL.out]; exact all_yes' HOK.out
    have g1 : ¬ (l.length : Int) < (l.length : Int) := by omega
    clear HOK; go_wp2
    go_ret
    exact ⟨rt_bool HF.out.symm, hB⟩
theorem flat_take_succ {cs : List (List Pn)} {k : Nat} (hk : k < cs.length) : ((cs.take (k + 1)).flatten).length = ((cs.take k).flatten).length + (cs.getD k []).length := by
 rw [take_snoc (d := []) hk, List.flatten_append, List.length_append, List.flatten_singleton]
theorem flat_take_le (cs : List (List Pn)) (k : Nat) : ((cs.take k).flatten).length ≤ cs.flatten.length := by
 conv => rhs; rw [← List.take_append_drop k cs, List.flatten_append, List.length_append]
 omega
def coF (cs : List (List Pn)) : Bool := decide (cs.length ≤ 10) && (cs.all (fun c => decide (0 < c.length)) && (decide (cs.flatten.length ≤ 80) && cs.flatten.all pnF))
theorem coF_no {cs : List (List Pn)} (h : ¬ (cs.length ≤ 10 ∧ (∀ c ∈ cs, 0 < c.length) ∧ cs.flatten.length ≤ 80 ∧ ∀ c ∈ cs, c.all pnF = true)) : coF cs = false := by
 rw [Bool.eq_false_iff]
 intro e
 unfold coF at e
 simp only [Bool.and_eq_true, decide_eq_true_iff, List.all_eq_true] at e
 refine h ⟨e.1, e.2.1, e.2.2.1, fun c hc => List.all_eq_true.2 fun p hp => e.2.2.2 p (List.mem_flatten.2 ⟨c, hc, hp⟩)⟩
theorem coF_yes {cs : List (List Pn)} (h1 : cs.length ≤ 10) (h2 : ∀ j, j < cs.length → 0 < (cs.getD j []).length ∧ (cs.getD j []).all pnF = true) (h3 : cs.flatten.length ≤ 80) : coF cs = true := by
 unfold coF
 simp only [Bool.and_eq_true, decide_eq_true_iff, List.all_eq_true]
 refine ⟨h1, fun c hc => (of_get (p := fun c => 0 < c.length ∧ c.all pnF = true) h2 c hc).1, h3, fun p hp => ?_⟩
 obtain ⟨c, hc, hpc⟩ := List.mem_flatten.1 hp
 exact List.all_eq_true.1 (of_get (p := fun c => 0 < c.length ∧ c.all pnF = true) h2 c hc).2 p hpc
theorem ccontF_any (S : Nat → Prop) (a : Option Addr) (cap : Nat) (cs : List (List Pn)) (w : World) (h : Gr PnE.row S w a cap cs) :
    Calls Tryz.prog 155 #[.slice a cs.length cap] w fun e w' => e = .returned (.bool (coF cs)) ∧ Below w.heap.size w w' := by
 have k2 := h.lenB
 have HH : Hid (Gr PnE.row S w a cap cs) := h
 have HNO : Hid (¬ (cs.length ≤ 10 ∧ (∀ c ∈ cs, 0 < c.length) ∧ cs.flatten.length ≤ 80 ∧ ∀ c ∈ cs, c.all pnF = true) → coF cs = false) := coF_no
 clear h
 by_cases h10 : 10 < cs.length
 · have HF : Hid (coF cs = false) := HNO.out (fun h => by omega)
   have g1 : (10 : Int) < (cs.length : Int) := by omega
   go_enter Tryz.func155, Tryz.ntmps155
   go_wp2
   go_ret
   exact ⟨rt_bool HF.out.symm, Below.refl _ _⟩
 have g1 : ¬ (10 : Int) < (cs.length : Int) := by omega
 go_enter Tryz.func155, Tryz.ntmps155
 go_wp2
 go_loopw [3, 13] (fun n i wr => ∃ k m : Nat, k ≤ cs.length ∧ i = .int .i64 k ∧ n = .int .i64 (m : Int) ∧ m = ((cs.take k).flatten).length ∧ m ≤ 80 ∧ (∀ j, j < k → 0 < (cs.getD j []).length ∧ (cs.getD j []).all pnF = true) ∧ Below w.heap.size w wr) (fun _ i _ => cs.length - (intOf i).toNat)
 case atStart => exact ⟨0, 0, Nat.zero_le _, rfl, rfl, rfl, by omega, (fun j hj => by omega), Below.refl _ _⟩
 case round =>
  obtain ⟨k, m, hk, rfl, rfl, hm, hm80, hok, hB⟩ := hrel
  have HOK : Hid (∀ j, j < k → 0 < (cs.getD j []).length ∧ (cs.getD j []).all pnF = true) := hok
  have HM : Hid (m = ((cs.take k).flatten).length) := hm
  clear hok hm
  by_cases hkn : k < cs.length
  · obtain ⟨b, off, a1, c1, ea, hb, d0, hrow, hlb, _⟩ := HH.out.rw hB k hkn
    subst ea
    have hmem := getL_mem' hkn
    have hst := flat_take_succ hkn
    have hle := flat_take_le cs (k + 1)
    rw [← HM.out] at hst
    have HX : Hid (∀ c, cs.getD k [] = c → 0 < c.length → c.all pnF = true → ∀ j, j < k + 1 → 0 < (cs.getD j []).length ∧ (cs.getD j []).all pnF = true) := fun c hc h1 h2 => upto_succ HOK.out (by rw [hc]; exact ⟨h1, h2⟩)
    obtain ⟨c, hc⟩ : ∃ c, cs.getD k [] = c := ⟨_, rfl⟩
    replace HX := HX.out c hc
    rw [hc] at d0 hrow hlb hmem hst
    have HM2 : Hid (m + c.length = ((cs.take (k + 1)).flatten).length) := hst.symm
    have HLE : Hid (m + c.length ≤ cs.flatten.length) := by show _ ≤ _; omega
    have HN : Hid (¬ (0 < c.length ∧ m + c.length ≤ 80 ∧ c.all pnF = true) → coF cs = false) := fun hn => HNO.out (fun hy => hn ⟨hy.2.1 c hmem, by have := HLE.out; omega, hy.2.2.2 c hmem⟩)
    have HX : Hid (0 < c.length → c.all pnF = true → ∀ j, j < k + 1 → 0 < (cs.getD j []).length ∧ (cs.getD j []).all pnF = true) := HX
    have i1 : (0 : Int) ≤ (k : Int) := by omega
    have i2 : (k : Int) < (cs.length : Int) := by omega
    clear hc hmem hst hle HOK HM HLE
    by_cases h0 : c.length = 0
    · have HF : Hid (coF cs = false) := HN.out (fun h => by omega)
      have g2 : ((c.length : Int) == 0) = true := by simp [h0]
      clear HN HX HM2 hrow h0; go_wp2
      go_ret
      exact ⟨rt_bool HF.out.symm, hB⟩
    have g2 : ((c.length : Int) == 0) = false := by simp; intro e; rw [e] at h0; exact h0 rfl
    by_cases h80 : 80 < m + c.length
    · have HF : Hid (coF cs = false) := HN.out (fun h => by omega)
      have g3 : decide ((80 : Int) < (m : Int) + (c.length : Int)) = true := decide_eq_true (by omega)
      clear HN HX HM2 hrow h0; go_wp2
      go_ret
      exact ⟨rt_bool HF.out.symm, hB⟩
    have g3 : decide ((80 : Int) < (m : Int) + (c.length : Int)) = false := decide_eq_false (by omega)
    have HP : Hid (0 < c.length) := by show _ < _; omega
    have hcl : c.length ≤ 80 := by omega
    have HRW : Hid (Gr PnE S wr a1 c1 c) := hrow
    have HBW : Hid (Below w.heap.size w wr) := hB
    clear hrow h0; go_wp2
    obtain ⟨wo, rfl⟩ : ∃ wo, wo = wr := ⟨_, rfl⟩
    clear d0 hB
    go_loopw [30] (fun i wr => ∃ t : Nat, t ≤ c.length ∧ i = .int .i64 t ∧ (∀ j, j < t → pnF (c.getD j Pn.none) = true) ∧ Below wo.heap.size wo wr) (fun i _ => c.length - (intOf i).toNat)
    case atStart => exact ⟨0, Nat.zero_le _, rfl, (fun j hj => by omega), Below.refl _ _⟩
    case round =>
     obtain ⟨t, ht, rfl, hok, hB⟩ := hrel
     have HOK : Hid (∀ j, j < t → pnF (c.getD j Pn.none) = true) := hok
     have hBW := HBW.out.trans (hB.mono HBW.out.size)
     clear hok
     by_cases htn : t < c.length
     · obtain ⟨b2, o2, eb, hb2, ⟨w0, w1⟩, q0, q1, q2⟩ := HRW.out.pn hB t htn
       subst eb
       have HN2 : Hid (pnF (c.getD t Pn.none) = false → coF cs = false) := fun hf => HN.out (fun h => by have := all_no' htn hf; rw [h.2.2] at this; cases this)
       have HY2 : Hid (pnF (c.getD t Pn.none) = true → ∀ j, j < t + 1 → pnF (c.getD j Pn.none) = true) := fun hf => upto_succ HOK.out hf
       generalize c.getD t Pn.none = p at *
       obtain ⟨x, y, on⟩ := p; dsimp only at w0 w1 q0 q1 q2
       have hpf : pnF ⟨x, y, on⟩ = (fdB x && fdB y) := rfl
       rw [hpf] at HN2 HY2
       have j1 : (0 : Int) ≤ (t : Int) := by omega
       have j2 : (t : Int) < (c.length : Int) := by omega
       obtain ⟨W, hW⟩ : ∃ W, W = (wr.alloc (.cells #[.int .i64 x, .int .i64 y, .bool on] 65)).alloc (.cells #[.int .i64 x, .int .i64 y] 3) := ⟨_, rfl⟩
       have hri := ri_two (wr.alloc (.cells #[.int .i64 x, .int .i64 y, .bool on] 65)) x y w0 w1
       have hsz : (wr.alloc (.cells #[.int .i64 x, .int .i64 y, .bool on] 65)).heap.size = wr.heap.size + 1 := by simp
       rw [← hW, hsz] at hri
       have hbX : Below w.heap.size w W := by rw [hW]; exact (hBW.alloc hBW.size _).alloc (by simp; have := hBW.size; omega) _
       have hbY : Below wo.heap.size wo W := by rw [hW]; exact (hB.alloc hB.size _).alloc (by simp; have := hB.size; omega) _
       have hfo := cfields_any _ _ _ _ hri
       rw [two_all] at hfo
       simp only [List.length_cons, List.length_nil, Nat.zero_add] at hfo
       clear hpf hri hsz HOK
       cases hf : (fdB x && fdB y) with
       | false =>
        have HF : Hid (coF cs = false) := HN2.out hf
        rw [hf] at hfo; clear hf HN2 HY2
        go_wp2_with fail
        rw [← hW]; clear hW
        refine hfo.mono ?_
        rintro e u1 ⟨rfl, rfl⟩; clear hfo; go_wp2
        go_ret
        exact ⟨rt_bool HF.out.symm, hbX⟩
       | true =>
        have HOK2 : Hid (∀ j, j < t + 1 → pnF (c.getD j Pn.none) = true) := HY2.out hf
        rw [hf] at hfo; clear hf HN2 HY2
        go_wp2_with fail
        rw [← hW]; clear hW
        refine hfo.mono ?_
        rintro e u1 ⟨rfl, rfl⟩; clear hfo; go_wp2
        go_roundw
        case rel => exact ⟨t + 1, by omega, by go_num, HOK2.out, hbY⟩
        case measure => simp [intOf]; omega
     · obtain rfl : t = c.length := by omega
       have HOK3 : Hid (∀ j, j < k + 1 → 0 < (cs.getD j []).length ∧ (cs.getD j []).all pnF = true) := HX.out HP.out (all_yes' HOK.out)
       have j2 : ¬ (c.length : Int) < (c.length : Int) := by omega
       clear HOK HX; go_wp2
       go_roundw
       case rel => exact ⟨k + 1, m + c.length, by omega, by go_num, by go_num, HM2.out, by omega, HOK3.out, hBW⟩
       case measure => simp [intOf]; omega
  · obtain rfl : k = cs.length := by omega
    have HF : Hid (coF cs = true) := coF_yes (by omega) HOK.out (by have := HM.out; rw [List.take_length] at this; omega)
    have g4 : ¬ (cs.length : Int) < (cs.length : Int) := by omega
    clear HOK HM; go_wp2
    go_ret
    exact ⟨rt_bool HF.out.symm, hB⟩
def cntO (o : Ol) : Nat := o.ps.length + o.cs.flatten.length
def lastI (pts : List Int) (k : Nat) : Int := if k = 0 then -1 else pts.getD (k - 1) 0
def risP (pts : List Int) (n k : Nat) : Prop := lastI pts k < pts.getD k 0 ∧ pts.getD k 0 < (n : Int)
def risB (pts : List Int) (n : Nat) : Bool := (List.range pts.length).all (fun k => decide (lastI pts k < pts.getD k 0 ∧ pts.getD k 0 < (n : Int)))
theorem risB_no {pts : List Int} {n k : Nat} (hk : k < pts.length) (h : ¬ risP pts n k) : risB pts n = false := by
 unfold risB
 exact List.all_eq_false.2 ⟨k, List.mem_range.2 hk, by rw [decide_eq_true_iff]; exact h⟩
theorem risB_yes {pts : List Int} {n : Nat} (h : ∀ k, k < pts.length → risP pts n k) : risB pts n = true := by
 unfold risB
 exact List.all_eq_true.2 (fun k hk => by rw [decide_eq_true_iff]; exact h k (List.mem_range.1 hk))
theorem risB_iff {pts : List Int} {n : Nat} : risB pts n = true ↔ ∀ k, k < pts.length → risP pts n k := by
 unfold risB
 rw [List.all_eq_true]
 exact ⟨fun h k hk => by have := h k (List.mem_range.2 hk); rw [decide_eq_true_iff] at this; exact this, fun h k hk => by rw [decide_eq_true_iff]; exact h k (List.mem_range.1 hk)⟩
theorem risP_nonneg {pts : List Int} {n : Nat} : ∀ k, (∀ j, j < k + 1 → risP pts n j) → 0 ≤ pts.getD k 0 ∧ pts.getD k 0 < (n : Int) := by
 intro k
 induction k with
 | zero => intro h; have := h 0 (by omega); unfold risP lastI at this; rw [if_pos rfl] at this; omega
 | succ k ih =>
  intro h
  have h1 := ih (fun j hj => h j (by omega))
  have h2 := h (k + 1) (by omega)
  unfold risP lastI at h2
  rw [if_neg (by omega), Nat.add_sub_cancel] at h2
  omega
def layI (pts told : List Int) (n : Nat) : Nat → List Int
 | 0 => List.replicate n 0
 | k + 1 => (layI pts told n k).set (pts.getD k 0).toNat (told.getD k 0)
def tchI (pts : List Int) (n : Nat) : Nat → List Bool
 | 0 => List.replicate n false
 | k + 1 => (tchI pts n k).set (pts.getD k 0).toNat true
theorem layI_len (pts told : List Int) (n k : Nat) : (layI pts told n k).length = n := by
 induction k with
 | zero => simp [layI]
 | succ k ih => rw [layI, List.length_set, ih]
theorem tchI_len (pts : List Int) (n k : Nat) : (tchI pts n k).length = n := by
 induction k with
 | zero => simp [tchI]
 | succ k ih => rw [tchI, List.length_set, ih]
theorem layI_fd {pts told : List Int} {n : Nat} (h : ∀ z ∈ told, -32768 ≤ z ∧ z ≤ 32767) (k : Nat) : ∀ z ∈ layI pts told n k, -32768 ≤ z ∧ z ≤ 32767 := by
 induction k with
 | zero => intro z hz; rw [layI] at hz; rw [List.eq_of_mem_replicate hz]; omega
 | succ k ih =>
  intro z hz
  rw [layI] at hz
  rcases List.mem_or_eq_of_mem_set hz with hz | hz
  · exact ih z hz
  · rw [hz]; exact fd_getD h k
def spB (o : Ol) (pts dx dy : List Int) : Bool := foB o && (risB pts (cntO o) && (decide (dx.length = pts.length) && (decide (dy.length = pts.length) && (dx.all fdB && dy.all fdB))))
def ofC (cs : List (List Pn)) (k : Nat) : Nat := ((cs.take k).flatten).length
theorem ofC_succ {cs : List (List Pn)} {k : Nat} (hk : k < cs.length) : ofC cs (k + 1) = ofC cs k + (cs.getD k []).length := flat_take_succ hk
theorem ofC_le (cs : List (List Pn)) (k : Nat) : ofC cs k ≤ cs.flatten.length := flat_take_le cs k
theorem ofC_all (cs : List (List Pn)) : ofC cs cs.length = cs.flatten.length := by unfold ofC; rw [List.take_length]
theorem flat_cut : ∀ (cs : List (List Pn)) (k : Nat), k < cs.length → (cs.flatten.drop (ofC cs k)).take (cs.getD k []).length = cs.getD k [] := by
 intro cs
 induction cs with
 | nil => intro k hk; simp at hk
 | cons c t ih =>
  intro k hk
  cases k with
  | zero => simp [ofC]
  | succ k =>
   have h1 : ofC (c :: t) (k + 1) = c.length + ofC t k := by simp [ofC]
   rw [h1, List.flatten_cons, List.drop_append, List.drop_eq_nil_of_le (show c.length ≤ c.length + ofC t k by omega), List.nil_append, show c.length + ofC t k - c.length = ofC t k by omega, List.getD_cons_succ]
   exact ih k (by simpa using hk)
def segF (f : Pn → Int) (cs : List (List Pn)) (lay : List Int) (tch : List Bool) (i : Nat) : List Rat :=
 fillQ ((cs.getD i []).map f) ((tch.drop (ofC cs i)).take (cs.getD i []).length) ((lay.drop (ofC cs i)).take (cs.getD i []).length)
def conQ (f : Pn → Int) (cs : List (List Pn)) (lay : List Int) (tch : List Bool) (k : Nat) : List Rat := ((List.range k).map (segF f cs lay tch)).flatten
theorem conQ_succ (f : Pn → Int) (cs : List (List Pn)) (lay : List Int) (tch : List Bool) (k : Nat) : conQ f cs lay tch (k + 1) = conQ f cs lay tch k ++ segF f cs lay tch k := by
 unfold conQ
 rw [List.range_succ, List.map_append, List.flatten_append]
 simp
theorem segF_len_le (f : Pn → Int) (cs : List (List Pn)) (lay : List Int) (tch : List Bool) (i : Nat) : (segF f cs lay tch i).length ≤ (cs.getD i []).length := by
 unfold segF
 cases h : fitB ((cs.getD i []).map f) ((tch.drop (ofC cs i)).take (cs.getD i []).length) ((lay.drop (ofC cs i)).take (cs.getD i []).length) with
 | false => rw [fillQ_no h]; exact Nat.zero_le _
 | true => rw [fillQ_len h, List.length_map]; exact Nat.le_refl _
theorem conQ_len_le (f : Pn → Int) (cs : List (List Pn)) (lay : List Int) (tch : List Bool) (k : Nat) (hk : k ≤ cs.length) : (conQ f cs lay tch k).length ≤ ofC cs k := by
 induction k with
 | zero => exact Nat.zero_le _
 | succ k ih =>
  rw [conQ_succ, List.length_append, ofC_succ (by omega)]
  have := ih (by omega)
  have := segF_len_le f cs lay tch k
  omega
def spQ (f : Pn → Int) (o : Ol) (pts told : List Int) : List Rat :=
 if 0 < o.ps.length then (layI pts told (cntO o) pts.length).map (fun z : Int => (z : Rat)) else conQ f o.cs (layI pts told (cntO o) pts.length) (tchI pts (cntO o) pts.length) o.cs.length
theorem spQ_parts {f : Pn → Int} {o : Ol} {pts told : List Int} (h : 0 < o.ps.length) : spQ f o pts told = (layI pts told (cntO o) pts.length).map (fun z : Int => (z : Rat)) := if_pos h
theorem spQ_cons {f : Pn → Int} {o : Ol} {pts told : List Int} (h : ¬ 0 < o.ps.length) : spQ f o pts told = conQ f o.cs (layI pts told (cntO o) pts.length) (tchI pts (cntO o) pts.length) o.cs.length := if_neg h
def allI (n : Nat) : List Int := (List.range n).map (fun j : Nat => (j : Int))
theorem allI_len (n : Nat) : (allI n).length = n := by simp [allI]
theorem allI_get {n k : Nat} (hk : k < n) : (allI n).getD k 0 = (k : Int) := by simp [allI, List.getD, hk]
theorem allI_succ (n : Nat) : allI (n + 1) = allI n ++ [(n : Int)] := rg_succ' n
where rg_succ' (n : Nat) : (List.range (n + 1)).map (fun j : Nat => (j : Int)) = (List.range n).map (fun j : Nat => (j : Int)) ++ [(n : Int)] := by rw [List.range_succ, List.map_append]; rfl
theorem allI_ris (n : Nat) : risB (allI n) n = true := by
 refine risB_yes (fun k hk => ?_)
 rw [allI_len] at hk
 unfold risP lastI
 rw [allI_get hk]
 by_cases h0 : k = 0
 · rw [if_pos h0]; omega
 · rw [if_neg h0, allI_get (by omega)]; omega
theorem wrapi64 {z : Int} (h1 : -9223372036854775808 ≤ z) (h2 : z ≤ 9223372036854775807) : IntKind.i64.wrap z = z := by
 simp only [IntKind.wrap, IntKind.bits, IntKind.signed]
 simp
 omega
structure Te where
 st : Int
 pk : Int
 en : Int
def Te.none : Te := ⟨0, 0, 0⟩
theorem crdT {z : Int} : crd z = true ↔ -16384 ≤ z ∧ z ≤ 16384 := by simp [crd]
def TfT (t : Te) : Prop := (-16384 ≤ t.st ∧ t.st ≤ 16384) ∧ (-16384 ≤ t.pk ∧ t.pk ≤ 16384) ∧ (-16384 ≤ t.en ∧ t.en ≤ 16384) ∧
 ((0 < t.pk ∧ 0 ≤ t.st ∧ t.st < t.pk ∧ (t.pk < t.en ∨ (t.pk = 16384 ∧ t.en = 16384))) ∨ (t.pk < 0 ∧ t.en ≤ 0 ∧ t.pk < t.en ∧ (t.st < t.pk ∨ (t.pk = -16384 ∧ t.st = -16384))) ∨ (t.pk = 0 ∧ t.st = 0 ∧ t.en = 0))
def tfB (t : Te) : Bool := decide ((-16384 ≤ t.st ∧ t.st ≤ 16384) ∧ (-16384 ≤ t.pk ∧ t.pk ≤ 16384) ∧ (-16384 ≤ t.en ∧ t.en ≤ 16384) ∧
 ((0 < t.pk ∧ 0 ≤ t.st ∧ t.st < t.pk ∧ (t.pk < t.en ∨ (t.pk = 16384 ∧ t.en = 16384))) ∨ (t.pk < 0 ∧ t.en ≤ 0 ∧ t.pk < t.en ∧ (t.st < t.pk ∨ (t.pk = -16384 ∧ t.st = -16384))) ∨ (t.pk = 0 ∧ t.st = 0 ∧ t.en = 0)))
theorem tfB_iff {t : Te} : tfB t = true ↔ TfT t := by unfold tfB TfT; exact decide_eq_true_iff
theorem tfB_no {t : Te} (h : ¬ TfT t) : tfB t = false := by
 rw [Bool.eq_false_iff]
 exact fun e => h (tfB_iff.1 e)
def paQ (t : Te) (c : Int) : Rat :=
 if tfB t && crd c then
  (if t.pk = 0 ∨ c = t.pk then 1 else if c ≤ t.st ∨ t.en ≤ c then 0 else if c < t.pk then ((c - t.st : Int) : Rat) / ((t.pk - t.st : Int) : Rat) else ((t.en - c : Int) : Rat) / ((t.en - t.pk : Int) : Rat))
 else 0
theorem paQ_no {t : Te} {c : Int} (h : ¬ (tfB t = true ∧ crd c = true)) : paQ t c = 0 := by
 rw [paQ, if_neg]; rw [Bool.and_eq_true]
 exact h
theorem paQ_yes {t : Te} {c : Int} (h1 : tfB t = true) (h2 : crd c = true) : paQ t c = if t.pk = 0 ∨ c = t.pk then 1 else if c ≤ t.st ∨ t.en ≤ c then 0 else if c < t.pk then ((c - t.st : Int) : Rat) / ((t.pk - t.st : Int) : Rat) else ((t.en - c : Int) : Rat) / ((t.en - t.pk : Int) : Rat) := by
 rw [paQ, if_pos (by rw [h1, h2]; rfl)]
theorem getT {l : List Te} {k : Nat} (hk : k < l.length) : l.getD k Te.none = l[k] := by simp [List.getD, hk]
theorem getT_mem {l : List Te} {k : Nat} (hk : k < l.length) : l.getD k Te.none ∈ l := by rw [getT hk]; exact List.getElem_mem hk
def alK (l : List Te) (cs : List Int) : Nat → Rat
 | 0 => 1
 | k + 1 => alK l cs k * paQ (l.getD k Te.none) (cs.getD k 0)
def alQ (l : List Te) (cs : List Int) : Rat := alK l cs l.length
theorem alK_succ (l : List Te) (cs : List Int) (k : Nat) : alK l cs (k + 1) = alK l cs k * paQ (l.getD k Te.none) (cs.getD k 0) := rfl
def rgB (l : List Te) (n : Int) : Bool := l.all tfB && decide ((l.length : Int) = n)
theorem allT {l : List Te} {p : Te → Bool} : l.all p = true ↔ ∀ j, j < l.length → p (l.getD j Te.none) = true := by
 rw [List.all_eq_true]
 constructor
 · exact fun h j hj => h _ (getT_mem hj)
 · intro h x hx
   obtain ⟨j, hj, e⟩ := List.getElem_of_mem hx
   have := h j hj
   rw [getT hj, e] at this
   exact this
theorem Ri.take {w : World} {a : Option Addr} {cap : Nat} {zs : List Int} (h : Ri w a cap zs) (n : Nat) : Ri w a cap (zs.take n) := by
 refine ⟨fun z hz => h.1 z (List.mem_of_mem_take hz), Nat.le_trans (by simp; omega) h.2.1, h.2.2.1, ?_⟩
 rcases h.2.2.2 with h4 | ⟨b, off, e, h5, h6⟩
 · exact .inl (by rw [h4]; simp)
 · refine .inr ⟨b, off, e, h5, fun i hi => ?_⟩
   have hi' : i < n ∧ i < zs.length := by simp at hi; omega
   rw [h6 i hi'.2]
   simp [List.getD, List.getElem?_take, hi'.1]
theorem Ri.drop {w : World} {b off cap : Nat} {zs : List Int} (h : Ri w (some ⟨b, off, none⟩) cap zs) (n : Nat) (hn : n ≤ zs.length) : Ri w (some ⟨b, off + n, none⟩) (cap - n) (zs.drop n) := by
 refine ⟨fun z hz => h.1 z (List.mem_of_mem_drop hz), ?_, Nat.le_trans (Nat.sub_le _ _) h.2.2.1, ?_⟩
 · have := h.2.1
   simp
   omega
 · rcases h.2.2.2 with h4 | ⟨b', off', e, h5, h6⟩
   · exact .inl (by rw [h4]; simp)
   · cases e
     refine .inr ⟨b, off + n, rfl, h5, fun i hi => ?_⟩
     have hi' : n + i < zs.length := by simp at hi; omega
     rw [Nat.add_assoc, h6 (n + i) hi']
     simp [List.getD]
end Go.Proofs.YtkmcodofnckdmaaGreat
