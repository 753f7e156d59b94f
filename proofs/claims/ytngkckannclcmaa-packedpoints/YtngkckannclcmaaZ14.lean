/-
  packed: differences, addUp, Points, Changes: the walks.
  packed: fieldOfPoints, fieldOfChanges, readCount: the walks.
  packed.readRuns, with fieldOfPoints: the walk.
-/
import Derived.Test.YtngkckannclcmaaZ13
import Derived.Test.YtngkckannclcmaaZ7
import Derived.Laws.MakeOwn
import Derived.Test.YtngkckannclcmaaZ10
import Derived.Laws.EntriesVeiled
namespace Go.Proofs.Ytngkckannclcmaa
open Go.RowKit Go.Maps
set_option linter.unusedSimpArgs false
set_option linter.unusedVariables false

set_option maxHeartbeats 1000000 in
set_option maxRecDepth 100000 in
theorem cdiff_any (a : Option Addr) (cap : Nat) (l : List Int) (w : World) (h : Ri w a cap l) (hl : l.length ≤ 2000) (hx : ∀ k, k < l.length → 0 ≤ l.getD k 0 ∧ l.getD k 0 ≤ 65535) :
    Calls Try.prog 22 #[.slice a l.length cap] w fun e w' => ∃ a' cap', e = .returned (.slice a' (stps 0 l).length cap') ∧ Ri w' a' cap' (stps 0 l) ∧ (∀ b o, a' = some ⟨b, o, none⟩ → w.heap.size ≤ b ∧ b < w'.heap.size) ∧ Below w.heap.size w w' := by
  obtain ⟨i0, hi0, hz0, hz1, hz2⟩ := info_parts infoA_i64
  obtain ⟨w1, hmk, hown, hgrow⟩ := run_makeSlice_owned w w.heap.size 22 3 i0 _ 1 Try.underlying22 hi0 hz0 hz1 .i64 .i64 l.length (by omega) (by rw [hz2]; omega) (by unfold maxLen; omega) (Nat.le_refl _)
  have hI0 : Io w.heap.size w1 (.slice (some ⟨w.heap.size, 0, none⟩) 0 l.length) (stpK l 0) := ⟨fun t ht => (by cases ht), hown⟩
  have hB1 : Below w.heap.size w w1 := (Below.refl _ _).grown hgrow (Nat.le_refl _) (fun k hk => by cases hk)
  clear hown hgrow hi0 hz0 hz1 hz2
  have HH : Hid (Ri w a cap l) := h
  have HXX : Hid (∀ k, k < l.length → 0 ≤ l.getD k 0 ∧ l.getD k 0 ≤ 65535) := hx
  clear h hx
  go_enter Try.func22, Try.ntmps22
  go_wp2
  go_loopw [3, 4, 12] (fun v ah i wr => ∃ (k : Nat) (z : Int), k ≤ l.length ∧ i = .int .i64 k ∧ ah = .int .i64 z ∧ z = (if k = 0 then 0 else l.getD (k - 1) 0) ∧ Io w.heap.size wr v (stpK l k) ∧ Below w.heap.size w wr) (fun _ _ i _ => l.length - (intOf i).toNat)
  case atStart => exact ⟨0, 0, Nat.zero_le _, rfl, rfl, rfl, hI0, hB1⟩
  case round =>
    obtain ⟨k, z, hk, rfl, rfl, hz, hT, hB⟩ := hrel
    obtain ⟨a2, c2, rfl, hts⟩ := hT.slice
    have hlen := stpK_len l k
    rw [hlen] at hT ⊢
    have hll : (stpK l k).length + 1 ≤ 1000000 := by omega
    have HT : Hid (Io w.heap.size wr (.slice a2 k c2) (stpK l k)) := hT
    clear hT hlen hmk hI0 hB1
    by_cases hkn : k < l.length
    rotate_left
    · obtain rfl : k = l.length := by omega
      have HB2 : Hid (∀ b o, a2 = some ⟨b, o, none⟩ → w.heap.size ≤ b ∧ b < wr.heap.size) := fun b o e => by
        subst e
        exact World.ownsRow.lt HT.out.2 b rfl
      have g1 : ¬ (l.length : Int) < (l.length : Int) := by omega
      clear hz
      go_wp2
      go_ret
      exact ⟨a2, c2, by rw [stps_len]; rfl, by rw [← stpK_eq]; exact hts, HB2.out, hB⟩
    clear hts
    obtain ⟨b, off, ea, hb, d0⟩ := HH.out.at hB k hkn
    subst ea
    have hzb : 0 ≤ z ∧ z ≤ 65535 := by
      rw [hz]
      split
      · omega
      · exact HXX.out _ (by omega)
    have hxb := HXX.out k hkn
    have HS : Hid (stpK l (k + 1) = stpK l k ++ [l.getD k 0 - z]) := by
      show _ = _
      rw [stpK_succ, hz]
      by_cases h0 : k = 0
      · rw [if_pos h0, if_pos h0, h0, Int.sub_zero]
      · rw [if_neg h0, if_neg h0]
    obtain ⟨x, hx⟩ : ∃ x, l.getD k 0 = x := ⟨_, rfl⟩
    have HZ2 : Hid (x = (if k + 1 = 0 then 0 else l.getD (k + 1 - 1) 0)) := by show _ = _; rw [if_neg (by omega), Nat.add_sub_cancel, hx]
    rw [hx] at d0 HS hxb
    clear hz hx
    obtain ⟨y, hy⟩ : ∃ y, x - z = y := ⟨_, rfl⟩
    rw [hy] at HS
    have hyi : I64 y := ⟨by omega, by omega⟩
    have hT5 := HT.out.below (bl1 (.cells #[.int .i64 y] 3))
    have hN := heap_alloc_new wr (.cells #[.int .i64 y] 3)
    have n0 := cell_of_row _ wr.heap.size 0 _ _ (0, 0) hN
    have hbs : w.heap.size ≤ (wr.alloc (.cells #[.int .i64 y] 3)).heap.size := Nat.le_trans hB.size (bl1 _).size
    have i1 : (0 : Int) ≤ (k : Int) := by omega
    have i2 : (k : Int) < (l.length : Int) := by omega
    clear hN
    go_wp2_with (at_builtin; refine wpList_append_int rfl _ _ rfl w.heap.size _ (stpK l k) rfl hT5 wr.heap.size y rfl n0 hyi hll hbs ?_)
    intro v' w9 hT9 hgrow
    have hB9 : Below w.heap.size w w9 := (hB.alloc hB.size _).grown hgrow hbs (fun k hk => HT.out.lo hk)
    rw [← HS.out] at hT9
    clear hgrow hT5 n0 hbs
    go_wp2
    go_roundw
    case rel => exact ⟨k + 1, x, by omega, by go_num, rfl, HZ2.out, hT9, hB9⟩
    case measure => simp [intOf]; omega

/-- Sums, one by one. -/
theorem getD_app_drop (A l : List Int) (k : Nat) (hA : A.length = k) : (A ++ l.drop k).getD k 0 = l.getD k 0 := by
  simp [List.getD, List.getElem?_append, hA, List.getElem?_drop]
theorem sums_set {l : List Int} {k : Nat} {y : Int} (hk : k < l.length) (hy : l.getD k 0 = y) : (sums 0 (l.take k) ++ l.drop k).set k (lastS 0 (l.take k) + y) = sums 0 (l.take (k + 1)) ++ l.drop (k + 1) ∧ lastS 0 (l.take (k + 1)) = lastS 0 (l.take k) + y := by
  have e : l.take (k + 1) = l.take k ++ [y] := by
    rw [List.take_add_one, List.getElem?_eq_getElem hk, ← hy]
    simp [List.getD, hk]
  have d : l.drop k = y :: l.drop (k + 1) := by
    rw [List.drop_eq_getElem_cons hk, ← hy]
    simp [List.getD, hk]
  have hlen : (sums 0 (l.take k)).length = k := by rw [sums_len, List.length_take]; omega
  rw [e, sums_append, lastS_append, d]
  refine ⟨?_, rfl⟩
  rw [List.set_append_right _ _ (by omega), hlen, Nat.sub_self]
  simp [sums]
theorem lastS_le : ∀ (l : List Int) (a : Int), (∀ z ∈ l, 0 ≤ z ∧ z ≤ 65535) → a ≤ lastS a l ∧ lastS a l ≤ a + 65535 * l.length := by
  intro l
  induction l with
  | nil => intro a _; simp [lastS]
  | cons d t ih =>
    intro a h
    have h1 := h d (by simp)
    have h2 := ih (a + d) (fun z hz => h z (by simp [hz]))
    rw [lastS, List.length_cons]
    omega

set_option maxHeartbeats 1000000 in
set_option maxRecDepth 100000 in
theorem caddUp_any (base : Nat) (v : Value) (l : List Int) (w : World) (h : Io base w v l) (hx : ∀ z ∈ l, 0 ≤ z ∧ z ≤ 65535) (hl : l.length ≤ 40000) :
    Calls Try.prog 35 #[v] w fun e w' => e = .returned (.tuple #[]) ∧ Io base w' v (sums 0 l) ∧ Below base w w' := by
  obtain ⟨a, cap, rfl, hri⟩ := h.slice
  have HXX : Hid (∀ z ∈ l, 0 ≤ z ∧ z ≤ 65535) := hx
  clear hx hri
  go_enter Try.func35, Try.ntmps35
  go_wp2
  go_loopw [2, 7] (fun sm i wr => ∃ (k : Nat) (s : Int), k ≤ l.length ∧ i = .int .i64 k ∧ sm = .int .i64 s ∧ s = lastS 0 (l.take k) ∧ Io base wr (.slice a l.length cap) (sums 0 (l.take k) ++ l.drop k) ∧ Below base w wr) (fun _ i _ => l.length - (intOf i).toNat)
  case atStart => exact ⟨0, 0, Nat.zero_le _, rfl, rfl, rfl, h, Below.refl _ _⟩
  case round =>
    clear h
    obtain ⟨k, s, hk, rfl, rfl, hs, hT, hB⟩ := hrel
    by_cases hkn : k < l.length
    rotate_left
    · obtain rfl : k = l.length := by omega
      rw [List.take_length, List.drop_length, List.append_nil] at hT
      have g1 : ¬ (l.length : Int) < (l.length : Int) := by omega
      clear hs
      go_wp2
      go_end0
      exact ⟨rfl, hT, hB⟩
    have hsl := sums_len 0 (l.take k)
    rw [List.length_take, show min k l.length = k by omega] at hsl
    have hne : sums 0 (l.take k) ++ l.drop k ≠ [] := by
      intro e
      have := congrArg List.length e
      rw [List.length_append, List.length_drop, hsl] at this
      simp at this
      omega
    have hLl : (sums 0 (l.take k) ++ l.drop k).length = l.length := by rw [List.length_append, List.length_drop, hsl]; omega
    obtain ⟨g, cp, ev, hgb, hgl, hgc, hgx, hgf, hgs⟩ := hT.own hne
    have d0 := hgx k (by omega)
    rw [getD_app_drop _ l k hsl] at d0
    have hyb := HXX.out _ (getD_mem hkn)
    obtain ⟨y, hy⟩ : ∃ y, l.getD k 0 = y := ⟨_, rfl⟩
    obtain ⟨hs1, hs2⟩ := sums_set hkn hy
    have hsb := lastS_le (l.take k) 0 (fun z hz => HXX.out z (List.mem_of_mem_take hz))
    rw [List.length_take] at hsb
    rw [← hs] at hs1 hs2 hsb
    rw [hy] at d0 hyb
    obtain ⟨t, ht⟩ : ∃ t, s + y = t := ⟨_, rfl⟩
    rw [ht] at hs1 hs2
    have hti : I64 t := ⟨by omega, by omega⟩
    have hst := hgs k t (by omega) hti
    rw [hs1] at hst
    have hfz := hgf k
    have hBs : Below base w (wr.setCell ⟨g, k, none⟩ (.int .i64 t)) := hB.setCell (p := ⟨g, k, none⟩) hgb _
    have HS2 : Hid (t = lastS 0 (l.take (k + 1))) := hs2.symm
    have HST : Hid (Io base (wr.setCell ⟨g, k, none⟩ (.int .i64 t)) (.slice a l.length cap) (sums 0 (l.take (k + 1)) ++ l.drop (k + 1))) := hst
    have hev : a = some ⟨g, 0, none⟩ := by injection ev
    subst hev
    have i1 : (0 : Int) ≤ (k : Int) := by omega
    have i2 : (k : Int) < (l.length : Int) := by omega
    have ht1 : -9223372036854775808 ≤ t ∧ t ≤ 9223372036854775807 := hti
    clear hs hT hsl hne hLl hgx hgs hs1 hs2 hst hy ev hsb hyb hgf hti
    go_wp2
    go_roundw
    case rel => exact ⟨k + 1, t, by omega, by go_num, rfl, HS2.out, HST.out, hBs⟩
    case measure => simp [intOf]; omega

theorem two_new {w W : World} (hW : W = (w.alloc (.cells #[.slice none 0 0, .int .i64 0, .map none, .bool false] 45)).alloc (.cells #[pg w.heap.size] 42)) :
    Pc W w.heap.size (fun k => k < w.heap.size ∨ k = w.heap.size + 1) ⟨[], [], false⟩ ∧ W.cell? ⟨w.heap.size + 1, 0, none⟩ = some (pg w.heap.size) ∧ Below w.heap.size w W := by
  have h1 := pc_newA w (· < w.heap.size) (fun _ h => h)
  have hs : (w.alloc (.cells #[.slice none 0 0, .int .i64 0, .map none, .bool false] 45)).heap.size = w.heap.size + 1 := by simp
  have h2 := h1.moreA (.cells #[pg w.heap.size] 42)
  have hN := heap_alloc_new (w.alloc (.cells #[.slice none 0 0, .int .i64 0, .map none, .bool false] 45)) (.cells #[pg w.heap.size] 42)
  rw [hs, ← hW] at hN
  rw [hs, ← hW] at h2
  refine ⟨h2, cell_of_row _ (w.heap.size + 1) 0 _ _ (0, 0) hN, ?_⟩
  rw [hW]
  exact bl2 _ _
theorem Pc.wider {w w' : World} {B : Nat} {G : Nat → Prop} {s : St} (h : Pc w B G s) (hb : Below w.heap.size w w') : Pc w' B (fun k => G k ∨ (w.heap.size ≤ k ∧ k < w'.heap.size)) s := by
  refine h.guard_new hb.size (fun k hk _ => hb.block k hk) ?_
  rintro k (hk | ⟨h1, h2⟩)
  · exact ⟨Nat.lt_of_lt_of_le (h.1 k hk) hb.size, fun _ => hk⟩
  · exact ⟨h2, fun h3 => by omega⟩
theorem all_B (ys : List Nat) : allB ⟨ys, [], false⟩ = ys := rfl
theorem all_E (ys : List Nat) : allE ⟨ys, [], false⟩ = 0 := rfl

set_option maxHeartbeats 1000000 in
set_option maxRecDepth 100000 in
theorem cPoints_any (a : Option Addr) (cap : Nat) (l : List Int) (w : World) (h : Ri w a cap l) :
    Calls Try.prog 9 #[.slice a l.length cap] w fun e w' => ∃ a' c', e = .returned (.tuple #[.slice a' (ppB l).length c', .int .i64 (ppE l)]) ∧ Rb w' a' c' (ppB l) ∧ Below w.heap.size w w' := by
  have k2 := h.lenB
  have hfo := carePts_any a cap l w h
  cases hc : ptB l with
  | false =>
    have HE : Hid (ppE l = 1 ∧ ppB l = []) := ⟨by simp [ppE, hc], by simp [ppB, hc]⟩
    rw [hc] at hfo
    clear hc h
    go_enter Try.func9, Try.ntmps9
    go_wp2_with fail
    refine hfo.mono ?_
    rintro e u1 ⟨rfl, rfl⟩
    clear hfo
    go_wp2
    go_ret2
    exact ⟨none, 0, by rw [HE.out.1, HE.out.2]; rfl, by rw [HE.out.2]; exact Rb.nil _ _ _ (Nat.zero_le _) (fun _ => rfl), Below.refl _ _⟩
  | true =>
    have HE : Hid (ppE l = 0 ∧ ppB l = cnE l.length ++ pk PP (stps 0 l)) := ⟨by simp [ppE, hc], by simp [ppB, hc]⟩
    have hst := ptB_steps hc
    have hl2 := hst.2
    have HST : Hid (∀ z ∈ stps 0 l, DP z) := hst.1
    have HXX : Hid (∀ k, k < l.length → 0 ≤ l.getD k 0 ∧ l.getD k 0 ≤ 65535) := fun k hk => ⟨(ptB_at hc hk).1, (ptB_at hc hk).2.1⟩
    have hsh := pp_short hc
    rw [HE.out.2] at hsh
    have HSH : Hid ((cnE l.length ++ pk PP (stps 0 l)).length ≤ 20000) := by show _ ≤ _; omega
    rw [hc] at hfo
    clear hc hst hsh
    go_enter Try.func9, Try.ntmps9
    go_wp2_with fail
    refine hfo.mono ?_
    rintro e u1 ⟨rfl, rfl⟩
    clear hfo
    obtain ⟨W, hW⟩ : ∃ W, W = (w.alloc (.cells #[.slice none 0 0, .int .i64 0, .map none, .bool false] 45)).alloc (.cells #[pg w.heap.size] 42) := ⟨_, rfl⟩
    obtain ⟨hP, hcl, hB⟩ := two_new hW
    have hpc := putCount_any w.heap.size _ l.length W hP hl2
    go_wp2_with fail
    rw [← hW]
    refine hpc.mono ?_
    rintro e u1 ⟨rfl, hP1, hK1⟩
    clear hpc hP hW
    replace hcl := (hK1.cell (p := ⟨w.heap.size + 1, 0, none⟩) (.inr rfl)).trans hcl
    replace hB : Below w.heap.size w u1 := hB.trans (hK1.below (fun k hk => .inl hk))
    have hdf := cdiff_any a cap l u1 (h.below hB) hl2 HXX.out
    clear hK1
    go_wp2_with fail
    refine hdf.mono ?_
    rintro e u2 ⟨a2, c2, rfl, hri, hbk, hb2⟩
    clear hdf
    have hP2 := hP1.wider hb2
    have hcb := World.block_lt_of_cell? u1 _ hcl
    have hcl2 : u2.cell? ⟨w.heap.size + 1, 0, none⟩ = some (pg w.heap.size) := (hb2.cell (p := ⟨w.heap.size + 1, 0, none⟩) hcb).trans hcl
    have hea := eachP_any w.heap.size (w.heap.size + 1) _ _ a2 c2 (stps 0 l) u2 hP2 hri (fun b o e => .inr (hbk b o e)) hcl2 (.inl (.inr rfl)) HST.out (by rw [stps_len]; exact hl2) HSH.out
    replace hB : Below w.heap.size w u2 := hB.trans (hb2.mono hB.size)
    clear hP1 hP2 hcb hcl hbk hb2 hri
    go_wp2_with fail
    refine hea.mono ?_
    rintro e u3 ⟨rfl, hP3, hK3⟩
    clear hea
    have hcl3 : u3.cell? ⟨w.heap.size + 1, 0, none⟩ = some (pg w.heap.size) := (hK3.cell (p := ⟨w.heap.size + 1, 0, none⟩) (.inl (.inr rfl))).trans hcl2
    replace hB : Below w.heap.size w u3 := hB.trans (hK3.below (fun k hk => .inl (.inl hk)))
    have hal := all_any w.heap.size _ _ u3 hP3 (by have := HSH.out; show (cnE l.length ++ pk PP (stps 0 l)).length ≤ _; omega)
    rw [all_B, all_E, ← HE.out.2] at hal
    clear hP3 hK3 hcl2
    go_wp2_with fail
    refine hal.mono ?_
    rintro e u4 ⟨a4, c4, rfl, hrw, hb4⟩
    clear hal
    replace hB : Below w.heap.size w u4 := hB.trans (hb4.mono hB.size)
    go_wp2
    go_ret2
    exact ⟨a4, c4, by rw [HE.out.1]; rfl, Rw.rd hrw, hB⟩

set_option maxHeartbeats 400000 in
set_option maxRecDepth 100000 in
theorem eachC0_any (B c : Nat) (G : Nat → Prop) (a : Option Addr) (cap : Nat) (l : List Int) (w : World) (h : Pc w B G ⟨[], [], false⟩) (h0 : l = []) :
    Calls Try.prog 21 #[.slice a l.length cap, .int .i64 64, .func (.func 39) #[] #[], .func (.func 40) #[] #[pg c]] w fun e w' => e = .returned (.tuple #[]) ∧ Pc w' B G ⟨[] ++ pk PC l, [], false⟩ ∧ Keep G w w' := by
  subst h0
  rw [pk_nil, List.append_nil, List.length_nil]
  go_enter Try.func21, Try.ntmps21
  go_wp2
  go_loopw [0] (fun v wr => v = .slice a 0 cap ∧ w = wr) (fun _ _ => 0)
  case atStart => exact ⟨rfl, rfl⟩
  case round =>
    obtain ⟨rfl, rfl⟩ := hrel
    go_wp2
    go_end0
    exact ⟨rfl, h, Keep.refl _ _⟩

set_option maxHeartbeats 1000000 in
set_option maxRecDepth 100000 in
theorem cChanges_any (a : Option Addr) (cap : Nat) (l : List Int) (w : World) (h : Ri w a cap l) :
    Calls Try.prog 15 #[.slice a l.length cap] w fun e w' => ∃ a' c', e = .returned (.tuple #[.slice a' (pcB l).length c', .int .i64 (pcE l)]) ∧ Rb w' a' c' (pcB l) ∧ Below w.heap.size w w' := by
  have k2 := h.lenB
  have hfo := careChs_any a cap l w h
  cases hc : chB l with
  | false =>
    have HE : Hid (pcE l = 1 ∧ pcB l = []) := ⟨by simp [pcE, hc], by simp [pcB, hc]⟩
    rw [hc] at hfo
    clear hc h
    go_enter Try.func15, Try.ntmps15
    go_wp2_with fail
    refine hfo.mono ?_
    rintro e u1 ⟨rfl, rfl⟩
    clear hfo
    go_wp2
    go_ret2
    exact ⟨none, 0, by rw [HE.out.1, HE.out.2]; rfl, by rw [HE.out.2]; exact Rb.nil _ _ _ (Nat.zero_le _) (fun _ => rfl), Below.refl _ _⟩
  | true =>
    have HE : Hid (pcE l = 0 ∧ pcB l = pk PC l) := ⟨by simp [pcE, hc], by simp [pcB, hc]⟩
    have hl2 := (chB_iff.1 hc).2
    have HST : Hid (∀ z ∈ l, DC z) := (chB_iff.1 hc).1
    have hsh := pc_short hc
    rw [HE.out.2] at hsh
    have HSH : Hid (([] ++ pk PC l).length ≤ 20000) := by show _ ≤ _; rw [List.nil_append]; omega
    rw [hc] at hfo
    clear hc hsh
    go_enter Try.func15, Try.ntmps15
    go_wp2_with fail
    refine hfo.mono ?_
    rintro e u1 ⟨rfl, rfl⟩
    clear hfo
    obtain ⟨W, hW⟩ : ∃ W, W = (w.alloc (.cells #[.slice none 0 0, .int .i64 0, .map none, .bool false] 45)).alloc (.cells #[pg w.heap.size] 42) := ⟨_, rfl⟩
    obtain ⟨hP, hcl, hB⟩ := two_new hW
    have hrn : l = [] ∨ ∀ b o, a = some ⟨b, o, none⟩ → b < w.heap.size := by
      rcases h.2.2.2 with h0 | ⟨b, off, e, hb, _⟩
      · exact .inl h0
      · exact .inr (fun b' o e' => by rw [e] at e'; cases e'; exact hb)
    obtain ⟨n, hn⟩ : ∃ n, l.length = n := ⟨_, rfl⟩
    have hea : Calls Try.prog 21 #[.slice a l.length cap, .int .i64 64, .func (.func 39) #[] #[], .func (.func 40) #[] #[pg (w.heap.size + 1)]] W fun e w' => e = .returned (.tuple #[]) ∧ Pc w' w.heap.size (fun k => k < w.heap.size ∨ k = w.heap.size + 1) ⟨[] ++ pk PC l, [], false⟩ ∧ Keep (fun k => k < w.heap.size ∨ k = w.heap.size + 1) W w' := by
      rcases hrn with h0 | h0
      · exact eachC0_any _ _ _ a cap l W hP h0
      · exact eachC_any w.heap.size (w.heap.size + 1) _ [] a cap l W hP (h.below hB) (fun b o e => .inl (h0 b o e)) hcl (.inr rfl) HST.out hl2 HSH.out
    clear hP h hrn hn
    go_wp2_with fail
    rw [← hW]
    clear hW
    refine hea.mono ?_
    rintro e u3 ⟨rfl, hP3, hK3⟩
    clear hea
    have hcl3 : u3.cell? ⟨w.heap.size + 1, 0, none⟩ = some (pg w.heap.size) := (hK3.cell (p := ⟨w.heap.size + 1, 0, none⟩) (.inr rfl)).trans hcl
    replace hB : Below w.heap.size w u3 := hB.trans (hK3.below (fun k hk => .inl hk))
    rw [List.nil_append] at hP3
    have hal := all_any w.heap.size _ _ u3 hP3 (by have := HSH.out; rw [List.nil_append] at this; show (pk PC l).length ≤ _; omega)
    rw [all_B, all_E, ← HE.out.2] at hal
    clear hP3 hK3 hcl
    go_wp2_with fail
    refine hal.mono ?_
    rintro e u4 ⟨a4, c4, rfl, hrw, hb4⟩
    clear hal
    replace hB : Below w.heap.size w u4 := hB.trans (hb4.mono hB.size)
    go_wp2
    go_ret2
    exact ⟨a4, c4, by rw [HE.out.1]; rfl, Rw.rd hrw, hB⟩

end Go.Proofs.Ytngkckannclcmaa

namespace Go.Proofs.Ytngkckannclcmaa
open Go.RowKit Go.Maps
set_option linter.unusedSimpArgs false
set_option linter.unusedVariables false

/-- A field: how a number is read, and how many bytes it takes, in a block. -/
def FB (w : World) (c : Nat) (F : Value) (wd : Int) : Prop := w.heap[c]? = some (.cells #[F, .int .i64 wd] 68 (0, 0))
theorem FB.lt {w : World} {c : Nat} {F : Value} {wd : Int} (h : FB w c F wd) : c < w.heap.size := (Array.getElem?_eq_some_iff.1 h).1
theorem FB.cells {w : World} {c : Nat} {F : Value} {wd : Int} (h : FB w c F wd) : w.cell? ⟨c, 0, none⟩ = some F ∧ w.cell? ⟨c, 1, none⟩ = some (.int .i64 wd) := ⟨cell_of_row w c 0 _ _ (0, 0) h, cell_of_row w c 1 _ _ (0, 0) h⟩
theorem FB.below {w w' : World} {c : Nat} {F : Value} {wd : Int} (h : FB w c F wd) (hb : Below w.heap.size w w') : FB w' c F wd := (hb.block c h.lt).trans h
theorem FB.grown {base : Nat} {w w' : World} {c : Nat} {F : Value} {wd : Int} {v : Value} {zs : List Int} (h : FB w c F wd) (hi : Io base w v zs) (hg : w.grownBy w' v.ownBlock) : FB w' c F wd := by
  refine (hg.block c h.lt (fun e => ?_)).trans h
  rcases hi.2.2 with ⟨e0, _⟩ | ⟨g1, cap, cur, k1, k2, k3, k4⟩
  · rw [e0] at e; cases e
  · rw [k1] at e
    have e' : some c = some g1 := e
    injection e' with e'
    rw [← e'] at k3
    have h' : w.heap[c]? = some (.cells #[F, .int .i64 wd] 68 (0, 0)) := h
    rw [k3] at h'
    cases h'
set_option maxHeartbeats 400000 in
set_option maxRecDepth 100000 in
theorem cfP0_any (w : World) :
    Calls Try.prog 34 #[.int .i64 0] w fun e w' => e = .returned (.tuple #[.agg #[.func (.func 49) #[] #[], .int .i64 1], .bool true]) ∧ Below w.heap.size w w' := by
  go_enter Try.func34, Try.ntmps34
  go_wp2
  (try simp only [Exit.inBlock, Exit.then])
  refine bodyPost_ret (v := .tuple #[.agg #[.func (.func 49) #[] #[], .int .i64 1], .bool true]) ?_ rfl ⟨rfl, bl1 _⟩
  simp [results, Try.results34, go_sem]
set_option maxHeartbeats 400000 in
set_option maxRecDepth 100000 in
theorem cfP1_any (w : World) :
    Calls Try.prog 34 #[.int .i64 128] w fun e w' => e = .returned (.tuple #[.agg #[.func (.func 50) #[] #[], .int .i64 2], .bool true]) ∧ Below w.heap.size w w' := by
  go_enter Try.func34, Try.ntmps34
  go_wp2
  (try simp only [Exit.inBlock, Exit.then])
  refine bodyPost_ret (v := .tuple #[.agg #[.func (.func 50) #[] #[], .int .i64 2], .bool true]) ?_ rfl ⟨rfl, bl1 _⟩
  simp [results, Try.results34, go_sem]
set_option maxHeartbeats 400000 in
set_option maxRecDepth 100000 in
theorem cfC0_any (w : World) :
    Calls Try.prog 43 #[.int .i64 0] w fun e w' => e = .returned (.tuple #[.agg #[.func (.func 52) #[] #[], .int .i64 1], .bool true]) ∧ Below w.heap.size w w' := by
  go_enter Try.func43, Try.ntmps43
  go_wp2
  (try simp only [Exit.inBlock, Exit.then])
  refine bodyPost_ret (v := .tuple #[.agg #[.func (.func 52) #[] #[], .int .i64 1], .bool true]) ?_ rfl ⟨rfl, bl1 _⟩
  simp [results, Try.results43, go_sem]
set_option maxHeartbeats 400000 in
set_option maxRecDepth 100000 in
theorem cfC1_any (w : World) :
    Calls Try.prog 43 #[.int .i64 64] w fun e w' => e = .returned (.tuple #[.agg #[.func (.func 53) #[] #[], .int .i64 2], .bool true]) ∧ Below w.heap.size w w' := by
  go_enter Try.func43, Try.ntmps43
  go_wp2
  (try simp only [Exit.inBlock, Exit.then])
  refine bodyPost_ret (v := .tuple #[.agg #[.func (.func 53) #[] #[], .int .i64 2], .bool true]) ?_ rfl ⟨rfl, bl1 _⟩
  simp [results, Try.results43, go_sem]
set_option maxHeartbeats 400000 in
set_option maxRecDepth 100000 in
theorem cfC2_any (w : World) :
    Calls Try.prog 43 #[.int .i64 128] w fun e w' => e = .returned (.tuple #[.agg #[.func (.func 54) #[] #[], .int .i64 0], .bool true]) ∧ Below w.heap.size w w' := by
  go_enter Try.func43, Try.ntmps43
  go_wp2
  (try simp only [Exit.inBlock, Exit.then])
  refine bodyPost_ret (v := .tuple #[.agg #[.func (.func 54) #[] #[], .int .i64 0], .bool true]) ?_ rfl ⟨rfl, bl1 _⟩
  simp [results, Try.results43, go_sem]
set_option maxHeartbeats 400000 in
set_option maxRecDepth 100000 in
theorem cfC3_any (w : World) :
    Calls Try.prog 43 #[.int .i64 192] w fun e w' => e = .returned (.tuple #[.agg #[.nilFunc, .int .i64 0], .bool false]) ∧ Below w.heap.size w w' := by
  go_enter Try.func43, Try.ntmps43
  go_wp2
  (try simp only [Exit.inBlock, Exit.then])
  refine bodyPost_ret (v := .tuple #[.agg #[.nilFunc, .int .i64 0], .bool false]) ?_ rfl ⟨rfl, bl1 _⟩
  simp [results, Try.results43, go_sem]

theorem nmV_two {b : List Nat} (hB : Byt b) (h : 2 ≤ b.length) : nmV b 0 2 = nmV b 0 1 * 256 + nmV b 1 1 := by
  match b, h with
  | x :: y :: t, _ =>
    have e1 : nmV (x :: y :: t) 0 2 = V8 [x, y] := by
      unfold nmV
      rw [if_pos (by simp only [inB, decide_eq_true_iff, List.length_cons]; omega)]
      rfl
    have e2 : nmV (x :: y :: t) 0 1 = V8 [x] := by
      unfold nmV
      rw [if_pos (by simp only [inB, decide_eq_true_iff, List.length_cons]; omega)]
      rfl
    have e3 : nmV (x :: y :: t) 1 1 = V8 [y] := by
      unfold nmV
      rw [if_pos (by simp only [inB, decide_eq_true_iff, List.length_cons]; omega)]
      rfl
    rw [e1, e2, e3]
    simp [V8]
    omega
set_option maxHeartbeats 1000000 in
set_option maxRecDepth 100000 in
theorem readCount_any (a : Option Addr) (cap : Nat) (b : List Nat) (w : World) (h : Rb w a cap b) :
    Calls Try.prog 32 #[.slice a b.length cap] w fun e w' => ∃ z : Int, e = .returned (.tuple #[.int .i64 z, .int .i64 (ptA b : Int), .bool (ptO b)]) ∧ (ptO b = true → z = (ptN b : Int)) ∧ w = w' := by
  have hlt := nmV_lt h.lim 0 1
  have hlt2 := nmV_lt h.lim 0 2
  have hu := u8_any a cap b 0 w h ⟨by decide, by decide⟩
  have hv := u16_any a cap b 0 w h ⟨by decide, by decide⟩
  have HT : Hid (2 ≤ b.length → nmV b 0 2 = nmV b 0 1 * 256 + nmV b 1 1) := fun h2 => nmV_two h.lim h2
  rw [show inB b.length 0 1 = decide (1 ≤ b.length) from (inB_nat (p := 0) (n := 1)).trans (by rw [Nat.zero_add])] at hu
  rw [show inB b.length 0 2 = decide (2 ≤ b.length) from (inB_nat (p := 0) (n := 2)).trans (by rw [Nat.zero_add])] at hv
  obtain ⟨x, hx⟩ : ∃ x, nmV b 0 1 = x := ⟨_, rfl⟩
  obtain ⟨y, hy⟩ : ∃ x, nmV b 0 2 = x := ⟨_, rfl⟩
  rw [hx] at hu hlt HT
  rw [hy] at hv hlt2 HT
  simp only [Nat.pow_one] at hlt
  have hlt2 : y < 65536 := by simpa using hlt2
  clear h
  by_cases h1 : 128 ≤ x
  · have HA : Hid (ptA b = 2) := by show _ = _; unfold ptA; rw [hx, if_pos h1]
    have HO : Hid (ptO b = decide (2 ≤ b.length)) := by show _ = _; unfold ptO; rw [HA.out]
    have HN : Hid (2 ≤ b.length → (y : Int) - 32768 = (ptN b : Int)) := fun h2 => by
      have := HT.out h2
      unfold ptN
      rw [hx, if_pos h1]
      omega
    obtain ⟨q, hq⟩ : ∃ q, decide (2 ≤ b.length) = q := ⟨_, rfl⟩
    rw [hq] at hv HO
    have HQ : Hid (q = true → 2 ≤ b.length) := fun h => of_decide_eq_true (hq.trans h)
    have g1 : ¬ (x : Int) < 128 := by omega
    clear hx hy hq h1 HT
    go_enter Try.func32, Try.ntmps32
    go_wp2_with fail
    refine hu.mono ?_
    rintro e u ⟨rfl, rfl⟩
    clear hu
    go_wp2_with fail
    refine hv.mono ?_
    rintro e u ⟨rfl, rfl⟩
    clear hv
    go_wp2
    go_ret3
    exact ⟨(y : Int) - 32768, by rw [HA.out, HO.out]; rfl, fun h => HN.out (HQ.out (by rw [← HO.out]; exact h)), rfl⟩
  · have HA : Hid (ptA b = 1) := by show _ = _; unfold ptA; rw [hx, if_neg h1]
    have HO : Hid (ptO b = decide (1 ≤ b.length)) := by show _ = _; unfold ptO; rw [HA.out]
    have HN : Hid ((x : Int) = (ptN b : Int)) := by show _ = _; unfold ptN; rw [hx, if_neg h1]
    obtain ⟨q, hq⟩ : ∃ q, decide (1 ≤ b.length) = q := ⟨_, rfl⟩
    rw [hq] at hu HO
    have g1 : (x : Int) < 128 := by omega
    clear hx hy hq h1 HT hv
    go_enter Try.func32, Try.ntmps32
    go_wp2_with fail
    refine hu.mono ?_
    rintro e u ⟨rfl, rfl⟩
    clear hu
    go_wp2
    go_ret3
    exact ⟨(x : Int), by rw [HA.out, HO.out]; rfl, fun _ => HN.out, rfl⟩

end Go.Proofs.Ytngkckannclcmaa

namespace Go.Proofs.Ytngkckannclcmaa
open Go.RowKit Go.Maps
set_option linter.unusedSimpArgs false
set_option linter.unusedVariables false

set_option maxHeartbeats 8000000 in
set_option maxRecDepth 100000 in
theorem rrP_any (a : Option Addr) (cap : Nat) (b : List Nat) (p0 N : Nat) (w : World) (h : Rb w a cap b) (hbl : b.length ≤ 10000) (hp0 : p0 ≤ b.length) (hN : N ≤ 40000) :
    Calls Try.prog 33 #[.slice a b.length cap, .int .i64 (p0 : Int), .int .i64 (N : Int), .int .i64 128, .func (.func 34) #[] #[]] w fun e w' => ((∃ l e1 v, rdF RPt b N p0 N = some (l, e1) ∧ e = .returned (.tuple #[v, .int .i64 ((e1 : Nat) : Int), .bool true]) ∧ Io w.heap.size w' v l) ∨ (rdF RPt b N p0 N = none ∧ e = .returned (.tuple #[.slice none 0 0, .int .i64 0, .bool false]))) ∧ Below w.heap.size w w' := by
  obtain ⟨tt, htt⟩ : ∃ t, rdF RPt b N p0 N = t := ⟨_, rfl⟩
  rw [htt]
  have HTT : Hid (rdF RPt b N p0 N = tt) := htt
  have HRB : Hid (Rb w a cap b) := h
  clear h htt
  go_enter Try.func33, Try.ntmps33
  go_wp2
  go_loopw [1, 13] (fun pp v wr => ∃ (p : Nat) (zs : List Int), zs.length ≤ N ∧ p ≤ b.length ∧ pp = .int .i64 (p : Int) ∧ tt = onto zs (rdF RPt b (N - zs.length) p (N - zs.length)) ∧ Io w.heap.size wr v zs ∧ Below w.heap.size w wr) (fun pp _ _ => b.length - (intOf pp).toNat)
  case atStart => exact ⟨p0, [], Nat.zero_le _, hp0, rfl, by rw [onto_nil]; exact HTT.out.symm, Io.nil _ _, Below.refl _ _⟩
  case round =>
    clear HTT hp0
    obtain ⟨p, zs, hz, hp, rfl, ho, hIo, hbW⟩ := hrel
    have HOO : Hid (tt = onto zs (rdF RPt b (N - zs.length) p (N - zs.length))) := ho
    clear ho
    obtain ⟨av, cv, rfl, hri⟩ := hIo.slice
    by_cases hzn : zs.length < N
    rotate_left
    · have HZ : Hid (tt = some (zs, p)) := by
        show _ = _
        rw [HOO.out, show N - zs.length = 0 by omega, rdF_zero]
        simp [onto]
      have g1 : ¬ (zs.length : Int) < (N : Int) := by omega
      clear HOO hri
      go_wp2
      go_ret3
      exact ⟨.inl ⟨zs, p, HZ.out, _, rfl, hIo⟩, hbW⟩
    have hrb := HRB.out.below hbW
    have hu := u8_any a cap b (p : Int) wr hrb ⟨by omega, by omega⟩
    have hlt := nmV_lt hrb.lim (p : Int) 1
    rw [show inB b.length (p : Int) 1 = decide (p + 1 ≤ b.length) from inB_nat (n := 1)] at hu
    have g1 : (zs.length : Int) < (N : Int) := by omega
    clear hri hrb
    by_cases h1 : p + 1 ≤ b.length
    rotate_left
    · have hv0 : nmV b (p : Int) 1 = 0 := by unfold nmV; rw [show inB b.length (p : Int) ((1 : Nat) : Int) = false from (inB_nat (n := 1)).trans (decide_eq_false h1)]; rfl
      have HNO : Hid (tt = none) := by
        show _ = _
        rw [HOO.out, rdF_bad (by omega) (by rw [hdB]; exact decide_eq_false (fun hx => h1 hx.1))]
        rfl
      obtain ⟨z, hz0⟩ : ∃ z : Int, ((nmV b (p : Int) 1 : Nat) : Int) = z := ⟨_, rfl⟩
      rw [decide_eq_false h1, hz0] at hu
      obtain rfl : z = 0 := by omega
      have hf := cfP0_any wr
      clear hv0 hz0 HOO hlt h1
      go_wp2_with fail
      refine hu.mono ?_
      rintro e w1 ⟨rfl, rfl⟩
      clear hu
      go_wp2_with fail
      refine hf.mono ?_
      rintro e u1 ⟨rfl, hb1⟩
      replace hbW := hbW.trans (hb1.mono hbW.size)
      clear hf hb1
      go_wp2
      go_ret3
      exact ⟨.inr ⟨HNO.out, rfl⟩, hbW.alloc hbW.size _⟩
    obtain ⟨h, hh⟩ : ∃ h, nmV b (p : Int) 1 = h := ⟨_, rfl⟩
    have HH : Hid (nmV b (p : Int) 1 = h) := hh
    rw [hh, decide_eq_true h1] at hu
    rw [hh] at hlt
    simp only [Nat.pow_one] at hlt
    have HBD : Hid (¬ (p + 1 ≤ b.length ∧ h < 256 ∧ h % 128 + 1 ≤ N - zs.length ∧ p + 1 + (h % 128 + 1) * szP (h / 128) ≤ b.length) → tt = none) := fun hx => by
      rw [HOO.out, rdF_bad (by omega) (by rw [hdB, HH.out]; exact decide_eq_false hx)]
      rfl
    have HST : Hid ((p + 1 ≤ b.length ∧ h < 256 ∧ h % 128 + 1 ≤ N - zs.length ∧ p + 1 + (h % 128 + 1) * szP (h / 128) ≤ b.length) → tt = onto (zs ++ runV RPt b (h / 128) (p + 1) (h % 128 + 1)) (rdF RPt b (N - zs.length - (h % 128 + 1)) (p + 1 + (h % 128 + 1) * szP (h / 128)) (N - zs.length - (h % 128 + 1)))) := fun hx => by
      rw [HOO.out, rdF_step (c := h % 128 + 1) (kd := h / 128) (by rw [hdB, HH.out]; exact decide_eq_true hx) (by rw [HH.out]; rfl) (by rw [HH.out]; rfl), onto_onto]
      rfl
    obtain ⟨m, hm⟩ : ∃ m, h % 128 = m := ⟨_, rfl⟩
    have hmi : (h : Int) % 128 = (m : Int) := by omega
    have hmt : (h : Int).tmod 128 = (m : Int) := (tmod_nn (by omega)).trans hmi
    rw [hm] at HBD HST
    have hmM : m < 128 := by omega
    obtain ⟨kd, hkd⟩ : ∃ k, h / 128 = k := ⟨_, rfl⟩
    rw [hkd] at HBD HST
    have hhk : h = 128 * kd + m := by omega
    have HHK : Hid (h = 128 * kd + m) := hhk
    clear hh HOO hm hkd HH
    rcases (by omega : kd = 0 ∨ kd = 1) with hk0 | hk0
    · have hsb : (h : Int) - (m : Int) = 0 := by omega
      rw [hk0] at HBD HST
      have hf := cfP0_any wr
      have hht : h < 256 := by omega
      clear hhk hk0
      by_cases h3 : m + 1 ≤ N - zs.length
      rotate_left
      · have HNO : Hid (tt = none) := HBD.out (fun hx => h3 hx.2.2.1)
        have g3 : decide ((N : Int) - (zs.length : Int) ≤ (m : Int)) = true := decide_eq_true (by omega)
        clear HBD HST HHK h1 h3 hlt
        go_wp2_with fail
        refine hu.mono ?_
        rintro e w1 ⟨rfl, rfl⟩
        clear hu
        go_wp2_with fail
        refine hf.mono ?_
        rintro e u1 ⟨rfl, hb1⟩
        replace hbW := hbW.trans (hb1.mono hbW.size)
        clear hf hb1
        go_wp2
        go_ret3
        exact ⟨.inr ⟨HNO.out, rfl⟩, hbW.alloc hbW.size _⟩
      have g3 : decide ((N : Int) - (zs.length : Int) ≤ (m : Int)) = false := decide_eq_false (by omega)
      go_wp2_with fail
      refine hu.mono ?_
      rintro e w1 ⟨rfl, rfl⟩
      clear hu
      go_wp2_with fail
      refine hf.mono ?_
      rintro e u1 ⟨rfl, hb1⟩
      replace hbW := hbW.trans (hb1.mono hbW.size)
      replace hIo := hIo.below hb1
      have hIo2 := hIo.below (bl1 (.cells #[.func (.func 49) #[] #[], .int .i64 1] 68))
      have hbW2 := hbW.alloc hbW.size (.cells #[.func (.func 49) #[] #[], .int .i64 1] 68)
      have hFB : FB (u1.alloc (.cells #[.func (.func 49) #[] #[], .int .i64 1] 68)) u1.heap.size (.func (.func 49) #[] #[]) 1 := heap_alloc_new u1 _
      clear hf hb1 hIo hbW g3
      go_wp2
      generalize u1.alloc (.cells #[.func (.func 49) #[] #[], .int .i64 1] 68) = u2 at *
      generalize u1.heap.size = c at *
      go_loopw [1, 13, 60] (fun pp v kk wr => ∃ (j q : Nat), j ≤ m + 1 ∧ q = p + 1 + j * szP 0 ∧ q ≤ b.length ∧ pp = .int .i64 (q : Int) ∧ kk = .int .i64 (j : Int) ∧ Io w.heap.size wr v (zs ++ runV RPt b 0 (p + 1) j) ∧ FB wr c (.func (.func 49) #[] #[]) 1 ∧ Below w.heap.size w wr) (fun _ _ kk _ => m + 1 - (intOf kk).toNat)
      case atStart => exact ⟨0, p + 1, Nat.zero_le _, by rw [Nat.zero_mul], h1, by go_num, rfl, by rw [show runV RPt b 0 (p + 1) 0 = [] from rfl, List.append_nil]; exact hIo2, hFB, hbW2⟩
      case round =>
        clear hIo2 hbW2 hFB
        obtain ⟨j, q, hj, hq, hql, rfl, rfl, hIo, hFB, hbW⟩ := hrel
        have HQ : Hid (q = p + 1 + j * szP 0) := hq
        clear hq
        obtain ⟨a4, c4, rfl, _⟩ := hIo.slice
        by_cases hjm : j ≤ m
        rotate_left
        · obtain rfl : j = m + 1 := by omega
          have HS : Hid (_) := HST.out ⟨h1, hht, h3, by rw [← HQ.out]; exact hql⟩
          have hlen : (zs ++ runV RPt b 0 (p + 1) (m + 1)).length = zs.length + (m + 1) := by rw [List.length_append, runV_len]
          have hpq : p < q := by rw [HQ.out]; omega
          have g4 : ¬ (((m + 1 : Nat) : Nat) : Int) < (m : Int) + 1 := by omega
          have HRL : Hid (tt = onto (zs ++ runV RPt b 0 (p + 1) (m + 1)) (rdF RPt b (N - (zs ++ runV RPt b 0 (p + 1) (m + 1)).length) q (N - (zs ++ runV RPt b 0 (p + 1) (m + 1)).length))) := by
            show _ = _
            rw [HS.out, hlen, HQ.out, show N - (zs.length + (m + 1)) = N - zs.length - (m + 1) by omega]
          go_wp2
          go_roundw
          case rel => exact ⟨q, _, by rw [hlen]; omega, hql, rfl, HRL.out, hIo, hbW⟩
          case measure => simp [intOf]; omega
        have g4 : (j : Int) < (m : Int) + 1 := by omega
        have HSC : Hid (zs ++ runV RPt b 0 (p + 1) (j + 1) = (zs ++ runV RPt b 0 (p + 1) j) ++ [((nmV b (q : Int) 1 : Nat) : Int)]) := by
          show _ = _
          rw [runV_succ, ← List.append_assoc, HQ.out]
          rfl
        have HQ2 : Hid (p + 1 + (j + 1) * szP 0 = q + 1) := by show _ = _; rw [HQ.out, Nat.add_mul, Nat.one_mul, show szP 0 = 1 from rfl]; omega
        have HBD2 : Hid (b.length < q + 1 → tt = none) := fun hx => HBD.out (fun hy => by
          have h5 := hy.2.2.2
          have h6 : (j + 1) * szP 0 ≤ (m + 1) * szP 0 := Nat.mul_le_mul_right _ (by omega)
          have h7 := HQ2.out
          omega)
        have hll : (zs ++ runV RPt b 0 (p + 1) j).length + 1 ≤ 1000000 := by rw [List.length_append, runV_len]; omega
        clear HBD HST
        obtain ⟨ys, hys⟩ : ∃ ys, zs ++ runV RPt b 0 (p + 1) j = ys := ⟨_, rfl⟩
        rw [hys] at HSC hIo hll ⊢
        clear hys
        obtain ⟨f0, f1⟩ := hFB.cells
        have hrb := HRB.out.below hbW
        have hu := u8_any a cap b (q : Int) wr hrb ⟨by omega, by omega⟩
        have hlt2 := nmV_lt hrb.lim (q : Int) 1
        have hlt2 : nmV b (q : Int) 1 < 256 := by simpa using hlt2
        have hzi : I64 (((nmV b (q : Int) 1 : Nat) : Int)) := ⟨by omega, by omega⟩
        rw [show inB b.length (q : Int) 1 = decide (q + 1 ≤ b.length) from inB_nat (n := 1)] at hu
        obtain ⟨x, hx⟩ : ∃ x, ((nmV b (q : Int) 1 : Nat) : Int) = x := ⟨_, rfl⟩
        rw [hx] at hu HSC hzi
        clear hx hlt2 hrb
        by_cases h5 : q + 1 ≤ b.length
        rotate_left
        · have HNO : Hid (tt = none) := HBD2.out (by omega)
          rw [decide_eq_false h5] at hu
          clear HBD2 HSC HQ2
          go_wp2_with fail
          refine hu.mono ?_
          rintro e w1 ⟨rfl, rfl⟩
          clear hu
          go_wp2
          go_ret3
          exact ⟨.inr ⟨HNO.out, rfl⟩, hbW⟩
        rw [decide_eq_true h5] at hu
        have hIo5 := hIo.below (bl1 (.cells #[.int .i64 x] 3))
        have hFB5 := hFB.below (bl1 (.cells #[.int .i64 x] 3))
        have hN5 := heap_alloc_new wr (.cells #[.int .i64 x] 3)
        have n0 := cell_of_row _ wr.heap.size 0 _ _ (0, 0) hN5
        have hbs : w.heap.size ≤ (wr.alloc (.cells #[.int .i64 x] 3)).heap.size := Nat.le_trans hbW.size (bl1 _).size
        clear hN5 HBD2
        go_wp2_with fail
        refine hu.mono ?_
        rintro e w1 ⟨rfl, rfl⟩
        clear hu
        go_wp2_with (at_builtin; refine wpList_append_int rfl _ _ rfl w.heap.size _ ys rfl hIo5 wr.heap.size x rfl n0 hzi hll hbs ?_)
        intro v' w9 hI9 hgrow
        have hB9 : Below w.heap.size w w9 := (hbW.alloc hbW.size _).grown hgrow hbs (fun k hk => hIo.lo hk)
        have hFB9 := hFB5.grown hIo5 hgrow
        obtain ⟨e0, e1⟩ := hFB9.cells
        rw [← HSC.out] at hI9
        clear hgrow hIo5 hFB5 n0 hbs hll hIo hbW hFB f0 f1
        go_wp2
        go_roundw
        case rel => exact ⟨j + 1, q + 1, by omega, HQ2.out.symm, h5, by go_num, by go_num, hI9, hFB9, hB9⟩
        case measure => simp [intOf]; omega
    · have hsb : (h : Int) - (m : Int) = 128 := by omega
      rw [hk0] at HBD HST
      have hf := cfP1_any wr
      have hht : h < 256 := by omega
      clear hhk hk0
      by_cases h3 : m + 1 ≤ N - zs.length
      rotate_left
      · have HNO : Hid (tt = none) := HBD.out (fun hx => h3 hx.2.2.1)
        have g3 : decide ((N : Int) - (zs.length : Int) ≤ (m : Int)) = true := decide_eq_true (by omega)
        clear HBD HST HHK h1 h3 hlt
        go_wp2_with fail
        refine hu.mono ?_
        rintro e w1 ⟨rfl, rfl⟩
        clear hu
        go_wp2_with fail
        refine hf.mono ?_
        rintro e u1 ⟨rfl, hb1⟩
        replace hbW := hbW.trans (hb1.mono hbW.size)
        clear hf hb1
        go_wp2
        go_ret3
        exact ⟨.inr ⟨HNO.out, rfl⟩, hbW.alloc hbW.size _⟩
      have g3 : decide ((N : Int) - (zs.length : Int) ≤ (m : Int)) = false := decide_eq_false (by omega)
      go_wp2_with fail
      refine hu.mono ?_
      rintro e w1 ⟨rfl, rfl⟩
      clear hu
      go_wp2_with fail
      refine hf.mono ?_
      rintro e u1 ⟨rfl, hb1⟩
      replace hbW := hbW.trans (hb1.mono hbW.size)
      replace hIo := hIo.below hb1
      have hIo2 := hIo.below (bl1 (.cells #[.func (.func 50) #[] #[], .int .i64 2] 68))
      have hbW2 := hbW.alloc hbW.size (.cells #[.func (.func 50) #[] #[], .int .i64 2] 68)
      have hFB : FB (u1.alloc (.cells #[.func (.func 50) #[] #[], .int .i64 2] 68)) u1.heap.size (.func (.func 50) #[] #[]) 2 := heap_alloc_new u1 _
      clear hf hb1 hIo hbW g3
      go_wp2
      generalize u1.alloc (.cells #[.func (.func 50) #[] #[], .int .i64 2] 68) = u2 at *
      generalize u1.heap.size = c at *
      go_loopw [1, 13, 60] (fun pp v kk wr => ∃ (j q : Nat), j ≤ m + 1 ∧ q = p + 1 + j * szP 1 ∧ q ≤ b.length ∧ pp = .int .i64 (q : Int) ∧ kk = .int .i64 (j : Int) ∧ Io w.heap.size wr v (zs ++ runV RPt b 1 (p + 1) j) ∧ FB wr c (.func (.func 50) #[] #[]) 2 ∧ Below w.heap.size w wr) (fun _ _ kk _ => m + 1 - (intOf kk).toNat)
      case atStart => exact ⟨0, p + 1, Nat.zero_le _, by rw [Nat.zero_mul], h1, by go_num, rfl, by rw [show runV RPt b 1 (p + 1) 0 = [] from rfl, List.append_nil]; exact hIo2, hFB, hbW2⟩
      case round =>
        clear hIo2 hbW2 hFB
        obtain ⟨j, q, hj, hq, hql, rfl, rfl, hIo, hFB, hbW⟩ := hrel
        have HQ : Hid (q = p + 1 + j * szP 1) := hq
        clear hq
        obtain ⟨a4, c4, rfl, _⟩ := hIo.slice
        by_cases hjm : j ≤ m
        rotate_left
        · obtain rfl : j = m + 1 := by omega
          have HS : Hid (_) := HST.out ⟨h1, hht, h3, by rw [← HQ.out]; exact hql⟩
          have hlen : (zs ++ runV RPt b 1 (p + 1) (m + 1)).length = zs.length + (m + 1) := by rw [List.length_append, runV_len]
          have hpq : p < q := by rw [HQ.out]; omega
          have g4 : ¬ (((m + 1 : Nat) : Nat) : Int) < (m : Int) + 1 := by omega
          have HRL : Hid (tt = onto (zs ++ runV RPt b 1 (p + 1) (m + 1)) (rdF RPt b (N - (zs ++ runV RPt b 1 (p + 1) (m + 1)).length) q (N - (zs ++ runV RPt b 1 (p + 1) (m + 1)).length))) := by
            show _ = _
            rw [HS.out, hlen, HQ.out, show N - (zs.length + (m + 1)) = N - zs.length - (m + 1) by omega]
          go_wp2
          go_roundw
          case rel => exact ⟨q, _, by rw [hlen]; omega, hql, rfl, HRL.out, hIo, hbW⟩
          case measure => simp [intOf]; omega
        have g4 : (j : Int) < (m : Int) + 1 := by omega
        have HSC : Hid (zs ++ runV RPt b 1 (p + 1) (j + 1) = (zs ++ runV RPt b 1 (p + 1) j) ++ [((nmV b (q : Int) 2 : Nat) : Int)]) := by
          show _ = _
          rw [runV_succ, ← List.append_assoc, HQ.out]
          rfl
        have HQ2 : Hid (p + 1 + (j + 1) * szP 1 = q + 2) := by show _ = _; rw [HQ.out, Nat.add_mul, Nat.one_mul, show szP 1 = 2 from rfl]; omega
        have HBD2 : Hid (b.length < q + 2 → tt = none) := fun hx => HBD.out (fun hy => by
          have h5 := hy.2.2.2
          have h6 : (j + 1) * szP 1 ≤ (m + 1) * szP 1 := Nat.mul_le_mul_right _ (by omega)
          have h7 := HQ2.out
          omega)
        have hll : (zs ++ runV RPt b 1 (p + 1) j).length + 1 ≤ 1000000 := by rw [List.length_append, runV_len]; omega
        clear HBD HST
        obtain ⟨ys, hys⟩ : ∃ ys, zs ++ runV RPt b 1 (p + 1) j = ys := ⟨_, rfl⟩
        rw [hys] at HSC hIo hll ⊢
        clear hys
        obtain ⟨f0, f1⟩ := hFB.cells
        have hrb := HRB.out.below hbW
        have hu := u16_any a cap b (q : Int) wr hrb ⟨by omega, by omega⟩
        have hlt2 := nmV_lt hrb.lim (q : Int) 2
        have hlt2 : nmV b (q : Int) 2 < 65536 := by simpa using hlt2
        have hzi : I64 (((nmV b (q : Int) 2 : Nat) : Int)) := ⟨by omega, by omega⟩
        rw [show inB b.length (q : Int) 2 = decide (q + 2 ≤ b.length) from inB_nat (n := 2)] at hu
        obtain ⟨x, hx⟩ : ∃ x, ((nmV b (q : Int) 2 : Nat) : Int) = x := ⟨_, rfl⟩
        rw [hx] at hu HSC hzi
        clear hx hlt2 hrb
        by_cases h5 : q + 2 ≤ b.length
        rotate_left
        · have HNO : Hid (tt = none) := HBD2.out (by omega)
          rw [decide_eq_false h5] at hu
          clear HBD2 HSC HQ2
          go_wp2_with fail
          refine hu.mono ?_
          rintro e w1 ⟨rfl, rfl⟩
          clear hu
          go_wp2
          go_ret3
          exact ⟨.inr ⟨HNO.out, rfl⟩, hbW⟩
        rw [decide_eq_true h5] at hu
        have hIo5 := hIo.below (bl1 (.cells #[.int .i64 x] 3))
        have hFB5 := hFB.below (bl1 (.cells #[.int .i64 x] 3))
        have hN5 := heap_alloc_new wr (.cells #[.int .i64 x] 3)
        have n0 := cell_of_row _ wr.heap.size 0 _ _ (0, 0) hN5
        have hbs : w.heap.size ≤ (wr.alloc (.cells #[.int .i64 x] 3)).heap.size := Nat.le_trans hbW.size (bl1 _).size
        clear hN5 HBD2
        go_wp2_with fail
        refine hu.mono ?_
        rintro e w1 ⟨rfl, rfl⟩
        clear hu
        go_wp2_with (at_builtin; refine wpList_append_int rfl _ _ rfl w.heap.size _ ys rfl hIo5 wr.heap.size x rfl n0 hzi hll hbs ?_)
        intro v' w9 hI9 hgrow
        have hB9 : Below w.heap.size w w9 := (hbW.alloc hbW.size _).grown hgrow hbs (fun k hk => hIo.lo hk)
        have hFB9 := hFB5.grown hIo5 hgrow
        obtain ⟨e0, e1⟩ := hFB9.cells
        rw [← HSC.out] at hI9
        clear hgrow hIo5 hFB5 n0 hbs hll hIo hbW hFB f0 f1
        go_wp2
        go_roundw
        case rel => exact ⟨j + 1, q + 2, by omega, HQ2.out.symm, h5, by go_num, by go_num, hI9, hFB9, hB9⟩
        case measure => simp [intOf]; omega

end Go.Proofs.Ytngkckannclcmaa
