/-
  tents.Region, tents.Everywhere, tents.Peak: the walks.
  foundrylaw09.awake, foundrylaw09.plain: the walks.
  A fraction that stays. Nothing here is a walk.
  Regions that draw their order, step by step: the kit's own laws with the operation taken out of a written list. Nothing here is a walk.
  tents.All: the walk.
-/
import Derived.Test.YtdhkpgndpgacbaaGreatDoorZ10
import Derived.Laws.MakeOwn
import Derived.Test.YtdhkpgndpgacbaaGreatDoorZ8
import Derived.Test.YtdhkpgndpgacbaaGreatDoorChecked
import Derived.Deep.RegionHeld3
import Derived.WalkKit
import Derived.Deep.CutRange
namespace Go.Proofs.YtdhkpgndpgacbaaGreatDoor
open Go.RowKit Go.Maps
set_option linter.unusedSimpArgs false
set_option linter.unusedVariables false

theorem all_noT {l : List Te} {p : Te → Bool} {k : Nat} (hk : k < l.length) (h : p (l.getD k Te.none) = false) : l.all p = false := by
  rw [Bool.eq_false_iff]
  intro e
  have := allT.1 e k hk
  rw [h] at this
  cases this

set_option maxHeartbeats 1000000 in
set_option maxRecDepth 100000 in
theorem cregion_any (a : Option Addr) (cap : Nat) (l : List Te) (n : Int) (w : World) (h : Tz w a cap l) :
    Calls Tryz.prog 9 #[.slice a l.length cap, .int .i64 n] w fun e w' => e = .returned (.bool (rgB l n)) ∧ Below w.heap.size w w' := by
  have k1 := h.1
  have k2 := h.lenB
  by_cases hl : (l.length : Int) = n
  · have HR : Hid (rgB l n = l.all tfB) := by show _ = _; rw [rgB, decide_eq_true hl, Bool.and_true]
    have g1 : ((l.length : Int) != n) = false := by simp [hl]
    have HH : Hid (Tz w a cap l) := h
    clear hl h
    go_enter Tryz.func9, Tryz.ntmps9
    go_wp2
    go_loopw [13] (fun i wr => ∃ k : Nat, k ≤ l.length ∧ i = .int .i64 k ∧ (∀ j, j < k → tfB (l.getD j Te.none) = true) ∧ Below w.heap.size w wr) (fun i _ => l.length - (intOf i).toNat)
    case atStart => exact ⟨0, Nat.zero_le _, rfl, (fun j hj => by omega), Below.refl _ _⟩
    case round =>
      obtain ⟨k, hk, rfl, hok, hB⟩ := hrel
      have HOK : Hid (∀ j, j < k → tfB (l.getD j Te.none) = true) := hok
      clear hok
      by_cases hkn : k < l.length
      · obtain ⟨b, off, ea, hb, d0, d1, d2⟩ := HH.out.at hB k hkn
        subst ea
        have hfo := fun U => cformT_any (l.getD k Te.none) U
        obtain ⟨t, ht⟩ : ∃ t, l.getD k Te.none = t := ⟨_, rfl⟩
        have HT : Hid (l.getD k Te.none = t) := ht
        rw [ht] at d0 d1 d2 hfo
        clear ht
        cases hf : tfB t with
        | false =>
          have HF : Hid (rgB l n = false) := by show _ = _; rw [HR.out]; exact all_noT hkn (by rw [HT.out]; exact hf)
          simp only [hf] at hfo
          clear hf HT HOK
          obtain ⟨st, pk, en⟩ := t
          dsimp only at *
          go_wp2_with fail
          refine (hfo _).mono ?_
          rintro e u1 ⟨rfl, hb1⟩
          replace hB := (hB.alloc hB.size _).trans (hb1.mono (hB.alloc hB.size _).size)
          clear hb1 hfo
          go_wp2
          go_ret
          exact ⟨rt_bool HF.out.symm, hB⟩
        | true =>
          have HOK2 : Hid (∀ j, j < k + 1 → tfB (l.getD j Te.none) = true) := fun j hj => by
            rcases Nat.lt_or_ge j k with h1 | h1
            · exact HOK.out j h1
            · rw [show j = k by omega, HT.out]; exact hf
          simp only [hf] at hfo
          clear hf HT HOK
          obtain ⟨st, pk, en⟩ := t
          dsimp only at *
          go_wp2_with fail
          refine (hfo _).mono ?_
          rintro e u1 ⟨rfl, hb1⟩
          replace hB := (hB.alloc hB.size _).trans (hb1.mono (hB.alloc hB.size _).size)
          clear hb1 hfo
          go_wp2
          go_roundw
          case rel => exact ⟨k + 1, by omega, by go_num, HOK2.out, hB⟩
          case measure => simp [intOf]; omega
      · obtain rfl : k = l.length := by omega
        have HF : Hid (rgB l n = true) := by show _ = _; rw [HR.out]; exact allT.2 HOK.out
        clear HOK
        go_wp2
        go_ret
        exact ⟨rt_bool HF.out.symm, hB⟩
  · have HR : Hid (rgB l n = false) := by show _ = _; rw [rgB, decide_eq_false hl, Bool.and_false]
    have g1 : ((l.length : Int) != n) = true := by simp [hl]
    clear h hl
    go_enter Tryz.func9, Tryz.ntmps9
    go_wp2
    go_ret
    exact ⟨rt_bool HR.out.symm, Below.refl _ _⟩

set_option maxHeartbeats 1000000 in
set_option maxRecDepth 100000 in
theorem ceverywhere_any (a : Option Addr) (cap : Nat) (l : List Te) (w : World) (h : Tz w a cap l) :
    Calls Tryz.prog 14 #[.slice a l.length cap] w fun e w' => e = .returned (.bool (evB l)) ∧ Below w.heap.size w w' := by
  have k1 := h.1
  have k2 := h.lenB
  have HH : Hid (Tz w a cap l) := h
  clear h
  go_enter Tryz.func14, Tryz.ntmps14
  go_wp2
  go_loopw [7] (fun i wr => ∃ k : Nat, k ≤ l.length ∧ i = .int .i64 k ∧ (∀ j, j < k → decide ((l.getD j Te.none).pk = 0) = true) ∧ Below w.heap.size w wr) (fun i _ => l.length - (intOf i).toNat)
  case atStart => exact ⟨0, Nat.zero_le _, rfl, (fun j hj => by omega), Below.refl _ _⟩
  case round =>
    obtain ⟨k, hk, rfl, hok, hB⟩ := hrel
    have HOK : Hid (∀ j, j < k → decide ((l.getD j Te.none).pk = 0) = true) := hok
    clear hok
    by_cases hkn : k < l.length
    · obtain ⟨b, off, ea, hb, d0, d1, d2⟩ := HH.out.at hB k hkn
      subst ea
      obtain ⟨t, ht⟩ : ∃ t, l.getD k Te.none = t := ⟨_, rfl⟩
      have HT : Hid (l.getD k Te.none = t) := ht
      rw [ht] at d0 d1 d2
      clear ht
      cases hf : decide (t.pk = 0) with
      | false =>
        have HF : Hid (evB l = false) := all_noT (p := fun t => decide (t.pk = 0)) hkn (by rw [HT.out]; exact hf)
        have g1 : (t.pk != 0) = true := by have := of_decide_eq_false hf; simp [this]
        have hB9 := fun o => hB.alloc hB.size o
        clear hf HT HOK
        obtain ⟨st, pk, en⟩ := t
        dsimp only at *
        go_wp2
        go_ret
        exact ⟨rt_bool HF.out.symm, hB9 _⟩
      | true =>
        have HOK2 : Hid (∀ j, j < k + 1 → decide ((l.getD j Te.none).pk = 0) = true) := fun j hj => by
          rcases Nat.lt_or_ge j k with h1 | h1
          · exact HOK.out j h1
          · rw [show j = k by omega, HT.out]; exact hf
        have g1 : (t.pk != 0) = false := by have := of_decide_eq_true hf; simp [this]
        have hB9 := fun o => hB.alloc hB.size o
        clear hf HT HOK
        obtain ⟨st, pk, en⟩ := t
        dsimp only at *
        go_wp2
        go_roundw
        case rel => exact ⟨k + 1, by omega, by go_num, HOK2.out, hB9 _⟩
        case measure => simp [intOf]; omega
    · obtain rfl : k = l.length := by omega
      have HF : Hid (evB l = true) := allT.2 HOK.out
      clear HOK
      go_wp2
      go_ret
      exact ⟨rt_bool HF.out.symm, hB⟩

set_option maxHeartbeats 2000000 in
set_option maxRecDepth 100000 in
theorem cpeak_any (a : Option Addr) (cap : Nat) (l : List Te) (w : World) (h : Tz w a cap l) (hl : l.length ≤ 1000) :
    Calls Tryz.prog 12 #[.slice a l.length cap] w fun e w' => ∃ a' cap', e = .returned (.slice a' (pkK l l.length).length cap') ∧ Ri w' a' cap' (pkK l l.length) ∧ Below w.heap.size w w' := by
  obtain ⟨i0, hi0, hz0, hz1, hz2⟩ := info_parts infoA_i64
  obtain ⟨w1, hmk, hown, hgrow⟩ := run_makeSlice_owned w w.heap.size 23 3 i0 _ 1 Tryz.underlying23 hi0 hz0 hz1 .i64 .i64 l.length (by omega) (by rw [hz2]; omega) (by unfold maxLen; omega) (Nat.le_refl _)
  have hI0 : Io w.heap.size w1 (.slice (some ⟨w.heap.size, 0, none⟩) 0 l.length) (pkK l 0) := ⟨fun t ht => (by cases ht), hown⟩
  have hB1 : Below w.heap.size w w1 := (Below.refl _ _).grown hgrow (Nat.le_refl _) (fun k hk => by cases hk)
  clear hown hgrow hi0 hz0 hz1 hz2
  have HH : Hid (Tz w a cap l) := h
  clear h
  go_enter Tryz.func12, Tryz.ntmps12
  go_wp2
  go_loopw [3, 11] (fun v i wr => ∃ k : Nat, k ≤ l.length ∧ i = .int .i64 k ∧ Io w.heap.size wr v (pkK l k) ∧ Below w.heap.size w wr) (fun _ i _ => l.length - (intOf i).toNat)
  case atStart => exact ⟨0, Nat.zero_le _, rfl, hI0, hB1⟩
  case round =>
    obtain ⟨k, hk, rfl, hT, hB⟩ := hrel
    obtain ⟨a2, c2, rfl, hts⟩ := hT.slice
    have hlen := pkK_len hk
    rw [hlen] at hT ⊢
    have hll : (pkK l k).length + 1 ≤ 1000000 := by omega
    have HT : Hid (Io w.heap.size wr (.slice a2 k c2) (pkK l k)) := hT
    clear hT hlen hmk hI0 hB1
    by_cases hkn : k < l.length
    · clear hts
      obtain ⟨b, off, ea, hb, d0, d1, d2⟩ := HH.out.at hB k hkn
      subst ea
      have hw := HH.out.w hkn
      have HS : Hid (pkK l (k + 1) = pkK l k ++ [(l.getD k Te.none).pk]) := pkK_succ hkn
      generalize l.getD k Te.none = t at *
      obtain ⟨st, pk, en⟩ := t
      dsimp only at *
      have HI : Hid (I64 pk) := hw.2.1
      clear hw
      have hwz := hB.size
      have hT2 := HT.out.below (bl1 (.cells #[.int .i64 st, .int .i64 pk, .int .i64 en] 42))
      have hB2 : Below w.heap.size w (wr.alloc (.cells #[.int .i64 st, .int .i64 pk, .int .i64 en] 42)) := hB.alloc hB.size _
      have hT5 := hT2.below (bl1 (.cells #[.int .i64 pk] 3))
      have hN := heap_alloc_new (wr.alloc (.cells #[.int .i64 st, .int .i64 pk, .int .i64 en] 42)) (.cells #[.int .i64 pk] 3)
      rw [show (wr.alloc (.cells #[.int .i64 st, .int .i64 pk, .int .i64 en] 42)).heap.size = wr.heap.size + 1 by simp] at hN
      have n0 := cell_of_row _ (wr.heap.size + 1) 0 _ _ (0, 0) hN
      have hbs : w.heap.size ≤ ((wr.alloc (.cells #[.int .i64 st, .int .i64 pk, .int .i64 en] 42)).alloc (.cells #[.int .i64 pk] 3)).heap.size := by have := hB2.size; simp at this ⊢; omega
      clear hN
      go_wp2_with (at_builtin; refine wpList_append_int rfl _ _ rfl w.heap.size _ (pkK l k) rfl hT5 (wr.heap.size + 1) pk rfl n0 HI.out hll hbs ?_)
      intro v' w9 hT9 hgrow
      have hB9 : Below w.heap.size w w9 := (hB2.alloc hB2.size _).grown hgrow hbs (fun k hk => HT.out.lo hk)
      rw [← HS.out] at hT9
      clear hgrow hT5 n0 hbs
      go_wp2
      go_roundw
      case rel => exact ⟨k + 1, by omega, by go_num, hT9, hB9⟩
      case measure => simp [intOf]; omega
    · obtain rfl : k = l.length := by omega
      go_wp2
      go_ret
      exact ⟨a2, c2, by rw [pkK_len (Nat.le_refl _)]; rfl, hts, hB⟩

end Go.Proofs.YtdhkpgndpgacbaaGreatDoor

namespace Go.Proofs.YtdhkpgndpgacbaaGreatDoor
open Go.RowKit Go.Maps
set_option linter.unusedSimpArgs false
set_option linter.unusedVariables false

/-- What 'awake' is about. -/
def awT : Te := ⟨0, 8192, 16384⟩
theorem awT_tf : tfB awT = true := by decide +kernel
theorem awT_txt : txt (paQ awT 4096) = [49, 47, 50] := by decide +kernel

set_option maxHeartbeats 1000000 in
set_option maxRecDepth 100000 in
theorem awake9_any (w : World) (htab : Pow w) :
    Calls Tryz.prog 4 #[] w fun e w' => e = .returned (.bool true) ∧ Below w.heap.size w w' := by
  have hfo := fun U => cformT_any awT U
  have hpa := fun U => cpart_any awT 4096 U ⟨by decide, by decide⟩
  have hev := fun U => ceverywhere_any none 0 [] U (Tz.nil U none 0 (Nat.zero_le _) (fun _ => rfl))
  simp only [awT_tf] at hfo
  obtain ⟨q, hq⟩ : ∃ q, paQ awT 4096 = q := ⟨_, rfl⟩
  have HT : Hid (txt q = [49, 47, 50]) := by show _ = _; rw [← hq]; exact awT_txt
  simp only [hq] at hpa
  simp only [awT] at hfo hpa
  simp only [List.length_nil, show evB [] = true from rfl] at hev
  obtain ⟨W, hW, X1, hbW⟩ : ∃ W, W = w.alloc (.cells #[.int .i64 0, .int .i64 8192, .int .i64 16384] 42) ∧ Box 42 W w.heap.size (.int .i64 0) (.int .i64 8192) (.int .i64 16384) ∧ Below w.heap.size w W := ⟨_, rfl, Box.new _ _ _ _ _, al1 _⟩
  have HB : Hid (Pow w) := htab
  clear htab hq
  go_enter Tryz.func4, Tryz.ntmps4
  go_wp2_with fail
  rw [← hW]
  clear hW
  refine (hfo _).mono ?_
  rintro e u1 ⟨rfl, hb1⟩
  replace X1 := X1.below hb1
  replace hbW := hbW.trans (hb1.mono hbW.size)
  clear hb1 hfo
  obtain ⟨p0, p1, p2, _⟩ := X1.cells
  go_wp2_with fail
  refine (hpa _).mono ?_
  rintro e u2 ⟨v2, rfl, hF2, hb2⟩
  replace hbW := hbW.trans (hb2.mono hbW.size)
  clear hb2 hpa p0 p1 p2 X1
  go_wp2_with fail
  refine (qtext_any 2 _ _ _ hF2.ct (by decide) (by decide) (HB.out.below hbW)).mono ?_
  rintro e u3 ⟨rfl, hb3⟩
  replace hbW := hbW.trans (hb3.mono hbW.size)
  rw [HT.out]
  clear hb3 hF2
  go_wp2_with fail
  refine (hev _).mono ?_
  rintro e u4 ⟨rfl, hb4⟩
  replace hbW := hbW.trans (hb4.mono hbW.size)
  clear hb4 hev
  go_wp2
  go_ret
  exact ⟨rfl, hbW⟩

set_option maxHeartbeats 1000000 in
set_option maxRecDepth 100000 in
/-- foundrylaw09.plain: the same value. -/
theorem plain9_any (k : Nat) (q : Rat) (v : Value) (w : World) (h : Ct w v k q) :
    Calls Tryz.prog 6 #[v] w fun e w' => e = .returned v ∧ Below w.heap.size w w' := by
  obtain ⟨n, xs, ys, ⟨a, c, a', c', rfl, _, _⟩, _⟩ := h
  go_enter Tryz.func6, Tryz.ntmps6
  go_wp2
  exact bodyPost_ret (v := .agg #[.bool n, .slice a xs.length c, .slice a' ys.length c']) (by simp [results, Tryz.results6, go_sem]) rfl ⟨rfl, al2 _ _⟩

end Go.Proofs.YtdhkpgndpgacbaaGreatDoor

namespace Go.Proofs.YtdhkpgndpgacbaaGreatDoor
open Go.RowKit Go.Maps
set_option linter.unusedSimpArgs false
set_option linter.unusedVariables false

/-- A fraction stays, where its limbs do. -/
theorem Fr.moved {u U : World} {v : Value} {k : Nat} {q : Rat} (h : Fr u v k q) (hK : ∀ a c xs, Rd u a c xs → Rd U a c xs) : Fr U v k q := by
  obtain ⟨n, xs, ys, ⟨a, c, a', c', e, h1, h2⟩, h3⟩ := h
  exact ⟨n, xs, ys, ⟨a, c, a', c', e, hK _ _ _ h1, hK _ _ _ h2⟩, h3⟩

end Go.Proofs.YtdhkpgndpgacbaaGreatDoor

namespace Go.Proofs.YtdhkpgndpgacbaaGreatDoor
open Go.RowKit

/-- The operation at a place of a list. -/
def nth : List Oper → Nat → Option Oper
  | [], _ => none
  | o :: _, 0 => some o
  | _ :: l, n + 1 => nth l n
theorem nth_eq : ∀ (l : List Oper) (i : Nat), nth l i = l.toArray[i]? := by
  intro l
  induction l with
  | nil => intro i; simp [nth]
  | cons o l ih =>
    intro i
    cases i with
    | zero => simp [nth]
    | succ i => simp [nth, ih i]

theorem hTake {P : Program} {md : Region.Mode} {l : List Oper} {Q : Exit → Act → World → Prop} {S : World → Prop} {i : Nat} {o : Oper} {v : Value} {fuel : Nat} {listed : Array Bool} {a : Act} {w : World} (hi : nth l i = some o)
    (hs : Region.noSelect l.toArray = true) (hf : Region.free md l.toArray listed i = true) (hr : (Region.ready md l.toArray listed).contains i = true)
    (hQ : ∀ c a w, Q (.panic c) (a.put o.dst v) w → Q (.panic c) a w) (hy : YieldsIf P l.toArray S o v a) (hS : S w)
    (h : wpAnyH P md l.toArray Q S fuel (listed.setIfInBounds i true) (a.put o.dst v) w) : wpAnyH P md l.toArray Q S (fuel + 1) listed a w :=
  wpAnyH_take ((nth_eq l i).symm.trans hi) hs hf hr hQ hy hS h

theorem hCall {P : Program} {md : Region.Mode} {l : List Oper} {Q : Exit → Act → World → Prop} {S : World → Prop} {i : Nat} {o : Oper} {fuel : Nat} {listed : Array Bool} {a : Act} {w : World} (hi : nth l i = some o)
    (hr : Region.ready md l.toArray listed = [i]) (hw : Region.wanted o (yielded l.toArray a.tmps) = true)
    (h : ∀ K : Act → World → Prop, Shut (∀ a w, S w → (S w → wpAnyH P md l.toArray Q S fuel (listed.setIfInBounds i true) a w) → K a w) → Oper.wp P o a w K Q) :
    wpAnyH P md l.toArray Q S (fuel + 1) listed a w :=
  wpAnyH_ready hr (by simp) (AllReadyH.cons ((nth_eq l i).symm.trans hi) (fun K hK => by rw [if_pos hw]; exact h K hK) AllReadyH.nil)

theorem hCons {P : Program} {md : Region.Mode} {l : List Oper} {Q : Exit → Act → World → Prop} {S : World → Prop} {i : Nat} {o : Oper} {fuel : Nat} {listed : Array Bool} {a : Act} {w : World} {rs : List Nat} (hi : nth l i = some o)
    (hw : Region.wanted o (yielded l.toArray a.tmps) = true)
    (h : ∀ K : Act → World → Prop, Shut (∀ a w, S w → (S w → wpAnyH P md l.toArray Q S fuel (listed.setIfInBounds i true) a w) → K a w) → Oper.wp P o a w K Q)
    (hs : AllReadyH P md l.toArray Q S fuel listed a w rs) : AllReadyH P md l.toArray Q S fuel listed a w (i :: rs) :=
  AllReadyH.cons ((nth_eq l i).symm.trans hi) (fun K hK => by rw [if_pos hw]; exact h K hK) hs

/-- An operation that is carried out and only reads. -/
theorem hT {P : Program} {md : Region.Mode} {l : List Oper} {Q : Exit → Act → World → Prop} {S : World → Prop} (i : Nat) {o : Oper} {v : Value} {fuel : Nat} {listed : Array Bool} {a a2 : Act} {w : World} (hS : S w)
    (h : wpAnyH P md l.toArray Q S fuel (listed.setIfInBounds i true) a2 w)
    (hi : nth l i = some o := by rfl) (hs : Region.noSelect l.toArray = true := by kernel_rfl) (hf : Region.free md l.toArray listed i = true := by kernel_rfl) (hr : (Region.ready md l.toArray listed).contains i = true := by kernel_rfl)
    (hQ : ∀ c a w, Q (.panic c) (a.put o.dst v) w → Q (.panic c) a w := by exact fun _ _ _ h => h) (hw : Region.wanted o (yielded l.toArray a.tmps) = true := by rfl)
    (hy : ∀ w9, S w9 → (execOp a.eval o).run P w9 = .ok (.value v) w9 := by intro w9 hSw; (try dsimp only at hSw); go_simp; try with_reducible rfl)
    (ha : a.put o.dst v = a2 := by (try simp only [Act.put, List.setIfInBounds_toArray, List.set_cons_zero, List.set_cons_succ]); try rfl) : wpAnyH P md l.toArray Q S (fuel + 1) listed a w := by
  subst ha
  exact wpAnyH_take ((nth_eq l i).symm.trans hi) hs hf hr hQ (Or.inl ⟨hw, hy⟩) hS h

/-- An operation that is not wanted. -/
theorem hN {P : Program} {md : Region.Mode} {l : List Oper} {Q : Exit → Act → World → Prop} {S : World → Prop} (i : Nat) {o : Oper} {fuel : Nat} {listed : Array Bool} {a a2 : Act} {w : World} (hS : S w)
    (h : wpAnyH P md l.toArray Q S fuel (listed.setIfInBounds i true) a2 w)
    (hi : nth l i = some o := by rfl) (hs : Region.noSelect l.toArray = true := by kernel_rfl) (hf : Region.free md l.toArray listed i = true := by kernel_rfl) (hr : (Region.ready md l.toArray listed).contains i = true := by kernel_rfl)
    (hQ : ∀ c a w, Q (.panic c) (a.put o.dst undef) w → Q (.panic c) a w := by exact fun _ _ _ h => h) (hw : Region.wanted o (yielded l.toArray a.tmps) = false := by rfl)
    (ha : a.put o.dst undef = a2 := by (try simp only [Act.put, List.setIfInBounds_toArray, List.set_cons_zero, List.set_cons_succ]); try rfl) : wpAnyH P md l.toArray Q S (fuel + 1) listed a w := by
  subst ha
  exact wpAnyH_take ((nth_eq l i).symm.trans hi) hs hf hr hQ (Or.inr ⟨hw, rfl⟩) hS h

end Go.Proofs.YtdhkpgndpgacbaaGreatDoor

namespace Go.Proofs.YtdhkpgndpgacbaaGreatDoor
open Go.RowKit Go.Maps
set_option linter.unusedSimpArgs false
set_option linter.unusedVariables false

set_option maxHeartbeats 4000000 in
set_option maxRecDepth 100000 in
theorem callT_any (a : Option Addr) (cap : Nat) (l : List Te) (pa : Option Addr) (pc : Nat) (cs : List Int) (w : World) (h : Tz w a cap l) (hp : Ri w pa pc cs) (hl : l.length ≤ 1000) :
    Calls Tryz.prog 7 #[.slice a l.length cap, .slice pa cs.length pc] w fun e w' => ∃ v', e = .returned v' ∧ Fr w' v' (2 + 2 * l.length) (alQ l cs) ∧ Below w.heap.size w w' := by
  have k2 := h.lenB
  have k3 := hp.lenB
  have HH : Hid (Tz w a cap l) := h
  have HP : Hid (Ri w pa pc cs) := hp
  obtain ⟨W0, hW0, B0, hbW⟩ : ∃ W, W = w.alloc (.cells #[.bool false, .slice none 0 0, .slice none 0 0] 33) ∧ Box 33 W w.heap.size (.bool false) (.slice none 0 0) (.slice none 0 0) ∧ Below w.heap.size w W := ⟨_, rfl, Box.new _ _ _ _ _, al1 _⟩
  clear h hp
  go_enter Tryz.func7, Tryz.ntmps7
  go_wp2_with fail
  rw [← hW0]
  clear hW0
  refine (whole_any 1 _ (by decide) (by decide)).mono ?_
  rintro e U1 ⟨v5, rfl, hF5, hb5⟩
  replace B0 := B0.below hb5
  replace hbW := hbW.trans (hb5.mono hbW.size)
  clear hb5
  obtain ⟨n5, x5, y5, ⟨a5, c5, b5, d5, rfl, hx5, hy5⟩, hF5⟩ := hF5
  have hlt := B0.lt
  have P5 := Box.new 33 U1 (.bool n5) (.slice a5 x5.length c5) (.slice b5 y5.length d5)
  have hF5 : Fr (U1.alloc (.cells #[.bool n5, .slice a5 x5.length c5, .slice b5 y5.length d5] 33)) (.agg #[.bool n5, .slice a5 x5.length c5, .slice b5 y5.length d5]) (2 + 2 * 0) (alK l cs 0) := Fr.below ⟨_, _, _, ⟨_, _, _, _, rfl, hx5, hy5⟩, hF5⟩ (al1 _)
  replace B0 := B0.alloc (.cells #[.bool n5, .slice a5 x5.length c5, .slice b5 y5.length d5] 33)
  replace hbW := hbW.alloc hbW.size (.cells #[.bool n5, .slice a5 x5.length c5, .slice b5 y5.length d5] 33)
  clear hx5 hy5
  go_wp2
  go_loopw [12] (fun i wr => ∃ (k : Nat) (n5 : Bool) (a5 : Option Addr) (x5 c5 : Nat) (b5 : Option Addr) (y5 d5 : Nat), k ≤ l.length ∧ i = .int .i64 (k : Int) ∧ Box 33 wr U1.heap.size (.bool n5) (.slice a5 x5 c5) (.slice b5 y5 d5) ∧ Fr wr (.agg #[.bool n5, .slice a5 x5 c5, .slice b5 y5 d5]) (2 + 2 * k) (alK l cs k) ∧ Box 33 wr w.heap.size (.bool false) (.slice none 0 0) (.slice none 0 0) ∧ Below w.heap.size w wr) (fun i _ => l.length - (intOf i).toNat)
  case atStart => exact ⟨0, _, _, _, _, _, _, _, Nat.zero_le _, rfl, P5, hF5, B0, hbW⟩
  case round =>
    clear P5 hF5 B0 hbW
    obtain ⟨k, n5, a5, x5, c5, b5, y5, d5, hk, rfl, P5, hF5, B0, hbW⟩ := hrel
    by_cases hkn : k < l.length
    · obtain ⟨b0, off, ea, hb0, e0, e1, e2⟩ := HH.out.at hbW k hkn
      subst ea
      obtain ⟨z, hz⟩ : ∃ z, cs.getD k 0 = z := ⟨_, rfl⟩
      have hzi : I64 z := by
        by_cases h1 : k < cs.length
        · rw [← hz]; exact HP.out.i64 h1
        · rw [← hz, List.getD_eq_getElem?_getD, List.getElem?_eq_none (by omega)]; exact ⟨by decide, by decide⟩
      have hco := fun U hU => coordOf_any pa pc cs k U hU (by omega)
      simp only [hz] at hco
      obtain ⟨t, ht⟩ : ∃ t, l.getD k Te.none = t := ⟨_, rfl⟩
      have HK : Hid (alK l cs (k + 1) = alK l cs k * paQ t z) := by show _ = _; rw [alK_succ, ht, hz]
      have HZ : Hid (paQ t z = 0 → alQ l cs = paQ t z) := fun e => by rw [e]; exact alQ_zero hkn (by rw [ht, hz]; exact e)
      rw [ht] at e0 e1 e2
      clear ht hz
      have hpa := fun U => cpart_any t z U hzi
      obtain ⟨q, hq⟩ : ∃ q, paQ t z = q := ⟨_, rfl⟩
      simp only [hq] at hpa HK HZ
      clear hq hzi
      obtain ⟨st, pk, en⟩ := t
      dsimp only at *
      obtain ⟨V, hV, X1, hb1⟩ : ∃ V, V = wr.alloc (.cells #[.int .i64 st, .int .i64 pk, .int .i64 en] 42) ∧ Box 42 V wr.heap.size (.int .i64 st) (.int .i64 pk) (.int .i64 en) ∧ Below wr.heap.size wr V := ⟨_, rfl, Box.new _ _ _ _ _, al1 _⟩
      have HP5 : Hid (Box 33 V U1.heap.size (.bool n5) (.slice a5 x5 c5) (.slice b5 y5 d5)) := P5.below hb1
      have HF5 : Hid (Fr V (.agg #[.bool n5, .slice a5 x5 c5, .slice b5 y5 d5]) (2 + 2 * k) (alK l cs k)) := hF5.below hb1
      have HB0 : Hid (Box 33 V w.heap.size (.bool false) (.slice none 0 0) (.slice none 0 0)) := B0.below hb1
      replace hbW := hbW.trans (hb1.mono hbW.size)
      have HBW : Hid (Below w.heap.size w V) := hbW
      have HX1 : Hid (Box 42 V wr.heap.size (.int .i64 st) (.int .i64 pk) (.int .i64 en)) := X1
      have hp := HP.out.below hbW
      clear P5 hF5 B0 hb1
      have hwr : IntKind.i64.wrap (k : Int) = k := wrapi64 (by omega) (by omega)
      go_upto_region 5 with fail
      rw [← hV]
      clear hV e0 e1 e2
      go_cut [8] from 13 to 29 (fun s8 wx => ∃ (g8 : Nat) (n8 : Bool) (a8 : Option Addr) (x8 c8 : Nat) (b8 : Option Addr) (y8 d8 : Nat), s8 = .pointer (some ⟨g8, 0, none⟩) ∧ Box 33 wx g8 (.bool n8) (.slice a8 x8 c8) (.slice b8 y8 d8) ∧ Fr wx (.agg #[.bool n8, .slice a8 x8 c8, .slice b8 y8 d8]) 2 q ∧ V.heap.size ≤ g8 ∧ Below V.heap.size V wx)
      case first =>
        have hbR : Below V.heap.size V V := Below.refl _ _
        obtain ⟨p00, p01, p02, _⟩ := X1.cells
        refine wp_region_held_drew (S := (fun u => u.cell? ⟨wr.heap.size, 0, none⟩ = some (.int .i64 st) ∧ u.cell? ⟨wr.heap.size, 1, none⟩ = some (.int .i64 pk) ∧ u.cell? ⟨wr.heap.size, 2, none⟩ = some (.int .i64 en))) (by kernel_rfl) ?_ (fun hHeld => ?_)
        · (try dsimp only)
          go_keep
        have hdr : Below V.heap.size V V.drew := Below.drew1
        generalize V.drew = ud1 at hdr hHeld ⊢
        replace hp := hp.below hdr
        replace X1 := X1.below hdr
        replace hbW : Below w.heap.size w ud1 := hbW.trans (hdr.mono hbW.size)
        replace hbR : Below V.heap.size V ud1 := hbR.trans (hdr.mono hbR.size)
        clear hdr
        clear p00 p01 p02
        obtain ⟨p00, p01, p02, _⟩ := X1.cells
        refine hT 0 hHeld ?_
        refine hT 1 hHeld ?_
        refine hT 2 hHeld ?_
        refine wpAnyH_ready (rs := [3, 5]) (by kernel_rfl) (by simp) (hCons (i := 3) rfl (by rfl) (fun K hK => ?_) (hCons (i := 5) rfl (by rfl) (fun K hK => ?_) AllReadyH.nil))
        · go_simp
          refine (hco _ hp).mono ?_
          rintro e u1 ⟨rfl, hb1⟩
          replace hp := hp.below hb1
          replace X1 := X1.below hb1
          replace hbW : Below w.heap.size w u1 := hbW.trans (hb1.mono hbW.size)
          replace hbR : Below V.heap.size V u1 := hbR.trans (hb1.mono hbR.size)
          clear hb1
          clear p00 p01 p02
          obtain ⟨p00, p01, p02, _⟩ := X1.cells
          go_wp2_with fail
          refine hK.out _ _ ?_ (fun hHeld => ?_)
          · (try dsimp only)
            exact ⟨p00, p01, p02⟩
          clear hK K
          try simp only [Act.put, List.setIfInBounds_toArray, List.set_cons_zero, List.set_cons_succ]
          refine wpAnyH_ready (rs := [4, 5]) (by kernel_rfl) (by simp) (hCons (i := 4) rfl (by rfl) (fun K hK => ?_) (hCons (i := 5) rfl (by rfl) (fun K hK => ?_) AllReadyH.nil))
          · go_simp
            refine (hpa _).mono ?_
            rintro e u2 ⟨v8, rfl, hF8, hb2⟩
            replace hp := hp.below hb2
            replace X1 := X1.below hb2
            replace hbW : Below w.heap.size w u2 := hbW.trans (hb2.mono hbW.size)
            replace hbR : Below V.heap.size V u2 := hbR.trans (hb2.mono hbR.size)
            clear hb2
            obtain ⟨n8, x8, y8, ⟨a8, c8, b8, d8, rfl, hx8, hy8⟩, hF8⟩ := hF8
            clear p00 p01 p02
            obtain ⟨p00, p01, p02, _⟩ := X1.cells
            go_wp2_with fail
            refine hK.out _ _ ?_ (fun hHeld => ?_)
            · (try dsimp only)
              exact ⟨p00, p01, p02⟩
            clear hK K
            try simp only [Act.put, List.setIfInBounds_toArray, List.set_cons_zero, List.set_cons_succ]
            refine hCall (i := 5) rfl (by kernel_rfl) (by rfl) (fun K hK => ?_)
            go_simp
            obtain ⟨u63, hU, B8, hb9⟩ : ∃ U, U = u2.alloc (.cells #[.bool false, .slice none 0 0, .slice none 0 0] 33) ∧ Box 33 U u2.heap.size (.bool false) (.slice none 0 0) (.slice none 0 0) ∧ Below u2.heap.size u2 U := ⟨_, rfl, Box.new _ _ _ _ _, al1 _⟩
            rw [← hU]
            clear hU
            have n81 := hbR.size
            have n82 := hbW.size
            replace hp := hp.below hb9
            replace hx8 := hx8.below hb9
            replace hy8 := hy8.below hb9
            replace X1 := X1.below hb9
            replace hbW : Below w.heap.size w u63 := hbW.trans (hb9.mono hbW.size)
            replace hbR : Below V.heap.size V u63 := hbR.trans (hb9.mono hbR.size)
            clear hb9
            generalize u2.heap.size = g8 at B8 n81 n82 ⊢
            clear p00 p01 p02
            obtain ⟨p00, p01, p02, _⟩ := X1.cells
            obtain ⟨p10, p11, p12, _⟩ := B8.cells
            refine hK.out _ _ ?_ (fun hHeld => ?_)
            · (try dsimp only)
              exact ⟨p00, p01, p02⟩
            clear hK K
            try simp only [Act.put, List.setIfInBounds_toArray, List.set_cons_zero, List.set_cons_succ]
            refine hCall (i := 6) rfl (by kernel_rfl) (by rfl) (fun K hK => ?_)
            go_simp
            obtain ⟨u64, hU, A8, hbU, hK9, ho⟩ := set3_world B8 (.bool n8) (.slice a8 x8.length c8) (.slice b8 y8.length d8)
            rw [← hU]
            clear hU
            replace hbW := hbU _ _ hbW (by omega)
            replace hbR := hbU _ _ hbR (by omega)
            replace hx8 := hK9 _ _ _ hx8
            replace hy8 := hK9 _ _ _ hy8
            clear hbU hK9 ho X1
            have X1 := HX1.out.below hbR
            clear p00 p01 p02 p10 p11 p12
            obtain ⟨p00, p01, p02, _⟩ := X1.cells
            obtain ⟨p10, p11, p12, _⟩ := A8.cells
            refine hK.out _ _ ?_ (fun hHeld => ?_)
            · (try dsimp only)
              exact ⟨p00, p01, p02⟩
            clear hK K
            try simp only [Act.put, List.setIfInBounds_toArray, List.set_cons_zero, List.set_cons_succ]
            refine wpAnyH_done (by kernel_rfl) ?_ _
            clear hHeld
            go_wp2_with fail
            go_meet
            exact ⟨g8, _, _, _, _, _, _, _, rfl, A8, ⟨_, _, _, ⟨_, _, _, _, rfl, hx8, hy8⟩, hF8⟩, n81, hbR⟩
          · go_simp
            obtain ⟨u62, hU, B8, hb9⟩ : ∃ U, U = u1.alloc (.cells #[.bool false, .slice none 0 0, .slice none 0 0] 33) ∧ Box 33 U u1.heap.size (.bool false) (.slice none 0 0) (.slice none 0 0) ∧ Below u1.heap.size u1 U := ⟨_, rfl, Box.new _ _ _ _ _, al1 _⟩
            rw [← hU]
            clear hU
            have n81 := hbR.size
            have n82 := hbW.size
            replace hp := hp.below hb9
            replace X1 := X1.below hb9
            replace hbW : Below w.heap.size w u62 := hbW.trans (hb9.mono hbW.size)
            replace hbR : Below V.heap.size V u62 := hbR.trans (hb9.mono hbR.size)
            clear hb9
            generalize u1.heap.size = g8 at B8 n81 n82 ⊢
            clear p00 p01 p02
            obtain ⟨p00, p01, p02, _⟩ := X1.cells
            obtain ⟨p10, p11, p12, _⟩ := B8.cells
            refine hK.out _ _ ?_ (fun hHeld => ?_)
            · (try dsimp only)
              exact ⟨p00, p01, p02⟩
            clear hK K
            try simp only [Act.put, List.setIfInBounds_toArray, List.set_cons_zero, List.set_cons_succ]
            refine hCall (i := 4) rfl (by kernel_rfl) (by rfl) (fun K hK => ?_)
            go_simp
            refine (hpa _).mono ?_
            rintro e u3 ⟨v8, rfl, hF8, hb3⟩
            replace hp := hp.below hb3
            replace X1 := X1.below hb3
            replace B8 := B8.below hb3
            replace hbW : Below w.heap.size w u3 := hbW.trans (hb3.mono hbW.size)
            replace hbR : Below V.heap.size V u3 := hbR.trans (hb3.mono hbR.size)
            clear hb3
            obtain ⟨n8, x8, y8, ⟨a8, c8, b8, d8, rfl, hx8, hy8⟩, hF8⟩ := hF8
            clear p00 p01 p02 p10 p11 p12
            obtain ⟨p00, p01, p02, _⟩ := X1.cells
            obtain ⟨p10, p11, p12, _⟩ := B8.cells
            go_wp2_with fail
            refine hK.out _ _ ?_ (fun hHeld => ?_)
            · (try dsimp only)
              exact ⟨p00, p01, p02⟩
            clear hK K
            try simp only [Act.put, List.setIfInBounds_toArray, List.set_cons_zero, List.set_cons_succ]
            refine hCall (i := 6) rfl (by kernel_rfl) (by rfl) (fun K hK => ?_)
            go_simp
            obtain ⟨u64, hU, A8, hbU, hK9, ho⟩ := set3_world B8 (.bool n8) (.slice a8 x8.length c8) (.slice b8 y8.length d8)
            rw [← hU]
            clear hU
            replace hbW := hbU _ _ hbW (by omega)
            replace hbR := hbU _ _ hbR (by omega)
            replace hx8 := hK9 _ _ _ hx8
            replace hy8 := hK9 _ _ _ hy8
            clear hbU hK9 ho X1
            have X1 := HX1.out.below hbR
            clear p00 p01 p02 p10 p11 p12
            obtain ⟨p00, p01, p02, _⟩ := X1.cells
            obtain ⟨p10, p11, p12, _⟩ := A8.cells
            refine hK.out _ _ ?_ (fun hHeld => ?_)
            · (try dsimp only)
              exact ⟨p00, p01, p02⟩
            clear hK K
            try simp only [Act.put, List.setIfInBounds_toArray, List.set_cons_zero, List.set_cons_succ]
            refine wpAnyH_done (by kernel_rfl) ?_ _
            clear hHeld
            go_wp2_with fail
            go_meet
            exact ⟨g8, _, _, _, _, _, _, _, rfl, A8, ⟨_, _, _, ⟨_, _, _, _, rfl, hx8, hy8⟩, hF8⟩, n81, hbR⟩
        · go_simp
          obtain ⟨u61, hU, B8, hb9⟩ : ∃ U, U = ud1.alloc (.cells #[.bool false, .slice none 0 0, .slice none 0 0] 33) ∧ Box 33 U ud1.heap.size (.bool false) (.slice none 0 0) (.slice none 0 0) ∧ Below ud1.heap.size ud1 U := ⟨_, rfl, Box.new _ _ _ _ _, al1 _⟩
          rw [← hU]
          clear hU
          have n81 := hbR.size
          have n82 := hbW.size
          replace hp := hp.below hb9
          replace X1 := X1.below hb9
          replace hbW : Below w.heap.size w u61 := hbW.trans (hb9.mono hbW.size)
          replace hbR : Below V.heap.size V u61 := hbR.trans (hb9.mono hbR.size)
          clear hb9
          generalize ud1.heap.size = g8 at B8 n81 n82 ⊢
          clear p00 p01 p02
          obtain ⟨p00, p01, p02, _⟩ := X1.cells
          obtain ⟨p10, p11, p12, _⟩ := B8.cells
          refine hK.out _ _ ?_ (fun hHeld => ?_)
          · (try dsimp only)
            exact ⟨p00, p01, p02⟩
          clear hK K
          try simp only [Act.put, List.setIfInBounds_toArray, List.set_cons_zero, List.set_cons_succ]
          refine hCall (i := 3) rfl (by kernel_rfl) (by rfl) (fun K hK => ?_)
          go_simp
          refine (hco _ hp).mono ?_
          rintro e u2 ⟨rfl, hb2⟩
          replace hp := hp.below hb2
          replace X1 := X1.below hb2
          replace B8 := B8.below hb2
          replace hbW : Below w.heap.size w u2 := hbW.trans (hb2.mono hbW.size)
          replace hbR : Below V.heap.size V u2 := hbR.trans (hb2.mono hbR.size)
          clear hb2
          clear p00 p01 p02 p10 p11 p12
          obtain ⟨p00, p01, p02, _⟩ := X1.cells
          obtain ⟨p10, p11, p12, _⟩ := B8.cells
          go_wp2_with fail
          refine hK.out _ _ ?_ (fun hHeld => ?_)
          · (try dsimp only)
            exact ⟨p00, p01, p02⟩
          clear hK K
          try simp only [Act.put, List.setIfInBounds_toArray, List.set_cons_zero, List.set_cons_succ]
          refine hCall (i := 4) rfl (by kernel_rfl) (by rfl) (fun K hK => ?_)
          go_simp
          refine (hpa _).mono ?_
          rintro e u3 ⟨v8, rfl, hF8, hb3⟩
          replace hp := hp.below hb3
          replace X1 := X1.below hb3
          replace B8 := B8.below hb3
          replace hbW : Below w.heap.size w u3 := hbW.trans (hb3.mono hbW.size)
          replace hbR : Below V.heap.size V u3 := hbR.trans (hb3.mono hbR.size)
          clear hb3
          obtain ⟨n8, x8, y8, ⟨a8, c8, b8, d8, rfl, hx8, hy8⟩, hF8⟩ := hF8
          clear p00 p01 p02 p10 p11 p12
          obtain ⟨p00, p01, p02, _⟩ := X1.cells
          obtain ⟨p10, p11, p12, _⟩ := B8.cells
          go_wp2_with fail
          refine hK.out _ _ ?_ (fun hHeld => ?_)
          · (try dsimp only)
            exact ⟨p00, p01, p02⟩
          clear hK K
          try simp only [Act.put, List.setIfInBounds_toArray, List.set_cons_zero, List.set_cons_succ]
          refine hCall (i := 6) rfl (by kernel_rfl) (by rfl) (fun K hK => ?_)
          go_simp
          obtain ⟨u64, hU, A8, hbU, hK9, ho⟩ := set3_world B8 (.bool n8) (.slice a8 x8.length c8) (.slice b8 y8.length d8)
          rw [← hU]
          clear hU
          replace hbW := hbU _ _ hbW (by omega)
          replace hbR := hbU _ _ hbR (by omega)
          replace hx8 := hK9 _ _ _ hx8
          replace hy8 := hK9 _ _ _ hy8
          clear hbU hK9 ho X1
          have X1 := HX1.out.below hbR
          clear p00 p01 p02 p10 p11 p12
          obtain ⟨p00, p01, p02, _⟩ := X1.cells
          obtain ⟨p10, p11, p12, _⟩ := A8.cells
          refine hK.out _ _ ?_ (fun hHeld => ?_)
          · (try dsimp only)
            exact ⟨p00, p01, p02⟩
          clear hK K
          try simp only [Act.put, List.setIfInBounds_toArray, List.set_cons_zero, List.set_cons_succ]
          refine wpAnyH_done (by kernel_rfl) ?_ _
          clear hHeld
          go_wp2_with fail
          go_meet
          exact ⟨g8, _, _, _, _, _, _, _, rfl, A8, ⟨_, _, _, ⟨_, _, _, _, rfl, hx8, hy8⟩, hF8⟩, n81, hbR⟩
      case rest =>
        clear hbW hp X1 hco hpa
        obtain ⟨g8, n8, a8, x8, c8, b8, y8, d8, rfl, A8, hF8, n81, hbR⟩ := hcut
        have P5 := HP5.out.below hbR
        have hF5 := HF5.out.below hbR
        have B0 := HB0.out.below hbR
        have hbW := HBW.out.trans (hbR.mono HBW.out.size)
        have s1 := HP5.out.lt
        have s2 := HBW.out.size
        clear hbR
        obtain ⟨p0, p1, p2, _⟩ := A8.cells
        go_wp2_with fail
        refine (qsign_any 2 q _ _ hF8.ct (by decide) (by decide)).mono ?_
        rintro e u7 ⟨rfl, hb7⟩
        replace A8 := A8.below hb7
        replace hF8 := hF8.below hb7
        replace P5 := P5.below hb7
        replace hF5 := hF5.below hb7
        replace B0 := B0.below hb7
        replace hbW := hbW.trans (hb7.mono hbW.size)
        clear hb7 p0 p1 p2
        obtain ⟨p0, p1, p2, _⟩ := A8.cells
        by_cases hq : q = 0
        · have HQ : Hid (alQ l cs = q) := HZ.out hq
          have e1 : sgnQ q = 0 := sgnQ_zero.2 hq
          rw [e1]
          clear e1 hq
          obtain ⟨q1, q2, q3, q4, q5, q6⟩ := B0.cells
          have hs := B0.lt
          go_wp2
          refine ret3 (v := .agg #[.bool n8, .slice a8 x8 c8, .slice b8 y8 d8]) B0 rfl (fun U hU => by obtain ⟨r1, r2, r3, _⟩ := hU.cells; simp [results, Tryz.results7, go_sem, r1, r2, r3]) (fun U hU hK => ⟨_, rfl, by rw [HQ.out]; exact (hF8.moved hK).le (by omega), hU _ _ hbW (by omega)⟩)
        · have e1 : ¬ sgnQ q = 0 := fun e => hq (sgnQ_zero.1 e)
          have g1 : (sgnQ q == 0) = false := by simp [e1]
          generalize sgnQ q = s at *
          clear e1 hq
          obtain ⟨q1, q2, q3, _⟩ := P5.cells
          go_wp2_with fail
          refine (qmul_any (2 + 2 * k) 2 (alK l cs k) q _ _ _ hF5.ct hF8.ct (by omega) (by decide) (by omega) (by decide)).mono ?_
          rintro e u8 ⟨v9, rfl, hF9, hb8⟩
          rw [← HK.out] at hF9
          replace P5 := P5.below hb8
          replace B0 := B0.below hb8
          replace hbW := hbW.trans (hb8.mono hbW.size)
          clear hb8 hF5 hF8 A8 p0 p1 p2 q1 q2 q3
          obtain ⟨n9, x9, y9, ⟨a9, c9, b9, d9, rfl, hx9, hy9⟩, hF9⟩ := hF9
          obtain ⟨q1, q2, q3, q4, q5, q6⟩ := P5.cells
          have hs := P5.lt
          go_wp2
          obtain ⟨U9, hU9, C5, hbU, hK9, ho⟩ := set3_world P5 (.bool n9) (.slice a9 x9.length c9) (.slice b9 y9.length d9)
          rw [← hU9]
          replace B0 := B0.other ho (by omega)
          replace hbW := hbU _ _ hbW (by omega)
          have hF9 : Fr U9 (.agg #[.bool n9, .slice a9 x9.length c9, .slice b9 y9.length d9]) (2 + 2 * (k + 1)) (alK l cs (k + 1)) := Fr.le (k := 2 + 2 * k + 2) ⟨_, _, _, ⟨_, _, _, _, rfl, hK9 _ _ _ hx9, hK9 _ _ _ hy9⟩, hF9⟩ (by omega)
          clear hU9 hbU hK9 ho hx9 hy9
          go_roundw
          case rel => exact ⟨k + 1, _, _, _, _, _, _, _, by omega, by go_num, C5, hF9, B0, hbW⟩
          case measure => simp [intOf]; omega
    · obtain rfl : k = l.length := by omega
      obtain ⟨p0, p1, p2, _⟩ := P5.cells
      obtain ⟨q1, q2, q3, q4, q5, q6⟩ := B0.cells
      have hs := B0.lt
      go_wp2
      refine ret3 (v := .agg #[.bool n5, .slice a5 x5 c5, .slice b5 y5 d5]) B0 rfl (fun U hU => by obtain ⟨r1, r2, r3, _⟩ := hU.cells; simp [results, Tryz.results7, go_sem, r1, r2, r3]) (fun U hU hK => ⟨_, rfl, hF5.moved hK, hU _ _ hbW (by omega)⟩)

end Go.Proofs.YtdhkpgndpgacbaaGreatDoor
