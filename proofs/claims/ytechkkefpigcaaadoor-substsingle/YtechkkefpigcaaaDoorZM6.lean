/-
  subst.puts, isLookup, allBelow; foundryref20.Puts, all: the walks.
  How rules and lookups lie in a world.
  subst.restFits, listsFit: the walks.
  (subst.worker).within: the walk, with the contract of do for one less under way.
-/
import Derived.Test.YtechkkefpigcaaaDoorZM4
import Derived.Test.YtechkkefpigcaaaDoorZM2
import Derived.Test.YtechkkefpigcaaaDoorZM3
import Derived.Deep.CutBlock
import Derived.Deep.CutRange
import Derived.BigQuiet
import Derived.Deep.QuietTactic
import Derived.WalkSmall
import Derived.Outline
import Derived.Test.YtechkkefpigcaaaDoorZM5
import Derived.Lib.MinMax
namespace Go.Proofs.YtechkkefpigcaaaDoor
open Go.RowKit Go.Maps
set_option linter.unusedSimpArgs false
set_option linter.unusedVariables false

set_option maxHeartbeats 1000000 in
set_option maxRecDepth 100000 in
theorem puts_any (z : Int) (w : World) (hz : I64 z) :
    Calls Tryd.prog 21 #[.int .i64 z] w fun e w' => e = .returned (.bool (puB z)) ∧ w = w' := by
  by_cases h0 : 1 ≤ z
  rotate_left
  · have HF : Hid (puB z = false) := by show _ = _; unfold puB; rw [decide_eq_false h0]; rfl
    have g0 : decide (1 ≤ z) = false := decide_eq_false h0
    clear h0
    go_enter Tryd.func21, Tryd.ntmps21
    go_wp2
    go_ret
    exact ⟨rt_bool HF.out.symm, rfl⟩
  have g0 : decide (1 ≤ z) = true := decide_eq_true h0
  have HF : Hid (puB z = decide (z ≤ 4)) := by show _ = _; unfold puB; rw [g0]; rfl
  obtain ⟨q, hq⟩ : ∃ q, decide (z ≤ 4) = q := ⟨_, rfl⟩
  rw [hq] at HF
  clear h0
  go_enter Tryd.func21, Tryd.ntmps21
  go_wp2
  go_ret
  exact ⟨rt_bool HF.out.symm, rfl⟩

/-- One of so many lookups. -/
def isLk (n : Nat) (z : Int) : Bool := decide (0 ≤ z) && decide (z < (n : Int))
theorem isLk_iff {n : Nat} {z : Int} : isLk n z = true ↔ 0 ≤ z ∧ z < (n : Int) := by unfold isLk; rw [Bool.and_eq_true, decide_eq_true_iff, decide_eq_true_iff]
theorem isLk_no {n : Nat} {z : Int} (h : ¬ (0 ≤ z ∧ z < (n : Int))) : isLk n z = false := by
  cases hp : isLk n z with
  | false => rfl
  | true => exact absurd (isLk_iff.1 hp) h

set_option maxHeartbeats 1000000 in
set_option maxRecDepth 100000 in
theorem isLook_any (a : Option Addr) (n c : Nat) (z : Int) (w : World) (hz : I64 z) (hn : n ≤ 9223372036854775807) :
    Calls Tryd.prog 20 #[.slice a n c, .int .i64 z] w fun e w' => e = .returned (.bool (isLk n z)) ∧ w = w' := by
  by_cases h0 : 0 ≤ z
  rotate_left
  · have HF : Hid (isLk n z = false) := by show _ = _; unfold isLk; rw [decide_eq_false h0]; rfl
    have g0 : decide (0 ≤ z) = false := decide_eq_false h0
    clear h0
    go_enter Tryd.func20, Tryd.ntmps20
    go_wp2
    go_ret
    exact ⟨rt_bool HF.out.symm, rfl⟩
  have g0 : decide (0 ≤ z) = true := decide_eq_true h0
  have HF : Hid (isLk n z = decide (z < (n : Int))) := by show _ = _; unfold isLk; rw [g0]; rfl
  obtain ⟨q, hq⟩ : ∃ q, decide (z < (n : Int)) = q := ⟨_, rfl⟩
  rw [hq] at HF
  clear h0
  go_enter Tryd.func20, Tryd.ntmps20
  go_wp2
  go_ret
  exact ⟨rt_bool HF.out.symm, rfl⟩

theorem alG_no {l : List Int} {g : Int} {k : Nat} (hk : k < l.length) (h : gyB g (l.getD k 0) = false) : l.all (gyB g) = false := by
  cases hf : l.all (gyB g) with
  | false => rfl
  | true =>
    rw [List.all_eq_true] at hf
    have := hf (l.getD k 0) (by rw [List.getD_eq_getElem?_getD, List.getElem?_eq_getElem hk]; exact List.getElem_mem hk)
    rw [h] at this
    cases this
theorem alG_yes {l : List Int} {g : Int} (h : ∀ k, k < l.length → gyB g (l.getD k 0) = true) : l.all (gyB g) = true := by
  rw [List.all_eq_true]
  intro z hz
  obtain ⟨k, hk, e⟩ := List.getElem_of_mem hz
  have := h k hk
  rw [List.getD_eq_getElem?_getD, List.getElem?_eq_getElem hk, Option.getD_some, e] at this
  exact this

set_option maxHeartbeats 2000000 in
set_option maxRecDepth 100000 in
theorem allB_any (a : Option Addr) (ca : Nat) (xs : List Int) (g : Int) (w : World) (h : Ri w a ca xs) (hg : I64 g) :
    Calls Tryd.prog 47 #[.slice a xs.length ca, .int .i64 g] w fun e w' => e = .returned (.bool (xs.all (gyB g))) ∧ Below w.heap.size w w' := by
  have kl := h.lenB
  have HH : Hid (Ri w a ca xs) := h
  clear h
  go_enter Tryd.func47, Tryd.ntmps47
  go_wp2
  go_loopw [9] (fun i wr => ∃ k : Nat, k ≤ xs.length ∧ i = .int .i64 k ∧ Hid (∀ j, j < k → gyB g (xs.getD j 0) = true) ∧ Below w.heap.size w wr) (fun i _ => xs.length - (intOf i).toNat)
  case atStart => exact ⟨0, Nat.zero_le _, rfl, (fun j hj => by omega), Below.refl _ _⟩
  case round =>
    obtain ⟨k, hk, rfl, HOK, hB⟩ := hrel
    by_cases hkn : k < xs.length
    · obtain ⟨b, off, rfl, hb, c0⟩ := HH.out.at hB k hkn
      have HBad : Hid (gyB g (xs.getD k 0) = false → xs.all (gyB g) = false) := alG_no hkn
      obtain ⟨x, hx⟩ : ∃ x, xs.getD k 0 = x := ⟨_, rfl⟩
      have HXX : Hid (xs.getD k 0 = x) := hx
      rw [hx] at c0 HBad
      clear hx
      have i1 : (0 : Int) ≤ (k : Int) := by omega
      have i2 : (k : Int) < (xs.length : Int) := by omega
      by_cases x0 : x < 0
      · have d0 : decide (x < 0) = true := decide_eq_true x0
        have HF : Hid (xs.all (gyB g) = false) := HBad.out (by unfold gyB; rw [decide_eq_false (by omega)]; rfl)
        clear x0 HBad HOK
        go_wp2
        go_ret
        exact ⟨rt_bool HF.out.symm, hB⟩
      have d0 : decide (x < 0) = false := decide_eq_false x0
      by_cases x1 : g ≤ x
      · have d1 : decide (g ≤ x) = true := decide_eq_true x1
        have HF : Hid (xs.all (gyB g) = false) := HBad.out (by unfold gyB; rw [decide_eq_false (show ¬ x < g by omega), Bool.and_false])
        clear x0 x1 HBad HOK
        go_wp2
        go_ret
        exact ⟨rt_bool HF.out.symm, hB⟩
      have d1 : decide (g ≤ x) = false := decide_eq_false x1
      have HOK2 : Hid (∀ j, j < k + 1 → gyB g (xs.getD j 0) = true) := fun j hj => by
        rcases Nat.lt_or_ge j k with h1 | h1
        · exact HOK.out j h1
        · rw [show j = k by omega, HXX.out]; exact gyB_iff.2 ⟨by omega, by omega⟩
      clear x0 x1 HBad HOK HXX
      go_wp2
      go_roundw
      case rel => exact ⟨k + 1, by omega, by go_num, HOK2, hB⟩
      case measure => simp [intOf]; omega
    · have HF : Hid (xs.all (gyB g) = true) := alG_yes (fun j hj => HOK.out j (by omega))
      have g4 : ¬ (k : Int) < (xs.length : Int) := by omega
      clear HOK
      go_wp2
      go_ret
      exact ⟨rt_bool HF.out.symm, hB⟩

set_option maxHeartbeats 1000000 in
set_option maxRecDepth 100000 in
theorem sputs_any (z : Int) (w : World) (hz : I64 z) :
    Calls Tryd.prog 24 #[.int .i64 z] w fun e w' => e = .returned (.bool (puB z)) ∧ w = w' := by
  by_cases h1 : z = 1
  · subst h1
    go_enter Tryd.func24, Tryd.ntmps24
    go_wp2
    go_ret
    exact ⟨rfl, rfl⟩
  by_cases h2 : z = 2
  · subst h2
    go_enter Tryd.func24, Tryd.ntmps24
    go_wp2
    go_ret
    exact ⟨rfl, rfl⟩
  by_cases h3 : z = 3
  · subst h3
    go_enter Tryd.func24, Tryd.ntmps24
    go_wp2
    go_ret
    exact ⟨rfl, rfl⟩
  by_cases h4 : z = 4
  · subst h4
    go_enter Tryd.func24, Tryd.ntmps24
    go_wp2
    go_ret
    exact ⟨rfl, rfl⟩
  have HF : Hid (puB z = false) := by
    show _ = _
    cases hp : puB z with
    | false => rfl
    | true => have := puB_iff.1 hp; omega
  have g1 : (z == 1) = false := beq_eq_false_iff_ne.2 h1
  have g2 : (z == 2) = false := beq_eq_false_iff_ne.2 h2
  have g3 : (z == 3) = false := beq_eq_false_iff_ne.2 h3
  have g4 : (z == 4) = false := beq_eq_false_iff_ne.2 h4
  clear h1 h2 h3 h4
  go_enter Tryd.func24, Tryd.ntmps24
  go_wp2
  go_ret
  exact ⟨rt_bool HF.out.symm, rfl⟩

set_option maxHeartbeats 2000000 in
set_option maxRecDepth 100000 in
theorem sallG_any (a : Option Addr) (ca : Nat) (xs : List Int) (g : Int) (p q : Nat) (w : World) (h : Ri w a ca xs) (hg : I64 g) :
    Calls Tryd.prog 40 #[.slice a xs.length ca, .int .i64 g, .int .i64 p, .int .i64 q] w fun e w' => e = .returned (.bool (alB xs g p q)) ∧ Below w.heap.size w w' := by
  have kl := h.lenB
  have HH : Hid (Ri w a ca xs) := h
  clear h
  go_enter Tryd.func40, Tryd.ntmps40
  go_wp2
  go_loopw [9] (fun i wr => ∃ k : Nat, k ≤ xs.length ∧ i = .int .i64 k ∧ Hid (∀ j, j < k → gyB g (xs.getD j 0) = true) ∧ Below w.heap.size w wr) (fun i _ => xs.length - (intOf i).toNat)
  case atStart => exact ⟨0, Nat.zero_le _, rfl, (fun j hj => by omega), Below.refl _ _⟩
  case round =>
    obtain ⟨k, hk, rfl, HOK, hB⟩ := hrel
    by_cases hkn : k < xs.length
    · obtain ⟨b, off, rfl, hb, c0⟩ := HH.out.at hB k hkn
      have HBad : Hid (gyB g (xs.getD k 0) = false → alB xs g p q = false) := fun h1 => by unfold alB; rw [alG_no hkn h1]; rfl
      obtain ⟨x, hx⟩ : ∃ x, xs.getD k 0 = x := ⟨_, rfl⟩
      have HXX : Hid (xs.getD k 0 = x) := hx
      rw [hx] at c0 HBad
      clear hx
      have i1 : (0 : Int) ≤ (k : Int) := by omega
      have i2 : (k : Int) < (xs.length : Int) := by omega
      by_cases x0 : x < 0
      · have d0 : decide (x < 0) = true := decide_eq_true x0
        have HF : Hid (alB xs g p q = false) := HBad.out (by unfold gyB; rw [decide_eq_false (by omega)]; rfl)
        clear x0 HBad HOK
        go_wp2
        go_ret
        exact ⟨rt_bool HF.out.symm, hB⟩
      have d0 : decide (x < 0) = false := decide_eq_false x0
      by_cases x1 : g ≤ x
      · have d1 : decide (g ≤ x) = true := decide_eq_true x1
        have HF : Hid (alB xs g p q = false) := HBad.out (by unfold gyB; rw [decide_eq_false (show ¬ x < g by omega), Bool.and_false])
        clear x0 x1 HBad HOK
        go_wp2
        go_ret
        exact ⟨rt_bool HF.out.symm, hB⟩
      have d1 : decide (g ≤ x) = false := decide_eq_false x1
      have HOK2 : Hid (∀ j, j < k + 1 → gyB g (xs.getD j 0) = true) := fun j hj => by
        rcases Nat.lt_or_ge j k with h1 | h1
        · exact HOK.out j h1
        · rw [show j = k by omega, HXX.out]; exact gyB_iff.2 ⟨by omega, by omega⟩
      clear x0 x1 HBad HOK HXX
      go_wp2
      go_roundw
      case rel => exact ⟨k + 1, by omega, by go_num, HOK2, hB⟩
      case measure => simp [intOf]; omega
    · have g4 : ¬ (k : Int) < (xs.length : Int) := by omega
      have e1 : decide ((p : Int) ≤ (xs.length : Int)) = decide (p ≤ xs.length) := by rw [Bool.eq_iff_iff, decide_eq_true_iff, decide_eq_true_iff]; omega
      have e2 : decide ((xs.length : Int) ≤ (q : Int)) = decide (xs.length ≤ q) := by rw [Bool.eq_iff_iff, decide_eq_true_iff, decide_eq_true_iff]; omega
      have HF : Hid (alB xs g p q = (decide (p ≤ xs.length) && decide (xs.length ≤ q))) := by
        show _ = _
        unfold alB
        rw [alG_yes (fun j hj => HOK.out j (by omega)), Bool.true_and]
      clear HOK
      by_cases f1 : p ≤ xs.length
      · have d1 : decide (p ≤ xs.length) = true := decide_eq_true f1
        rw [d1, Bool.true_and] at HF
        obtain ⟨z, hz⟩ : ∃ z, decide (xs.length ≤ q) = z := ⟨_, rfl⟩
        rw [hz] at HF e2
        clear f1
        go_wp2
        go_ret
        exact ⟨rt_bool HF.out.symm, hB⟩
      · have d1 : decide (p ≤ xs.length) = false := decide_eq_false f1
        rw [d1, Bool.false_and] at HF
        clear f1
        go_wp2
        go_ret
        exact ⟨rt_bool HF.out.symm, hB⟩

end Go.Proofs.YtechkkefpigcaaaDoor

namespace Go.Proofs.YtechkkefpigcaaaDoor
open Go.RowKit Go.Maps
set_option linter.unusedSimpArgs false
set_option linter.unusedVariables false

def SlU : El (Int × Int) := El.int.cat El.int
theorem SlU_rep {S : Nat → Prop} {w : World} {vs : List Value} {a : Int × Int} : SlU.rep S w vs a ↔ vs = [.int .i64 a.1, .int .i64 a.2] ∧ I64 a.1 ∧ I64 a.2 := by
  constructor
  · rintro ⟨us, ts, rfl, ⟨rfl, h1⟩, ⟨rfl, h2⟩⟩
    exact ⟨rfl, h1, h2⟩
  · rintro ⟨rfl, h1, h2⟩
    exact ⟨[_], [_], rfl, ⟨rfl, h1⟩, ⟨rfl, h2⟩⟩
def RuE : El Ru := (El.int.row.cat (El.int.row.cat (El.int.cat (El.int.cat (SlU.cat (SlU.cat SlU)))))).via (fun r => (r.inn, r.out, r.ap, r.lk, r.x, r.y, r.w)) Ru.none
def LkE : El Lk := (El.int.cat (El.bool.cat RuE.row)).via (fun x => (x.kd, x.sk, x.rs)) Lk.none
/-- A rule's cells. -/
def ruV (a : Option Addr) (ca : Nat) (b : Option Addr) (cb : Nat) (r : Ru) : List Value := [.slice a r.inn.length ca, .slice b r.out.length cb, .int .i64 r.ap, .int .i64 r.lk, .int .i64 r.x.1, .int .i64 r.x.2, .int .i64 r.y.1, .int .i64 r.y.2, .int .i64 r.w.1, .int .i64 r.w.2]
/-- What a rule's numbers are. -/
def RuI (r : Ru) : Prop := I64 r.ap ∧ I64 r.lk ∧ (I64 r.x.1 ∧ I64 r.x.2) ∧ (I64 r.y.1 ∧ I64 r.y.2) ∧ (I64 r.w.1 ∧ I64 r.w.2)
theorem RuE_rep {S : Nat → Prop} {w : World} {vs : List Value} {r : Ru} : RuE.rep S w vs r ↔ ∃ a ca b cb, vs = ruV a ca b cb r ∧ El.int.row.rep S w [.slice a r.inn.length ca] r.inn ∧ El.int.row.rep S w [.slice b r.out.length cb] r.out ∧ RuI r := by
  constructor
  · rintro ⟨us, ts, rfl, h1, us2, ts2, rfl, h2, us3, ts3, rfl, ⟨rfl, h3⟩, us4, ts4, rfl, ⟨rfl, h4⟩, us5, ts5, rfl, h5, us6, ts6, rfl, h6, h7⟩
    have r1 := h1
    obtain ⟨a, ca, e1, _⟩ := h1
    have r2 := h2
    obtain ⟨b, cb, e2, _⟩ := h2
    obtain ⟨rfl, k5⟩ := SlU_rep.1 h5
    obtain ⟨rfl, k6⟩ := SlU_rep.1 h6
    obtain ⟨rfl, k7⟩ := SlU_rep.1 h7
    subst e1 e2
    exact ⟨a, ca, b, cb, rfl, r1, r2, h3, h4, k5, k6, k7⟩
  · rintro ⟨a, ca, b, cb, rfl, h1, h2, h3, h4, h5, h6, h7⟩
    exact ⟨_, _, rfl, h1, _, _, rfl, h2, [.int .i64 r.ap], _, rfl, ⟨rfl, h3⟩, [.int .i64 r.lk], _, rfl, ⟨rfl, h4⟩, [.int .i64 r.x.1, .int .i64 r.x.2], _, rfl, SlU_rep.2 ⟨rfl, h5⟩, [.int .i64 r.y.1, .int .i64 r.y.2], [.int .i64 r.w.1, .int .i64 r.w.2], rfl, SlU_rep.2 ⟨rfl, h6⟩, SlU_rep.2 ⟨rfl, h7⟩⟩
theorem LkE_rep {S : Nat → Prop} {w : World} {vs : List Value} {x : Lk} : LkE.rep S w vs x ↔ ∃ a c, vs = [.int .i64 x.kd, .bool x.sk, .slice a x.rs.length c] ∧ I64 x.kd ∧ RuE.row.rep S w [.slice a x.rs.length c] x.rs := by
  constructor
  · rintro ⟨us, ts, rfl, ⟨rfl, h1⟩, us2, ts2, rfl, h2, h3⟩
    have e2 : us2 = [.bool x.sk] := h2
    subst e2
    have r3 := h3
    obtain ⟨a, c, e, _⟩ := h3
    subst e
    exact ⟨a, c, rfl, h1, r3⟩
  · rintro ⟨a, c, rfl, h1, h2⟩
    exact ⟨[_], _, rfl, ⟨rfl, h1⟩, [.bool x.sk], _, rfl, rfl, h2⟩
theorem rowU_rep {α : Type} {E : El α} {S : Nat → Prop} {w : World} {a : Option Addr} {c : Nat} {l : List α} (h : E.row.rep S w [.slice a l.length c] l) : Gr E S w a c l ∧ l.length ≤ 140737488351232 := by
  obtain ⟨a', c', e, _, h1, h2⟩ := h
  injection e with e
  injection e with e1 e2 e3
  subst e1 e3
  exact ⟨h1, h2⟩
/-- A rule of a row. -/
theorem Gr.ru {S : Nat → Prop} {w wr : World} {a : Option Addr} {cap : Nat} {l : List Ru} (h : Gr RuE S w a cap l) (hb : Below w.heap.size w wr) (k : Nat) (hk : k < l.length) :
    ∃ b off a1 c1 a2 c2, a = some ⟨b, off, none⟩ ∧ b < w.heap.size ∧ RuI (l.getD k Ru.none) ∧ Gr El.int S wr a1 c1 (l.getD k Ru.none).inn ∧ Gr El.int S wr a2 c2 (l.getD k Ru.none).out ∧ ∀ j, j < 10 → wr.cell? ⟨b, off + k * 10 + j, none⟩ = (ruV a1 c1 a2 c2 (l.getD k Ru.none))[j]? := by
  obtain ⟨b, off, vs, e, hl, hr, hc⟩ := h.at hb k hk
  obtain ⟨a1, c1, a2, c2, rfl, h1, h2, h3⟩ := RuE_rep.1 hr
  exact ⟨b, off, a1, c1, a2, c2, e, hl, h3, (rowU_rep h1).1, (rowU_rep h2).1, fun j hj => hc j hj⟩
/-- A lookup of a row. -/
theorem Gr.lk {S : Nat → Prop} {w wr : World} {a : Option Addr} {cap : Nat} {l : List Lk} (h : Gr LkE S w a cap l) (hb : Below w.heap.size w wr) (k : Nat) (hk : k < l.length) :
    ∃ b off a1 c1, a = some ⟨b, off, none⟩ ∧ b < w.heap.size ∧ I64 (l.getD k Lk.none).kd ∧ Gr RuE S wr a1 c1 (l.getD k Lk.none).rs ∧ wr.cell? ⟨b, off + k * 3, none⟩ = some (.int .i64 (l.getD k Lk.none).kd) ∧ wr.cell? ⟨b, off + k * 3 + 1, none⟩ = some (.bool (l.getD k Lk.none).sk) ∧ wr.cell? ⟨b, off + k * 3 + 2, none⟩ = some (.slice a1 (l.getD k Lk.none).rs.length c1) := by
  obtain ⟨b, off, vs, e, hl, hr, hc⟩ := h.at hb k hk
  obtain ⟨a1, c1, rfl, h1, h2⟩ := LkE_rep.1 hr
  exact ⟨b, off, a1, c1, e, hl, h1, (rowU_rep h2).1, hc 0 (by decide), hc 1 (by decide), hc 2 (by decide)⟩
/-- A rule in a block of its own. -/
theorem Bk.ru {t : TypeId} {w : World} {g : Nat} {a : Option Addr} {ca : Nat} {b : Option Addr} {cb : Nat} {r : Ru} (h : Bk t w g (ruV a ca b cb r)) :
    w.cell? ⟨g, 0, none⟩ = some (.slice a r.inn.length ca) ∧ w.cell? ⟨g, 1, none⟩ = some (.slice b r.out.length cb) ∧ w.cell? ⟨g, 2, none⟩ = some (.int .i64 r.ap) ∧ w.cell? ⟨g, 3, none⟩ = some (.int .i64 r.lk) ∧ w.cell? ⟨g, 4, none⟩ = some (.int .i64 r.x.1) ∧ w.cell? ⟨g, 5, none⟩ = some (.int .i64 r.x.2) ∧ w.cell? ⟨g, 6, none⟩ = some (.int .i64 r.y.1) ∧ w.cell? ⟨g, 7, none⟩ = some (.int .i64 r.y.2) ∧ w.cell? ⟨g, 8, none⟩ = some (.int .i64 r.w.1) ∧ w.cell? ⟨g, 9, none⟩ = some (.int .i64 r.w.2) :=
  ⟨h.cell 0 (by simp [ruV]), h.cell 1 (by simp [ruV]), h.cell 2 (by simp [ruV]), h.cell 3 (by simp [ruV]), h.cell 4 (by simp [ruV]), h.cell 5 (by simp [ruV]), h.cell 6 (by simp [ruV]), h.cell 7 (by simp [ruV]), h.cell 8 (by simp [ruV]), h.cell 9 (by simp [ruV])⟩

end Go.Proofs.YtechkkefpigcaaaDoor

namespace Go.Proofs.YtechkkefpigcaaaDoor
open Go.RowKit Go.Maps
set_option linter.unusedSimpArgs false
set_option linter.unusedVariables false

/-- The rest of a rule. -/
def reB (l : List Lk) (kd : Int) (r : Ru) : Bool :=
  zsB r && (if kd = 4 then (decide (0 ≤ r.ap) && decide (r.ap < (r.inn.length : Int))) && (isLk l.length r.lk && puB (l.getD r.lk.toNat Lk.none).kd) else decide (r.ap = 0) && decide (r.lk = 0))
/-- Its glyphs. -/
def lsB (p q s t : Nat) (r : Ru) (g : Int) : Bool := ((decide (p ≤ r.inn.length) && decide (r.inn.length ≤ q)) && (decide (s ≤ r.out.length) && decide (r.out.length ≤ t))) && (r.inn.all (gyB g) && r.out.all (gyB g))
/-- How many there may be. -/
def spN : List Nat := [0, 0, 0, 0, 1, 1, 1, 1, 1, 1, 0, 8, 2, 8, 1, 1, 1, 8, 0, 0]
theorem ruB_eq {l : List Lk} {kd : Nat} {r : Ru} {g : Int} (h1 : 1 ≤ kd) (h4 : kd ≤ 4) : ruB l (kd : Int) r g = (lsB (spN.getD (kd * 4) 0) (spN.getD (kd * 4 + 1) 0) (spN.getD (kd * 4 + 2) 0) (spN.getD (kd * 4 + 3) 0) r g && reB l (kd : Int) r) := by
  have hk : kd = 1 ∨ kd = 2 ∨ kd = 3 ∨ kd = 4 := by omega
  rw [Bool.eq_iff_iff]
  unfold ruB reB lsB cxB isLk alB
  rcases hk with rfl | rfl | rfl | rfl
  · simp [spN]
    constructor
    · rintro ⟨h1, ⟨h2, h3⟩, ⟨h4, h5, h6⟩, h7, h8, h9⟩
      exact ⟨⟨⟨⟨h5, h6⟩, h8, h9⟩, h4, h7⟩, h1, h2, h3⟩
    · rintro ⟨⟨⟨⟨h5, h6⟩, h8, h9⟩, h4, h7⟩, h1, h2, h3⟩
      exact ⟨h1, ⟨h2, h3⟩, ⟨h4, h5, h6⟩, h7, h8, h9⟩
  · simp [spN]
    constructor
    · rintro ⟨h1, ⟨h2, h3⟩, ⟨h4, h5, h6⟩, h7, h9⟩
      exact ⟨⟨⟨⟨h5, h6⟩, h9⟩, h4, h7⟩, h1, h2, h3⟩
    · rintro ⟨⟨⟨⟨h5, h6⟩, h9⟩, h4, h7⟩, h1, h2, h3⟩
      exact ⟨h1, ⟨h2, h3⟩, ⟨h4, h5, h6⟩, h7, h9⟩
  · simp [spN]
    constructor
    · rintro ⟨h1, ⟨h2, h3⟩, ⟨h4, h5, h6⟩, h7, h8, h9⟩
      exact ⟨⟨⟨⟨h5, h6⟩, h8, h9⟩, h4, h7⟩, h1, h2, h3⟩
    · rintro ⟨⟨⟨⟨h5, h6⟩, h8, h9⟩, h4, h7⟩, h1, h2, h3⟩
      exact ⟨h1, ⟨h2, h3⟩, ⟨h4, h5, h6⟩, h7, h8, h9⟩
  · simp [spN]
    constructor
    · rintro ⟨h1, ⟨h4, h5, h6⟩, h7, h8, h9, ha, hb, hc⟩
      exact ⟨⟨⟨⟨h5, h6⟩, h7⟩, h4, (by rw [h7]; simp)⟩, h1, ⟨h8, h9⟩, ⟨ha, hb⟩, hc⟩
    · rintro ⟨⟨⟨⟨h5, h6⟩, h7⟩, h4, _⟩, h1, ⟨h8, h9⟩, ⟨ha, hb⟩, hc⟩
      exact ⟨h1, ⟨h4, h5, h6⟩, h7, h8, h9, ha, hb, hc⟩

theorem zs_no {r : Ru} (h : ¬ (r.x = (0, 0) ∧ r.y = (0, 0) ∧ r.w = (0, 0))) {l : List Lk} {kd : Int} : reB l kd r = false := by
  unfold reB
  cases hz : zsB r with
  | false => rfl
  | true =>
    unfold zsB at hz
    simp only [Bool.and_eq_true, decide_eq_true_iff] at hz
    exact absurd hz h
theorem zs_yes {r : Ru} (h : r.x = (0, 0) ∧ r.y = (0, 0) ∧ r.w = (0, 0)) : zsB r = true := by
  unfold zsB
  simp only [Bool.and_eq_true, decide_eq_true_iff]
  exact h

set_option maxHeartbeats 8000000 in
set_option maxRecDepth 100000 in
theorem restF_any (S : Nat → Prop) (a : Option Addr) (ca : Nat) (l : List Lk) (kd : Int) (a1 : Option Addr) (c1 : Nat) (a2 : Option Addr) (c2 : Nat) (inn out : List Int) (ap lk x1 x2 y1 y2 w1 w2 : Int) (w : World)
    (hl : Gr LkE S w a ca l) (hk : I64 kd) (hap : I64 ap) (hlk : I64 lk) (kin : inn.length ≤ 9223372036854775807) :
    Calls Tryd.prog 39 #[.slice a l.length ca, .int .i64 kd, .agg #[.slice a1 inn.length c1, .slice a2 out.length c2, .int .i64 ap, .int .i64 lk, .int .i64 x1, .int .i64 x2, .int .i64 y1, .int .i64 y2, .int .i64 w1, .int .i64 w2]] w fun e w' =>
      e = .returned (.bool (reB l kd ⟨inn, out, ap, lk, (x1, x2), (y1, y2), (w1, w2)⟩)) ∧ Below w.heap.size w w' := by
  have kl := hl.lenB
  obtain ⟨W, hW, X1, X2, hbW⟩ : ∃ W, W = (w.alloc (.cells #[.slice a1 inn.length c1, .slice a2 out.length c2, .int .i64 ap, .int .i64 lk, .int .i64 x1, .int .i64 x2, .int .i64 y1, .int .i64 y2, .int .i64 w1, .int .i64 w2] 46)).alloc (.cells #[.int .i64 0, .int .i64 0] 44) ∧ Bk 46 W w.heap.size (ruV a1 c1 a2 c2 ⟨inn, out, ap, lk, (x1, x2), (y1, y2), (w1, w2)⟩) ∧ Bk 44 W (w.heap.size + 1) [.int .i64 0, .int .i64 0] ∧ Below w.heap.size w W := ⟨_, rfl, (Bk.new _ _ (ruV a1 c1 a2 c2 ⟨inn, out, ap, lk, (x1, x2), (y1, y2), (w1, w2)⟩)).below (bl1 _), Bk.new1 _ _ _ _, bl2 _ _⟩
  obtain ⟨q0, q1, q2, q3, q4, q5, q6, q7, q8, q9⟩ := X1.ru
  obtain ⟨z0, z1, -⟩ := X2.two
  dsimp only at q0 q1 q2 q3 q4 q5 q6 q7 q8 q9
  have HR : Hid (∀ q, reB l kd ⟨inn, out, ap, lk, (x1, x2), (y1, y2), (w1, w2)⟩ = q → reB l kd ⟨inn, out, ap, lk, (x1, x2), (y1, y2), (w1, w2)⟩ = q) := fun _ h => h
  have HNO : Hid (¬ (((x1, x2) : Int × Int) = (0, 0) ∧ ((y1, y2) : Int × Int) = (0, 0) ∧ ((w1, w2) : Int × Int) = (0, 0)) → reB l kd ⟨inn, out, ap, lk, (x1, x2), (y1, y2), (w1, w2)⟩ = false) := fun h => zs_no h
  clear X1 X2
  by_cases e1 : x1 = 0
  rotate_left
  · have HF : Hid (_ = false) := HNO.out (fun h => e1 (congrArg Prod.fst h.1))
    clear hl
    go_enter Tryd.func39, Tryd.ntmps39
    go_upto_region 2 with fail
    rw [← hW]
    clear hW HNO HR
    go_wp2
    go_ret
    exact ⟨rt_bool HF.out.symm, hbW⟩
  subst e1
  by_cases e2 : x2 = 0
  rotate_left
  · have HF : Hid (_ = false) := HNO.out (fun h => e2 (congrArg Prod.snd h.1))
    clear hl
    go_enter Tryd.func39, Tryd.ntmps39
    go_upto_region 2 with fail
    rw [← hW]
    clear hW HNO HR
    go_wp2
    go_ret
    exact ⟨rt_bool HF.out.symm, hbW⟩
  subst e2
  by_cases e3 : y1 = 0
  rotate_left
  · have HF : Hid (_ = false) := HNO.out (fun h => e3 (congrArg Prod.fst h.2.1))
    clear hl
    go_enter Tryd.func39, Tryd.ntmps39
    go_upto_region 2 with fail
    rw [← hW]
    clear hW HNO HR
    go_wp2
    go_ret
    exact ⟨rt_bool HF.out.symm, hbW⟩
  subst e3
  by_cases e4 : y2 = 0
  rotate_left
  · have HF : Hid (_ = false) := HNO.out (fun h => e4 (congrArg Prod.snd h.2.1))
    clear hl
    go_enter Tryd.func39, Tryd.ntmps39
    go_upto_region 2 with fail
    rw [← hW]
    clear hW HNO HR
    go_wp2
    go_ret
    exact ⟨rt_bool HF.out.symm, hbW⟩
  subst e4
  by_cases e5 : w1 = 0
  rotate_left
  · have HF : Hid (_ = false) := HNO.out (fun h => e5 (congrArg Prod.fst h.2.2))
    clear hl
    go_enter Tryd.func39, Tryd.ntmps39
    go_upto_region 2 with fail
    rw [← hW]
    clear hW HNO HR
    go_wp2
    go_ret
    exact ⟨rt_bool HF.out.symm, hbW⟩
  subst e5
  by_cases e6 : w2 = 0
  rotate_left
  · have HF : Hid (_ = false) := HNO.out (fun h => e6 (congrArg Prod.snd h.2.2))
    clear hl
    go_enter Tryd.func39, Tryd.ntmps39
    go_upto_region 2 with fail
    rw [← hW]
    clear hW HNO HR
    go_wp2
    go_ret
    exact ⟨rt_bool HF.out.symm, hbW⟩
  subst e6
  have HZ : Hid (reB l kd ⟨inn, out, ap, lk, (0, 0), (0, 0), (0, 0)⟩ = (if kd = 4 then (decide (0 ≤ ap) && decide (ap < (inn.length : Int))) && (isLk l.length lk && puB (l.getD lk.toNat Lk.none).kd) else decide (ap = 0) && decide (lk = 0))) := by
    show _ = _
    unfold reB
    rw [zs_yes ⟨rfl, rfl, rfl⟩, Bool.true_and]
  clear HNO HR
  by_cases h4 : kd = 4
  rotate_left
  · have HF : Hid (reB l kd ⟨inn, out, ap, lk, (0, 0), (0, 0), (0, 0)⟩ = (decide (ap = 0) && decide (lk = 0))) := by show _ = _; rw [HZ.out, if_neg h4]
    have g4 : (kd != 4) = true := bne_iff_ne.2 h4
    clear HZ h4 hl
    by_cases hp : ap = 0
    · subst hp
      obtain ⟨q, hq⟩ : ∃ q, (lk == 0) = q := ⟨_, rfl⟩
      have hq2 : decide (lk = 0) = q := hq
      rw [decide_eq_true rfl, Bool.true_and, hq2] at HF
      clear hq2
      go_enter Tryd.func39, Tryd.ntmps39
      go_upto_region 2 with fail
      rw [← hW]
      clear hW
      go_wp2
      go_ret
      exact ⟨rt_bool HF.out.symm, hbW⟩
    · have g5 : (ap == 0) = false := beq_eq_false_iff_ne.2 hp
      rw [decide_eq_false hp, Bool.false_and] at HF
      clear hp
      go_enter Tryd.func39, Tryd.ntmps39
      go_upto_region 2 with fail
      rw [← hW]
      clear hW
      go_wp2
      go_ret
      exact ⟨rt_bool HF.out.symm, hbW⟩
  subst h4
  rw [if_pos rfl] at HZ
  by_cases p1 : 0 ≤ ap
  rotate_left
  · have HF : Hid (reB l 4 ⟨inn, out, ap, lk, (0, 0), (0, 0), (0, 0)⟩ = false) := by show _ = _; rw [HZ.out, decide_eq_false p1]; rfl
    have g5 : decide (0 ≤ ap) = false := decide_eq_false p1
    clear HZ p1 hl
    go_enter Tryd.func39, Tryd.ntmps39
    go_upto_region 2 with fail
    rw [← hW]
    clear hW
    go_wp2
    go_ret
    exact ⟨rt_bool HF.out.symm, hbW⟩
  have g5 : decide (0 ≤ ap) = true := decide_eq_true p1
  by_cases p2 : ap < (inn.length : Int)
  rotate_left
  · have HF : Hid (reB l 4 ⟨inn, out, ap, lk, (0, 0), (0, 0), (0, 0)⟩ = false) := by show _ = _; rw [HZ.out, decide_eq_false p2, Bool.and_false]; rfl
    have g6 : decide (ap < (inn.length : Int)) = false := decide_eq_false p2
    clear HZ p1 p2 hl
    go_enter Tryd.func39, Tryd.ntmps39
    go_upto_region 2 with fail
    rw [← hW]
    clear hW
    go_wp2
    go_ret
    exact ⟨rt_bool HF.out.symm, hbW⟩
  have g6 : decide (ap < (inn.length : Int)) = true := decide_eq_true p2
  rw [g5, g6, Bool.and_self, Bool.true_and] at HZ
  have hil := isLook_any a l.length ca lk W hlk kl
  by_cases p3 : 0 ≤ lk ∧ lk < (l.length : Int)
  rotate_left
  · rw [isLk_no p3] at hil
    have HF : Hid (reB l 4 ⟨inn, out, ap, lk, (0, 0), (0, 0), (0, 0)⟩ = false) := by show _ = _; rw [HZ.out, isLk_no p3]; rfl
    clear HZ p1 p2 p3 hl
    go_enter Tryd.func39, Tryd.ntmps39
    go_upto_region 2 with fail
    rw [← hW]
    clear hW
    go_wp2_with fail
    refine hil.mono ?_
    rintro e u ⟨rfl, rfl⟩
    clear hil
    go_wp2
    go_ret
    exact ⟨rt_bool HF.out.symm, hbW⟩
  rw [isLk_iff.2 p3] at hil
  have HF : Hid (reB l 4 ⟨inn, out, ap, lk, (0, 0), (0, 0), (0, 0)⟩ = puB (l.getD lk.toNat Lk.none).kd) := by show _ = _; rw [HZ.out, isLk_iff.2 p3]; rfl
  obtain ⟨n, rfl⟩ : ∃ n : Nat, lk = (n : Int) := ⟨lk.toNat, by omega⟩
  rw [Int.toNat_natCast] at HF
  have hn : n < l.length := by omega
  obtain ⟨i1, i2⟩ := p3
  obtain ⟨b, off, ra, rc, rfl, hb, hkd, -, d0, -, -⟩ := hl.lk hbW n hn
  obtain ⟨z, hz⟩ : ∃ z, (l.getD n Lk.none).kd = z := ⟨_, rfl⟩
  rw [hz] at hkd d0 HF
  have hpu := puts_any z W hkd
  clear HZ p1 p2 hl hz
  go_enter Tryd.func39, Tryd.ntmps39
  go_upto_region 2 with fail
  rw [← hW]
  clear hW
  go_wp2_with fail
  refine hil.mono ?_
  rintro e u ⟨rfl, rfl⟩
  clear hil
  go_wp2_with fail
  refine hpu.mono ?_
  rintro e u ⟨rfl, rfl⟩
  clear hpu
  go_wp2
  go_ret
  exact ⟨rt_bool HF.out.symm, hbW⟩

end Go.Proofs.YtechkkefpigcaaaDoor

namespace Go.Proofs.YtechkkefpigcaaaDoor
open Go.RowKit Go.Maps
set_option linter.unusedSimpArgs false
set_option linter.unusedVariables false

/-- What a lookup done at a place answers. -/
structure DuA (l : List Lk) (ms : List Bool) (n k : Nat) (L : List Int) (i : Int) (w' : World) (e : Ending) : Prop where
  out : ∃ a c, e = .returned (.tuple #[.slice a (duL l ms n k L i).length c, .int .i64 (duO l ms n k L i), .bool (duB l ms n k L i)]) ∧ Gr El.int (fun _ => True) w' a c (duL l ms n k L i)
/-- The contract of do, with so many more under way within. -/
def DoC (l : List Lk) (ms : List Bool) (n : Nat) : Prop := ∀ (Sl Sm S : Nat → Prop) (la : Option Addr) (lc : Nat) (mb : Option Addr) (mc : Nat) (k : Nat) (a : Option Addr) (ca : Nat) (L : List Int) (i : Int) (w : World),
  Gr LkE Sl w la lc l → Gr El.bool Sm w mb mc ms → Gr El.int S w a ca L → k < l.length → puB (l.getD k Lk.none).kd = true → plB L i = true → L.length ≤ 200 →
  Calls Tryd.prog 23 #[.agg #[.slice la l.length lc, .slice mb ms.length mc], .int .i64 k, .slice a L.length ca, .int .i64 i, .int .i64 (8 - (n : Int))] w fun e w' => DuA l ms n k L i w' e ∧ Below w.heap.size w w'
/-- What a context answers. -/
structure WinA (o : List Int) (on : Int) (w' : World) (e : Ending) : Prop where
  out : ∃ a c, e = .returned (.tuple #[.slice a o.length c, .int .i64 on]) ∧ Gr El.int (fun _ => True) w' a c o

set_option maxHeartbeats 8000000 in
set_option maxRecDepth 100000 in
theorem within_any (l : List Lk) (ms : List Bool) (g : Int) (hf : foU l g = true) (n : Nat) (hn7 : n ≤ 7) (IH : ∀ n', n = n' + 1 → DoC l ms n') (Sl Sm S : Nat → Prop) (la : Option Addr) (lc : Nat) (mb : Option Addr) (mc : Nat) (a1 : Option Addr) (c1 : Nat) (a2 : Option Addr) (c2 : Nat)
    (inn out : List Int) (ap lk x1 x2 y1 y2 w1 w2 : Int) (a : Option Addr) (ca : Nat) (L : List Int) (pa : Option Addr) (pc : Nat) (m : List Int) (sk : Bool) (i : Int) (A : List Int) (w : World)
    (hl : Gr LkE Sl w la lc l) (hms : Gr El.bool Sm w mb mc ms) (hL : Gr El.int S w a ca L) (hp : Ri w pa pc m) (hM : MeR ms L sk i A m) (hle : L.length ≤ 200)
    (h1 : 0 ≤ ap) (h2 : ap < (m.length : Int)) (h3 : 0 ≤ lk) (h4 : lk < (l.length : Int)) (h5 : puB (l.getD lk.toNat Lk.none).kd = true) :
    Calls Tryd.prog 33 #[.agg #[.slice la l.length lc, .slice mb ms.length mc], .agg #[.slice a1 inn.length c1, .slice a2 out.length c2, .int .i64 ap, .int .i64 lk, .int .i64 x1, .int .i64 x2, .int .i64 y1, .int .i64 y2, .int .i64 w1, .int .i64 w2], .slice a L.length ca, .slice pa m.length pc, .int .i64 (8 - (n : Int))] w fun e w' =>
      WinA (inF l ms n L lk (m.getD ap.toNat 0)) (max (m.getD (m.length - 1) 0 + 1 + ((inF l ms n L lk (m.getD ap.toNat 0)).length : Int) - (L.length : Int)) i) w' e ∧ Below w.heap.size w w' := by
  have kl := hL.lenB
  have km := hp.lenB
  have kll := hl.lenB
  have hpos := hM.pos
  have hpi := plB_iff.1 hM.pl
  have hlast := hM.hi (k := m.length - 1) (by omega)
  have hlast0 := hM.lo (k := m.length - 1) (by omega)
  have hmL : m.length ≤ L.length := by
    have := hM.hi hpos
    rw [hM.fst] at this
    omega
  obtain ⟨p, rfl⟩ : ∃ p : Nat, ap = (p : Int) := ⟨ap.toNat, by omega⟩
  obtain ⟨q, rfl⟩ : ∃ q : Nat, lk = (q : Int) := ⟨lk.toNat, by omega⟩
  rw [Int.toNat_natCast] at h5
  rw [Int.toNat_natCast]
  have hpm : p < m.length := by omega
  have hql : q < l.length := by omega
  have hz := hM.ok p hpm
  have hpl : plB L (m.getD p 0) = true := by
    obtain ⟨z, e, hz2, _⟩ := hz
    exact plB_iff.2 ⟨by omega, by omega⟩
  obtain ⟨pb, po, rfl, hpb, -⟩ := hp.at (Below.refl _ _) 0 hpos
  have hcap := hp.2.1
  have HPC : Hid (∀ W, Below w.heap.size w W → W.cell? ⟨pb, po, none⟩ = some (.int .i64 i) ∧ W.cell? ⟨pb, po + p, none⟩ = some (.int .i64 (m.getD p 0)) ∧ W.cell? ⟨pb, po + (m.length - 1), none⟩ = some (.int .i64 (m.getD (m.length - 1) 0))) := fun W hW => by
    obtain ⟨b1, o1, e1, _, d1⟩ := hp.at hW 0 hpos
    cases e1
    obtain ⟨b2, o2, e2, _, d2⟩ := hp.at hW p hpm
    cases e2
    obtain ⟨b3, o3, e3, _, d3⟩ := hp.at hW (m.length - 1) (by omega)
    cases e3
    rw [hM.fst, Nat.add_zero] at d1
    exact ⟨d1, d2, d3⟩
  have hcl := fun U (hU : Below w.heap.size w U) => ccloneI_any S a ca L U (hL.below hU) (by omega)
  have hI0 : I64 i := ⟨by omega, by omega⟩
  have hsub : (m.length : Int) - 1 = ((m.length - 1 : Nat) : Int) := by omega
  have hlt1 : m.length - 1 < m.length := by omega
  obtain ⟨z, hzz⟩ : ∃ z, m.getD p 0 = z := ⟨_, rfl⟩
  obtain ⟨t, ht⟩ : ∃ t, m.getD (m.length - 1) 0 = t := ⟨_, rfl⟩
  rw [hzz, ht] at HPC
  rw [hzz, ht]
  rw [hzz] at hpl
  rw [ht] at hlast hlast0
  have hlt : t ≤ 200 := by omega
  have hlt0 : 0 ≤ t := by omega
  have i1 : (0 : Int) ≤ (p : Int) := by omega
  have i2 : (p : Int) < (m.length : Int) := by omega
  have HLI : Hid (L.length ≤ 200) := hle
  clear hlast hlast0 hz hzz ht hM
  obtain ⟨uu, hu⟩ : ∃ uu : Int, 8 - (n : Int) = uu := ⟨_, rfl⟩
  have HU : Hid (8 - (n : Int) = uu) := hu
  rw [hu]
  clear hu
  obtain ⟨W, hW, X1, X2, hbW⟩ : ∃ W, W = (w.alloc (.cells #[.slice la l.length lc, .slice mb ms.length mc] 55)).alloc (.cells #[.slice a1 inn.length c1, .slice a2 out.length c2, .int .i64 (p : Int), .int .i64 (q : Int), .int .i64 x1, .int .i64 x2, .int .i64 y1, .int .i64 y2, .int .i64 w1, .int .i64 w2] 46) ∧ Bk 55 W w.heap.size [.slice la l.length lc, .slice mb ms.length mc] ∧ Bk 46 W (w.heap.size + 1) (ruV a1 c1 a2 c2 ⟨inn, out, (p : Int), (q : Int), (x1, x2), (y1, y2), (w1, w2)⟩) ∧ Below w.heap.size w W := ⟨_, rfl, (Bk.new _ _ _).below (bl1 _), Bk.new1 _ _ _ (ruV a1 c1 a2 c2 ⟨inn, out, (p : Int), (q : Int), (x1, x2), (y1, y2), (w1, w2)⟩), bl2 _ _⟩
  have hcl0 := hcl W hbW
  go_enter Tryd.func33, Tryd.ntmps33
  go_upto_region 1 with fail
  rw [← hW]
  clear hW hcl
  go_wp2_with fail
  refine hcl0.mono ?_
  rintro e u ⟨⟨v, rfl, hv⟩, hbu⟩
  obtain ⟨va, vc, rfl, hvg⟩ := hv.io.grL (S := fun _ => True)
  have hbU := hbW.trans (hbu.mono hbW.size)
  clear hcl0 hv
  cases n with
  | zero =>
    have g8 : ¬ uu < 8 := by have := HU.out; omega
    obtain ⟨d0, -, d2⟩ := HPC.out u hbU
    have HV : Hid (∀ U, Below u.heap.size u U → WinA (inF l ms 0 L (q : Int) z) (max (t + 1 + ((inF l ms 0 L (q : Int) z).length : Int) - (L.length : Int)) i) U (.returned (.tuple #[.slice va L.length vc, .int .i64 (max i (t + 1))]))) := fun U hU => by
      refine ⟨va, vc, ?_, hvg.below hU⟩
      show _ = Ending.returned (.tuple #[.slice va L.length vc, .int .i64 (max (t + 1 + (L.length : Int) - (L.length : Int)) i)])
      rw [show t + 1 + (L.length : Int) - (L.length : Int) = t + 1 by omega, Int.max_comm]
    have w1 : IntKind.i64.wrap (t + 1 + (L.length : Int)) = t + 1 + (L.length : Int) := wrapi64y (by omega) (by omega)
    have w2 : IntKind.i64.wrap (t + 1 + (L.length : Int) - (L.length : Int)) = t + 1 := by rw [show t + 1 + (L.length : Int) - (L.length : Int) = t + 1 by omega]; exact wrapi64y (by omega) (by omega)
    clear hvg HPC X1 X2
    go_wp2
    go_quiet (fail)
    have hb2 : Below u.heap.size u (u.drewN nq) := below_drewN (Below.refl _ _) _
    have hfin := hbU.trans (hb2.mono hbU.size)
    have HV2 := HV.out _ hb2
    generalize u.drewN nq = uf at hfin HV2
    clear d0 d2 w1 w2 hb2
    go_wp2
    go_ret2
    exact ⟨HV2, hfin⟩
  | succ n =>
    have g8 : uu < 8 := by have := HU.out; omega
    have w1 : IntKind.i64.wrap (uu + 1) = uu + 1 := wrapi64y (by have := HU.out; omega) (by omega)
    have hdo : ∀ Z, Below w.heap.size w Z → Calls Tryd.prog 23 #[.agg #[.slice la l.length lc, .slice mb ms.length mc], .int .i64 q, .slice a L.length ca, .int .i64 z, .int .i64 (uu + 1)] Z fun e w' => DuA l ms n q L z w' e ∧ Below Z.heap.size Z w' := fun Z hZ => by
      have h := IH n rfl Sl Sm S la lc mb mc q a ca L z Z (hl.below hZ) (hms.below hZ) (hL.below hZ) hql h5 hpl hle
      rw [show (8 : Int) - (n : Int) = uu + 1 by have := HU.out; omega] at h
      exact h
    have HDL : Hid (∀ d, duF l ms n q L z = some d → d.1.length ≤ L.length + 7) := fun d hd => (du_f hf n q L z d hql h5 hpl hd).len
    have HO : Hid (inF l ms (n + 1) L (q : Int) z = duL l ms n q L z) := by show duL l ms n (q : Int).toNat L z = _; rw [Int.toNat_natCast]
    have hol : (duL l ms n q L z).length ≤ 300 := by
      unfold duL
      cases hd : duF l ms n q L z with
      | none => show L.length ≤ _; omega
      | some d => have := HDL.out d hd; show d.1.length ≤ _; omega
    have HX1 : Hid (∀ U, Below W.heap.size W U → (U.cell? ⟨w.heap.size, 0, none⟩ = some (.slice la l.length lc) ∧ U.cell? ⟨w.heap.size, 1, none⟩ = some (.slice mb ms.length mc)) ∧ U.cell? ⟨w.heap.size + 1, 2, none⟩ = some (.int .i64 (p : Int)) ∧ U.cell? ⟨w.heap.size + 1, 3, none⟩ = some (.int .i64 (q : Int))) := fun U hU => by
      obtain ⟨e0, e1, -⟩ := (X1.below hU).two
      obtain ⟨-, -, e2, e3, -⟩ := (X2.below hU).ru
      exact ⟨⟨e0, e1⟩, e2, e3⟩
    have HWU : Hid (Below W.heap.size W u) := hbu
    have HBW : Hid (Below w.heap.size w W) := hbW
    clear hvg X1 X2 IH hl hms hL hp HDL h5 hpl hbu hbW
    obtain ⟨⟨e0, e1⟩, e2, e3⟩ := HX1.out u HWU.out
    obtain ⟨-, d1, -⟩ := HPC.out u hbU
    go_wp2
    refine wp_region_held_drew (S := fun u' => ((u'.cell? ⟨w.heap.size, 0, none⟩ = some (.slice la l.length lc) ∧ u'.cell? ⟨w.heap.size, 1, none⟩ = some (.slice mb ms.length mc)) ∧ u'.cell? ⟨w.heap.size + 1, 2, none⟩ = some (.int .i64 (p : Int)) ∧ u'.cell? ⟨w.heap.size + 1, 3, none⟩ = some (.int .i64 (q : Int))) ∧ u'.cell? ⟨pb, po + p, none⟩ = some (.int .i64 z)) (by kernel_rfl) ⟨⟨⟨e0, e1⟩, e2, e3⟩, d1⟩ (fun hHeld => ?_)
    have hdr : Below u.heap.size u u.drew := (Below.refl _ _).drew
    generalize u.drew = Z at hdr hHeld ⊢
    clear e0 e1 e2 e3 d1
    have hwZ := hbU.trans (hdr.mono hbU.size)
    have hWZ := HWU.out.trans (hdr.mono HWU.out.size)
    refine hT 0 hHeld ?_
    refine hT 1 hHeld ?_
    refine hT 2 hHeld ?_
    refine hT 3 hHeld ?_
    refine hT 4 hHeld ?_
    refine hT 5 hHeld ?_
    refine hT 6 hHeld ?_
    refine hT 7 hHeld ?_
    refine hT 8 hHeld ?_
    refine hT 9 hHeld ?_
    refine hT 10 hHeld ?_
    refine hCall (i := 11) rfl (by kernel_rfl) (by rfl) (fun K hK => ?_)
    go_simp
    refine (hdo Z hwZ).mono ?_
    rintro e u2 ⟨⟨xa, xc, rfl, hgr⟩, hb2⟩
    have hw2 := hwZ.trans (hb2.mono hwZ.size)
    have hW2 := hWZ.trans (hb2.mono hWZ.size)
    have HS2 := HX1.out u2 hW2
    obtain ⟨f0, f1, f2⟩ := HPC.out u2 hw2
    have HO2 : inF l ms (n + 1) L (q : Int) z = duL l ms n q L z := HO.out
    generalize duL l ms n q L z = o at hgr hol HO2
    have HO : Hid (inF l ms (n + 1) L (q : Int) z = o) := HO2
    clear HO2
    generalize duO l ms n q L z = on
    generalize duB l ms n q L z = db
    clear hdo HX1 HPC
    go_wp2_with fail
    refine hK.out _ _ ⟨HS2, f1⟩ (fun hHeld => ?_)
    clear hK K
    try simp only [Act.put, List.setIfInBounds_toArray, List.set_cons_zero, List.set_cons_succ]
    refine hT 12 hHeld ?_
    refine hT 13 hHeld ?_
    refine hT 14 hHeld ?_
    refine hT 15 hHeld ?_
    refine hT 16 hHeld ?_
    refine wpAnyH_done (by kernel_rfl) ?_ _
    have HV : Hid (∀ U, Below u2.heap.size u2 U → WinA (inF l ms (n + 1) L (q : Int) z) (max (t + 1 + ((inF l ms (n + 1) L (q : Int) z).length : Int) - (L.length : Int)) i) U (.returned (.tuple #[.slice xa o.length xc, .int .i64 (max i (t + 1 + (o.length : Int) - (L.length : Int)))]))) := fun U hU => by
      rw [HO.out]
      exact ⟨xa, xc, by rw [Int.max_comm], hgr.below hU⟩
    have w1 : IntKind.i64.wrap (t + 1 + (o.length : Int)) = t + 1 + (o.length : Int) := wrapi64y (by omega) (by omega)
    have w2 : IntKind.i64.wrap (t + 1 + (o.length : Int) - (L.length : Int)) = t + 1 + (o.length : Int) - (L.length : Int) := wrapi64y (by omega) (by omega)
    clear hHeld hgr f1 HS2 hb2 hW2 hwZ hWZ hdr
    go_wp2
    go_quiet (fail)
    have hb2 : Below u2.heap.size u2 (u2.drewN nq) := below_drewN (Below.refl _ _) _
    have hfin := hw2.trans (hb2.mono hw2.size)
    have HV2 := HV.out _ hb2
    generalize u2.drewN nq = uf at hfin HV2
    clear f0 f2 w1 w2 hb2
    go_wp2
    go_ret2
    exact ⟨HV2, hfin⟩

end Go.Proofs.YtechkkefpigcaaaDoor
