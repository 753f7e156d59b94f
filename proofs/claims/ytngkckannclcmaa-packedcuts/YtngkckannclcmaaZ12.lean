/-
  What a law is told of a list of int16 that came in.
  Laws on append for the pages of the reference; a page whose bytes have grown.
  foundryref04.Page: put, Put8, Put16, Put32, PutBytes, PutTag, Pad, All: the walks.
  Pages: what is put, in plain words; new pages.
  packed: arePoints, areChanges, kindOfDifference, kindOfChange, signedByte, nought: the walks.
-/
import Derived.Test.YtngkckannclcmaaZ11
import Derived.Deep.Slices
import Derived.Lib.SmallJoins
import Derived.ChangeSame
import Derived.Test.YtngkckannclcmaaZ7
import Derived.Test.YtngkckannclcmaaZ5
import Derived.Lib.AppendStr
import Derived.Test.YtngkckannclcmaaZ3
namespace Go.Proofs.Ytngkckannclcmaa
open Go.RowKit
open Go.ChangeShapes Go.WideShapes Go.Joins Go.Deep
set_option linter.unusedSimpArgs false
set_option linter.unusedVariables false

theorem wfo_i16_bounds' {z : Int} (h : (Lit.int .i16 z).wf = true) : -32768 ≤ z ∧ z ≤ 32767 := by
  simp [Lit.wf, IntKind.min, IntKind.max, IntKind.bits, IntKind.signed] at h
  omega
theorem IsRowK.rh {w : World} {a : Option Addr} {len cap : Nat} {zs : List Int} (h : IsRowK .i16 w a len cap zs) : ∃ xs : List Int, len = xs.length ∧ Rh w a cap xs := by
  obtain ⟨ys, h1, h2, h3, h4, h5, h6⟩ := h.cells
  exact ⟨ys, h1, fun y hy => wfo_i16_bounds' (h2 y hy), h3, h4, h6⟩

end Go.Proofs.Ytngkckannclcmaa

namespace Go.Proofs.Ytngkckannclcmaa
open Go.RowKit Go.Maps
set_option linter.unusedSimpArgs false
set_option linter.unusedVariables false

/-- .. as 'hTake', 'hCons' of <Name>Reg, for regions under no fact that is held. -/
theorem aTake {P : Program} {md : Region.Mode} {l : List Oper} {Q : Exit → Act → World → Prop} {i : Nat} {o : Oper} {v : Value} {fuel : Nat} {listed : Array Bool} {a : Act} {w : World} (hi : nth l i = some o)
    (hs : Region.noSelect l.toArray = true) (hf : Region.free md l.toArray listed i = true) (hr : (Region.ready md l.toArray listed).contains i = true)
    (hQ : ∀ c a w, Q (.panic c) (a.put o.dst v) w → Q (.panic c) a w) (hy : Yields P l.toArray o v a)
    (h : wpAny P md l.toArray Q fuel (listed.setIfInBounds i true) (a.put o.dst v) w) : wpAny P md l.toArray Q (fuel + 1) listed a w :=
  wpAny_take ((nth_eq l i).symm.trans hi) hs hf hr hQ hy h
theorem aCons {P : Program} {md : Region.Mode} {l : List Oper} {Q : Exit → Act → World → Prop} {i : Nat} {o : Oper} {fuel : Nat} {listed : Array Bool} {a : Act} {w : World} {rs : List Nat} (hi : nth l i = some o)
    (hw : Region.wanted o (yielded l.toArray a.tmps) = true)
    (h : ∀ K : Act → World → Prop, Shut (∀ a w, wpAny P md l.toArray Q fuel (listed.setIfInBounds i true) a w → K a w) → Oper.wp P o a w K Q)
    (hs : AllReady P md l.toArray Q fuel listed a w rs) : AllReady P md l.toArray Q fuel listed a w (i :: rs) :=
  AllReady.cons ((nth_eq l i).symm.trans hi) (fun K hK => by rw [if_pos hw]; exact h K hK) hs
theorem drewRegion {P : Program} {ops : Array Oper} {Q : Exit → Act → World → Prop} {id : Nat} {a : Act} {w : World} (hm : P.follows .mixedOrders = true)
    (h : wpAny P .any ops Q ops.size (Array.replicate ops.size false) a w.drew) : (Code.region id ops true).wp P Q a w := wp_region_any hm h

/-- 'append(out, src...)' as one operation: src is read and isn't empty, out is the call's own. -/
theorem wp_append_rb {P : Program} {w : World} {o : Oper} {a : Act} {K : Act → World → Prop} {Q : Exit → Act → World → Prop} (s x : Operand) (t : TypeId) (ho : o.op = .call { callee := .builtin .append, args := #[s, x], argTypes := #[t, t] })
    (e : TypeId) (i : TypeInfo) (ht : P.underlying t = some (.slice e)) (hi : P.info? e = some i) (hz : i.zero = some (.int .u8 0)) (hsize : i.size = 1) (hby : i.bytes = 1)
    (v : Value) (n : Nat) (ys : List Nat) (hs : a.eval s = v) (hown : w.ownsRow 0 e 1 v n (ys.map Y))
    (ad : Option Addr) (c m : Nat) (zs : List Nat) (hx : a.eval x = .slice ad m c) (hm : m = zs.length) (hne : zs ≠ []) (hrd : Rb w ad c zs) (hlen : n + zs.length ≤ 2000000000)
    (h : ∀ v' w', w'.ownsRow 0 e 1 v' (n + zs.length) ((ys ++ zs).map Y) → w.grownBy w' v.ownBlock → (v'.ownBlock = v.ownBlock ∨ v'.ownBlock = some w.heap.size) → K (a.put o.dst v') w') : o.wp P a w K Q := by
  subst hm
  rcases hrd.fm with h0 | ⟨b, off, rfl, hb, hc⟩
  · exact absurd h0 hne
  · obtain ⟨v', w', hr, h2, h3, h4, h5⟩ := run_append_own_at (P := P) w 0 t o.type e i (.int .u8 0) 1 1 ht hi hz hsize hby rfl (by decide) v n (ys.map Y) hown ⟨b, off, none⟩ zs.length c (zs.map Y) (by simp) (by
      intro j u hj
      have hjl : j < zs.length := by
        rcases Nat.lt_or_ge j zs.length with h1 | h1
        · exact h1
        · rw [List.getElem?_eq_none (by simpa using h1)] at hj; cases hj
      have hadd : (⟨b, off, none⟩ : Addr).add j = ⟨b, off + j, none⟩ := by unfold Addr.add; split <;> simp_all
      rw [hadd, hc j hjl]
      rw [List.getElem?_map, List.getElem?_eq_getElem hjl] at hj
      simp at hj
      rw [← hj]
      simp [List.getD, hjl, Y]) (oneCell_Y zs) (by unfold maxLen; omega) (by omega) (Nat.zero_le _)
    unfold Oper.wp execOp
    simp only [ho, resolve, invoke, builtin, Sem.run_bind, Sem.run_pure, Result.andThen_ok, List.map_toArray, List.map_cons, List.map_nil, hs, hx, hr]
    exact h v' w' (by rw [List.map_append]; exact h2) h3 h5

/-- 'append(out, text...)': where the new slice lies. -/
theorem wpList_append_str {P : Program} {w : World} {ops : Array Oper} {rest : List Oper} {o : Oper} {a : Act} {Q : Exit → Act → World → Prop} (hgd : o.guard = none) (sl x : Operand) (t u : TypeId)
    (ho : o.op = .call { callee := .builtin .append, args := #[sl, x], argTypes := #[t, u] })
    (e : TypeId) (i : TypeInfo) (ht : P.underlying t = some (.slice e)) (hu : P.underlying u = some .string) (hi : P.info? e = some i) (hz : i.zero = some (.int .u8 0))
    (hsize : i.size = 1) (hby : i.bytes = 1)
    (v : Value) (n : Nat) (ys : List Nat) (hs : a.eval sl = v) (hown : w.ownsRow 0 e 1 v n (ys.map Y)) (s : ByteArray) (hx : a.eval x = .string s) (hlen : n + s.size ≤ 2000000000)
    (h : ∀ v' w', w'.ownsRow 0 e 1 v' (n + s.size) ((ys ++ sb s).map Y) → w.grownBy w' v.ownBlock → (v'.ownBlock = v.ownBlock ∨ v'.ownBlock = some w.heap.size) → wpList P ops Q rest (a.put o.dst v') w') : wpList P ops Q (o :: rest) a w := by
  refine wpList_plain hgd fun K hK => ?_
  obtain ⟨v', w', hr, h2, h3, h4⟩ := Lib.run_append_own_string (P := P) w 0 t u o.type e i ht hu hi hz hsize hby v n (ys.map Y) hown s (by unfold maxLen; omega) (by omega) (Nat.zero_le _)
  have hat : v'.ownBlock = v.ownBlock ∨ v'.ownBlock = some w.heap.size := by
    rcases hown.2 with ⟨rfl, rfl⟩ | ⟨g, cap, cur, rfl, hbg, hg, hnc, hcm, hcs, htake⟩
    · by_cases hm : s.size = 0
      · have := h4.2 ⟨rfl, hm⟩
        subst this
        exact .inl rfl
      · have hr' := run_append_nil_string (P := P) w t u o.type e i (.int .u8 0) ht hu hi hz s (by omega) (by omega) (by rw [hby]; omega)
        rw [hr'] at hr
        injection hr with e1 e2
        subst e1
        exact .inr rfl
    · by_cases hroom : n + s.size ≤ cap
      · have hr' := Lib.run_append_room_string (P := P) w t u o.type e i ht hu hi hsize g n cap cur hg s hroom (by simp at hcs; omega)
        rw [hr'] at hr
        injection hr with e1 e2
        subst e1
        exact .inl rfl
      · have holds : ∀ j u, (ys.map Y)[j]? = some u → w.cell? ((⟨g, 0, none⟩ : Addr).add j) = some u := hown.cells (g := g) rfl
        have hr' := Lib.run_append_grow_string (P := P) w t u o.type e i (.int .u8 0) ht hu hi hz ⟨g, 0, none⟩ n cap (ys.map Y) (by rw [hsize]; have := hown.1; omega) holds s (by omega) (by omega) (by rw [hby]; exact growslice_fits (by omega) (by omega))
        rw [hr'] at hr
        injection hr with e1 e2
        subst e1
        exact .inr rfl
  unfold Oper.wp execOp
  simp only [ho, resolve, invoke, builtin, Sem.run_bind, Sem.run_pure, Result.andThen_ok, List.map_toArray, List.map_cons, List.map_nil, hs, hx, hr]
  refine hK _ _ (h v' w' ?_ h3 hat)
  rw [List.map_append]
  have e1 : (sb s).map Y = Lib.strCells s := by
    simp only [sb, Lib.strCells, List.map_map]
    rfl
  rw [e1]
  exact h2

end Go.Proofs.Ytngkckannclcmaa

namespace Go.Proofs.Ytngkckannclcmaa
open Go.RowKit Go.Maps
set_option linter.unusedSimpArgs false
set_option linter.unusedVariables false
theorem per1 (x : Int) : be1 (x + (255 + 1)) = be1 x := by
  simp only [be1, List.cons.injEq, and_true]
  omega
theorem per2 (x : Int) : be2 (x + (65535 + 1)) = be2 x := by
  simp only [be2, List.cons.injEq, and_true]
  omega
theorem per4 (x : Int) : be4 (x + (4294967295 + 1)) = be4 x := by
  simp only [be4, List.cons.injEq, and_true]
  omega
end Go.Proofs.Ytngkckannclcmaa

namespace Go.Proofs.Ytngkckannclcmaa
open Go.RowKit Go.Maps
set_option linter.unusedSimpArgs false
set_option linter.unusedVariables false

theorem put32A {bs : List Nat} {ws : List Int} {n : Int} (h1 : -2147483648 ≤ n) (h2 : n ≤ 4294967295) : (St.mk bs ws false).put32 n = ⟨bs ++ be4 n, ws, false⟩ := by simp [St.put32, h1, h2, St.app]
theorem put16A {bs : List Nat} {ws : List Int} {n : Int} (h1 : -32768 ≤ n) (h2 : n ≤ 65535) : (St.mk bs ws false).put16 n = ⟨bs ++ be2 n, ws, false⟩ := by simp [St.put16, h1, h2, St.app]
theorem tagA {bs : List Nat} {ws : List Int} {xs : List Nat} (h : gd xs = true) : (St.mk bs ws false).tag xs = ⟨bs ++ xs, ws, false⟩ := by simp [St.tag, h, St.app]
theorem pc_newA (w : World) (G : Nat → Prop) (hG : ∀ k, G k → k < w.heap.size) : Pc (w.alloc (.cells #[.slice none 0 0, .int .i64 0, .map none, .bool false] 45)) w.heap.size G St.zero := by
  refine ⟨fun k hk => by have := hG k hk; simp; omega, fun h => by have := hG _ h; omega, Wf.zero, .slice none 0 0, .map none, heap_alloc_new w _, (fun h => by cases h), fun _ => ⟨⟨World.ownsRow_nil _ 0 _ 1, fun g hg => by cases hg⟩, .inl ⟨rfl, rfl⟩⟩⟩
theorem Pc.moreA {w : World} {B : Nat} {G : Nat → Prop} {s : St} (h : Pc w B G s) (o : Obj) : Pc (w.alloc o) B (fun k => G k ∨ k = w.heap.size) s := by
  refine h.guard_new (by simp) (fun k hk _ => (bl1 o).block k hk) ?_
  rintro k (hk | rfl)
  · exact ⟨by have := h.1 k hk; simp; omega, fun _ => hk⟩
  · exact ⟨by simp, fun hlt => absurd hlt (Nat.lt_irrefl _)⟩

end Go.Proofs.Ytngkckannclcmaa

namespace Go.Proofs.Ytngkckannclcmaa
open Go.RowKit Go.Maps
set_option linter.unusedSimpArgs false
set_option linter.unusedVariables false

set_option maxHeartbeats 1000000 in
set_option maxRecDepth 100000 in
theorem carePts_any (a : Option Addr) (cap : Nat) (l : List Int) (w : World) (h : Ri w a cap l) :
    Calls Try.prog 19 #[.slice a l.length cap] w fun e w' => e = .returned (.bool (ptB l)) ∧ w = w' := by
  have k2 := h.lenB
  by_cases hl : l.length ≤ 2000
  rotate_left
  · have HE : Hid (ptB l = false) := by show _ = _; unfold ptB; rw [decide_eq_false hl, Bool.and_false]
    have g1 : (2000 : Int) < (l.length : Int) := by omega
    clear h hl
    go_enter Try.func19, Try.ntmps19
    go_wp2
    go_ret
    exact ⟨rt_bool HE.out.symm, rfl⟩
  have HH : Hid (Ri w a cap l) := h
  have g0 : ¬ (2000 : Int) < (l.length : Int) := by omega
  clear h
  go_enter Try.func19, Try.ntmps19
  go_wp2
  go_loopw [3, 11] (fun ah i wr => ∃ (k : Nat) (z : Int), k ≤ l.length ∧ i = .int .i64 k ∧ ah = .int .i64 z ∧ z = (if k = 0 then -1 else l.getD (k - 1) 0) ∧ (∀ i, i < k → (if i = 0 then -1 else l.getD (i - 1) 0) < l.getD i 0 ∧ l.getD i 0 ≤ 65535) ∧ w = wr) (fun _ i _ => l.length - (intOf i).toNat)
  case atStart => exact ⟨0, -1, Nat.zero_le _, rfl, rfl, rfl, (fun j hj => by omega), rfl⟩
  case round =>
    obtain ⟨k, z, hk, rfl, rfl, hz, hok, rfl⟩ := hrel
    have HZ : Hid (z = (if k = 0 then -1 else l.getD (k - 1) 0)) := hz
    have HOK : Hid (∀ i, i < k → (if i = 0 then -1 else l.getD (i - 1) 0) < l.getD i 0 ∧ l.getD i 0 ≤ 65535) := hok
    clear hz hok
    by_cases hkn : k < l.length
    rotate_left
    · obtain rfl : k = l.length := by omega
      have HE : Hid (ptB l = true) := by show _ = _; unfold ptB; rw [(ptF_iff l (-1)).2 HOK.out, decide_eq_true hl, Bool.and_true]
      have g1 : ¬ (l.length : Int) < (l.length : Int) := by omega
      clear HOK HZ
      go_wp2
      go_ret
      exact ⟨rt_bool HE.out.symm, rfl⟩
    obtain ⟨b, off, ea, hb, d0⟩ := HH.out.at (Below.refl _ _) k hkn
    obtain ⟨x, hx⟩ : ∃ x, l.getD k 0 = x := ⟨_, rfl⟩
    have HNO : Hid (x ≤ z ∨ 65535 < x → ptB l = false) := fun h => by
      rw [Bool.eq_false_iff]
      intro e
      unfold ptB at e
      rw [Bool.and_eq_true] at e
      have := (ptF_iff l (-1)).1 e.1 k hkn
      rw [← HZ.out, hx] at this
      omega
    have HX : Hid (l.getD k 0 = x) := hx
    rw [hx] at d0
    subst ea
    clear hx
    have i1 : (0 : Int) ≤ (k : Int) := by omega
    have i2 : (k : Int) < (l.length : Int) := by omega
    by_cases h1 : x ≤ z
    · have g1 : decide (x ≤ z) = true := decide_eq_true h1
      have HE : Hid (ptB l = false) := HNO.out (.inl h1)
      clear HOK HZ HNO HX h1
      go_wp2
      go_ret
      exact ⟨rt_bool HE.out.symm, rfl⟩
    have g1 : decide (x ≤ z) = false := decide_eq_false h1
    by_cases h2 : 65535 < x
    · have g2 : decide (65535 < x) = true := decide_eq_true h2
      have HE : Hid (ptB l = false) := HNO.out (.inr h2)
      clear HOK HZ HNO HX h1 h2
      go_wp2
      go_ret
      exact ⟨rt_bool HE.out.symm, rfl⟩
    have g2 : decide (65535 < x) = false := decide_eq_false h2
    have HOK2 : Hid (∀ i, i < k + 1 → (if i = 0 then -1 else l.getD (i - 1) 0) < l.getD i 0 ∧ l.getD i 0 ≤ 65535) := fun i hi => by
      rcases Nat.lt_or_ge i k with h3 | h3
      · exact HOK.out i h3
      · rw [show i = k by omega, HX.out, ← HZ.out]; omega
    have HZ2 : Hid (x = (if k + 1 = 0 then -1 else l.getD (k + 1 - 1) 0)) := by show _ = _; rw [if_neg (by omega), Nat.add_sub_cancel, HX.out]
    clear HOK HZ HNO HX h1 h2
    go_wp2
    go_roundw
    case rel => exact ⟨k + 1, x, by omega, by go_num, rfl, HZ2.out, HOK2.out, trivial⟩
    case measure => simp [intOf]; omega

theorem w16_in {x : Int} (h1 : -32768 ≤ x) (h2 : x ≤ 32767) : IntKind.i16.wrap x = x := by
  simp only [IntKind.wrap, IntKind.bits, IntKind.signed]
  simp
  omega
theorem w16_out {x : Int} (h : x < -32768 ∨ 32767 < x) : IntKind.i16.wrap x ≠ x ∧ -32768 ≤ IntKind.i16.wrap x ∧ IntKind.i16.wrap x ≤ 32767 := by
  simp only [IntKind.wrap, IntKind.bits, IntKind.signed]
  simp
  omega

set_option maxHeartbeats 1000000 in
set_option maxRecDepth 100000 in
theorem careChs_any (a : Option Addr) (cap : Nat) (l : List Int) (w : World) (h : Ri w a cap l) :
    Calls Try.prog 38 #[.slice a l.length cap] w fun e w' => e = .returned (.bool (chB l)) ∧ w = w' := by
  have k2 := h.lenB
  by_cases hl : l.length ≤ 2000
  rotate_left
  · have HE : Hid (chB l = false) := by show _ = _; unfold chB; rw [decide_eq_false hl, Bool.and_false]
    have g1 : (2000 : Int) < (l.length : Int) := by omega
    clear h hl
    go_enter Try.func38, Try.ntmps38
    go_wp2
    go_ret
    exact ⟨rt_bool HE.out.symm, rfl⟩
  have HH : Hid (Ri w a cap l) := h
  have g0 : ¬ (2000 : Int) < (l.length : Int) := by omega
  clear h
  go_enter Try.func38, Try.ntmps38
  go_wp2
  go_loopw [10] (fun i wr => ∃ k : Nat, k ≤ l.length ∧ i = .int .i64 k ∧ (∀ i, i < k → -32768 ≤ l.getD i 0 ∧ l.getD i 0 ≤ 32767) ∧ w = wr) (fun i _ => l.length - (intOf i).toNat)
  case atStart => exact ⟨0, Nat.zero_le _, rfl, (fun j hj => by omega), rfl⟩
  case round =>
    obtain ⟨k, hk, rfl, hok, rfl⟩ := hrel
    have HOK : Hid (∀ i, i < k → -32768 ≤ l.getD i 0 ∧ l.getD i 0 ≤ 32767) := hok
    clear hok
    by_cases hkn : k < l.length
    rotate_left
    · obtain rfl : k = l.length := by omega
      have HE : Hid (chB l = true) := by show _ = _; rw [chB_yes HOK.out, decide_eq_true hl]
      have g1 : ¬ (l.length : Int) < (l.length : Int) := by omega
      clear HOK
      go_wp2
      go_ret
      exact ⟨rt_bool HE.out.symm, rfl⟩
    obtain ⟨b, off, ea, hb, d0⟩ := HH.out.at (Below.refl _ _) k hkn
    have hxi := HH.out.i64 hkn
    obtain ⟨x, hx⟩ : ∃ x, l.getD k 0 = x := ⟨_, rfl⟩
    have HX : Hid (l.getD k 0 = x) := hx
    rw [hx] at d0 hxi
    subst ea
    clear hx
    have i1 : (0 : Int) ≤ (k : Int) := by omega
    have i2 : (k : Int) < (l.length : Int) := by omega
    by_cases h1 : -32768 ≤ x ∧ x ≤ 32767
    · have e1 := w16_in h1.1 h1.2
      have HOK2 : Hid (∀ i, i < k + 1 → -32768 ≤ l.getD i 0 ∧ l.getD i 0 ≤ 32767) := fun i hi => by
        rcases Nat.lt_or_ge i k with h3 | h3
        · exact HOK.out i h3
        · rw [show i = k by omega, HX.out]; exact h1
      have n1 := h1.1
      have n2 := h1.2
      clear HOK HX h1
      go_wp2
      go_roundw
      case rel => exact ⟨k + 1, by omega, by go_num, HOK2.out, trivial⟩
      case measure => simp [intOf]; omega
    · obtain ⟨e0, e2, e3⟩ := w16_out (x := x) (by omega)
      have HE : Hid (chB l = false) := chB_no hkn (by rw [HX.out]; omega)
      obtain ⟨y, hy⟩ : ∃ y, IntKind.i16.wrap x = y := ⟨_, rfl⟩
      rw [hy] at e0 e2 e3
      have g1 : (y != x) = true := by simp [e0]
      clear HOK HX h1 e0
      go_wp2
      go_ret
      exact ⟨rt_bool HE.out.symm, rfl⟩

set_option maxHeartbeats 400000 in
set_option maxRecDepth 100000 in
theorem ckdP_any (z : Int) (w : World) : Calls Try.prog 23 #[.int .i64 z] w fun e w' => e = .returned (.int .i64 (128 * ((kdP z : Nat) : Int))) ∧ w = w' := by
  rcases kdP_cases z with ⟨h1, h2⟩ | ⟨h1, h2⟩
  · have HE : Hid (128 * ((kdP z : Nat) : Int) = 128) := by show _ = _; rw [h2]; rfl
    clear h2
    go_enter Try.func23, Try.ntmps23
    go_wp2
    go_ret
    exact ⟨by rw [HE.out]; rfl, rfl⟩
  · have HE : Hid (128 * ((kdP z : Nat) : Int) = 0) := by show _ = _; rw [h2]; rfl
    have g1 : ¬ 255 < z := by omega
    clear h2
    go_enter Try.func23, Try.ntmps23
    go_wp2
    go_ret
    exact ⟨by rw [HE.out]; rfl, rfl⟩
set_option maxHeartbeats 400000 in
set_option maxRecDepth 100000 in
theorem ckdC_any (z : Int) (w : World) : Calls Try.prog 39 #[.int .i64 z] w fun e w' => e = .returned (.int .i64 (64 * ((kdC z : Nat) : Int))) ∧ w = w' := by
  rcases kdC_cases z with ⟨h1, h2⟩ | ⟨h0, h1, h2⟩ | ⟨h0, h1, h2⟩
  · have HE : Hid (64 * ((kdC z : Nat) : Int) = 128) := by show _ = _; rw [h2]; rfl
    have g1 : (z == 0) = true := by simp [h1]
    clear h2 h1
    go_enter Try.func39, Try.ntmps39
    go_wp2
    go_ret
    exact ⟨by rw [HE.out]; rfl, rfl⟩
  · have HE : Hid (64 * ((kdC z : Nat) : Int) = 64) := by show _ = _; rw [h2]; rfl
    have g1 : (z == 0) = false := by simp [h0]
    clear h2
    by_cases h3 : z < -128
    · have g2 : decide (z < -128) = true := decide_eq_true h3
      clear h0 h1
      go_enter Try.func39, Try.ntmps39
      go_wp2
      go_ret
      exact ⟨by rw [HE.out]; rfl, rfl⟩
    · have g2 : decide (z < -128) = false := decide_eq_false h3
      have g3 : decide (127 < z) = true := decide_eq_true (by omega)
      clear h0 h1
      go_enter Try.func39, Try.ntmps39
      go_wp2
      go_ret
      exact ⟨by rw [HE.out]; rfl, rfl⟩
  · have HE : Hid (64 * ((kdC z : Nat) : Int) = 0) := by show _ = _; rw [h2]; rfl
    have g1 : (z == 0) = false := by simp [h0]
    have g2 : decide (z < -128) = false := decide_eq_false (by omega)
    have g3 : decide (127 < z) = false := decide_eq_false (by omega)
    clear h0 h2
    go_enter Try.func39, Try.ntmps39
    go_wp2
    go_ret
    exact ⟨by rw [HE.out]; rfl, rfl⟩

theorem w8_hi {v : Nat} (h : 128 ≤ v) (h2 : v < 256) : IntKind.i8.wrap (v : Int) = (v : Int) - 256 := by
  simp only [IntKind.wrap, IntKind.bits, IntKind.signed]
  simp
  omega
theorem w8_lo {v : Nat} (h : v < 128) : IntKind.i8.wrap (v : Int) = (v : Int) := by
  simp only [IntKind.wrap, IntKind.bits, IntKind.signed]
  simp
  omega
set_option maxHeartbeats 400000 in
set_option maxRecDepth 100000 in
theorem csigned_any (a : Option Addr) (cap : Nat) (xs : List Nat) (p : Int) (w : World) (h : Rb w a cap xs) (hp : I64 p) :
    Calls Try.prog 52 #[.slice a xs.length cap, .int .i64 p] w fun e w' => e = .returned (.tuple #[.int .i64 (sx8 (nmV xs p 1)), .bool (inB xs.length p 1)]) ∧ w = w' := by
  have hlt := nmV_lt h.lim p 1
  have hu := u8_any a cap xs p w h hp
  obtain ⟨v, hv⟩ : ∃ v, nmV xs p 1 = v := ⟨_, rfl⟩
  rw [hv] at hu hlt ⊢
  simp only [Nat.pow_one] at hlt
  clear hv h
  by_cases hbig : 128 ≤ v
  · have HS : Hid (sx8 v = (v : Int) - 256) := if_pos hbig
    have e1 := w8_hi hbig hlt
    obtain ⟨z, hz⟩ : ∃ z : Int, (v : Int) = z := ⟨_, rfl⟩
    have z1 : 128 ≤ z := by omega
    have z2 : z < 256 := by omega
    rw [hz] at hu e1
    have HZ : Hid ((v : Int) = z) := hz
    clear hz hbig hlt
    go_enter Try.func52, Try.ntmps52
    go_wp2_with fail
    refine hu.mono ?_
    rintro e u ⟨rfl, rfl⟩
    go_wp2
    go_ret2
    exact ⟨rt_two (by rw [HS.out, HZ.out]; rfl) rfl, rfl⟩
  · have HS : Hid (sx8 v = (v : Int)) := if_neg hbig
    have e1 := w8_lo (v := v) (by omega)
    obtain ⟨z, hz⟩ : ∃ z : Int, (v : Int) = z := ⟨_, rfl⟩
    have z1 : 0 ≤ z := by omega
    have z2 : z < 128 := by omega
    rw [hz] at hu e1
    have HZ : Hid ((v : Int) = z) := hz
    clear hz hbig hlt
    go_enter Try.func52, Try.ntmps52
    go_wp2_with fail
    refine hu.mono ?_
    rintro e u ⟨rfl, rfl⟩
    go_wp2
    go_ret2
    exact ⟨rt_two (by rw [HS.out, HZ.out]; rfl) rfl, rfl⟩
set_option maxHeartbeats 400000 in
set_option maxRecDepth 100000 in
theorem cnought_any (v : Value) (p : Int) (w : World) :
    Calls Try.prog 54 #[v, .int .i64 p] w fun e w' => e = .returned (.tuple #[.int .i64 0, .bool true]) ∧ w = w' := by
  go_enter Try.func54, Try.ntmps54
  go_wp2
  go_ret2
  exact ⟨rfl, rfl⟩

end Go.Proofs.Ytngkckannclcmaa
