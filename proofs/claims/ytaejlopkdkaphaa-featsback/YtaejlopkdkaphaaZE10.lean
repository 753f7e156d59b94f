/-
  A map that stands for a set of ints; maps.Keys, slices.Sorted of its keys.
  slices.Index, Contains of texts; feats.Chosen: the walks.
  Regions that draw their order, step by step: the kit's own laws with the operation taken out of a written list. Nothing here is a walk.
  The plain mathematics of lists of limbs: values, trimmed lists, comparisons. Nothing here speaks of a program.
-/
import Derived.Test.YtaejlopkdkaphaaZE9
import Derived.Maps.OwnSet
import Derived.Test.YtaejlopkdkaphaaChecked
import Derived.Deep.RegionHeld3
import Derived.WalkKit
namespace Go.Proofs.Ytaejlopkdkaphaa
open Go.RowKit Go.Maps Go.Sort Go.Shelf
set_option linter.unusedSimpArgs false
set_option linter.unusedVariables false

def rawF (v : Value) : Option (DataW Value × List MemPlace) := some (.held v, [])
theorem keyF : Keyed Try.prog 3 := int_keyed Try.underlying3
theorem wfF {z : Int} (h : I64 z) : (Lit.int .i64 z).wf = true := WalkArith.wf_i64 h
theorem keyOfF {z : Int} (h : I64 z) : keyOf Try.prog 3 (.int .i64 z) = some (.int .i64 z) := keyOf_int_mk Try.underlying3 (wfF h)
theorem i64_wf {z : Int} (h : (Lit.int .i64 z).wf = true) : I64 z := by
  simp only [Lit.wf, IntKind.min, IntKind.max, Bool.and_eq_true, decide_eq_true_eq] at h
  have h1 : -2 ^ (IntKind.i64.bits - 1) ≤ z := of_decide_eq_true h.1
  have h2 : z ≤ 2 ^ (IntKind.i64.bits - 1) - 1 := of_decide_eq_true h.2
  have e : (2 : Int) ^ (IntKind.i64.bits - 1) = 9223372036854775808 := by decide
  rw [e] at h1 h2
  unfold I64
  omega
/-- Block b is a map whose keys are those of which P holds. -/
def Mk (w : World) (b n : Nat) (P : Int → Prop) : Prop := ∃ D : DataW Value, w.ownsMap Try.prog 3 rawF b n D ∧ ∀ z, Maps.has D (.int .i64 z) = true ↔ P z
theorem Mk.made (w : World) : Mk (w.alloc (.map #[] 0)) w.heap.size 0 (fun _ => False) := ⟨_, World.ownsMap_made w Try.prog 3 rawF, fun z => by simp [Maps.has]⟩
theorem Mk.lt {w : World} {b n : Nat} {P : Int → Prop} (h : Mk w b n P) : b < w.heap.size := by
  obtain ⟨D, h1, _⟩ := h
  exact h1.lt
theorem Mk.stay {w w' : World} {b n : Nat} {P : Int → Prop} (h : Mk w b n P) (hb : w'.heap[b]? = w.heap[b]?) : Mk w' b n P := by
  obtain ⟨D, ⟨es, clock, k1, k2⟩, h2⟩ := h
  exact ⟨D, ⟨es, clock, hb.trans k1, k2⟩, h2⟩
theorem Mk.below {w w' : World} {b n : Nat} {P : Int → Prop} (h : Mk w b n P) (hb : Below w.heap.size w w') : Mk w' b n P := h.stay (hb.block b h.lt)
theorem Mk.mono {w : World} {b n m : Nat} {P : Int → Prop} (h : Mk w b n P) (hn : n ≤ m) : Mk w b m P := by
  obtain ⟨D, h1, h2⟩ := h
  exact ⟨D, h1.mono hn, h2⟩
theorem Mk.iff {w : World} {b n : Nat} {P Q : Int → Prop} (h : Mk w b n P) (hq : ∀ z, P z ↔ Q z) : Mk w b n Q := by
  obtain ⟨D, h1, h2⟩ := h
  exact ⟨D, h1, fun z => (h2 z).trans (hq z)⟩
/-- 'm[z] = v'. -/
theorem wpList_put_mk {w : World} {ops : Array Oper} {rest : List Oper} {o : Oper} {a : Act} {Q : Exit → Act → World → Prop} (t e : TypeId) (ht : Try.prog.underlying t = some (.map 3 e))
    (hg : o.guard = none) (m x y : Operand) (hop : o.op = Op.mapUpdate t m x y) (b n : Nat) (P : Int → Prop) (z : Int) (v : Value) (hi : I64 z) (h : Mk w b n P) (hn : n ≤ 1000000000000) (hm : a.eval m = .map (some b)) (hx : a.eval x = .int .i64 z) (hy : a.eval y = v)
    (hK : ∀ w', Mk w' b (n + 1) (fun u => u = z ∨ P u) → w.grownBy w' (some b) → wpList Try.prog ops Q rest (a.put o.dst undef) w') : wpList Try.prog ops Q (o :: rest) a w := by
  obtain ⟨D, h1, h2⟩ := h
  have hmap := h1.isMap
  refine wpList_mapUpdate_own w hg m x y t hop 3 e keyF ht rawF b n D hm h1 (by unfold maxLen; omega) _ _ _ hx hy (keyOfF hi) (.held v) [] rfl (fun w' k1 k2 => hK w' ⟨_, k1, fun u => ?_⟩ k2)
  by_cases hu : u = z
  · subst hu
    exact ⟨fun _ => .inl rfl, fun _ => has_put_same hmap (show WideAt.IsKeyLit (.int .i64 u) from trivial) _⟩
  · have hne : (Lit.int .i64 u) ≠ .int .i64 z := fun e' => hu (by injection e')
    rw [has_put_other hne, h2 u]
    exact ⟨.inr, fun h => h.resolve_left hu⟩
theorem keys_memF {w : World} {b n : Nat} {D : DataW Value} (h : w.ownsMap Try.prog 3 rawF b n D) : (intKeys D).Nodup ∧ ∀ x, x ∈ intKeys D ↔ Maps.has D (.int .i64 x) = true := by
  obtain ⟨es, hD, hpw, _⟩ := h.entries keyF
  obtain ⟨es', hD', hko⟩ := h.keysOf
  obtain rfl : es = es' := by rw [hD] at hD'; simpa using hD'
  subst hD
  have hk : ∀ p ∈ es, ∃ x, p.1 = .int .i64 x := fun p hp => by
    obtain ⟨v, hv⟩ := hko p hp
    obtain ⟨x, _, hx, _⟩ := Maps.keyOf_i64 Try.underlying3 hv
    exact ⟨x, hx⟩
  refine ⟨?_, fun x => ?_⟩
  · show (es.map fun p => Go.intOf p.1).Nodup
    refine List.pairwise_map.2 (hpw.imp_of_mem fun {p q} hp' hq' hne e => hne ?_)
    obtain ⟨a, ha⟩ := hk p hp'
    obtain ⟨b, hb⟩ := hk q hq'
    rw [ha, hb] at e ⊢
    exact congrArg _ e
  · rw [has_eq, List.any_eq_true]
    show x ∈ es.map (fun p => Go.intOf p.1) ↔ _
    rw [List.mem_map]
    constructor
    · rintro ⟨p, hp', rfl⟩
      obtain ⟨a, ha⟩ := hk p hp'
      exact ⟨p, hp', by rw [ha]; simp [Lit.sameKey, Go.intOf]⟩
    · rintro ⟨p, hp', hs⟩
      obtain ⟨a, ha⟩ := hk p hp'
      rw [ha] at hs
      exact ⟨p, hp', by rw [ha]; simpa [Lit.sameKey, Go.intOf] using hs⟩
theorem sorts_ri {l : List Int} (h : l.Nodup) : riT (l.mergeSort (fun x y => decide (x ≤ y))) := by
  have tr : ∀ a b c : Int, decide (a ≤ b) = true → decide (b ≤ c) = true → decide (a ≤ c) = true := fun a b c h1 h2 => by
    rw [decide_eq_true_iff] at *
    omega
  have ttl : ∀ a b : Int, (decide (a ≤ b) || decide (b ≤ a)) = true := fun a b => by
    rw [Bool.or_eq_true, decide_eq_true_iff, decide_eq_true_iff]
    omega
  have h1 := List.pairwise_mergeSort tr ttl l
  have h2 : (l.mergeSort (fun x y => decide (x ≤ y))).Nodup := (List.mergeSort_perm l _).nodup_iff.2 h
  exact (h1.and h2).imp (fun {a b} hab => by
    have h3 := of_decide_eq_true hab.1
    have h4 := hab.2
    omega)
theorem flat_encF : ∀ l : List Int, (l.map (fun z => [Value.int .i64 z])).flatten = l.map encZ := by
  intro l
  induction l with
  | nil => rfl
  | cons z l ih => rw [List.map_cons, List.flatten_cons, ih]; rfl
theorem gi_of_encF {base : Nat} {w : World} {v : Value} {l : List Int} (h : w.ownsRow base 3 1 v l.length (l.map encZ)) (hi : ∀ z ∈ l, I64 z) : Gi base w v l := by
  refine ⟨l.map (fun z => [Value.int .i64 z]), by rw [List.length_map], by rw [flat_encF]; exact h, fun i hil => ?_⟩
  have e : (l.map (fun z => [Value.int .i64 z])).getD i [] = [Value.int .i64 (l.getD i 0)] := by simp [List.getD, hil]
  rw [e]
  exact El.int_rep.2 ⟨rfl, hi _ (getF_mem hil)⟩

/-- slices.Sort's two contracts, with no fence. -/
theorem sortsF (m : Nat) : AnyZI.SortsIn Try.prog Try.sortedK_ren Fence.wide m :=
  ⟨fun blk off cap ss W hH hblk hsz => callsIn_wide.2 (AnyM.slices_Sort_int Try.sortK blk off cap ss W hH hblk hsz),
   fun p cap W => callsIn_wide.2 (AnyM.slices_Sort_int_none Try.sortK p cap W)⟩

theorem keysF_any (mb : Option Nat) (w : World) :
    Calls Try.prog 28 #[.map mb] w fun e w' => e = .returned (.func (.func 58) #[] #[.pointer (some ⟨w.heap.size, 0, none⟩)]) ∧ w' = w.alloc (.cells #[.map mb] 55) :=
  (callsIn_wide (n := 5)).1 (AnyZI.keys_in Try.keysK Fence.wide 5 trivial rfl mb w)

/-- What slices.Sorted answers: rising, and all of them. -/
structure SoF (P : Int → Prop) (base : Nat) (w' : World) (e : Ending) : Prop where
  out : ∃ zs, RowF zs base w' e ∧ riT zs ∧ ∀ z, z ∈ zs ↔ P z

theorem sortedF_any (Bm b nn : Nat) (P : Int → Prop) (w : World) (hBm : Bm < w.heap.size) (hm : w.cell? ⟨Bm, 0, none⟩ = some (.map (some b))) (h : Mk w b nn P) (hn : nn ≤ 1000000) :
    Calls Try.prog 27 #[.func (.func 58) #[] #[.pointer (some ⟨Bm, 0, none⟩)]] w fun e w' => SoF P w.heap.size w' e ∧ Below w.heap.size w w' := by
  obtain ⟨D, hown, hP⟩ := h
  have hsz := hown.size_le
  have hseq := AnyZI.keys_gives (ρ := Try.keysK_ren) { Try.keysK with } Fence.wide 2 trivial rfl (by omega) Bm b nn D w hBm hm hown
  have cS := AnyZI.sorted_in Try.sortedK Fence.wide 5 trivial trivial trivial trivial rfl (by omega) (sortsF _) (enters_of Try.func57 (by kernel_rfl) rfl) 58 #[.pointer (some ⟨Bm, 0, none⟩)] trivial (enters_of Try.func58 (by kernel_rfl) rfl) _ _ (by unfold maxLen; omega) (by omega) w hseq
  refine (callsIn_wide.1 cS).mono ?_
  rintro e w' ⟨v, ss, rfl, hS, hrow, hnil, hb⟩
  obtain ⟨k1, k2⟩ := keys_memF hown
  have hnd : ss.Nodup := hS.nodup_iff.2 k1
  have hpm := List.mergeSort_perm ss (fun x y => decide (x ≤ y))
  refine ⟨⟨_, ⟨v, rfl, gi_of_encF (l := ss.mergeSort (fun x y => decide (x ≤ y))) (by rw [hpm.length_eq]; exact hrow) (fun z hz => ?_)⟩, sorts_ri hnd, fun z => ?_⟩, hb⟩
  · exact i64_wf (intKeys_wf hown Try.underlying3 z (hS.mem_iff.1 (hpm.mem_iff.1 hz)))
  · rw [hpm.mem_iff, hS.mem_iff, k2 z, hP z]

end Go.Proofs.Ytaejlopkdkaphaa

namespace Go.Proofs.Ytaejlopkdkaphaa
open Go.RowKit Go.Maps
set_option linter.unusedSimpArgs false
set_option linter.unusedVariables false
def inF (v : Value) : Int := Go.RowKit.intOf v

theorem hasT_no {on : List ByteArray} {t : ByteArray} (h : ∀ j, j < on.length → on.getD j ⟨#[]⟩ ≠ t) : hasT on t = false := by
  cases hf : hasT on t with
  | false => rfl
  | true =>
    obtain ⟨i, hi, e⟩ := List.getElem_of_mem (hasT_iff.1 hf)
    refine absurd ?_ (h i hi)
    rw [List.getD_eq_getElem?_getD, List.getElem?_eq_getElem hi]
    exact e
theorem hasT_at {on : List ByteArray} {t : ByteArray} {k : Nat} (hk : k < on.length) (h : on.getD k ⟨#[]⟩ = t) : hasT on t = true := hasT_iff.2 (h ▸ getF_mem hk)

set_option maxHeartbeats 2000000 in
set_option maxRecDepth 100000 in
theorem indexF_any (S : Nat → Prop) (a : Option Addr) (ca : Nat) (on : List ByteArray) (t : ByteArray) (w : World) (hl : Gr El.str S w a ca on) :
    Calls Try.prog 55 #[.slice a on.length ca, .string t] w fun e w' => ∃ z : Int, e = .returned (.int .i64 z) ∧ ((0 ≤ z) ↔ hasT on t = true) ∧ Below w.heap.size w w' := by
  have kl := hl.lenB
  have HL : Hid (Gr El.str S w a ca on) := hl
  clear hl
  go_enter Try.func55, Try.ntmps55
  go_wp2
  go_loopw [8] (fun i wr => ∃ k : Nat, k ≤ on.length ∧ i = .int .i64 k ∧ Hid (∀ j, j < k → on.getD j ⟨#[]⟩ ≠ t) ∧ Below w.heap.size w wr) (fun i _ => on.length - (inF i).toNat)
  case atStart => exact ⟨0, Nat.zero_le _, rfl, (fun j hj => by omega), Below.refl _ _⟩
  case round =>
    obtain ⟨k, hk, rfl, HNO, hB⟩ := hrel
    by_cases hkn : k < on.length
    · obtain ⟨b, off, rfl, hb, hW, d0⟩ := HL.out.st1 hB k hkn
      have HFA : Hid (on.getD k ⟨#[]⟩ = t → hasT on t = true) := hasT_at hkn
      have HN2 : Hid (on.getD k ⟨#[]⟩ ≠ t → ∀ j, j < k + 1 → on.getD j ⟨#[]⟩ ≠ t) := fun hn j hj => by
        rcases Nat.lt_or_ge j k with h1 | h1
        · exact HNO.out j h1
        · rw [show j = k by omega]; exact hn
      have i1 : (0 : Int) ≤ (k : Int) := by omega
      have i2 : (k : Int) < (on.length : Int) := by omega
      generalize on.getD k ⟨#[]⟩ = x at *
      by_cases htx : x = t
      · subst htx
        have HF : Hid (hasT on x = true) := HFA.out rfl
        clear HNO HN2 HFA
        go_wp2
        go_ret
        exact ⟨_, rfl, ⟨fun _ => HF.out, fun _ => i1⟩, hB⟩
      · have hbq := teq_no (a := t) (b := x) (fun e => htx e.symm)
        have HNN : Hid (∀ j, j < k + 1 → on.getD j ⟨#[]⟩ ≠ t) := HN2.out htx
        clear HNO HN2 HFA htx
        go_wp2
        go_roundw
        case rel => exact ⟨k + 1, by omega, by go_num, HNN, hB⟩
        case measure => simp [inF, Go.RowKit.intOf]; omega
    · have HF : Hid (hasT on t = false) := hasT_no (fun j hj => HNO.out j (by omega))
      have g4 : ¬ (k : Int) < (on.length : Int) := by omega
      clear HNO
      go_wp2
      go_ret
      exact ⟨_, rfl, ⟨fun h => absurd h (by decide), fun h => by rw [HF.out] at h; cases h⟩, hB⟩

set_option maxHeartbeats 2000000 in
set_option maxRecDepth 100000 in
theorem containsF_any (S : Nat → Prop) (a : Option Addr) (ca : Nat) (on : List ByteArray) (t : ByteArray) (w : World) (hl : Gr El.str S w a ca on) :
    Calls Try.prog 26 #[.slice a on.length ca, .string t] w fun e w' => e = .returned (.bool (hasT on t)) ∧ Below w.heap.size w w' := by
  have hi := indexF_any S a ca on t w hl
  clear hl
  go_enter Try.func26, Try.ntmps26
  go_wp2_with fail
  refine hi.mono ?_
  rintro e u ⟨z, rfl, hz, hB⟩
  clear hi
  have HZ : Hid (decide (0 ≤ z) = hasT on t) := by
    show _ = _
    rw [Bool.eq_iff_iff, decide_eq_true_iff]
    exact hz
  clear hz
  go_wp2
  go_ret
  exact ⟨rt_bool HZ.out, hB⟩

theorem mem_takeF {X : List Int} {j : Nat} (hj : j < X.length) {z : Int} : z ∈ X.take (j + 1) ↔ z = X.getD j 0 ∨ z ∈ X.take j := by
  rw [take_snocF (d := (0 : Int)) hj, List.mem_append, List.mem_singleton]
  exact Or.comm

set_option maxHeartbeats 4000000 in
set_option maxRecDepth 100000 in
theorem chosenF_any (S : Nat → Prop) (a : Option Addr) (ca : Nat) (l : List Ft) (b : Option Addr) (cb : Nat) (sw : List Sw) (c : Option Addr) (cc : Nat) (cs : List Int) (d : Option Addr) (cd : Nat) (on : List ByteArray) (w : World) (hl : Gr FtE S w a ca l) (hs : Gr SwE S w b cb sw) (hc : Gr El.int S w c cc cs) (ho : Gr El.str S w d cd on) (hb1 : ∀ f ∈ l, f.lk.length ≤ 1000) (hb2 : ∀ x ∈ sw, x.lk.length ≤ 1000) (hll : l.length ≤ 1000) :
    Calls Try.prog 13 #[.slice a l.length ca, .slice b sw.length cb, .slice c cs.length cc, .slice d on.length cd] w fun e w' => RowF (chFt l sw cs on) w.heap.size w' e ∧ Below w.heap.size w w' := by
  have kl := hl.lenB
  have ks := hs.lenB
  have kc := hc.lenB
  have ko := ho.lenB
  have HL : Hid (Gr FtE S w a ca l) := hl
  have HS : Hid (Gr SwE S w b cb sw) := hs
  have HC : Hid (Gr El.int S w c cc cs) := hc
  have HO : Hid (Gr El.str S w d cd on) := ho
  have HB1 : Hid (∀ f ∈ l, f.lk.length ≤ 1000) := hb1
  have HB2 : Hid (∀ x ∈ sw, x.lk.length ≤ 1000) := hb2
  have HLN : Hid (∀ n, (lkQ l sw n cs).length ≤ 1000) := fun n => lkQ_all (p := fun x => x.length ≤ 1000) (by simp) hb1 hb2
  clear hl hs hc ho hb1 hb2
  have hmm := @run_makeMap Try.prog
  have M := Mk.made w
  have hbW := bl1 (w := w) (.map #[] 0)
  obtain ⟨W, hW⟩ : ∃ W, W = w.alloc (.map #[] 0) := ⟨_, rfl⟩
  rw [← hW] at M hbW
  obtain ⟨g, hg⟩ : ∃ g, w.heap.size = g := ⟨_, rfl⟩
  have HG : Hid (w.heap.size = g) := hg
  rw [hg] at M
  go_enter Try.func13, Try.ntmps13
  go_upto_region 2 with fail
  rw [← hW]
  try rw [hg]
  clear hW hg hmm
  go_wp2
  go_loopw [17] (fun i wr => ∃ (k N : Nat), k ≤ l.length ∧ i = .int .i64 k ∧ N ≤ 1000 * k ∧ Mk wr g N (fun z => z ∈ chT l sw cs on k) ∧ Below w.heap.size w wr) (fun i _ => l.length - (inF i).toNat)
  case atStart => exact ⟨0, 0, Nat.zero_le _, rfl, Nat.zero_le _, M.iff (fun z => ⟨fun h => h.elim, fun h => by cases h⟩), hbW⟩
  case round =>
    clear M hbW
    obtain ⟨k, N, hk, rfl, hN, hM, hB⟩ := hrel
    by_cases hkn : k < l.length
    · obtain ⟨b1, off, a1, c1, rfl, hb, hsz, d0, d1, hr⟩ := HL.out.ft hB k hkn
      have HT : Hid (chT l sw cs on (k + 1) = if hasT on (l.getD k Ft.none).tg then adT (chT l sw cs on k) (lkQ l sw (k : Int) cs) else chT l sw cs on k) := rfl
      have i1 : (0 : Int) ≤ (k : Int) := by omega
      have i2 : (k : Int) < (l.length : Int) := by omega
      generalize l.getD k Ft.none = x at *
      obtain ⟨tg, lk⟩ := x
      dsimp only at *
      obtain ⟨U, hU, XG, hbU⟩ : ∃ U, U = wr.alloc (.cells #[.string tg, .slice a1 lk.length c1] 49) ∧ Bk 49 U wr.heap.size [.string tg, .slice a1 lk.length c1] ∧ Below wr.heap.size wr U := ⟨_, rfl, Bk.new _ _ _, bl1 _⟩
      replace hB := hB.trans (hbU.mono hB.size)
      replace hM := hM.below hbU
      obtain ⟨y0, y1, -⟩ := XG.two
      have hco := containsF_any S d cd on tg U (HO.out.below hB)
      go_upto_region 5 with fail
      rw [← hU]
      clear hU d0 d1 hbU hr XG
      cases hh : hasT on tg with
      | false =>
        rw [hh] at hco HT
        rw [if_neg (by decide)] at HT
        go_wp2_with fail
        refine hco.mono ?_
        rintro e u ⟨rfl, hb2⟩
        replace hB := hB.trans (hb2.mono hB.size)
        replace hM := hM.below hb2
        clear hco hb2 y0 y1 hh
        go_wp2
        go_roundw
        case rel => exact ⟨k + 1, N, by omega, by go_num, by omega, hM.iff (fun z => by rw [HT.out]), hB⟩
        case measure => simp [inF, Go.RowKit.intOf]; omega
      | true =>
        rw [hh] at hco HT
        rw [if_pos rfl] at HT
        go_wp2_with fail
        refine hco.mono ?_
        rintro e u ⟨rfl, hb2⟩
        replace hB := hB.trans (hb2.mono hB.size)
        replace hM := hM.below hb2
        clear hco hb2 y0 y1 hh
        have hlo := looksF_any S (some ⟨b1, off, none⟩) ca l b cb sw (k : Int) c cc cs u (HL.out.below hB) (HS.out.below hB) (HC.out.below hB) ⟨by omega, by omega⟩ HB1.out HB2.out
        go_wp2_with fail
        refine hlo.mono ?_
        rintro e u2 ⟨hrow, hb3⟩
        obtain ⟨v, rfl, hG⟩ := hrow.out
        have hgu : g < u.heap.size := hM.lt
        replace hB := hB.trans (hb3.mono hB.size)
        replace hM := hM.below hb3
        have HXL : Hid (_) := HLN.out (k : Int)
        have hxl := HLN.out (k : Int)
        obtain ⟨X, hX⟩ : ∃ X, lkQ l sw (k : Int) cs = X := ⟨_, rfl⟩
        rw [hX] at hG hxl HT
        obtain ⟨a2, c2, rfl, -, -⟩ := hG.slice
        have HG2 : Hid (Gi u.heap.size u2 (.slice a2 X.length c2) X) := hG
        obtain ⟨bs, hbs⟩ : ∃ n, u.heap.size = n := ⟨_, rfl⟩
        rw [hbs] at HG2 hgu
        have hM0 : Mk u2 g (N + 0) (fun z => z ∈ X.take 0 ∨ z ∈ chT l sw cs on k) := hM.iff (fun z => by simp)
        have HB0 : Hid (Below w.heap.size w u2) := hB
        clear hlo hb3 hG hrow hX hbs hM hB HXL
        go_wp2
        go_loopw [33] (fun i wr => ∃ j : Nat, j ≤ X.length ∧ i = .int .i64 j ∧ Hid (Gi bs wr (.slice a2 X.length c2) X) ∧ Mk wr g (N + j) (fun z => z ∈ X.take j ∨ z ∈ chT l sw cs on k) ∧ Below w.heap.size w wr) (fun i _ => X.length - (inF i).toNat)
        case atStart => exact ⟨0, Nat.zero_le _, rfl, HG2.out, hM0, HB0.out⟩
        case round =>
          clear HG2 hM0 HB0
          obtain ⟨j, hj, rfl, HG2, hM, hB⟩ := hrel
          by_cases hjn : j < X.length
          · obtain ⟨a3, c3, e3, hgr, -⟩ := Gw.slice HG2.out
            injection e3 with e4 e5 e6
            subst e4 e6
            obtain ⟨b4, o4, rfl, hb4, hI, d0⟩ := hgr.in1 (Below.refl _ _) j hjn
            have HST : Hid (∀ z, (z = X.getD j 0 ∨ (z ∈ X.take j ∨ z ∈ chT l sw cs on k)) ↔ (z ∈ X.take (j + 1) ∨ z ∈ chT l sw cs on k)) := fun z => by rw [mem_takeF hjn, or_assoc]
            obtain ⟨z, hz⟩ : ∃ z, X.getD j 0 = z := ⟨_, rfl⟩
            rw [hz] at d0 hI HST
            have i3 : (0 : Int) ≤ (j : Int) := by omega
            have i4 : (j : Int) < (X.length : Int) := by omega
            have hnn : N + j ≤ 1000000000000 := by omega
            have hsw : w.heap.size ≤ wr.heap.size := hB.size
            clear hz hgr
            go_wp2_with (refine wpList_put_mk 55 57 Try.underlying55 rfl _ _ _ rfl g (N + j) _ z _ hI hM hnn rfl rfl rfl ?_)
            intro w5 hM5 hgrow
            have hB5 := hB.grown hgrow hsw (fun q hq => by cases hq; have := HG.out; omega)
            have HG5 : Hid (Gi bs w5 (.slice (some ⟨b4, o4, none⟩) X.length c2) X) := HG2.out.grown hgrow (fun q hq e => by
              cases e
              have := (HG2.out.lo hq).1
              omega)
            have hM6 : Mk w5 g (N + (j + 1)) (fun z => z ∈ X.take (j + 1) ∨ z ∈ chT l sw cs on k) := hM5.iff HST.out
            clear hM5 hgrow HST hM hB HG2 d0
            go_wp2
            go_roundw
            case rel => exact ⟨j + 1, by omega, by go_num, HG5, hM6, hB5⟩
            case measure => simp [inF, Go.RowKit.intOf]; omega
          · obtain rfl : j = X.length := by omega
            have g4 : ¬ (X.length : Int) < (X.length : Int) := by omega
            have hM2 : Mk wr g (N + X.length) (fun z => z ∈ chT l sw cs on (k + 1)) := hM.iff (fun z => by rw [HT.out, adT_mem, List.take_length])
            clear HG2 hM
            go_wp2
            go_roundw
            case rel => exact ⟨k + 1, N + X.length, by omega, by go_num, by omega, hM2, hB⟩
            case measure => simp [inF, Go.RowKit.intOf]; omega
    · have hkl : k = l.length := by omega
      subst hkl
      have g4 : ¬ (l.length : Int) < (l.length : Int) := by omega
      obtain ⟨U, hU, XG, hbU⟩ : ∃ U, U = wr.alloc (.cells #[.map (some g)] 55) ∧ Bk 55 U wr.heap.size [.map (some g)] ∧ Below wr.heap.size wr U := ⟨_, rfl, Bk.new _ _ _, bl1 _⟩
      have hke := keysF_any (some g) wr
      rw [← hU] at hke
      replace hB := hB.trans (hbU.mono hB.size)
      replace hM := hM.below hbU
      have hso := sortedF_any wr.heap.size g N _ U XG.lt (XG.cell 0 (by simp)) hM (by omega)
      clear hbU XG hU
      go_wp2_with fail
      refine hke.mono ?_
      rintro e u ⟨rfl, rfl⟩
      clear hke
      go_wp2_with fail
      refine hso.mono ?_
      rintro e u2 ⟨hrow, hb3⟩
      obtain ⟨zs, hz1, hz2, hz3⟩ := hrow.out
      obtain ⟨v, rfl, hG⟩ := hz1.out
      have hzs : zs = chFt l sw cs on := riT_uniq hz2 (chFt_ri ..) hz3
      have HV : Hid (RowF (chFt l sw cs on) w.heap.size u2 (.returned v)) := ⟨v, rfl, by rw [← hzs]; exact hG.lowF hB.size⟩
      replace hB := hB.trans (hb3.mono hB.size)
      clear hso hrow hz1 hz2 hz3 hG hb3 hzs
      go_wp2
      go_ret
      exact ⟨HV.out, hB⟩

end Go.Proofs.Ytaejlopkdkaphaa

namespace Go.Proofs.Ytaejlopkdkaphaa
open Go.RowKit

/-- The operation at a place of a list. -/
def nth : List Oper → Nat → Option Oper
  | [], _ => none
  | o :: _, 0 => some o
  | _ :: l, n + 1 => nth l n
theorem nth_eq : ∀ (l : List Oper) (i : Nat), nth l i = l.toArray[i]? := by
  intro l
  induction l with
  | nil => intro i; simp [nth]
  | cons o l ih =>
    intro i
    cases i with
    | zero => simp [nth]
    | succ i => simp [nth, ih i]

theorem hTake {P : Program} {md : Region.Mode} {l : List Oper} {Q : Exit → Act → World → Prop} {S : World → Prop} {i : Nat} {o : Oper} {v : Value} {fuel : Nat} {listed : Array Bool} {a : Act} {w : World} (hi : nth l i = some o)
    (hs : Region.noSelect l.toArray = true) (hf : Region.free md l.toArray listed i = true) (hr : (Region.ready md l.toArray listed).contains i = true)
    (hQ : ∀ c a w, Q (.panic c) (a.put o.dst v) w → Q (.panic c) a w) (hy : YieldsIf P l.toArray S o v a) (hS : S w)
    (h : wpAnyH P md l.toArray Q S fuel (listed.setIfInBounds i true) (a.put o.dst v) w) : wpAnyH P md l.toArray Q S (fuel + 1) listed a w :=
  wpAnyH_take ((nth_eq l i).symm.trans hi) hs hf hr hQ hy hS h

theorem hCall {P : Program} {md : Region.Mode} {l : List Oper} {Q : Exit → Act → World → Prop} {S : World → Prop} {i : Nat} {o : Oper} {fuel : Nat} {listed : Array Bool} {a : Act} {w : World} (hi : nth l i = some o)
    (hr : Region.ready md l.toArray listed = [i]) (hw : Region.wanted o (yielded l.toArray a.tmps) = true)
    (h : ∀ K : Act → World → Prop, Shut (∀ a w, S w → (S w → wpAnyH P md l.toArray Q S fuel (listed.setIfInBounds i true) a w) → K a w) → Oper.wp P o a w K Q) :
    wpAnyH P md l.toArray Q S (fuel + 1) listed a w :=
  wpAnyH_ready hr (by simp) (AllReadyH.cons ((nth_eq l i).symm.trans hi) (fun K hK => by rw [if_pos hw]; exact h K hK) AllReadyH.nil)

theorem hCons {P : Program} {md : Region.Mode} {l : List Oper} {Q : Exit → Act → World → Prop} {S : World → Prop} {i : Nat} {o : Oper} {fuel : Nat} {listed : Array Bool} {a : Act} {w : World} {rs : List Nat} (hi : nth l i = some o)
    (hw : Region.wanted o (yielded l.toArray a.tmps) = true)
    (h : ∀ K : Act → World → Prop, Shut (∀ a w, S w → (S w → wpAnyH P md l.toArray Q S fuel (listed.setIfInBounds i true) a w) → K a w) → Oper.wp P o a w K Q)
    (hs : AllReadyH P md l.toArray Q S fuel listed a w rs) : AllReadyH P md l.toArray Q S fuel listed a w (i :: rs) :=
  AllReadyH.cons ((nth_eq l i).symm.trans hi) (fun K hK => by rw [if_pos hw]; exact h K hK) hs

/-- An operation that is carried out and only reads. -/
theorem hT {P : Program} {md : Region.Mode} {l : List Oper} {Q : Exit → Act → World → Prop} {S : World → Prop} (i : Nat) {o : Oper} {v : Value} {fuel : Nat} {listed : Array Bool} {a a2 : Act} {w : World} (hS : S w)
    (h : wpAnyH P md l.toArray Q S fuel (listed.setIfInBounds i true) a2 w)
    (hi : nth l i = some o := by rfl) (hs : Region.noSelect l.toArray = true := by kernel_rfl) (hf : Region.free md l.toArray listed i = true := by kernel_rfl) (hr : (Region.ready md l.toArray listed).contains i = true := by kernel_rfl)
    (hQ : ∀ c a w, Q (.panic c) (a.put o.dst v) w → Q (.panic c) a w := by exact fun _ _ _ h => h) (hw : Region.wanted o (yielded l.toArray a.tmps) = true := by rfl)
    (hy : ∀ w9, S w9 → (execOp a.eval o).run P w9 = .ok (.value v) w9 := by intro w9 hSw; (try dsimp only at hSw); go_simp; try with_reducible rfl)
    (ha : a.put o.dst v = a2 := by (try simp only [Act.put, List.setIfInBounds_toArray, List.set_cons_zero, List.set_cons_succ]); try rfl) : wpAnyH P md l.toArray Q S (fuel + 1) listed a w := by
  subst ha
  exact wpAnyH_take ((nth_eq l i).symm.trans hi) hs hf hr hQ (Or.inl ⟨hw, hy⟩) hS h

/-- An operation that is not wanted. -/
theorem hN {P : Program} {md : Region.Mode} {l : List Oper} {Q : Exit → Act → World → Prop} {S : World → Prop} (i : Nat) {o : Oper} {fuel : Nat} {listed : Array Bool} {a a2 : Act} {w : World} (hS : S w)
    (h : wpAnyH P md l.toArray Q S fuel (listed.setIfInBounds i true) a2 w)
    (hi : nth l i = some o := by rfl) (hs : Region.noSelect l.toArray = true := by kernel_rfl) (hf : Region.free md l.toArray listed i = true := by kernel_rfl) (hr : (Region.ready md l.toArray listed).contains i = true := by kernel_rfl)
    (hQ : ∀ c a w, Q (.panic c) (a.put o.dst undef) w → Q (.panic c) a w := by exact fun _ _ _ h => h) (hw : Region.wanted o (yielded l.toArray a.tmps) = false := by rfl)
    (ha : a.put o.dst undef = a2 := by (try simp only [Act.put, List.setIfInBounds_toArray, List.set_cons_zero, List.set_cons_succ]); try rfl) : wpAnyH P md l.toArray Q S (fuel + 1) listed a w := by
  subst ha
  exact wpAnyH_take ((nth_eq l i).symm.trans hi) hs hf hr hQ (Or.inr ⟨hw, rfl⟩) hS h

end Go.Proofs.Ytaejlopkdkaphaa

namespace Go.Proofs.Ytaejlopkdkaphaa

/-- The value of a list of limbs, the least significant first. -/
def V : List Nat → Nat
  | [] => 0
  | x :: xs => x + 4294967296 * V xs

/-- Every limb has 32 bits. -/
def Lim (xs : List Nat) : Prop := ∀ x ∈ xs, x < 4294967296

/-- The list without the zeros at its end. -/
def strip : List Nat → List Nat
  | [] => []
  | x :: xs => if strip xs = [] then (if x = 0 then [] else [x]) else x :: strip xs

/-- No zero stands at the list's end. -/
def Tr (xs : List Nat) : Prop := strip xs = xs

theorem V_append (xs ys : List Nat) : V (xs ++ ys) = V xs + 4294967296 ^ xs.length * V ys := by
  induction xs with
  | nil => simp [V]
  | cons x xs ih => simp only [List.cons_append, V, ih, List.length_cons, Nat.pow_succ, Nat.mul_add]; rw [Nat.mul_comm (4294967296 ^ xs.length) 4294967296, Nat.mul_assoc]; omega

theorem Lim.cons {x : Nat} {xs : List Nat} (h : Lim (x :: xs)) : x < 4294967296 ∧ Lim xs := ⟨h x (by simp), fun y hy => h y (by simp [hy])⟩
theorem Lim.mk {x : Nat} {xs : List Nat} (hx : x < 4294967296) (h : Lim xs) : Lim (x :: xs) := by
  intro y hy; rcases List.mem_cons.1 hy with rfl | hy
  · exact hx
  · exact h y hy
theorem Lim.nil : Lim [] := by intro x hx; cases hx
theorem Lim.append {xs ys : List Nat} (h : Lim xs) (k : Lim ys) : Lim (xs ++ ys) := by
  intro x hx; rcases List.mem_append.1 hx with hx | hx
  · exact h x hx
  · exact k x hx
theorem Lim.snoc {xs : List Nat} {x : Nat} (h : Lim xs) (hx : x < 4294967296) : Lim (xs ++ [x]) := h.append (Lim.mk hx Lim.nil)

theorem Lim.take {xs : List Nat} (h : Lim xs) (n : Nat) : Lim (xs.take n) := fun x hx => h x (List.mem_of_mem_take hx)
theorem Lim.drop {xs : List Nat} (h : Lim xs) (n : Nat) : Lim (xs.drop n) := fun x hx => h x (List.mem_of_mem_drop hx)
theorem Lim.getD {xs : List Nat} (h : Lim xs) (i : Nat) : xs.getD i 0 < 4294967296 := by
  rw [List.getD_eq_getElem?_getD]
  by_cases hi : i < xs.length
  · rw [List.getElem?_eq_getElem hi]; exact h _ (List.getElem_mem hi)
  · rw [List.getElem?_eq_none (by omega)]; decide
theorem Lim.set {xs : List Nat} (h : Lim xs) (i : Nat) {x : Nat} (hx : x < 4294967296) : Lim (xs.set i x) := by
  intro y hy; rcases List.mem_or_eq_of_mem_set hy with hy | rfl
  · exact h y hy
  · exact hx

theorem V_lt {xs : List Nat} (h : Lim xs) : V xs < 4294967296 ^ xs.length := by
  induction xs with
  | nil => simp [V]
  | cons x xs ih =>
    have := ih h.cons.2; have hx := h.cons.1
    simp only [V, List.length_cons, Nat.pow_succ]; omega

theorem V_nil : V [] = 0 := rfl
theorem V_zeros (n : Nat) : V (List.replicate n 0) = 0 := by
  induction n with
  | zero => rfl
  | succ n ih => rw [List.replicate_succ, V, ih]

theorem getD_take_succ (xs : List Nat) (i : Nat) : xs.take (i + 1) = xs.take i ++ (if i < xs.length then [xs.getD i 0] else []) := by
  by_cases h : i < xs.length
  · rw [if_pos h, List.take_succ_eq_append_getElem h]; simp [List.getD, h]
  · rw [if_neg h, List.take_of_length_le (by omega), List.take_of_length_le (by omega)]; simp

theorem V_take_succ (xs : List Nat) (i : Nat) : V (xs.take (i + 1)) = V (xs.take i) + 4294967296 ^ i * xs.getD i 0 := by
  rw [getD_take_succ, V_append]
  by_cases h : i < xs.length
  · rw [if_pos h, List.length_take, Nat.min_eq_left (by omega)]; simp [V]
  · rw [if_neg h]; simp [V, List.getD, List.getElem?_eq_none (Nat.le_of_not_lt h)]

theorem V_take_drop (xs : List Nat) (i : Nat) : V xs = V (xs.take i) + 4294967296 ^ i * V (xs.drop i) := by
  by_cases h : i ≤ xs.length
  · have := V_append (xs.take i) (xs.drop i)
    rw [List.take_append_drop, List.length_take, Nat.min_eq_left h] at this; exact this
  · rw [List.take_of_length_le (by omega), List.drop_eq_nil_of_le (by omega)]; simp [V]

theorem V_snoc (xs : List Nat) (x : Nat) : V (xs ++ [x]) = V xs + 4294967296 ^ xs.length * x := by rw [V_append]; simp [V]

/-- Two lists that read alike have one value. -/
theorem V_congr : ∀ (a b : List Nat), (∀ j, a.getD j 0 = b.getD j 0) → V a = V b := by
  intro a; induction a with
  | nil =>
    intro b; induction b with
    | nil => intro _; rfl
    | cons y b ih =>
      intro h
      have h0 := h 0; have h1 := ih (fun j => by have := h (j + 1); simpa using this)
      simp at h0; simp only [V] at h1 ⊢; omega
  | cons x a ih =>
    intro b h
    cases b with
    | nil =>
      have h0 := h 0; have h1 := ih [] (fun j => by have := h (j + 1); simpa using this)
      simp at h0; simp only [V] at h1 ⊢; omega
    | cons y b =>
      have h0 := h 0; have h1 := ih b (fun j => by have := h (j + 1); simpa using this)
      simp at h0; rw [V, V, h1, h0]

theorem getD_tail (a : List Nat) (j : Nat) : a.tail.getD j 0 = a.getD (j + 1) 0 := by cases a <;> simp
theorem V_head_tail (a : List Nat) : V a = a.getD 0 0 + 4294967296 * V a.tail := by cases a <;> simp [V]
theorem Lim.tail {a : List Nat} (h : Lim a) : Lim a.tail := by
  cases a with
  | nil => exact h
  | cons x a => exact h.cons.2

/-- Where the limbs above place i are alike and the one there is less, so is the value. -/
theorem V_lt_top : ∀ (i : Nat) (a b : List Nat), Lim a → (∀ j, i < j → a.getD j 0 = b.getD j 0) → a.getD i 0 < b.getD i 0 → V a < V b := by
  intro i; induction i with
  | zero =>
    intro a b _ h h0
    rw [V_head_tail a, V_head_tail b, V_congr a.tail b.tail (fun j => by rw [getD_tail, getD_tail]; exact h (j + 1) (by omega))]; omega
  | succ i ih =>
    intro a b hl h h0
    have := ih a.tail b.tail hl.tail (fun j hj => by rw [getD_tail, getD_tail]; exact h (j + 1) (by omega)) (by rw [getD_tail, getD_tail]; exact h0)
    have hx := hl.getD 0
    rw [V_head_tail a, V_head_tail b]; omega

theorem strip_nil : strip [] = [] := rfl
theorem V_strip (xs : List Nat) : V (strip xs) = V xs := by
  induction xs with
  | nil => rfl
  | cons x xs ih =>
    rw [strip]
    by_cases h : strip xs = []
    · rw [if_pos h]; rw [h] at ih
      by_cases hx : x = 0
      · rw [if_pos hx]; simp only [V] at ih ⊢; omega
      · rw [if_neg hx]; simp only [V] at ih ⊢; omega
    · rw [if_neg h]; simp only [V]; rw [ih]
theorem strip_strip (xs : List Nat) : strip (strip xs) = strip xs := by
  induction xs with
  | nil => rfl
  | cons x xs ih =>
    rw [strip]
    by_cases h : strip xs = []
    · rw [if_pos h]
      by_cases hx : x = 0
      · rw [if_pos hx]; rfl
      · rw [if_neg hx]; simp [strip, hx]
    · rw [if_neg h, strip, ih, if_neg h]
theorem tr_strip (xs : List Nat) : Tr (strip xs) := strip_strip xs
theorem tr_nil : Tr [] := rfl
theorem strip_snoc_zero (xs : List Nat) : strip (xs ++ [0]) = strip xs := by
  induction xs with
  | nil => rfl
  | cons x xs ih => rw [List.cons_append, strip, ih, strip]
theorem strip_snoc (xs : List Nat) (x : Nat) (hx : x ≠ 0) : strip (xs ++ [x]) = xs ++ [x] := by
  induction xs with
  | nil => simp [strip, hx]
  | cons y xs ih => rw [List.cons_append, strip, ih, if_neg (by simp)]
theorem tr_snoc {xs : List Nat} {x : Nat} (hx : x ≠ 0) : Tr (xs ++ [x]) := strip_snoc xs x hx
theorem strip_take (xs : List Nat) : strip xs = xs.take (strip xs).length := by
  induction xs with
  | nil => rfl
  | cons x xs ih =>
    rw [strip]
    by_cases h : strip xs = []
    · rw [if_pos h]
      by_cases hx : x = 0
      · rw [if_pos hx]; simp
      · rw [if_neg hx]; simp
    · rw [if_neg h]; simp only [List.length_cons, List.take_succ_cons]; rw [← ih]
theorem strip_length_le (xs : List Nat) : (strip xs).length ≤ xs.length := by rw [strip_take]; simp; omega
theorem Lim.strip {xs : List Nat} (h : Lim xs) : Lim (strip xs) := by rw [strip_take]; exact h.take _

/-- What is stripped of a head: the zeros behind it do not count. -/
theorem strip_take_zero (xs : List Nat) (n : Nat) (h : n < xs.length) (h0 : xs.getD n 0 = 0) : strip (xs.take (n + 1)) = strip (xs.take n) := by
  rw [getD_take_succ, if_pos h, h0, strip_snoc_zero]
theorem strip_take_some (xs : List Nat) (n : Nat) (h : n < xs.length) (h0 : xs.getD n 0 ≠ 0) : strip (xs.take (n + 1)) = xs.take (n + 1) := by
  rw [getD_take_succ, if_pos h, strip_snoc _ _ h0]

/-- The last limb of a trimmed list isn't 0. -/
theorem Tr.last {xs : List Nat} (h : Tr xs) (hn : xs ≠ []) : xs.getD (xs.length - 1) 0 ≠ 0 := by
  intro h0
  have hl : 0 < xs.length := List.length_pos_iff.2 hn
  have e := strip_take_zero xs (xs.length - 1) (by omega) h0
  rw [show xs.length - 1 + 1 = xs.length by omega, List.take_length] at e
  have e2 : strip xs = xs := h
  have := strip_length_le (xs.take (xs.length - 1))
  rw [← e, e2] at this
  simp at this; omega

theorem V_ge {xs : List Nat} (h : Tr xs) (hn : xs ≠ []) : 4294967296 ^ (xs.length - 1) ≤ V xs := by
  have hl : 0 < xs.length := List.length_pos_iff.2 hn
  have e := V_take_succ xs (xs.length - 1)
  rw [show xs.length - 1 + 1 = xs.length by omega, List.take_length] at e
  have h1 := h.last hn
  rw [e]
  calc 4294967296 ^ (xs.length - 1) = 4294967296 ^ (xs.length - 1) * 1 := by omega
    _ ≤ 4294967296 ^ (xs.length - 1) * xs.getD (xs.length - 1) 0 := Nat.mul_le_mul_left _ (by omega)
    _ ≤ _ := by omega

theorem len_le_of_V {xs : List Nat} (h : Tr xs) {k : Nat} (hv : V xs < 4294967296 ^ k) : xs.length ≤ k := by
  rcases Decidable.em (xs = []) with rfl | hn
  · simp
  · have h1 := V_ge h hn
    rcases Nat.lt_or_ge k xs.length with hk | hk
    · have : 4294967296 ^ k ≤ 4294967296 ^ (xs.length - 1) := Nat.pow_le_pow_right (by decide) (by omega)
      omega
    · exact hk

theorem V_lt_of_length {a b : List Nat} (ha : Lim a) (hb : Tr b) (h : a.length < b.length) : V a < V b := by
  have h1 := V_lt ha
  have h2 := V_ge hb (by intro e; rw [e] at h; simp at h)
  have : 4294967296 ^ a.length ≤ 4294967296 ^ (b.length - 1) := Nat.pow_le_pow_right (by decide) (by omega)
  omega

theorem eq_nil_of_V {xs : List Nat} (h : Tr xs) (hv : V xs = 0) : xs = [] := by
  rcases Decidable.em (xs = []) with rfl | hn
  · rfl
  · have h1 := V_ge h hn
    have : 0 < 4294967296 ^ (xs.length - 1) := Nat.pow_pos (by decide)
    omega

theorem V_eq_lists : ∀ (n : Nat) (a b : List Nat), a.length = n → b.length = n → Lim a → Lim b → V a = V b → a = b := by
  intro n; induction n with
  | zero => intro a b ha hb _ _ _; rw [List.length_eq_zero_iff.1 ha, List.length_eq_zero_iff.1 hb]
  | succ n ih =>
    intro a b ha hb la lb h
    match a, b, ha, hb with
    | x :: a, y :: b, ha, hb =>
      have := la.cons.1; have := lb.cons.1
      simp only [V] at h
      have e1 : x = y := by omega
      have e2 : V a = V b := by omega
      rw [e1, ih a b (by simpa using ha) (by simpa using hb) la.cons.2 lb.cons.2 e2]

/-- A trimmed list is told by its value. -/
theorem uniq {a b : List Nat} (la : Lim a) (lb : Lim b) (ta : Tr a) (tb : Tr b) (h : V a = V b) : a = b := by
  have h1 : ¬ a.length < b.length := fun hl => by have := V_lt_of_length la tb hl; omega
  have h2 : ¬ b.length < a.length := fun hl => by have := V_lt_of_length lb ta hl; omega
  exact V_eq_lists b.length a b (by omega) rfl la lb h

end Go.Proofs.Ytaejlopkdkaphaa
