/-
  slices.Grow, Clone, Concat of rows of ints: the walks.
  classes.Put: the walk.
  foundryref19.Put: the walk.
  An append as an operation of a region that draws.
  Rows of the call's own: a store into an element; append as an operation of a region that draws.
-/
import Derived.Test.YtadgifeakfcljaaZ5
import Derived.Lib.AppendZerosOnto
import Derived.Deep.CutRange
import Derived.Lib.SliceRun
import Derived.Test.YtadgifeakfcljaaZ3
import Derived.Test.YtadgifeakfcljaaZ1
import Derived.Test.YtadgifeakfcljaaZ2
namespace Go.Proofs.Ytadgifeakfcljaa
open Go.RowKit Go.Maps
set_option linter.unusedSimpArgs false
set_option linter.unusedVariables false

theorem Gr.rwI {S : Nat → Prop} {w wr : World} {a : Option Addr} {cap : Nat} {m : List (List Int)} (h : Gr El.int.row S w a cap m) (hb : Below w.heap.size w wr) (k : Nat) (hk : k < m.length) :
    ∃ b off a' cap', a = some ⟨b, off, none⟩ ∧ b < w.heap.size ∧ wr.cell? ⟨b, off + k, none⟩ = some (.slice a' (m.getD k []).length cap') ∧ Gr El.int S wr a' cap' (m.getD k []) ∧ (m.getD k []).length ≤ 140737488351232 := by
  obtain ⟨b, off, vs, e, hl, ⟨a', cap', hv, hS, hr, hlb⟩, hc⟩ := h.at hb k hk
  have := hc 0 Nat.one_pos
  rw [hv, show k * El.int.row.sz = k from Nat.mul_one k] at this
  exact ⟨b, off, a', cap', e, hl, this, hr, hlb⟩
theorem take_snocI {m : List (List Int)} {k : Nat} (hk : k < m.length) : m.take (k + 1) = m.take k ++ [m.getD k []] := by
  rw [List.take_add_one, List.getElem?_eq_getElem hk]
  simp [List.getD, hk]
theorem flat_succI {cs : List (List Int)} {k : Nat} (hk : k < cs.length) : ((cs.take (k + 1)).flatten).length = ((cs.take k).flatten).length + (cs.getD k []).length := by
  rw [take_snocI hk, List.flatten_append, List.length_append, List.flatten_singleton]
theorem flat_leI (cs : List (List Int)) (k : Nat) : ((cs.take k).flatten).length ≤ cs.flatten.length := by
  conv => rhs; rw [← List.take_append_drop k cs, List.flatten_append, List.length_append]
  omega
theorem flat_snocI {cs : List (List Int)} {k : Nat} {c : List Int} (hk : k < cs.length) (hc : cs.getD k [] = c) : (cs.take (k + 1)).flatten = (cs.take k).flatten ++ c := by
  rw [take_snocI hk, List.flatten_append, List.flatten_singleton, hc]
theorem zero_sizeI (z : Array Value) (n : Nat) : (Builtin.zeroCells z n).size = n * z.size := by simp [Builtin.zeroCells]

set_option maxHeartbeats 2000000 in
set_option maxRecDepth 100000 in
theorem cgrowI_any (n : Nat) (w : World) (hn : n ≤ 1000000) :
    Calls Try.prog 27 #[.slice none 0 0, .int .i64 (n : Int)] w fun e w' => ∃ v, e = .returned v ∧ Gi w.heap.size w' v [] ∧ Below w.heap.size w w' := by
  by_cases h0 : n = 0
  · subst h0
    go_enter Try.func27, Try.ntmps27
    go_wp2
    go_ret
    exact ⟨_, rfl, Gi.nil _ _, Below.refl _ _⟩
  have h1 : ¬ ((n : Int) < 0) := by omega
  have h2 : (0 : Int) < (n : Int) := by omega
  obtain ⟨i0, hi, hz0, hz1, hz2⟩ := info_parts infoA_i64
  have hold := run_firstCells_none (P := Try.prog) w.drew i0.size 0 0 0
  have hrz : ∀ ty, (Builtin.append_ #[22, 3] ty #[.slice none 0 0, .int .i64 (n : Int)]).run Try.prog w = _ := fun ty => Lib.run_append_grow_zeros w 22 3 ty 3 i0 _ .i64 .i64 Try.underlying22 Try.underlying3 hi hz0 none 0 0 [] hold n (by omega) (by omega) (by omega) (by omega) (by rw [hz2]; omega) (growslice_fits (by omega) (by rw [hz2]; omega))
  simp only [Nat.zero_add] at hrz
  have hGn : n ≤ grownCap w n 0 3 := grownCap_ge w _ _ _
  obtain ⟨G, hG⟩ : ∃ G, G = grownCap w n 0 3 := ⟨_, rfl⟩
  rw [← hG] at hrz hGn
  have hG63 : G ≤ 9223372036854775807 := by
    have := grownCap_le_maxLen w n 0 3 (by unfold maxLen; omega)
    rw [← hG] at this
    unfold maxLen at this
    omega
  obtain ⟨Z, hZ⟩ : ∃ Z, (([] : List Value).toArray ++ Builtin.zeroCells (Value.int .i64 0).cells n ++ Builtin.zeroCells (Value.int .i64 0).cells (G - n)) = Z := ⟨_, rfl⟩
  have hZs : Z.size = G * 1 := by
    rw [← hZ]
    simp only [Array.size_append, zero_sizeI]
    show 0 + n * 1 + (G - n) * 1 = G * 1
    omega
  rw [hZ] at hrz
  clear hold hG hi hz0 hz1 hz2 h0 hZ
  go_enter Try.func27, Try.ntmps27
  go_wp2_with (at_builtin; refine Lib.wpList_append_run _ rfl _ _ _ _ rfl _ _ rfl rfl _ _ (hrz _) ?_)
  go_ret
  refine ⟨_, rfl, Gw.made ⟨rfl, .inr ⟨w.heap.size, G, Z, rfl, Nat.le_refl _, ?_, Nat.zero_le _, by unfold maxLen; omega, hZs, rfl⟩⟩, ?_⟩
  · exact heap_alloc_new w _
  · exact (bl1 _).drew

/-- A row of the call's own, or none, and what it holds. -/
structure RowI (zs : List Int) (base : Nat) (w' : World) (e : Ending) : Prop where
  out : ∃ v, e = .returned v ∧ Gi base w' v zs

set_option maxHeartbeats 2000000 in
set_option maxRecDepth 100000 in
theorem cconcatI_any (S : Nat → Prop) (a : Option Addr) (ca : Nat) (cs : List (List Int)) (w : World) (h : Gr El.int.row S w a ca cs) (hl : cs.flatten.length ≤ 100000) :
    Calls Try.prog 25 #[.slice a cs.length ca] w fun e w' => RowI cs.flatten w.heap.size w' e ∧ Below w.heap.size w w' := by
  have k2 := h.lenB
  have HH : Hid (Gr El.int.row S w a ca cs) := h
  clear h
  go_enter Try.func25, Try.ntmps25
  go_wp2
  go_loopw [3, 11] (fun n i wr => ∃ k m : Nat, k ≤ cs.length ∧ i = .int .i64 k ∧ n = .int .i64 (m : Int) ∧ m = ((cs.take k).flatten).length ∧ w = wr) (fun _ i _ => cs.length - (intOf i).toNat)
  case atStart => exact ⟨0, 0, Nat.zero_le _, rfl, rfl, rfl, rfl⟩
  case round =>
    obtain ⟨k, m, hk, rfl, rfl, hm, rfl⟩ := hrel
    have HM : Hid (m = ((cs.take k).flatten).length) := hm
    clear hm
    by_cases hkn : k < cs.length
    · obtain ⟨b, off, a1, c1, ea, hb, d0, hrow, hlb⟩ := HH.out.rwI (Below.refl _ _) k hkn
      subst ea
      have hst := flat_succI hkn
      have hle := flat_leI cs (k + 1)
      rw [← HM.out] at hst
      obtain ⟨c, hc⟩ : ∃ c, cs.getD k [] = c := ⟨_, rfl⟩
      rw [hc] at d0 hst hlb
      have HM2 : Hid (m + c.length = ((cs.take (k + 1)).flatten).length) := hst.symm
      have hmc : m + c.length ≤ 100000 := by omega
      have i1 : (0 : Int) ≤ (k : Int) := by omega
      have i2 : (k : Int) < (cs.length : Int) := by omega
      have i3 : ¬ (m : Int) + (c.length : Int) < 0 := by omega
      clear hc hst hle hrow HM hlb
      go_wp2
      go_roundw
      case rel => exact ⟨k + 1, m + c.length, by omega, by go_num, by go_num, HM2.out, trivial⟩
      case measure => simp [intOf]; omega
    · obtain rfl : k = cs.length := by omega
      have hm : m = cs.flatten.length := by rw [HM.out, List.take_length]
      have g4 : ¬ (cs.length : Int) < (cs.length : Int) := by omega
      have hgr := cgrowI_any m w (by omega)
      clear HM hm
      go_wp2_with fail
      refine hgr.mono ?_
      rintro e u1 ⟨v1, rfl, hT0, hb1⟩
      have HT0 : Hid (Gi w.heap.size u1 v1 []) := hT0
      have HB1 : Hid (Below w.heap.size w u1) := hb1
      clear hgr hT0 hb1 hk hkn
      go_wp2
      go_loopw [6, 27] (fun v i wr => ∃ k : Nat, k ≤ cs.length ∧ i = .int .i64 k ∧ Gi w.heap.size wr v ((cs.take k).flatten) ∧ Below w.heap.size w wr) (fun _ i _ => cs.length - (intOf i).toNat)
      case atStart => exact ⟨0, Nat.zero_le _, rfl, HT0.out, HB1.out⟩
      case round =>
        clear HT0 HB1
        obtain ⟨k, hk, rfl, hT, hB⟩ := hrel
        obtain ⟨a2, c2, rfl, hgr, hblk⟩ := hT.slice
        have HT : Hid (Gw El.int 3 w.heap.size (fun _ => False) wr (.slice a2 ((cs.take k).flatten).length c2) ((cs.take k).flatten)) := hT
        clear hT
        by_cases hkn : k < cs.length
        · obtain ⟨b, off, a1, c1, ea, hb, d0, hrow, hlb⟩ := HH.out.rwI hB k hkn
          subst ea
          have hst := flat_succI hkn
          have hle := flat_leI cs (k + 1)
          obtain ⟨c, hc⟩ : ∃ c, cs.getD k [] = c := ⟨_, rfl⟩
          have HS : Hid (_) := flat_snocI hkn hc
          rw [hc] at d0 hst hlb hrow
          have hll : ((cs.take k).flatten).length + c.length ≤ 1000000 := by omega
          have i1 : (0 : Int) ≤ (k : Int) := by omega
          have i2 : (k : Int) < (cs.length : Int) := by omega
          have hbs : w.heap.size ≤ wr.heap.size := hB.size
          clear hc hst hle hlb hgr hblk
          generalize (cs.take k).flatten = L at *
          go_wp2_with (at_builtin; refine wpList_append_el 22 3 Try.underlying22 infoG_i64 rfl (by decide) (by decide) rfl _ _ rfl w.heap.size (fun _ => False) _ L rfl HT.out a1 c1 _ c rfl rfl hrow.anyI hll hbs ?_)
          intro v9 w9 hT9 hgrow _
          have hB9 : Below w.heap.size w w9 := hB.grown hgrow hbs (fun k hk => (HT.out.lo hk).1)
          rw [← HS.out] at hT9
          clear hgrow hbs hll HS
          go_wp2
          go_roundw
          case rel => exact ⟨k + 1, by omega, by go_num, hT9, hB9⟩
          case measure => simp [intOf]; omega
        · obtain rfl : k = cs.length := by omega
          rw [List.take_length] at HT hgr ⊢
          obtain ⟨T, hT⟩ : ∃ T, cs.flatten = T := ⟨_, rfl⟩
          rw [hT] at HT
          have HV : Hid (RowI cs.flatten w.heap.size wr (.returned (.slice a2 T.length c2))) := ⟨_, rfl, by rw [hT]; exact HT.out⟩
          have g4 : ¬ (cs.length : Int) < (cs.length : Int) := by omega
          try rw [hT]
          clear hblk hgr HT hT
          go_wp2
          go_ret
          exact ⟨HV.out, hB⟩

set_option maxHeartbeats 2000000 in
set_option maxRecDepth 100000 in
theorem ccloneI_any (S : Nat → Prop) (a : Option Addr) (ca : Nat) (L : List Int) (w : World) (h : Gr El.int S w a ca L) (hl : L.length ≤ 1000) :
    Calls Try.prog 24 #[.slice a L.length ca] w fun e w' => RowI L w.heap.size w' e ∧ Below w.heap.size w w' := by
  cases a with
  | none =>
    have h0 : L = [] := by
      have h1 := h.1
      rw [h.2.2.1 rfl] at h1
      exact List.length_eq_zero_iff.1 (Nat.le_zero.1 h1)
    subst h0
    clear h
    have q22 : ∀ (w : World) (a : Option Addr) (n c n' c' : Nat), (binOp .eql 22 (.slice a n c) (.slice none n' c')).run Try.prog w = .ok (.bool a.isNone) w := fun w a n c n' c' => Lib.run_eql_slice_nil w _ _ a n c n' c' Try.underlying22
    go_enter Try.func24, Try.ntmps24
    go_wp2
    go_ret
    exact ⟨⟨_, rfl, Gi.nil _ _⟩, Below.refl _ _⟩
  | some ad =>
    have q22 : ∀ (w : World) (a : Option Addr) (n c n' c' : Nat), (binOp .eql 22 (.slice a n c) (.slice none n' c')).run Try.prog w = .ok (.bool a.isNone) w := fun w a n c n' c' => Lib.run_eql_slice_nil w _ _ a n c n' c' Try.underlying22
    have hN0 : Gi w.heap.size (w.alloc (.cells #[] 3)) (.slice (some ⟨w.heap.size, 0, none⟩) 0 0) [] := Gw.made (World.ownsRow_made w #[] 0 (Nat.le_refl _) (Nat.zero_le _) rfl)
    have HL : Hid (Gr El.int (fun k => False ∧ (Value.slice (some ⟨w.heap.size, 0, none⟩) 0 0).ownBlock ≠ some k) (w.alloc (.cells #[] 3)) (some ad) ca L) := (h.below (bl1 _)).anyI
    have kl := h.lenB
    have hll : ([] : List Int).length + L.length ≤ 1000000 := by simp; omega
    have hW := (bl1 (w := w) (.cells #[] 3)).size
    clear h
    go_enter Try.func24, Try.ntmps24
    go_wp2_with (at_builtin; refine wpList_append_el 22 3 Try.underlying22 infoG_i64 rfl (by decide) (by decide) rfl _ _ rfl w.heap.size (fun _ => False) _ [] rfl hN0 _ _ _ L rfl rfl HL.out hll hW ?_)
    intro v1 w1 hT1 hgrow _
    have hB1 : Below w.heap.size w w1 := (bl1 _).grown hgrow hW (fun k hk => by simp [Value.ownBlock] at hk; omega)
    have HV : Hid (RowI L w.heap.size w1 (.returned v1)) := ⟨_, rfl, hT1⟩
    clear hgrow hT1 hll hW hN0
    go_wp2
    go_ret
    exact ⟨HV.out, hB1⟩

end Go.Proofs.Ytadgifeakfcljaa

namespace Go.Proofs.Ytadgifeakfcljaa
open Go.RowKit Go.Maps
set_option linter.unusedSimpArgs false
set_option linter.unusedVariables false

theorem row3_gr {w : World} {g : Nat} {x y z : List Int} {ax ay az : Option Addr} {cx cy cz : Nat} (hg : g < w.heap.size)
    (c0 : w.cell? ⟨g, 0, none⟩ = some (.slice ax x.length cx)) (c1 : w.cell? ⟨g, 1, none⟩ = some (.slice ay y.length cy)) (c2 : w.cell? ⟨g, 2, none⟩ = some (.slice az z.length cz))
    (hx : Gr El.int (fun _ => True) w ax cx x) (hy : Gr El.int (fun _ => True) w ay cy y) (hz : Gr El.int (fun _ => True) w az cz z) (l1 : x.length ≤ 1000) (l2 : y.length ≤ 1000) (l3 : z.length ≤ 1000) :
    Gr El.int.row (fun _ => True) w (some ⟨g, 0, none⟩) 3 [x, y, z] := by
  refine ⟨Nat.le_refl _, by unfold maxLen; omega, (fun e => by cases e), fun i hi => ?_⟩
  have hi3 : i = 0 ∨ i = 1 ∨ i = 2 := by simp at hi; omega
  rcases hi3 with rfl | rfl | rfl
  · exact ⟨g, 0, [.slice ax x.length cx], rfl, hg, ⟨ax, cx, rfl, fun _ _ _ _ => trivial, hx, by show x.length ≤ _; omega⟩, fun j hj => by
      obtain rfl : j = 0 := by simp [El.row] at hj; exact hj
      exact c0⟩
  · exact ⟨g, 0, [.slice ay y.length cy], rfl, hg, ⟨ay, cy, rfl, fun _ _ _ _ => trivial, hy, by show y.length ≤ _; omega⟩, fun j hj => by
      obtain rfl : j = 0 := by simp [El.row] at hj; exact hj
      exact c1⟩
  · exact ⟨g, 0, [.slice az z.length cz], rfl, hg, ⟨az, cz, rfl, fun _ _ _ _ => trivial, hz, by show z.length ≤ _; omega⟩, fun j hj => by
      obtain rfl : j = 0 := by simp [El.row] at hj; exact hj
      exact c2⟩

theorem Gi.base {b b2 : Nat} {w : World} {v : Value} {l : List Int} (h : Gi b w v l) (hb : b2 ≤ b) : Gi b2 w v l := by
  obtain ⟨vss, h1, h2, h3⟩ := h
  exact ⟨vss, h1, ownsRow_monoB h2 hb, h3⟩

set_option maxHeartbeats 4000000 in
set_option maxRecDepth 100000 in
theorem cput_any (S S2 : Nat → Prop) (a : Option Addr) (ca : Nat) (L : List Int) (f t : Int) (b : Option Addr) (cb : Nat) (o : List Int) (w : World)
    (hL : Gr El.int S w a ca L) (ho : Gr El.int S2 w b cb o) (hf : I64 f) (ht : I64 t) (hl1 : L.length ≤ 1000) (hl2 : o.length ≤ 1000) :
    Calls Try.prog 19 #[.slice a L.length ca, .int .i64 f, .int .i64 t, .slice b o.length cb] w fun e w' => PutA L f t o w.heap.size w' e ∧ Below w.heap.size w w' := by
  have kl := hL.lenB
  obtain ⟨f1, f2⟩ := hf
  obtain ⟨t1, t2⟩ := ht
  by_cases hgood : 0 ≤ f ∧ f ≤ t ∧ t ≤ (L.length : Int)
  · obtain ⟨g1, g2, g3⟩ := hgood
    obtain ⟨p, rfl⟩ : ∃ p : Nat, f = (p : Int) := ⟨f.toNat, by omega⟩
    obtain ⟨q, rfl⟩ : ∃ q : Nat, t = (q : Int) := ⟨t.toNat, by omega⟩
    have hpq : p ≤ q := by omega
    have hqL : q ≤ L.length := by omega
    have hcap := hL.1
    have hpc : p ≤ ca := by omega
    have hqc : q ≤ ca := by omega
    have HF : Hid (puL L (p : Int) (q : Int) o = [L.take p, o, L.drop q].flatten) := by show _ = _; rw [puL_yes hpq hqL]; simp
    have d1 : decide ((p : Int) < 0) = false := decide_eq_false (by omega)
    have d2 : decide ((q : Int) < (p : Int)) = false := decide_eq_false (by omega)
    have d2n : decide (q < p) = false := decide_eq_false (by omega)
    have d3 : decide ((L.length : Int) < (q : Int)) = false := decide_eq_false (by omega)
    have d3n : decide (L.length < q) = false := decide_eq_false (by omega)
    have HT : Hid (∀ U, Below w.heap.size w U → Gr El.int (fun _ => True) U a ca (L.take p)) := fun U hU => ((hL.below hU).take p).anyI
    have HQ : Hid (∀ U, Below w.heap.size w U → Gr El.int (fun _ => True) U (if ca = q then a else a.map (fun x => x.add q)) (ca - q) (L.drop q)) := fun U hU => ((hL.below hU).cutI q hqL).anyI
    have HO : Hid (∀ U, Below w.heap.size w U → Gr El.int (fun _ => True) U b cb o) := fun U hU => (ho.below hU).anyI
    have HLP : Hid ((L.take p).length = p) := by show _ = _; rw [List.length_take]; omega
    have HLD : Hid ((L.drop q).length = L.length - q) := by show _ = _; rw [List.length_drop]
    have hlp1 : (L.take p).length ≤ 1000 := by rw [List.length_take]; omega
    have hlq1 : (L.drop q).length ≤ 1000 := by rw [List.length_drop]; omega
    obtain ⟨P, hP⟩ : ∃ P, L.take p = P := ⟨_, rfl⟩
    obtain ⟨D, hD⟩ : ∃ D, L.drop q = D := ⟨_, rfl⟩
    rw [hP] at HT HF HLP hlp1
    rw [hD] at HQ HF HLD hlq1
    clear hL ho hP hD
    by_cases hc : ca = q
    · subst hc
      rw [if_pos rfl, Nat.sub_self] at HQ
      have hq0 : L.length - ca = 0 := by omega
      rw [hq0] at HLD
      go_enter Try.func19, Try.ntmps19
      go_wp2_with fail
      refine wp_region_held_drew (S := fun _ => True) (by kernel_rfl) trivial (fun hHeld => ?_)
      have hdr : Below w.heap.size w w.drew := (Below.refl _ _).drew
      generalize w.drew = Z at hdr hHeld ⊢
      refine hT 0 hHeld ?_
      refine hT 1 hHeld ?_
      refine hT 2 hHeld ?_
      refine hT 3 hHeld ?_
      refine hT 4 hHeld ?_
      refine hT 5 hHeld ?_
      refine hT 6 hHeld ?_
      refine hCall (i := 7) rfl (by kernel_rfl) (by rfl) (fun K hK => ?_)
      go_simp
      obtain ⟨W, hW, X3, hbW⟩ : ∃ W, W = Z.alloc (.cells #[.slice a p ca, .slice b o.length cb, .slice a 0 0] 22) ∧ Bk 22 W Z.heap.size [.slice a p ca, .slice b o.length cb, .slice a 0 0] ∧ Below Z.heap.size Z W := ⟨_, rfl, Bk.new _ _ _, bl1 _⟩
      rw [← hW]
      have hBW := hdr.trans (hbW.mono hdr.size)
      obtain ⟨q0, q1, q2, -⟩ := X3.three
      have hG3 : Gr El.int.row (fun _ => True) W (some ⟨Z.heap.size, 0, none⟩) 3 [P, o, D] := row3_gr X3.lt (by rw [HLP.out]; exact q0) q1 (by rw [HLD.out]; exact q2) (HT.out W hBW) (HO.out W hBW) (HQ.out W hBW) hlp1 hl2 hlq1
      have hcc : Calls Try.prog 25 #[.slice (some ⟨Z.heap.size, 0, none⟩) 3 3] W fun e w' => RowI (puL L (p : Int) (ca : Int) o) W.heap.size w' e ∧ Below W.heap.size W w' := by
        rw [HF.out]
        exact cconcatI_any (fun _ => True) (some ⟨Z.heap.size, 0, none⟩) 3 [P, o, D] W hG3 (by simp; omega)
      clear hW hG3 X3 hbW hdr q0 q1 q2
      refine hK.out _ _ trivial (fun hHeld => ?_)
      clear hK K
      try simp only [Act.put, List.setIfInBounds_toArray, List.set_cons_zero, List.set_cons_succ]
      refine hCall (i := 8) rfl (by kernel_rfl) (by rfl) (fun K hK => ?_)
      go_simp
      refine hcc.mono ?_
      rintro e u ⟨⟨v, rfl, hv⟩, hbu⟩
      have hBu := hBW.trans (hbu.mono hBW.size)
      have HV : Hid (PutA L (p : Int) (ca : Int) o w.heap.size u (.returned v)) := ⟨v, rfl, hv.base hBW.size⟩
      clear hv hbu hcc hBW
      go_wp2_with fail
      refine hK.out _ _ trivial (fun hHeld => ?_)
      clear hK K
      try simp only [Act.put, List.setIfInBounds_toArray, List.set_cons_zero, List.set_cons_succ]
      refine hT 9 hHeld ?_
      refine wpAnyH_done (by kernel_rfl) ?_ _
      go_wp2
      go_ret
      exact ⟨HV.out, hBu⟩
    · rw [if_neg hc] at HQ
      go_enter Try.func19, Try.ntmps19
      go_wp2_with fail
      refine wp_region_held_drew (S := fun _ => True) (by kernel_rfl) trivial (fun hHeld => ?_)
      have hdr : Below w.heap.size w w.drew := (Below.refl _ _).drew
      generalize w.drew = Z at hdr hHeld ⊢
      refine hT 0 hHeld ?_
      refine hT 1 hHeld ?_
      refine hT 2 hHeld ?_
      refine hT 3 hHeld ?_
      refine hT 4 hHeld ?_
      refine hT 5 hHeld ?_
      refine hT 6 hHeld ?_
      refine hCall (i := 7) rfl (by kernel_rfl) (by rfl) (fun K hK => ?_)
      go_simp
      obtain ⟨W, hW, X3, hbW⟩ : ∃ W, W = Z.alloc (.cells #[.slice a p ca, .slice b o.length cb, .slice (Option.map (fun x => x.add q) a) (L.length - q) (ca - q)] 22) ∧ Bk 22 W Z.heap.size [.slice a p ca, .slice b o.length cb, .slice (Option.map (fun x => x.add q) a) (L.length - q) (ca - q)] ∧ Below Z.heap.size Z W := ⟨_, rfl, Bk.new _ _ _, bl1 _⟩
      rw [← hW]
      have hBW := hdr.trans (hbW.mono hdr.size)
      obtain ⟨q0, q1, q2, -⟩ := X3.three
      have hG3 : Gr El.int.row (fun _ => True) W (some ⟨Z.heap.size, 0, none⟩) 3 [P, o, D] := row3_gr X3.lt (by rw [HLP.out]; exact q0) q1 (by rw [HLD.out]; exact q2) (HT.out W hBW) (HO.out W hBW) (HQ.out W hBW) hlp1 hl2 hlq1
      have hcc : Calls Try.prog 25 #[.slice (some ⟨Z.heap.size, 0, none⟩) 3 3] W fun e w' => RowI (puL L (p : Int) (q : Int) o) W.heap.size w' e ∧ Below W.heap.size W w' := by
        rw [HF.out]
        exact cconcatI_any (fun _ => True) (some ⟨Z.heap.size, 0, none⟩) 3 [P, o, D] W hG3 (by simp; omega)
      clear hW hG3 X3 hbW hdr q0 q1 q2
      refine hK.out _ _ trivial (fun hHeld => ?_)
      clear hK K
      try simp only [Act.put, List.setIfInBounds_toArray, List.set_cons_zero, List.set_cons_succ]
      refine hCall (i := 8) rfl (by kernel_rfl) (by rfl) (fun K hK => ?_)
      go_simp
      refine hcc.mono ?_
      rintro e u ⟨⟨v, rfl, hv⟩, hbu⟩
      have hBu := hBW.trans (hbu.mono hBW.size)
      have HV : Hid (PutA L (p : Int) (q : Int) o w.heap.size u (.returned v)) := ⟨v, rfl, hv.base hBW.size⟩
      clear hv hbu hcc hBW
      go_wp2_with fail
      refine hK.out _ _ trivial (fun hHeld => ?_)
      clear hK K
      try simp only [Act.put, List.setIfInBounds_toArray, List.set_cons_zero, List.set_cons_succ]
      refine hT 9 hHeld ?_
      refine wpAnyH_done (by kernel_rfl) ?_ _
      go_wp2
      go_ret
      exact ⟨HV.out, hBu⟩
  · have HF : Hid (puL L f t o = L) := puL_no hgood
    have hcl := fun U (hU : Below w.heap.size w U) => ccloneI_any S a ca L U (hL.below hU) hl1
    have HV : Hid (∀ e U, RowI L w.heap.size U e → PutA L f t o w.heap.size U e) := fun e U h => ⟨by rw [HF.out]; exact h.out⟩
    by_cases b1 : f < 0
    · have d1 : decide (f < 0) = true := decide_eq_true b1
      clear hgood hL ho b1
      go_enter Try.func19, Try.ntmps19
      go_wp2_with fail
      refine (hcl _ (Below.refl _ _)).mono ?_
      rintro e u ⟨⟨v, rfl, hv⟩, hbu⟩
      clear hcl
      go_wp2
      go_ret
      exact ⟨HV.out _ _ ⟨v, rfl, hv⟩, hbu⟩
    have d1 : decide (f < 0) = false := decide_eq_false b1
    by_cases b2 : t < f
    · have d2 : decide (t < f) = true := decide_eq_true b2
      clear hgood hL ho b1 b2
      go_enter Try.func19, Try.ntmps19
      go_wp2_with fail
      refine (hcl _ (Below.refl _ _)).mono ?_
      rintro e u ⟨⟨v, rfl, hv⟩, hbu⟩
      clear hcl
      go_wp2
      go_ret
      exact ⟨HV.out _ _ ⟨v, rfl, hv⟩, hbu⟩
    have d2 : decide (t < f) = false := decide_eq_false b2
    have d3 : decide ((L.length : Int) < t) = true := decide_eq_true (by omega)
    clear hgood hL ho b1 b2
    go_enter Try.func19, Try.ntmps19
    go_wp2_with fail
    refine (hcl _ (Below.refl _ _)).mono ?_
    rintro e u ⟨⟨v, rfl, hv⟩, hbu⟩
    clear hcl
    go_wp2
    go_ret
    exact ⟨HV.out _ _ ⟨v, rfl, hv⟩, hbu⟩

end Go.Proofs.Ytadgifeakfcljaa

namespace Go.Proofs.Ytadgifeakfcljaa
open Go.RowKit Go.Maps
set_option linter.unusedSimpArgs false
set_option linter.unusedVariables false

set_option maxHeartbeats 4000000 in
set_option maxRecDepth 100000 in
theorem sput_any (S S2 : Nat → Prop) (a : Option Addr) (ca : Nat) (L : List Int) (f t : Int) (b : Option Addr) (cb : Nat) (o : List Int) (w : World)
    (hL : Gr El.int S w a ca L) (ho : Gr El.int S2 w b cb o) (hf : I64 f) (ht : I64 t) (hl1 : L.length ≤ 1000) (hl2 : o.length ≤ 1000) :
    Calls Try.prog 20 #[.slice a L.length ca, .int .i64 f, .int .i64 t, .slice b o.length cb] w fun e w' => PutA L f t o w.heap.size w' e ∧ Below w.heap.size w w' := by
  have kl := hL.lenB
  obtain ⟨f1, f2⟩ := hf
  obtain ⟨t1, t2⟩ := ht
  have hN0 : Gi w.heap.size w (.slice none 0 0) [] := Gi.nil _ _
  by_cases hgood : 0 ≤ f ∧ f ≤ t ∧ t ≤ (L.length : Int)
  · obtain ⟨g1, g2, g3⟩ := hgood
    obtain ⟨p, rfl⟩ : ∃ p : Nat, f = (p : Int) := ⟨f.toNat, by omega⟩
    obtain ⟨q, rfl⟩ : ∃ q : Nat, t = (q : Int) := ⟨t.toNat, by omega⟩
    have hpq : p ≤ q := by omega
    have hqL : q ≤ L.length := by omega
    have hcap := hL.1
    have HF : Hid (puL L (p : Int) (q : Int) o = L.take p ++ o ++ L.drop q) := puL_yes hpq hqL
    have d1 : decide ((p : Int) < 0) = false := decide_eq_false (by omega)
    have d2 : decide ((q : Int) < (p : Int)) = false := decide_eq_false (by omega)
    have d2n : decide (q < p) = false := decide_eq_false (by omega)
    have d3 : decide ((L.length : Int) < (q : Int)) = false := decide_eq_false (by omega)
    have d3n : decide (L.length < q) = false := decide_eq_false (by omega)
    have hT := hL.take p
    have hlp : (L.take p).length = p := by rw [List.length_take]; omega
    have HT : Hid (Gr El.int (fun k => False ∧ (Value.slice none 0 0).ownBlock ≠ some k) w a ca (L.take p)) := hT.anyI
    have HL : Hid (Gr El.int S w a ca L) := hL
    have HO : Hid (Gr El.int S2 w b cb o) := ho
    obtain ⟨P, hP⟩ : ∃ P, L.take p = P := ⟨_, rfl⟩
    rw [hP] at HT HF hlp
    have HLP : Hid (P.length = p) := hlp
    have hlp1 : P.length ≤ 1000 := by omega
    clear hL ho hT hP hlp
    go_enter Try.func20, Try.ntmps20
    have hll : ([] : List Int).length + P.length ≤ 1000000 := by simp; omega
    go_wp2_with (at_builtin; refine wpList_append_el 22 3 Try.underlying22 infoG_i64 rfl (by decide) (by decide) rfl _ _ rfl w.heap.size (fun _ => False) _ [] rfl hN0 a ca _ P HLP.out.symm rfl HT.out hll (Nat.le_refl _) ?_)
    intro v1 w1 hT1 hgrow _
    have hB1 : Below w.heap.size w w1 := (Below.refl _ _).grown hgrow (Nat.le_refl _) (fun k hk => by cases hk)
    obtain ⟨a1, c1, e1, -, -⟩ := hT1.slice
    subst e1
    have HT1 : Hid (Gw El.int 3 w.heap.size (fun _ => False) w1 (.slice a1 P.length c1) P) := hT1
    have HO1 : Hid (Gr El.int (fun k => False ∧ (Value.slice a1 P.length c1).ownBlock ≠ some k) w1 b cb o) := (HO.out.below hB1).anyI
    have hll2 : P.length + o.length ≤ 1000000 := by omega
    have hW1 := hB1.size
    clear hgrow hT1 hll hN0
    go_wp2_with (at_builtin; refine wpList_append_el 22 3 Try.underlying22 infoG_i64 rfl (by decide) (by decide) rfl _ _ rfl w.heap.size (fun _ => False) _ P rfl HT1.out b cb _ o rfl rfl HO1.out hll2 hW1 ?_)
    intro v2 w2 hT2 hgrow _
    have hB2 : Below w.heap.size w w2 := hB1.grown hgrow hW1 (fun k hk => (HT1.out.lo hk).1)
    have hlen2 : (P ++ o).length ≤ 2000 := by rw [List.length_append]; omega
    obtain ⟨R, hR⟩ : ∃ R, P ++ o = R := ⟨_, rfl⟩
    rw [hR] at hT2 HF hlen2
    obtain ⟨a2, c2, e2, -, -⟩ := hT2.slice
    subst e2
    have HT2 : Hid (Gw El.int 3 w.heap.size (fun _ => False) w2 (.slice a2 R.length c2) R) := hT2
    have HQ : Hid (Gr El.int (fun k => False ∧ (Value.slice a2 R.length c2).ownBlock ≠ some k) w2 (if ca = q then a else a.map (fun x => x.add q)) (ca - q) (L.drop q)) := ((HL.out.below hB2).cutI q hqL).anyI
    have hlen3 : (L.drop q).length ≤ 1000 := by rw [List.length_drop]; omega
    have HLD : Hid (L.length - q = (L.drop q).length) := by show _ = _; rw [List.length_drop]
    obtain ⟨D, hD⟩ : ∃ D, L.drop q = D := ⟨_, rfl⟩
    rw [hD] at HQ hlen3 HLD HF
    have hll3 : R.length + D.length ≤ 1000000 := by omega
    have hW2 := hB2.size
    clear hgrow hT2 HT1 HO1 hll2 hW1 hB1 hR hD
    by_cases hc : ca = q
    · subst hc
      rw [if_pos rfl, Nat.sub_self] at HQ
      have HLD0 : Hid (0 = D.length) := by have := HLD.out; show _ = _; omega
      go_wp2_with (at_builtin; refine wpList_append_el 22 3 Try.underlying22 infoG_i64 rfl (by decide) (by decide) rfl _ _ rfl w.heap.size (fun _ => False) _ R rfl HT2.out _ _ _ D HLD0.out rfl HQ.out hll3 hW2 ?_)
      intro v3 w3 hT3 hgrow _
      have hB3 : Below w.heap.size w w3 := hB2.grown hgrow hW2 (fun k hk => (HT2.out.lo hk).1)
      have HV : Hid (PutA L (p : Int) (ca : Int) o w.heap.size w3 (.returned v3)) := ⟨_, rfl, by rw [HF.out]; exact hT3⟩
      clear hgrow hT3 hll3 hW2
      go_wp2
      go_ret
      exact ⟨HV.out, hB3⟩
    · rw [if_neg hc] at HQ
      go_wp2_with (at_builtin; refine wpList_append_el 22 3 Try.underlying22 infoG_i64 rfl (by decide) (by decide) rfl _ _ rfl w.heap.size (fun _ => False) _ R rfl HT2.out _ _ _ D HLD.out rfl HQ.out hll3 hW2 ?_)
      intro v3 w3 hT3 hgrow _
      have hB3 : Below w.heap.size w w3 := hB2.grown hgrow hW2 (fun k hk => (HT2.out.lo hk).1)
      have HV : Hid (PutA L (p : Int) (q : Int) o w.heap.size w3 (.returned v3)) := ⟨_, rfl, by rw [HF.out]; exact hT3⟩
      clear hgrow hT3 hll3 hW2
      go_wp2
      go_ret
      exact ⟨HV.out, hB3⟩
  · have HF : Hid (puL L f t o = L) := puL_no hgood
    have HL : Hid (Gr El.int (fun k => False ∧ (Value.slice none 0 0).ownBlock ≠ some k) w a ca L) := hL.anyI
    have hll : ([] : List Int).length + L.length ≤ 1000000 := by simp; omega
    by_cases b1 : f < 0
    · have d1 : decide (f < 0) = true := decide_eq_true b1
      clear hgood hL ho b1
      go_enter Try.func20, Try.ntmps20
      go_wp2_with (at_builtin; refine wpList_append_el 22 3 Try.underlying22 infoG_i64 rfl (by decide) (by decide) rfl _ _ rfl w.heap.size (fun _ => False) _ [] rfl hN0 a ca _ L rfl rfl HL.out hll (Nat.le_refl _) ?_)
      intro v1 w1 hT1 hgrow _
      have hB1 : Below w.heap.size w w1 := (Below.refl _ _).grown hgrow (Nat.le_refl _) (fun k hk => by cases hk)
      have HV : Hid (PutA L f t o w.heap.size w1 (.returned v1)) := ⟨_, rfl, by rw [HF.out]; exact hT1⟩
      clear hgrow hT1 hll hN0
      go_wp2
      go_ret
      exact ⟨HV.out, hB1⟩
    have d1 : decide (f < 0) = false := decide_eq_false b1
    by_cases b2 : t < f
    · have d2 : decide (t < f) = true := decide_eq_true b2
      clear hgood hL ho b1 b2
      go_enter Try.func20, Try.ntmps20
      go_wp2_with (at_builtin; refine wpList_append_el 22 3 Try.underlying22 infoG_i64 rfl (by decide) (by decide) rfl _ _ rfl w.heap.size (fun _ => False) _ [] rfl hN0 a ca _ L rfl rfl HL.out hll (Nat.le_refl _) ?_)
      intro v1 w1 hT1 hgrow _
      have hB1 : Below w.heap.size w w1 := (Below.refl _ _).grown hgrow (Nat.le_refl _) (fun k hk => by cases hk)
      have HV : Hid (PutA L f t o w.heap.size w1 (.returned v1)) := ⟨_, rfl, by rw [HF.out]; exact hT1⟩
      clear hgrow hT1 hll hN0
      go_wp2
      go_ret
      exact ⟨HV.out, hB1⟩
    have d2 : decide (t < f) = false := decide_eq_false b2
    have d3 : decide ((L.length : Int) < t) = true := decide_eq_true (by omega)
    clear hgood hL ho b1 b2
    go_enter Try.func20, Try.ntmps20
    go_wp2_with (at_builtin; refine wpList_append_el 22 3 Try.underlying22 infoG_i64 rfl (by decide) (by decide) rfl _ _ rfl w.heap.size (fun _ => False) _ [] rfl hN0 a ca _ L rfl rfl HL.out hll (Nat.le_refl _) ?_)
    intro v1 w1 hT1 hgrow _
    have hB1 : Below w.heap.size w w1 := (Below.refl _ _).grown hgrow (Nat.le_refl _) (fun k hk => by cases hk)
    have HV : Hid (PutA L f t o w.heap.size w1 (.returned v1)) := ⟨_, rfl, by rw [HF.out]; exact hT1⟩
    clear hgrow hT1 hll hN0
    go_wp2
    go_ret
    exact ⟨HV.out, hB1⟩

end Go.Proofs.Ytadgifeakfcljaa

namespace Go.Proofs.Ytadgifeakfcljaa
open Go.RowKit Go.Maps
set_option linter.unusedSimpArgs false
set_option linter.unusedVariables false

theorem wp_append_own_at {P : Program} (w : World) {o : Oper} {a : Act} {K : Act → World → Prop} {Q : Exit → Act → World → Prop} (s x : Operand) (t : TypeId)
    (ho : o.op = .call { callee := .builtin .append, args := #[s, x], argTypes := #[t, t] })
    (base : Nat) (e : TypeId) (i : TypeInfo) (z : Value) (size bytes : Nat) (ht : P.underlying t = some (.slice e)) (hi : P.info? e = some i) (hz : i.zero = some z)
    (hsize : i.size = size) (hby : i.bytes = bytes) (hzs : z.cells.size = size) (hsz : 0 < size)
    (v : Value) (n : Nat) (xs : List Value) (hs : a.eval s = v) (hown : w.ownsRow base e size v n xs)
    (ad : Addr) (m c : Nat) (news : List Value) (hx : a.eval x = .slice (some ad) m c) (hl : news.length = m * size) (hnews : ∀ j u, news[j]? = some u → w.cell? (ad.add j) = some u) (h1 : ∀ u ∈ news, u.oneCell' = true)
    (h63 : n + m ≤ maxLen) (hbytes : (n + m) * bytes ≤ 140737488355328) (hbase : base ≤ w.heap.size)
    (h : ∀ v' w', w'.ownsRow base e size v' (n + m) (xs ++ news) → w.grownBy w' v.ownBlock → (v' = .slice none 0 0 ↔ v = .slice none 0 0 ∧ m = 0) → (v'.ownBlock = v.ownBlock ∨ v'.ownBlock = some w.heap.size) → K (a.put o.dst v') w') :
    o.wp P a w K Q := by
  obtain ⟨v', w', hr, h2, h3, h4, h5⟩ := run_append_own_at (P := P) w base t o.type e i z size bytes ht hi hz hsize hby hzs hsz v n xs hown ad m c news hl hnews h1 h63 hbytes hbase
  unfold Oper.wp execOp
  simp only [ho, resolve, invoke, builtin, Sem.run_bind, Sem.run_pure, Result.andThen_ok, List.map_toArray, List.map_cons, List.map_nil, hs, hx, hr]
  exact h v' w' h2 h3 h4 h5

end Go.Proofs.Ytadgifeakfcljaa

namespace Go.Proofs.Ytadgifeakfcljaa
open Go.RowKit Go.Maps
set_option linter.unusedSimpArgs false
set_option linter.unusedVariables false

theorem flat_set {sz : Nat} : ∀ {vss : List (List Value)} {i j : Nat} (x : Value), (∀ i, i < vss.length → (vss.getD i []).length = sz) → i < vss.length → j < sz → (vss.set i ((vss.getD i []).set j x)).flatten = vss.flatten.set (i * sz + j) x := by
  intro vss
  induction vss with
  | nil => intro i j x _ hi _; simp at hi
  | cons vs t ih =>
    intro i j x h hi hj
    have h0 : vs.length = sz := h 0 (by simp)
    cases i with
    | zero =>
      rw [List.set_cons_zero, List.getD_cons_zero, List.flatten_cons, List.flatten_cons, Nat.zero_mul, Nat.zero_add, List.set_append_left _ _ (by omega)]
    | succ i =>
      have h1 := ih (i := i) (j := j) x (fun i hi => h (i + 1) (by simpa using hi)) (by simpa using hi) hj
      rw [List.set_cons_succ, List.getD_cons_succ, List.flatten_cons, List.flatten_cons, h1, List.set_append_right _ _ (by rw [h0, Nat.add_mul]; omega), h0, show (i + 1) * sz + j - sz = i * sz + j by rw [Nat.add_mul]; omega]
/-- A row of the call's own that isn't empty: its block, its cells, and a store into one. -/
theorem Gw.own {α : Type} {E : El α} {t : TypeId} {base : Nat} {S : Nat → Prop} {w : World} {v : Value} {l : List α} (h : Gw E t base S w v l) (hne : l ≠ []) :
    ∃ g cap, v = .slice (some ⟨g, 0, none⟩) l.length cap ∧ base ≤ g ∧ g < w.heap.size ∧ l.length ≤ cap ∧ (∀ n, w.frozen? ⟨g, n, none⟩ = false) ∧
      (∀ i, i < l.length → ∃ vs, E.rep S w vs (l.getD i E.dfl) ∧ ∀ j, j < E.sz → w.cell? ⟨g, i * E.sz + j, none⟩ = vs[j]?) ∧
      ∀ i j x y, i < l.length → j < E.sz → (∀ S' vs, E.rep S' w vs (l.getD i E.dfl) → E.rep S' w (vs.set j x) y) → Gw E t base S (w.setCell ⟨g, i * E.sz + j, none⟩ x) v (l.set i y) := by
  have hsl := h
  obtain ⟨a0, c0, e0, hgr, _⟩ := hsl.slice
  obtain ⟨vss, hl, h3, h4⟩ := h
  have h5 : ∀ i, i < vss.length → (vss.getD i []).length = E.sz := fun i hi => E.len (h4 i (by omega))
  rcases h3.2 with ⟨rfl, e1⟩ | ⟨g, cap, cur, rfl, hb, hg, hc1, hc2, hc3, ht⟩
  · exact absurd (List.length_eq_zero_iff.1 e1) hne
  · refine ⟨g, cap, rfl, hb, (Array.getElem?_eq_some_iff.1 hg).1, hc1, fun n => frozen_of_row w g n _ _ hg, fun i hi => ?_, fun i j x y hi hj hrep => ?_⟩
    · obtain ⟨b, off, vs, e2, hb2, hr, hc⟩ := hgr.2.2.2 i hi
      injection e0 with e0
      rw [← e0] at e2
      cases e2
      exact ⟨vs, hr, fun j hj => by simpa using hc j hj⟩
    · have hset := heap_setCell_same w g (i * E.sz + j) cur t x hg
      have hoth : ∀ k, k ≠ g → (w.setCell ⟨g, i * E.sz + j, none⟩ x).heap[k]? = w.heap[k]? := fun k hk => Below.heap_setCell _ _ _ _ (fun e => hk e)
      have hsz : (w.setCell ⟨g, i * E.sz + j, none⟩ x).heap.size = w.heap.size := by simp [World.setCell]
      have hst : ∀ vs z, E.rep (fun k => S k ∧ (Value.slice (some ⟨g, 0, none⟩) l.length cap).ownBlock ≠ some k) w vs z → E.rep (fun k => S k ∧ (Value.slice (some ⟨g, 0, none⟩) l.length cap).ownBlock ≠ some k) (w.setCell ⟨g, i * E.sz + j, none⟩ x) vs z := fun vs z hz => E.stay hz (by rw [hsz]; exact Nat.le_refl _) (fun k hk _ => ⟨hk, hoth k (fun e => hk.2 (by rw [e]; rfl))⟩)
      have hfl := flat_set (i := i) (j := j) x h5 (by omega) hj
      refine ⟨vss.set i ((vss.getD i []).set j x), by rw [List.length_set, List.length_set, hl], ⟨?_, .inr ⟨g, cap, _, by rw [List.length_set], hb, hset, by simpa using hc1, hc2, by simpa using hc3, ?_⟩⟩, fun k hk => ?_⟩
      · rw [hfl, List.length_set, List.length_set]; exact h3.1
      · rw [hfl, List.length_set, ← ht]
        simp [List.take_set]
      · rw [List.length_set] at hk
        by_cases hki : k = i
        · subst hki
          have e1 : (vss.set k ((vss.getD k []).set j x)).getD k [] = (vss.getD k []).set j x := by simp [List.getD, show k < vss.length by omega]
          have e2 : (l.set k y).getD k E.dfl = y := by simp [List.getD, hk]
          rw [e1, e2]
          exact hst _ _ (hrep _ _ (h4 k hk))
        · have e1 : (vss.set i ((vss.getD i []).set j x)).getD k [] = vss.getD k [] := by simp [List.getD, List.getElem?_set_ne (fun e => hki e.symm)]
          have e2 : (l.set i y).getD k E.dfl = l.getD k E.dfl := by simp [List.getD, List.getElem?_set_ne (fun e => hki e.symm)]
          rw [e1, e2]
          exact hst _ _ (h4 k hk)
/-- 'append(v, x...)' in a region that draws; x isn't nil. -/
theorem wp_append_el {α : Type} {E : El α} {w : World} {o : Oper} {a : Act} {K : Act → World → Prop} {Q : Exit → Act → World → Prop} (t e : TypeId) {z : Value} {by' : Nat}
    (ht : Try.prog.underlying t = some (.slice e)) (hinfo : (Try.prog.info? e).map (fun i => (i.zero, i.size, i.bytes)) = some (some z, E.sz, by')) (hzs : z.cells.size = E.sz) (hsz : 0 < E.sz) (hby : by' ≤ 1000)
    (s x : Operand) (ho : o.op = .call { callee := .builtin .append, args := #[s, x], argTypes := #[t, t] })
    (base : Nat) (S : Nat → Prop) (v : Value) (l : List α) (hs : a.eval s = v) (hown : Gw E e base S w v l) (ad : Addr) (pc n : Nat) (m : List α) (hn : n = m.length) (hx : a.eval x = .slice (some ad) n pc)
    (hp : Gr E (fun k => S k ∧ v.ownBlock ≠ some k) w (some ad) pc m) (hlen : l.length + m.length ≤ 1000000) (hbase : base ≤ w.heap.size)
    (h : ∀ v' w', Gw E e base S w' v' (l ++ m) → w.grownBy w' v.ownBlock → (v'.ownBlock = v.ownBlock ∨ v'.ownBlock = some w.heap.size) → K (a.put o.dst v') w') : o.wp Try.prog a w K Q := by
  subst hn
  obtain ⟨i0, hi, hz0, hz1, hz2⟩ := info_parts hinfo
  obtain ⟨vss, hl, h3, h4⟩ := hown
  obtain ⟨uss, hul, hu⟩ : ∃ uss : List (List Value), uss.length = m.length ∧ ∀ i, i < m.length → E.rep (fun k => S k ∧ v.ownBlock ≠ some k) w (uss.getD i []) (m.getD i E.dfl) ∧ ∀ j, j < E.sz → w.cell? (ad.add (i * E.sz + j)) = (uss.getD i [])[j]? := by
    have key : ∀ k, k ≤ m.length → ∃ uss : List (List Value), uss.length = k ∧ ∀ i, i < k → E.rep (fun k => S k ∧ v.ownBlock ≠ some k) w (uss.getD i []) (m.getD i E.dfl) ∧ ∀ j, j < E.sz → w.cell? (ad.add (i * E.sz + j)) = (uss.getD i [])[j]? := by
      intro k
      induction k with
      | zero => exact fun _ => ⟨[], rfl, fun i hi => by omega⟩
      | succ k ih =>
        intro hk
        obtain ⟨uss, h1, h2⟩ := ih (by omega)
        obtain ⟨b, off, vs, e1, hb, hr, hc⟩ := hp.2.2.2 k (by omega)
        cases e1
        refine ⟨uss ++ [vs], by simp [h1], fun i hi => ?_⟩
        by_cases hik : i < k
        · have e2 : (uss ++ [vs]).getD i [] = uss.getD i [] := by simp [List.getD, List.getElem?_append_left (show i < uss.length by omega)]
          rw [e2]
          exact h2 i hik
        · obtain rfl : i = k := by omega
          have e2 : (uss ++ [vs]).getD i [] = vs := by simp [List.getD, ← h1]
          rw [e2]
          refine ⟨hr, fun j hj => ?_⟩
          have hadd : (⟨b, off, none⟩ : Addr).add (i * E.sz + j) = ⟨b, off + (i * E.sz + j), none⟩ := by unfold Addr.add; split <;> simp_all
          rw [hadd, ← Nat.add_assoc]
          exact hc j hj
    exact key m.length (Nat.le_refl _)
  have hul5 : ∀ i, i < uss.length → (uss.getD i []).length = E.sz := fun i hi => E.len (hu i (by omega)).1
  refine wp_append_own_at w s x t ho base e i0 z E.sz by' ht hi hz0 hz1 hz2 hzs hsz v l.length vss.flatten hs h3 ad m.length pc uss.flatten hx (by rw [flat_len' hul5, hul]) ?_ ?_ (by unfold maxLen; omega) (by
      have := Nat.mul_le_mul hlen hby
      omega) hbase (fun v' w' k1 k2 _ k4 => h v' w' ?_ k2 k4)
  · intro j u hj
    have hjl : j < m.length * E.sz := by
      rcases Nat.lt_or_ge j (m.length * E.sz) with h1 | h1
      · exact h1
      · rw [List.getElem?_eq_none (by rw [flat_len' hul5, hul]; exact h1)] at hj; cases hj
    have hjd : j / E.sz < m.length := (Nat.div_lt_iff_lt_mul hsz).2 hjl
    have e1 : j / E.sz * E.sz + j % E.sz = j := by rw [Nat.mul_comm]; exact Nat.div_add_mod j E.sz
    have h1 := (hu (j / E.sz) hjd).2 (j % E.sz) (Nat.mod_lt _ hsz)
    have h2 := flat_get hul5 (i := j / E.sz) (j := j % E.sz) (by omega) (Nat.mod_lt _ hsz)
    rw [e1] at h1 h2
    rw [h1, ← h2, hj]
  · intro u hu1
    obtain ⟨vs, hvs, hu2⟩ := List.mem_flatten.1 hu1
    obtain ⟨i, hi, e1⟩ := List.getElem_of_mem hvs
    have := E.one (hu i (by omega)).1 u
    rw [List.getD_eq_getElem?_getD, List.getElem?_eq_getElem hi, Option.getD_some, e1] at this
    exact this hu2
  · have hst : ∀ vs y, E.rep (fun k => S k ∧ v.ownBlock ≠ some k) w vs y → E.rep (fun k => S k ∧ v'.ownBlock ≠ some k) w' vs y := fun vs y hy => E.stay hy k2.size (fun k hk hlt => ⟨⟨hk.1, by
      rcases k4 with k4 | k4
      · rw [k4]; exact hk.2
      · rw [k4]; intro e'; cases e'; exact absurd hlt (Nat.lt_irrefl _)⟩, k2.block k hlt (fun e' => hk.2 e'.symm)⟩)
    refine ⟨vss ++ uss, by rw [List.length_append, List.length_append, hl, hul], by rw [List.length_append, List.flatten_append]; exact k1, fun i hi => ?_⟩
    by_cases him : i < l.length
    · have e1 : (l ++ m).getD i E.dfl = l.getD i E.dfl := by simp [List.getD, List.getElem?_append_left him]
      have e2 : (vss ++ uss).getD i [] = vss.getD i [] := by simp [List.getD, List.getElem?_append_left (show i < vss.length by omega)]
      rw [e1, e2]
      exact hst _ _ (h4 i him)
    · have him' : i - l.length < m.length := by simp at hi; omega
      have e1 : (l ++ m).getD i E.dfl = m.getD (i - l.length) E.dfl := by simp [List.getD, List.getElem?_append_right (show l.length ≤ i by omega)]
      have e2 : (vss ++ uss).getD i [] = uss.getD (i - l.length) [] := by simp [List.getD, List.getElem?_append_right (show vss.length ≤ i by omega), hl]
      rw [e1, e2]
      exact hst _ _ (hu _ him').1

end Go.Proofs.Ytadgifeakfcljaa
