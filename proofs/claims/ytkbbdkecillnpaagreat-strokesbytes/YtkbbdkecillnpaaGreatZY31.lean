/-
  Rows of bytes and rows of ints side by side; an append of bytes as an operation of a region that draws.
  Rows of bytes of the call's own: side by side, new ones; foundryref04.Big with a row of its own (split off OY1).
  foundryref18.Write: the walk.
  foundryref03.Coordinate: the walk.
  foundryref09.Formed: the walk.
-/
import Derived.Test.YtkbbdkecillnpaaGreatZY30
import Derived.Test.YtkbbdkecillnpaaGreatZY8
import Derived.Test.YtkbbdkecillnpaaGreatZY7
import Derived.Test.YtkbbdkecillnpaaGreatZY27
import Derived.Test.YtkbbdkecillnpaaGreatZY28
import Derived.Test.YtkbbdkecillnpaaGreatZY15
import Derived.Test.YtkbbdkecillnpaaGreatZY16
namespace Go.Proofs.YtkbbdkecillnpaaGreat
open Go.RowKit Go.Maps
set_option linter.unusedSimpArgs false
set_option linter.unusedVariables false

/-- A row of ints and a row of bytes lie in two blocks. -/
theorem Io.ne_bo {base b2 : Nat} {w : World} {v vb : Value} {zs : List Int} {ys : List Nat} (h : Io base w v zs) (hb : Bo b2 w vb ys) {g : Nat} (h1 : v.ownBlock = some g) : some g ≠ vb.ownBlock := by
  intro e
  rcases h.2.2 with ⟨e0, _⟩ | ⟨g1, cap, cur, k1, k2, k3, k4⟩
  · rw [e0] at h1; cases h1
  · rcases hb.2.2 with ⟨e0, _⟩ | ⟨g2, cap2, cur2, m1, m2, m3, _⟩
    · rw [e0] at e; cases e
    · rw [m1] at e
      rw [k1] at h1
      cases h1
      cases e
      rw [k3] at m3
      cases m3
theorem Io.grownB {base b2 : Nat} {w w' : World} {v vb : Value} {zs : List Int} {ys : List Nat} (h : Io base w v zs) (hb : Bo b2 w vb ys) (hg : w.grownBy w' vb.ownBlock) : Io base w' v zs := by
  have hne := fun g => Io.ne_bo h hb (g := g)
  obtain ⟨h1, h3⟩ := h
  refine ⟨h1, h3.1, ?_⟩
  rcases h3.2 with h0 | ⟨g, cap, cur, k1, k2, k3, k4⟩
  · exact .inl h0
  · exact .inr ⟨g, cap, cur, k1, k2, (hg.block g (Array.getElem?_eq_some_iff.1 k3).1 (hne g (by rw [k1]; rfl))).trans k3, k4⟩
theorem Bo.grownI {base b2 : Nat} {w w' : World} {v vb : Value} {zs : List Int} {ys : List Nat} (hb : Bo b2 w vb ys) (h : Io base w v zs) (hg : w.grownBy w' v.ownBlock) : Bo b2 w' vb ys := by
  have hne := fun g => Io.ne_bo h hb (g := g)
  obtain ⟨h1, h3⟩ := hb
  refine ⟨h1, h3.1, ?_⟩
  rcases h3.2 with h0 | ⟨g, cap, cur, k1, k2, k3, k4⟩
  · exact .inl h0
  · refine .inr ⟨g, cap, cur, k1, k2, (hg.block g (Array.getElem?_eq_some_iff.1 k3).1 (fun e => ?_)).trans k3, k4⟩
    exact hne g e.symm (by rw [k1]; rfl)
/-- 'append(b, more...)', more not being empty. -/
theorem wp_append_bs {w : World} {o : Oper} {a : Act} {K : Act → World → Prop} {Q : Exit → Act → World → Prop}
    (s x : Operand) (ho : o.op = .call { callee := .builtin .append, args := #[s, x], argTypes := #[42, 42] })
    (base : Nat) (v : Value) (ys : List Nat) (hs : a.eval s = v) (hown : Bo base w v ys) (ad : Option Addr) (c m : Nat) (zs : List Nat) (hm : m = zs.length) (hne : zs ≠ []) (hx : a.eval x = .slice ad m c)
    (hrd : Rb w ad c zs) (hlen : ys.length + zs.length ≤ 1000000) (hbase : base ≤ w.heap.size)
    (h : ∀ v' w', Bo base w' v' (ys ++ zs) → w.grownBy w' v.ownBlock → K (a.put o.dst v') w') : o.wp Tryz.prog a w K Q := by
  obtain ⟨i0, hi, hz0, hz1, hz2⟩ := info_parts info_b8
  rcases hrd.2.2.2.2 with h0 | ⟨b, off, e', hb, hc⟩
  · exact absurd h0 hne
  subst e' hm
  refine wp_append_own_at w s x 42 ho base 5 i0 (.int .u8 0) 1 1 Tryz.underlying42 hi hz0 hz1 hz2 rfl (by decide) v ys.length (ys.map Y) hs hown.2 ⟨b, off, none⟩ zs.length c (zs.map Y) hx (by simp) ?_ (oneCell_Y zs) (by unfold maxLen; omega) (by omega) hbase ?_
  · intro j u hj
    have hjl : j < zs.length := by
      rcases Nat.lt_or_ge j zs.length with h1 | h1
      · exact h1
      · rw [List.getElem?_eq_none (by simpa using h1)] at hj; cases hj
    have hadd : (⟨b, off, none⟩ : Addr).add j = ⟨b, off + j, none⟩ := by unfold Addr.add; split <;> simp_all
    rw [hadd, hc j hjl]
    rw [List.getElem?_map, List.getElem?_eq_getElem hjl] at hj
    simp at hj; rw [← hj]; simp [List.getD, hjl, Y]
  · intro v' w' k1 k2 _ _
    exact h v' w' ⟨hown.1.append hrd.lim, by rw [List.map_append, List.length_append]; exact k1⟩ k2

end Go.Proofs.YtkbbdkecillnpaaGreat

namespace Go.Proofs.YtkbbdkecillnpaaGreat
open Go.RowKit Go.Maps
set_option linter.unusedSimpArgs false
set_option linter.unusedVariables false

/-- Two rows in two blocks. -/
def Apt (v u : Value) : Prop := ∀ k, v.ownBlock = some k → u.ownBlock ≠ some k
theorem Apt.symm {v u : Value} (h : Apt v u) : Apt u v := fun k h1 h2 => h k h2 h1
theorem Apt.of {base : Nat} {w : World} {v v' u : Value} {ys : List Nat} (h : Apt v u) (hu : Bo base w u ys) (hv : v'.ownBlock = v.ownBlock ∨ v'.ownBlock = some w.heap.size) : Apt v' u := fun k h1 h2 => by
  rcases hv with e | e
  · exact h k (by rw [← e]; exact h1) h2
  · rw [e] at h1; cases h1; have := (hu.lo h2).2; omega
theorem Bo.grownA {base : Nat} {w w' : World} {v u : Value} {ys : List Nat} (hu : Bo base w u ys) (hg : w.grownBy w' v.ownBlock) (h : Apt v u) : Bo base w' u ys := by
  obtain ⟨h1, h3⟩ := hu
  refine ⟨h1, h3.1, ?_⟩
  rcases h3.2 with h0 | ⟨g, cap, cur, k1, k2, k3, k4⟩
  · exact .inl h0
  · exact .inr ⟨g, cap, cur, k1, k2, (hg.block g (Array.getElem?_eq_some_iff.1 k3).1 (fun e => h g e.symm (by rw [k1]; rfl))).trans k3, k4⟩
theorem Bo.mono {base b2 : Nat} {w : World} {v : Value} {ys : List Nat} (h : Bo base w v ys) (hb : b2 ≤ base) : Bo b2 w v ys := by
  obtain ⟨h1, h3⟩ := h
  refine ⟨h1, h3.1, ?_⟩
  rcases h3.2 with h0 | ⟨g, cap, cur, k1, k2, k3, k4⟩
  · exact .inl h0
  · exact .inr ⟨g, cap, cur, k1, Nat.le_trans hb k2, k3, k4⟩
/-- As wpList_append_bs, with what is told of the block. -/
theorem wpList_append_bs3 {w : World} {ops : Array Oper} {rest : List Oper} {o : Oper} {a : Act} {Q : Exit → Act → World → Prop}
    (hgd : o.guard = none) (s x : Operand) (ho : o.op = .call { callee := .builtin .append, args := #[s, x], argTypes := #[42, 42] })
    (base : Nat) (v : Value) (ys : List Nat) (hs : a.eval s = v) (hown : Bo base w v ys) (ad : Option Addr) (c m : Nat) (zs : List Nat) (hm : m = zs.length) (hx : a.eval x = .slice ad m c)
    (hrd : Rb w ad c zs) (hlen : ys.length + zs.length ≤ 1000000) (hbase : base ≤ w.heap.size)
    (h : ∀ v' w', Bo base w' v' (ys ++ zs) → w.grownBy w' v.ownBlock → (v'.ownBlock = v.ownBlock ∨ v'.ownBlock = some w.heap.size) → wpList Tryz.prog ops Q rest (a.put o.dst v') w') : wpList Tryz.prog ops Q (o :: rest) a w := by
  obtain ⟨i0, hi, hz0, hz1, hz2⟩ := info_parts info_b8
  refine wpList_append_rb hgd s x 42 ho base 5 i0 Tryz.underlying42 hi hz0 hz1 hz2 v ys.length ys hs hown.2 ad c m zs hx hm hrd (by omega) hbase ?_
  intro v' w' k1 k2 k3
  exact h v' w' ⟨hown.1.append hrd.lim, by rw [List.length_append]; exact k1⟩ k2 k3

theorem Bo.rb {base : Nat} {w : World} {a : Option Addr} {c : Nat} {ys : List Nat} (h : Bo base w (.slice a ys.length c) ys) : Rb w a c ys := by
  obtain ⟨a', c', e, hr⟩ := h.slice
  injection e with e1 e2 e3
  subst e1 e3
  exact hr
theorem bo_new (w : World) (zs : List Nat) (cs : Array Value) (hc : cs = (zs.map Y).toArray) (hl : Byt zs) (hm : zs.length ≤ maxLen) : Bo w.heap.size (w.alloc (.cells cs 5)) (.slice (some ⟨w.heap.size, 0, none⟩) zs.length zs.length) zs := by
  subst hc
  exact ⟨hl, by simp, .inr ⟨w.heap.size, zs.length, _, rfl, Nat.le_refl _, heap_alloc_new w _, Nat.le_refl _, hm, by simp, by simp [List.take_of_length_le]⟩⟩
set_option maxHeartbeats 1000000 in
set_option maxRecDepth 100000 in
theorem big2_own (x : Int) (w : World) (hx : 0 ≤ x) (hx2 : x ≤ 9223372036854775807) :
    Calls Tryz.prog 36 #[.int .i64 x, .int .i64 2] w fun e w' => ∃ v, e = .returned v ∧ Bo w.heap.size w' v (be2 x) ∧ Below w.heap.size w w' := by
  have hmk : ∀ w, (Instr.makeSlice 42 (.int .i64 2) (.int .i64 2)).run Tryz.prog w = .ok (.slice (some ⟨w.heap.size, 0, none⟩) 2 2) (w.alloc (.cells #[.int .u8 0, .int .u8 0] 5)) := by
    intro w
    have h := run_make_row' (P := Tryz.prog) 42 5 (.int .u8 0) 1 Tryz.underlying42 info_byte rfl .i64 .i64 2 (by decide) (by decide) w
    rw [show madeCells #[Value.int IntKind.u8 0] 2 = #[.int .u8 0, .int .u8 0] by kernel_rfl] at h
    exact h
  go_enter Tryz.func36, Tryz.ntmps36
  go_wp2
  refine wp_loop_rounds 3 ?_
  rw [rounds_succ]
  go_wp2
  rw [rounds_succ]
  go_wp2
  rw [rounds_succ]
  go_wp2
  go_ret
  refine ⟨_, rfl, bo_new w (be2 x) _ ?_ (byt_be2 x) (by simp [be2, maxLen]), bl1 _⟩
  simp only [be2, List.map_cons, List.map_nil, Y]
  simp
  omega

set_option maxHeartbeats 1000000 in
set_option maxRecDepth 100000 in
theorem big4_own (x : Int) (w : World) (hx : 0 ≤ x) (hx2 : x ≤ 9223372036854775807) :
    Calls Tryz.prog 36 #[.int .i64 x, .int .i64 4] w fun e w' => ∃ v, e = .returned v ∧ Bo w.heap.size w' v (be4 x) ∧ Below w.heap.size w w' := by
  have hmk : ∀ w, (Instr.makeSlice 42 (.int .i64 4) (.int .i64 4)).run Tryz.prog w = .ok (.slice (some ⟨w.heap.size, 0, none⟩) 4 4) (w.alloc (.cells #[.int .u8 0, .int .u8 0, .int .u8 0, .int .u8 0] 5)) := by
    intro w
    have h := run_make_row' (P := Tryz.prog) 42 5 (.int .u8 0) 1 Tryz.underlying42 info_byte rfl .i64 .i64 4 (by decide) (by decide) w
    rw [show madeCells #[Value.int IntKind.u8 0] 4 = #[.int .u8 0, .int .u8 0, .int .u8 0, .int .u8 0] by kernel_rfl] at h
    exact h
  go_enter Tryz.func36, Tryz.ntmps36
  go_wp2
  refine wp_loop_rounds 5 ?_
  rw [rounds_succ]
  go_wp2
  rw [rounds_succ]
  go_wp2
  rw [rounds_succ]
  go_wp2
  rw [rounds_succ]
  go_wp2
  rw [rounds_succ]
  go_wp2
  go_ret
  refine ⟨_, rfl, bo_new w (be4 x) _ ?_ (byt_be4 x) (by simp [be4, maxLen]), bl1 _⟩
  simp only [be4, List.map_cons, List.map_nil, Y]
  simp
  omega


end Go.Proofs.YtkbbdkecillnpaaGreat

namespace Go.Proofs.YtkbbdkecillnpaaGreat
open Go.RowKit Go.Maps
set_option linter.unusedSimpArgs false
set_option linter.unusedVariables false

theorem Bo.rwD {base : Nat} {w : World} {v : Value} {ys : List Nat} (h : Bo base w v ys) : ∃ a c, v = .slice a ys.length c ∧ Rw 5 base w a c ys := Rw.of h.1 h.2
theorem Bo.neBk {base g : Nat} {t : TypeId} {w : World} {v : Value} {cs : List Value} {ys : List Nat} (h : Bo base w v ys) (hb : Bk t w g cs) (ht : t ≠ 5) : v.ownBlock ≠ some g := by
  intro e
  rcases h.2.2 with ⟨e0, _⟩ | ⟨g', cap, cu, e1, _, hh, _⟩
  · rw [e0] at e; cases e
  · rw [e1] at e
    have e2 : g' = g := by
      have e3 : some g' = some g := e
      injection e3
    rw [e2, hb] at hh
    injection hh with hh
    injection hh with _ hh
    exact ht hh
theorem z65D {z : Int} (h : -32768 ≤ z ∧ z ≤ 32767) : ∃ y, (z + 65536).tmod 65536 = y ∧ 0 ≤ y ∧ y ≤ 65535 ∧ be2 y = be2 z := by
  refine ⟨(z + 65536) % 65536, Int.tmod_eq_emod_of_nonneg (by omega), by omega, by omega, ?_⟩
  simp only [be2, List.cons.injEq, and_true]
  refine ⟨by omega, by omega⟩
theorem be1_smallD {z : Int} (h1 : 0 ≤ z) (h2 : z < 256) : be1 z = [z.toNat] := by
  show [(z % 256).toNat] = [z.toNat]
  congr 1
  omega

set_option maxHeartbeats 8000000 in
set_option maxRecDepth 100000 in
theorem swriteD_any (S : Nat → Prop) (a : Option Addr) (ca : Nat) (l : List (List Sp)) (ga : Option Addr) (gc : Nat) (ma : Option Addr) (mc : Nat) (s : Sr) (w : World) (hl : Gr SpE.row S w a ca l) (k2 : s.rw.length ≤ 9223372036854775807) (k3 : s.rg.length ≤ 9223372036854775807) :
    Calls Tryz.prog 17 #[.slice a l.length ca, .agg #[.slice ga s.rg.length gc, .slice ma s.rw.length mc]] w fun e w' => ∃ a' c', e = .returned (.tuple #[.slice a' (wrDB (fiS s) l).length c', .int .i64 (wrDE (fiS s) l)]) ∧ Rw 5 w.heap.size w' a' c' (wrDB (fiS s) l) ∧ Below w.heap.size w w' := by
  have kl := hl.lenB
  obtain ⟨W, hW, X1, hbW⟩ : ∃ W, W = w.alloc (.cells #[.slice ga s.rg.length gc, .slice ma s.rw.length mc] 26) ∧ Bk 26 W w.heap.size [.slice ga s.rg.length gc, .slice ma s.rw.length mc] ∧ Below w.heap.size w W := ⟨_, rfl, Bk.new _ _ _, bl1 _⟩
  obtain ⟨p0, p1, -⟩ := X1.two
  have hfo := sformD_any S a ca l ga gc ma mc s W (hl.below hbW) k2 k3
  go_enter Tryz.func17, Tryz.ntmps17
  go_upto_region 1 with fail
  rw [← hW]
  clear hW
  cases hf : foD (fiS s) l with
  | false =>
    rw [hf] at hfo
    have HF : Hid (_) := wrD_no hf
    clear hf
    go_wp2_with fail
    refine hfo.mono ?_
    rintro e u1 ⟨rfl, hb⟩
    have hfin := hbW.trans (hb.mono hbW.size)
    clear hfo hb p0 p1
    go_wp2
    go_ret2
    exact ⟨none, 0, by rw [HF.out.1, HF.out.2]; rfl, by rw [HF.out.1]; exact Rw.nil _ _, hfin⟩
  | true =>
  rw [hf] at hfo
  have HFO : Hid (foD (fiS s) l = true) := hf
  have hl20 := (foD_iff.1 hf).1
  have HDR : Hid (_) := (foD_iff.1 hf).2
  have HTE : Hid (dsE l = be2 ((l.length : Nat) : Int) ++ dwsE l) := rfl
  clear hf
  go_wp2_with fail
  refine hfo.mono ?_
  rintro e u ⟨rfl, hb⟩
  replace hbW := hbW.trans (hb.mono hbW.size)
  have HL : Hid (Gr SpE.row S u a ca l) := hl.below hbW
  have HBW : Hid (Below w.heap.size w u) := hbW
  clear hl hfo hb hbW X1 p0 p1
  go_wp2_with fail
  refine (big2_own (l.length : Int) u (by omega) (by omega)).mono ?_
  rintro e u1 ⟨v0, rfl, hI0, hB1⟩
  obtain ⟨Q, hQ⟩ : ∃ Q, be2 ((l.length : Nat) : Int) = Q := ⟨_, rfl⟩
  have HQL : Hid (Q.length = 2) := by show _ = _; rw [← hQ]; rfl
  rw [hQ] at hI0 HTE
  have hI : Bo u.heap.size u1 v0 (Q ++ dwsE (l.take 0)) := by
    rw [List.take_zero, dwsE, List.append_nil]
    exact hI0
  obtain ⟨B, hBB⟩ : ∃ g, u.heap.size = g := ⟨_, rfl⟩
  have HBB : Hid (u.heap.size = B) := hBB
  rw [hBB] at hI hB1
  clear hI0 hQ hBB
  obtain ⟨a0, c0, rfl, -⟩ := hI.slice
  generalize (Q ++ dwsE (l.take 0)).length = n0 at hI ⊢
  go_wp2
  go_loopw [6, 7] (fun v i wr => ∃ k : Nat, k ≤ l.length ∧ i = .int .i64 k ∧ Bo B wr v (Q ++ dwsE (l.take k)) ∧ Below B u wr) (fun _ i _ => l.length - (intOf i).toNat)
  case atStart => exact ⟨0, Nat.zero_le _, rfl, hI, hB1⟩
  case round =>
    clear hI hB1
    obtain ⟨k, hk, rfl, hP, hB⟩ := hrel
    obtain ⟨a5, c5, rfl, hrb5⟩ := hP.slice
    have hBw : Below w.heap.size w wr := HBW.out.trans (hB.mono (by have := HBW.out.size; rw [HBB.out] at this; exact this))
    have hBs : B ≤ wr.heap.size := by have := hB.size; rw [HBB.out] at this; exact this
    by_cases hkn : k < l.length
    rotate_left
    · obtain rfl : k = l.length := by omega
      have g4 : ¬ (l.length : Int) < (l.length : Int) := by omega
      rw [List.take_length, ← HTE.out] at hP ⊢
      have HN : Hid (_) := wrD_yes HFO.out
      obtain ⟨a9, c9, e9, hr9⟩ := hP.rwD
      injection e9 with e1 e2 e3
      have HE1 : Hid (a5 = a9) := e1
      have HE3 : Hid (c5 = c9) := e3
      have HR9 : Hid (Rw 5 w.heap.size wr a9 c9 (dsE l)) := hr9.mono (by have := HBW.out.size; rw [HBB.out] at this; exact this)
      clear hrb5 e1 e2 e3 hP hr9
      go_wp2
      go_ret2
      exact ⟨a9, c9, by rw [HN.out.1, HN.out.2, HE1.out, HE3.out]; rfl, by rw [HN.out.1]; exact HR9.out, hBw⟩
    obtain ⟨b1, off, a1, c1, ea, hb1, c0, hd, hdl, -⟩ := HL.out.rw (Below.refl _ _) k hkn
    have hb1B : b1 < B := by have := HBB.out; omega
    have HSK : Hid (_) := dws_snoc hkn Q
    have hdf := HDR.out k hkn
    have hd60 := (drF_iff.1 hdf).1
    have HSPF : Hid (_) := (drF_iff.1 hdf).2
    have HSL : Hid (∀ j, (spsE ((l.getD k []).take j)).length ≤ 1500) := spE_some hdf
    have hlk : (Q ++ dwsE (l.take k)).length ≤ 30042 := by
      have := dwE_some HFO.out k
      rw [List.length_append, HQL.out]
      omega
    obtain ⟨d, hdd⟩ : ∃ d, l.getD k [] = d := ⟨_, rfl⟩
    rw [hdd] at c0 hd hdl HSK hd60 HSPF HSL
    have HC0 : Hid (∀ U, Below B u U → U.cell? ⟨b1, off + k, none⟩ = some (.slice a1 d.length c1)) := fun U hU => (hU.cell (p := ⟨b1, off + k, none⟩) hb1B).trans c0
    have hc0 := HC0.out wr hB
    obtain ⟨b2, hb2⟩ : ∃ b2, Q ++ dwsE (l.take k) = b2 := ⟨_, rfl⟩
    rw [hb2] at hP HSK hlk ⊢
    have HD : Hid (Gr SpE S u a1 c1 d) := hd
    subst ea
    have i1 : (0 : Int) ≤ (k : Int) := by omega
    have i2 : (k : Int) < (l.length : Int) := by omega
    clear hdd hb2 hd hdf hBw c0 hrb5
    go_wp2_with fail
    refine (big2_any (d.length : Int) _ (by omega) (by omega)).mono ?_
    rintro e v1 ⟨ad, cp, rfl, hr, hb1'⟩
    replace hP := hP.below hb1'
    replace hB := hB.trans (hb1'.mono hBs)
    have hs1 := hb1'.size
    have hll : b2.length + (be2 ((d.length : Nat) : Int)).length ≤ 1000000 := by rw [be2LD]; omega
    clear hb1' hc0
    go_wp2_with (at_builtin; refine wpList_append_bs rfl _ _ rfl B _ b2 rfl hP ad cp _ (be2 ((d.length : Nat) : Int)) rfl rfl hr hll (by omega) ?_)
    intro v9 w9 hT9 hgrow
    have hB9 : Below B v1 w9 := (Below.refl _ _).grown hgrow (by omega) (fun q hq => (hP.lo hq).1)
    replace hB := hB.trans hB9
    obtain ⟨b3, hb3⟩ : ∃ b3, b2 ++ be2 ((d.length : Nat) : Int) = b3 := ⟨_, rfl⟩
    have hl3 : b3.length ≤ 30044 := by rw [← hb3, List.length_append, be2LD]; omega
    rw [hb3] at hT9 HSK
    have hI : Bo B w9 v9 (b3 ++ spsE (d.take 0)) := by
      rw [List.take_zero, spsE, List.append_nil]
      exact hT9
    clear hgrow hB9 hP hr hll hb3 hT9
    obtain ⟨a6, c6', rfl, -⟩ := hI.slice
    generalize (b3 ++ spsE (d.take 0)).length = n1 at hI ⊢
    go_wp2
    go_loopw [6, 8] (fun v i wr => ∃ j : Nat, j ≤ d.length ∧ i = .int .i64 j ∧ Bo B wr v (b3 ++ spsE (d.take j)) ∧ Below B u wr) (fun _ i _ => d.length - (intOf i).toNat)
    case atStart => exact ⟨0, Nat.zero_le _, rfl, hI, hB⟩
    case round =>
      clear hI hB
      obtain ⟨j, hj, rfl, hP, hB⟩ := hrel
      obtain ⟨a7, c7, rfl, -⟩ := hP.slice
      have hBs : B ≤ wr.heap.size := by have := hB.size; rw [HBB.out] at this; exact this
      have c0 := HC0.out wr hB
      by_cases hjn : j < d.length
      rotate_left
      · obtain rfl : j = d.length := by omega
        have g4 : ¬ (d.length : Int) < (d.length : Int) := by omega
        rw [List.take_length] at hP ⊢
        generalize (b3 ++ spsE d).length = n2 at hP ⊢
        rw [← HSK.out] at hP
        go_wp2
        go_roundw
        case rel => exact ⟨k + 1, by omega, by go_num, hP, hB⟩
        case measure => simp [intOf]; omega
      obtain ⟨b4, of4, a4, c4, ea4, hb4, hI, d0, d1, hsl, -⟩ := HD.out.sp (Below.refl _ _) j hjn
      have hb4B : b4 < B := by have := HBB.out; omega
      replace d0 := (hB.cell (p := ⟨b4, of4 + j * 2, none⟩) hb4B).trans d0
      replace d1 := (hB.cell (p := ⟨b4, of4 + j * 2 + 1, none⟩) hb4B).trans d1
      have HSJ : Hid (_) := sps_snoc hjn b3
      have hlj : (b3 ++ spsE (d.take j)).length ≤ 31544 := by
        have := HSL.out j
        rw [List.length_append]
        omega
      obtain ⟨s1, s2, s3⟩ := spF_iff.1 (HSPF.out j hjn)
      have HS2 : Hid (_) := s2
      generalize d.getD j Sp.none = x at *
      have had := arD_in x.d
      have h6 : x.ar.length ≤ 6 := by omega
      have hx1 : 0 ≤ x.d := by omega
      have hx2 : x.d < 256 := by omega
      have HSLO : Hid (Gr SlE S u a4 c4 x.ar) := hsl
      have kx := hsl.lenB
      obtain ⟨b5, hb5⟩ : ∃ b5, b3 ++ spsE (d.take j) = b5 := ⟨_, rfl⟩
      rw [hb5] at hP HSJ hlj ⊢
      have HE : Hid (b5 ++ spY x = b5 ++ be1 x.d ++ slsE x.ar) := by show _ = _; rw [spY, List.append_assoc]
      subst ea4
      have i3 : (0 : Int) ≤ (j : Int) := by omega
      have i4 : (j : Int) < (d.length : Int) := by omega
      obtain ⟨V, hV, X0, hb0⟩ : ∃ V, V = wr.alloc (.cells #[.int .i64 x.d, .slice a4 x.ar.length c4] 50) ∧ Bk 50 V wr.heap.size [.int .i64 x.d, .slice a4 x.ar.length c4] ∧ Below wr.heap.size wr V := ⟨_, rfl, Bk.new _ _ _, bl1 _⟩
      obtain ⟨gs, hgs⟩ : ∃ g, wr.heap.size = g := ⟨_, rfl⟩
      have HGS : Hid (wr.heap.size = gs) := hgs
      rw [hgs] at X0
      replace hP := hP.below hb0
      replace hB := hB.trans (hb0.mono hBs)
      have hs0 := hb0.size
      obtain ⟨q0, q1, -⟩ := X0.two
      obtain ⟨dn, hdn⟩ : ∃ n : Nat, x.d = (n : Int) := ⟨x.d.toNat, by omega⟩
      have HBE1 : Hid (be1 x.d = [dn]) := by show _ = _; rw [be1_smallD hx1 hx2, hdn, Int.toNat_natCast]
      have hdn2 : dn < 256 := by omega
      have hw8 : IntKind.u8.wrap x.d = (dn : Int) := by rw [← hdn]; simp [IntKind.wrap, IntKind.bits, IntKind.signed]; omega
      have HDN : Hid (x.d = (dn : Int)) := hdn
      clear hb5 s1 s2 s3 had hsl hdn
      go_upto_region 12 with fail
      rw [← hV]
      try rw [hgs]
      clear hV d0 d1 hb0 hgs c0
      obtain ⟨V9, hV9, Y9, hb9⟩ : ∃ T, T = V.alloc (.cells #[.int .u8 (dn : Int)] 5) ∧ Bk 5 T V.heap.size [.int .u8 (dn : Int)] ∧ Below V.heap.size V T := ⟨_, rfl, Bk.new _ _ _, bl1 _⟩
      have y9 : V9.cell? ⟨V.heap.size, 0, none⟩ = some (.int .u8 (dn : Int)) := Y9.cell 0 (by simp)
      replace hP := hP.below hb9
      replace hB := hB.trans (hb9.mono (by omega))
      replace X0 := X0.below hb9
      have hs9 := hb9.size
      have hbs : B ≤ V9.heap.size := by omega
      have hll : b5.length + 1 ≤ 1000000 := by omega
      have hng := hP.neBk X0 (by decide)
      go_wp2_with (at_builtin; rw [← hV9]; refine wpList_append_b1 rfl _ _ rfl B _ b5 rfl hP V.heap.size dn rfl y9 hdn2 hll hbs ?_)
      intro v8 w8 hT8 hgrow
      rw [← hV9] at hgrow
      replace hB := hB.trans ((Below.refl B V9).grown hgrow hbs (fun q hq => (hP.lo hq).1))
      replace X0 := X0.grown hgrow hng
      rw [← HBE1.out] at hT8
      obtain ⟨Q5, hQ5⟩ : ∃ Q, b5 ++ be1 x.d = Q := ⟨_, rfl⟩
      have hl5 : Q5.length ≤ 31545 := by rw [← hQ5, List.length_append, be1LD]; omega
      rw [hQ5] at hT8 HE
      have hI5 : Bo B w8 v8 (Q5 ++ slsE (x.ar.take 0)) := by
        rw [List.take_zero, slsE, List.append_nil]
        exact hT8
      clear hgrow hng hV9 Y9 hb9 hT8 hP q0 q1 hw8 y9 hQ5 hll hbs
      obtain ⟨a8, c8, rfl, -⟩ := hI5.slice
      generalize (Q5 ++ slsE (x.ar.take 0)).length = n3 at hI5 ⊢
      have HSP : Hid (_) := HSJ.out
      rw [HE.out] at HSP
      go_wp2
      go_loopw [6, 10] (fun v i wr => ∃ m : Nat, m ≤ x.ar.length ∧ i = .int .i64 m ∧ Bo B wr v (Q5 ++ slsE (x.ar.take m)) ∧ Bk 50 wr gs [.int .i64 x.d, .slice a4 x.ar.length c4] ∧ Below B u wr) (fun _ i _ => x.ar.length - (intOf i).toNat)
      case atStart => exact ⟨0, Nat.zero_le _, rfl, hI5, X0, hB⟩
      case round =>
        clear hI5 hB X0
        obtain ⟨m, hm, rfl, hP, hX, hB⟩ := hrel
        obtain ⟨a9, c9, rfl, -⟩ := hP.slice
        obtain ⟨q0, q1, -⟩ := hX.two
        have hBs : B ≤ wr.heap.size := by have := hB.size; rw [HBB.out] at this; exact this
        by_cases hmn : m < x.ar.length
        rotate_left
        · obtain rfl : m = x.ar.length := by omega
          have g5 : ¬ (x.ar.length : Int) < (x.ar.length : Int) := by omega
          rw [List.take_length] at hP ⊢
          generalize (Q5 ++ slsE x.ar).length = n4 at hP ⊢
          rw [← HSP.out] at hP
          go_wp2
          go_roundw
          case rel => exact ⟨j + 1, by omega, by go_num, hP, hB⟩
          case measure => simp [intOf]; omega
        obtain ⟨b6, o6, e6, hb6, ⟨m1, m2⟩, e0, e1⟩ := HSLO.out.sl (Below.refl _ _) m hmn
        have hb6B : b6 < B := by have := HBB.out; omega
        replace e0 := (hB.cell (p := ⟨b6, o6 + m * 2, none⟩) hb6B).trans e0
        replace e1 := (hB.cell (p := ⟨b6, o6 + m * 2 + 1, none⟩) hb6B).trans e1
        have HSM : Hid (_) := sls_snoc hmn Q5
        have hlm : (Q5 ++ slsE (x.ar.take m)).length ≤ 31569 := by
          rw [List.length_append, slsE_len, List.length_take]
          omega
        have hff := fiS_16 s _ _ (HS2.out m hmn)
        generalize x.ar.getD m (0, 0) = y at *
        obtain ⟨b7, hb7⟩ : ∃ b7, Q5 ++ slsE (x.ar.take m) = b7 := ⟨_, rfl⟩
        rw [hb7] at hP HSM hlm ⊢
        obtain ⟨y1, ey1, y10, y11, hy1⟩ := z65D hff.1
        obtain ⟨y2, ey2, y20, y21, hy2⟩ := z65D hff.2
        have HY1 : Hid (be2 y1 = be2 y.1) := hy1
        have HY2 : Hid (be2 y2 = be2 y.2) := hy2
        subst e6
        have i5 : (0 : Int) ≤ (m : Int) := by omega
        have i6 : (m : Int) < (x.ar.length : Int) := by omega
        have hw1 : IntKind.i64.wrap (y.1 + 65536) = y.1 + 65536 := wrapi64 (by omega) (by omega)
        have hw2 : IntKind.i64.wrap (y.2 + 65536) = y.2 + 65536 := wrapi64 (by omega) (by omega)
        clear hb7 hy1 hy2
        -- Base
        go_wp2_with fail
        refine (big2_any y1 _ y10 (by omega)).mono ?_
        rintro e v1 ⟨ad, cp, rfl, hr, hbb⟩
        replace hP := hP.below hbb
        replace hX := hX.below hbb
        have hbu := hbb.mono hBs
        replace e1 := (hbu.cell (p := ⟨b6, o6 + m * 2 + 1, none⟩) hb6B).trans e1
        replace hB := hB.trans hbu
        have hsb := hbb.size
        have hll : b7.length + (be2 y1).length ≤ 1000000 := by rw [be2LD]; omega
        have hng := hP.neBk hX (by decide)
        clear hbb hbu e0 q0 q1
        go_wp2_with (at_builtin; refine wpList_append_bs rfl _ _ rfl B _ b7 rfl hP ad cp _ (be2 y1) rfl rfl hr hll (by omega) ?_)
        intro v9 w9 hT9 hgrow
        have hB9 : Below B v1 w9 := (Below.refl _ _).grown hgrow (by omega) (fun q hq => (hP.lo hq).1)
        replace e1 := (hB9.cell (p := ⟨b6, o6 + m * 2 + 1, none⟩) hb6B).trans e1
        replace hB := hB.trans hB9
        replace hX := hX.grown hgrow hng
        rw [HY1.out] at hT9
        obtain ⟨b8, hb8⟩ : ∃ b8, b7 ++ be2 y.1 = b8 := ⟨_, rfl⟩
        have hl8 : b8.length ≤ 31571 := by rw [← hb8, List.length_append, be2LD]; omega
        rw [hb8] at hT9 HSM
        have hs9 : B ≤ w9.heap.size := by have := hgrow.size; omega
        clear hgrow hB9 hP hr hll hb8 hng
        obtain ⟨a9', c9', rfl, -⟩ := hT9.slice
        obtain ⟨q0, q1, -⟩ := hX.two
        -- Row
        go_wp2_with fail
        refine (big2_any y2 _ y20 (by omega)).mono ?_
        rintro e v2 ⟨ad2, cp2, rfl, hr, hbb⟩
        have hP := hT9.below hbb
        replace hX := hX.below hbb
        replace hB := hB.trans (hbb.mono hs9)
        have hsb2 := hbb.size
        have hll : b8.length + (be2 y2).length ≤ 1000000 := by rw [be2LD]; omega
        have hng := hP.neBk hX (by decide)
        clear hbb e1 q0 q1 hT9
        go_wp2_with (at_builtin; refine wpList_append_bs rfl _ _ rfl B _ b8 rfl hP ad2 cp2 _ (be2 y2) rfl rfl hr hll (by omega) ?_)
        intro v8 w8 hT8 hgrow
        have hB9 : Below B v2 w8 := (Below.refl _ _).grown hgrow (by omega) (fun q hq => (hP.lo hq).1)
        replace hB := hB.trans hB9
        replace hX := hX.grown hgrow hng
        rw [HY2.out, ← HSM.out] at hT8
        clear hgrow hB9 hP hr hll hng
        go_wp2
        go_roundw
        case rel => exact ⟨m + 1, by omega, by go_num, hT8, hX, hB⟩
        case measure => simp [intOf]; omega

end Go.Proofs.YtkbbdkecillnpaaGreat

namespace Go.Proofs.YtkbbdkecillnpaaGreat
open Go.RowKit Classical
set_option linter.unusedSimpArgs false
set_option linter.unusedVariables false

set_option maxHeartbeats 400000 in
set_option maxRecDepth 100000 in
theorem scoord_any (z : Int) (w : World) : Calls Tryz.prog 142 #[.int .i64 z] w fun e w' => e = .returned (.bool (crd z)) ∧ w = w' := by
  by_cases h1 : -16384 ≤ z
  · go_enter Tryz.func142, Tryz.ntmps142
    go_wp2
    go_ret
    exact ⟨ret_bool (by simp [crd, h1]), rfl⟩
  · go_enter Tryz.func142, Tryz.ntmps142
    go_wp2
    go_ret
    exact ⟨ret_bool (by simp [crd]; omega), rfl⟩

theorem scoordB_any (z : Int) (w : World) : Calls Tryz.prog 142 #[.int .i64 z] w fun e w' => e = .returned (.bool (crd z)) ∧ Below w.heap.size w w' :=
  (scoord_any z w).mono fun e w' h => ⟨h.1, h.2 ▸ Below.refl _ _⟩

end Go.Proofs.YtkbbdkecillnpaaGreat

namespace Go.Proofs.YtkbbdkecillnpaaGreat
open Go.RowKit Go.Maps
set_option linter.unusedSimpArgs false
set_option linter.unusedVariables false

/-- Above 0, below 0, at 0. -/
theorem tfS_up {t : Te} (h1 : crd t.st = true) (h2 : crd t.pk = true) (h3 : crd t.en = true) (h : 0 < t.pk) : tfB t = (decide (0 ≤ t.st) && (decide (t.st < t.pk) && (decide (t.pk < t.en) || (t.pk == 16384 && t.en == 16384)))) := by
  rw [crdT] at h1 h2 h3
  rw [Bool.eq_iff_iff, tfB_iff]
  unfold TfT
  simp
  omega
theorem tfS_down {t : Te} (h1 : crd t.st = true) (h2 : crd t.pk = true) (h3 : crd t.en = true) (h : t.pk < 0) : tfB t = (decide (t.en ≤ 0) && (decide (t.pk < t.en) && (decide (t.st < t.pk) || (t.pk == -16384 && t.st == -16384)))) := by
  rw [crdT] at h1 h2 h3
  rw [Bool.eq_iff_iff, tfB_iff]
  unfold TfT
  simp
  omega
theorem tfS_mid {t : Te} (h1 : crd t.st = true) (h2 : crd t.pk = true) (h3 : crd t.en = true) (h : t.pk = 0) : tfB t = (t.st == 0 && t.en == 0) := by
  rw [crdT] at h1 h2 h3
  rw [Bool.eq_iff_iff, tfB_iff]
  unfold TfT
  simp
  omega

set_option maxHeartbeats 4000000 in
set_option maxRecDepth 100000 in
theorem sformT_any (t : Te) (w : World) :
    Calls Tryz.prog 141 #[.agg #[.int .i64 t.st, .int .i64 t.pk, .int .i64 t.en]] w fun e w' => e = .returned (.bool (tfB t)) ∧ Below w.heap.size w w' := by
  obtain ⟨W, hW, X1, hbW⟩ : ∃ W, W = w.alloc (.cells #[.int .i64 t.st, .int .i64 t.pk, .int .i64 t.en] 166) ∧ Box 166 W w.heap.size (.int .i64 t.st) (.int .i64 t.pk) (.int .i64 t.en) ∧ Below w.heap.size w W := ⟨_, rfl, Box.new _ _ _ _ _, al1 _⟩
  cases c1 : crd t.st with
  | false =>
    have HF : Hid (tfB t = false) := tfB_no (fun h => by rw [crdT.2 h.1] at c1; cases c1)
    obtain ⟨st, pk, en⟩ := t
    dsimp only at *
    obtain ⟨p0, p1, p2, _⟩ := X1.cells
    go_enter Tryz.func141, Tryz.ntmps141
    go_wp2_with fail
    rw [← hW]
    clear hW
    refine (scoord_any st _).mono ?_
    rintro e u1 ⟨rfl, rfl⟩
    rw [c1]
    go_wp2
    go_ret
    exact ⟨rt_bool HF.out.symm, hbW⟩
  | true =>
    cases c2 : crd t.pk with
    | false =>
      have HF : Hid (tfB t = false) := tfB_no (fun h => by rw [crdT.2 h.2.1] at c2; cases c2)
      obtain ⟨st, pk, en⟩ := t
      dsimp only at *
      obtain ⟨p0, p1, p2, _⟩ := X1.cells
      go_enter Tryz.func141, Tryz.ntmps141
      go_wp2_with fail
      rw [← hW]
      clear hW
      refine (scoord_any st _).mono ?_
      rintro e u1 ⟨rfl, rfl⟩
      rw [c1]
      go_wp2_with fail
      refine (scoord_any pk _).mono ?_
      rintro e u1 ⟨rfl, rfl⟩
      rw [c2]
      go_wp2
      go_ret
      exact ⟨rt_bool HF.out.symm, hbW⟩
    | true =>
      cases c3 : crd t.en with
      | false =>
        have HF : Hid (tfB t = false) := tfB_no (fun h => by rw [crdT.2 h.2.2.1] at c3; cases c3)
        obtain ⟨st, pk, en⟩ := t
        dsimp only at *
        obtain ⟨p0, p1, p2, _⟩ := X1.cells
        go_enter Tryz.func141, Tryz.ntmps141
        go_wp2_with fail
        rw [← hW]
        clear hW
        refine (scoord_any st _).mono ?_
        rintro e u1 ⟨rfl, rfl⟩
        rw [c1]
        go_wp2_with fail
        refine (scoord_any pk _).mono ?_
        rintro e u1 ⟨rfl, rfl⟩
        rw [c2]
        go_wp2_with fail
        refine (scoord_any en _).mono ?_
        rintro e u1 ⟨rfl, rfl⟩
        rw [c3]
        go_wp2
        go_ret
        exact ⟨rt_bool HF.out.symm, hbW⟩
      | true =>
        by_cases hu : 0 < t.pk
        · have HF : Hid (tfB t = _) := tfS_up c1 c2 c3 hu
          cases g1 : (decide (0 ≤ t.st) : Bool) with
          | false =>
            rw [g1] at HF
            obtain ⟨st, pk, en⟩ := t
            dsimp only at *
            obtain ⟨p0, p1, p2, _⟩ := X1.cells
            go_enter Tryz.func141, Tryz.ntmps141
            go_wp2_with fail
            rw [← hW]
            clear hW
            refine (scoord_any st _).mono ?_
            rintro e u1 ⟨rfl, rfl⟩
            rw [c1]
            go_wp2_with fail
            refine (scoord_any pk _).mono ?_
            rintro e u1 ⟨rfl, rfl⟩
            rw [c2]
            go_wp2_with fail
            refine (scoord_any en _).mono ?_
            rintro e u1 ⟨rfl, rfl⟩
            rw [c3]
            clear c1 c2 c3
            go_wp2
            go_ret
            exact ⟨rt_bool (by rw [HF.out]; simp), hbW⟩
          | true =>
            cases g2 : (decide (t.st < t.pk) : Bool) with
            | false =>
              rw [g1, g2] at HF
              obtain ⟨st, pk, en⟩ := t
              dsimp only at *
              obtain ⟨p0, p1, p2, _⟩ := X1.cells
              go_enter Tryz.func141, Tryz.ntmps141
              go_wp2_with fail
              rw [← hW]
              clear hW
              refine (scoord_any st _).mono ?_
              rintro e u1 ⟨rfl, rfl⟩
              rw [c1]
              go_wp2_with fail
              refine (scoord_any pk _).mono ?_
              rintro e u1 ⟨rfl, rfl⟩
              rw [c2]
              go_wp2_with fail
              refine (scoord_any en _).mono ?_
              rintro e u1 ⟨rfl, rfl⟩
              rw [c3]
              clear c1 c2 c3
              go_wp2
              go_ret
              exact ⟨rt_bool (by rw [HF.out]; simp), hbW⟩
            | true =>
              cases g3 : (decide (t.pk < t.en) : Bool) with
              | false =>
                cases g4 : (t.pk == 16384 : Bool) with
                | false =>
                  rw [g1, g2, g3, g4] at HF
                  obtain ⟨st, pk, en⟩ := t
                  dsimp only at *
                  obtain ⟨p0, p1, p2, _⟩ := X1.cells
                  go_enter Tryz.func141, Tryz.ntmps141
                  go_wp2_with fail
                  rw [← hW]
                  clear hW
                  refine (scoord_any st _).mono ?_
                  rintro e u1 ⟨rfl, rfl⟩
                  rw [c1]
                  go_wp2_with fail
                  refine (scoord_any pk _).mono ?_
                  rintro e u1 ⟨rfl, rfl⟩
                  rw [c2]
                  go_wp2_with fail
                  refine (scoord_any en _).mono ?_
                  rintro e u1 ⟨rfl, rfl⟩
                  rw [c3]
                  clear c1 c2 c3
                  go_wp2
                  go_ret
                  exact ⟨rt_bool (by rw [HF.out]; simp), hbW⟩
                | true =>
                  rw [g1, g2, g3, g4] at HF
                  obtain ⟨st, pk, en⟩ := t
                  dsimp only at *
                  obtain ⟨p0, p1, p2, _⟩ := X1.cells
                  go_enter Tryz.func141, Tryz.ntmps141
                  go_wp2_with fail
                  rw [← hW]
                  clear hW
                  refine (scoord_any st _).mono ?_
                  rintro e u1 ⟨rfl, rfl⟩
                  rw [c1]
                  go_wp2_with fail
                  refine (scoord_any pk _).mono ?_
                  rintro e u1 ⟨rfl, rfl⟩
                  rw [c2]
                  go_wp2_with fail
                  refine (scoord_any en _).mono ?_
                  rintro e u1 ⟨rfl, rfl⟩
                  rw [c3]
                  clear c1 c2 c3
                  go_wp2
                  go_ret
                  exact ⟨rt_bool (by rw [HF.out]; simp), hbW⟩
              | true =>
                rw [g1, g2, g3] at HF
                obtain ⟨st, pk, en⟩ := t
                dsimp only at *
                obtain ⟨p0, p1, p2, _⟩ := X1.cells
                go_enter Tryz.func141, Tryz.ntmps141
                go_wp2_with fail
                rw [← hW]
                clear hW
                refine (scoord_any st _).mono ?_
                rintro e u1 ⟨rfl, rfl⟩
                rw [c1]
                go_wp2_with fail
                refine (scoord_any pk _).mono ?_
                rintro e u1 ⟨rfl, rfl⟩
                rw [c2]
                go_wp2_with fail
                refine (scoord_any en _).mono ?_
                rintro e u1 ⟨rfl, rfl⟩
                rw [c3]
                clear c1 c2 c3
                go_wp2
                go_ret
                exact ⟨rt_bool (by rw [HF.out]; simp), hbW⟩
        · by_cases hd : t.pk < 0
          · have HF : Hid (tfB t = _) := tfS_down c1 c2 c3 hd
            cases g1 : (decide (t.en ≤ 0) : Bool) with
            | false =>
              rw [g1] at HF
              obtain ⟨st, pk, en⟩ := t
              dsimp only at *
              obtain ⟨p0, p1, p2, _⟩ := X1.cells
              go_enter Tryz.func141, Tryz.ntmps141
              go_wp2_with fail
              rw [← hW]
              clear hW
              refine (scoord_any st _).mono ?_
              rintro e u1 ⟨rfl, rfl⟩
              rw [c1]
              go_wp2_with fail
              refine (scoord_any pk _).mono ?_
              rintro e u1 ⟨rfl, rfl⟩
              rw [c2]
              go_wp2_with fail
              refine (scoord_any en _).mono ?_
              rintro e u1 ⟨rfl, rfl⟩
              rw [c3]
              clear c1 c2 c3
              go_wp2
              go_ret
              exact ⟨rt_bool (by rw [HF.out]; simp), hbW⟩
            | true =>
              cases g2 : (decide (t.pk < t.en) : Bool) with
              | false =>
                rw [g1, g2] at HF
                obtain ⟨st, pk, en⟩ := t
                dsimp only at *
                obtain ⟨p0, p1, p2, _⟩ := X1.cells
                go_enter Tryz.func141, Tryz.ntmps141
                go_wp2_with fail
                rw [← hW]
                clear hW
                refine (scoord_any st _).mono ?_
                rintro e u1 ⟨rfl, rfl⟩
                rw [c1]
                go_wp2_with fail
                refine (scoord_any pk _).mono ?_
                rintro e u1 ⟨rfl, rfl⟩
                rw [c2]
                go_wp2_with fail
                refine (scoord_any en _).mono ?_
                rintro e u1 ⟨rfl, rfl⟩
                rw [c3]
                clear c1 c2 c3
                go_wp2
                go_ret
                exact ⟨rt_bool (by rw [HF.out]; simp), hbW⟩
              | true =>
                cases g3 : (decide (t.st < t.pk) : Bool) with
                | false =>
                  cases g4 : (t.pk == -16384 : Bool) with
                  | false =>
                    rw [g1, g2, g3, g4] at HF
                    obtain ⟨st, pk, en⟩ := t
                    dsimp only at *
                    obtain ⟨p0, p1, p2, _⟩ := X1.cells
                    go_enter Tryz.func141, Tryz.ntmps141
                    go_wp2_with fail
                    rw [← hW]
                    clear hW
                    refine (scoord_any st _).mono ?_
                    rintro e u1 ⟨rfl, rfl⟩
                    rw [c1]
                    go_wp2_with fail
                    refine (scoord_any pk _).mono ?_
                    rintro e u1 ⟨rfl, rfl⟩
                    rw [c2]
                    go_wp2_with fail
                    refine (scoord_any en _).mono ?_
                    rintro e u1 ⟨rfl, rfl⟩
                    rw [c3]
                    clear c1 c2 c3
                    go_wp2
                    go_ret
                    exact ⟨rt_bool (by rw [HF.out]; simp), hbW⟩
                  | true =>
                    rw [g1, g2, g3, g4] at HF
                    obtain ⟨st, pk, en⟩ := t
                    dsimp only at *
                    obtain ⟨p0, p1, p2, _⟩ := X1.cells
                    go_enter Tryz.func141, Tryz.ntmps141
                    go_wp2_with fail
                    rw [← hW]
                    clear hW
                    refine (scoord_any st _).mono ?_
                    rintro e u1 ⟨rfl, rfl⟩
                    rw [c1]
                    go_wp2_with fail
                    refine (scoord_any pk _).mono ?_
                    rintro e u1 ⟨rfl, rfl⟩
                    rw [c2]
                    go_wp2_with fail
                    refine (scoord_any en _).mono ?_
                    rintro e u1 ⟨rfl, rfl⟩
                    rw [c3]
                    clear c1 c2 c3
                    go_wp2
                    go_ret
                    exact ⟨rt_bool (by rw [HF.out]; simp), hbW⟩
                | true =>
                  rw [g1, g2, g3] at HF
                  obtain ⟨st, pk, en⟩ := t
                  dsimp only at *
                  obtain ⟨p0, p1, p2, _⟩ := X1.cells
                  go_enter Tryz.func141, Tryz.ntmps141
                  go_wp2_with fail
                  rw [← hW]
                  clear hW
                  refine (scoord_any st _).mono ?_
                  rintro e u1 ⟨rfl, rfl⟩
                  rw [c1]
                  go_wp2_with fail
                  refine (scoord_any pk _).mono ?_
                  rintro e u1 ⟨rfl, rfl⟩
                  rw [c2]
                  go_wp2_with fail
                  refine (scoord_any en _).mono ?_
                  rintro e u1 ⟨rfl, rfl⟩
                  rw [c3]
                  clear c1 c2 c3
                  go_wp2
                  go_ret
                  exact ⟨rt_bool (by rw [HF.out]; simp), hbW⟩
          · have HF : Hid (tfB t = _) := tfS_mid c1 c2 c3 (by omega)
            cases g1 : (t.st == 0 : Bool) with
            | false =>
              rw [g1] at HF
              obtain ⟨st, pk, en⟩ := t
              dsimp only at *
              obtain ⟨p0, p1, p2, _⟩ := X1.cells
              go_enter Tryz.func141, Tryz.ntmps141
              go_wp2_with fail
              rw [← hW]
              clear hW
              refine (scoord_any st _).mono ?_
              rintro e u1 ⟨rfl, rfl⟩
              rw [c1]
              go_wp2_with fail
              refine (scoord_any pk _).mono ?_
              rintro e u1 ⟨rfl, rfl⟩
              rw [c2]
              go_wp2_with fail
              refine (scoord_any en _).mono ?_
              rintro e u1 ⟨rfl, rfl⟩
              rw [c3]
              clear c1 c2 c3
              go_wp2
              go_ret
              exact ⟨rt_bool (by rw [HF.out]; simp), hbW⟩
            | true =>
              rw [g1] at HF
              obtain ⟨st, pk, en⟩ := t
              dsimp only at *
              obtain ⟨p0, p1, p2, _⟩ := X1.cells
              go_enter Tryz.func141, Tryz.ntmps141
              go_wp2_with fail
              rw [← hW]
              clear hW
              refine (scoord_any st _).mono ?_
              rintro e u1 ⟨rfl, rfl⟩
              rw [c1]
              go_wp2_with fail
              refine (scoord_any pk _).mono ?_
              rintro e u1 ⟨rfl, rfl⟩
              rw [c2]
              go_wp2_with fail
              refine (scoord_any en _).mono ?_
              rintro e u1 ⟨rfl, rfl⟩
              rw [c3]
              clear c1 c2 c3
              go_wp2
              go_ret
              exact ⟨rt_bool (by rw [HF.out]; simp), hbW⟩

end Go.Proofs.YtkbbdkecillnpaaGreat
