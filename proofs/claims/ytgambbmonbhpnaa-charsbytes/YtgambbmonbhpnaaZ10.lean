/-
  foundryref04.Page: put, Put8, Put16, Put32, PutBytes, PutTag, Pad, All: the walks.
  Pages: what is put, in plain words; new pages.
  chars.Write: the walk.
  Rows of bytes of the call's own (Bo), and how they grow.
  Rows of bytes and rows of ints side by side; an append of bytes as an operation of a region that draws.
-/
import Derived.Test.YtgambbmonbhpnaaZ9
import Derived.Test.YtgambbmonbhpnaaZ3
import Derived.Test.YtgambbmonbhpnaaZ5
import Derived.Test.YtgambbmonbhpnaaZ2
import Derived.Test.YtgambbmonbhpnaaZ1
import Derived.Test.YtgambbmonbhpnaaZ6
import Derived.Test.YtgambbmonbhpnaaZ7
namespace Go.Proofs.Ytgambbmonbhpnaa
open Go.RowKit Go.Maps
set_option linter.unusedSimpArgs false
set_option linter.unusedVariables false
theorem per1 (x : Int) : be1 (x + (255 + 1)) = be1 x := by
  simp only [be1, List.cons.injEq, and_true]
  omega
theorem per2 (x : Int) : be2 (x + (65535 + 1)) = be2 x := by
  simp only [be2, List.cons.injEq, and_true]
  omega
theorem per4 (x : Int) : be4 (x + (4294967295 + 1)) = be4 x := by
  simp only [be4, List.cons.injEq, and_true]
  omega
end Go.Proofs.Ytgambbmonbhpnaa

namespace Go.Proofs.Ytgambbmonbhpnaa
open Go.RowKit Go.Maps
set_option linter.unusedSimpArgs false
set_option linter.unusedVariables false

theorem put32A {bs : List Nat} {ws : List Int} {n : Int} (h1 : -2147483648 ≤ n) (h2 : n ≤ 4294967295) : (St.mk bs ws false).put32 n = ⟨bs ++ be4 n, ws, false⟩ := by simp [St.put32, h1, h2, St.app]
theorem put16A {bs : List Nat} {ws : List Int} {n : Int} (h1 : -32768 ≤ n) (h2 : n ≤ 65535) : (St.mk bs ws false).put16 n = ⟨bs ++ be2 n, ws, false⟩ := by simp [St.put16, h1, h2, St.app]
theorem tagA {bs : List Nat} {ws : List Int} {xs : List Nat} (h : gd xs = true) : (St.mk bs ws false).tag xs = ⟨bs ++ xs, ws, false⟩ := by simp [St.tag, h, St.app]
theorem pc_newA (w : World) (G : Nat → Prop) (hG : ∀ k, G k → k < w.heap.size) : Pc (w.alloc (.cells #[.slice none 0 0, .int .i64 0, .map none, .bool false] 51)) w.heap.size G St.zero := by
  refine ⟨fun k hk => by have := hG k hk; simp; omega, fun h => by have := hG _ h; omega, Wf.zero, .slice none 0 0, .map none, heap_alloc_new w _, (fun h => by cases h), fun _ => ⟨⟨World.ownsRow_nil _ 0 _ 1, fun g hg => by cases hg⟩, .inl ⟨rfl, rfl⟩⟩⟩
theorem Pc.moreA {w : World} {B : Nat} {G : Nat → Prop} {s : St} (h : Pc w B G s) (o : Obj) : Pc (w.alloc o) B (fun k => G k ∨ k = w.heap.size) s := by
  refine h.guard_new (by simp) (fun k hk _ => (bl1 o).block k hk) ?_
  rintro k (hk | rfl)
  · exact ⟨by have := h.1 k hk; simp; omega, fun _ => hk⟩
  · exact ⟨by simp, fun hlt => absurd hlt (Nat.lt_irrefl _)⟩

end Go.Proofs.Ytgambbmonbhpnaa

namespace Go.Proofs.Ytgambbmonbhpnaa
open Go.RowKit Go.Maps
set_option linter.unusedSimpArgs false
set_option linter.unusedVariables false

theorem rns_snoc {l : List Rn} {k : Nat} (hk : k < l.length) (P : List Nat) : P ++ rnsE (l.take (k + 1)) = P ++ rnsE (l.take k) ++ be4 (l.getD k Rn.none).fr ++ be4 (l.getD k Rn.none).to ++ be2 (l.getD k Rn.none).gl := by
  rw [rn_snoc hk, rnsE_append, rnsE_one, rnE]
  simp only [List.append_assoc]
theorem rnk_len {l : List Rn} {n : Int} (h : foC l n = true) (k : Nat) : 2 + (rnsE (l.take k)).length ≤ 402 := by
  have h3 := (foC_iff.1 h).1
  rw [rnsE_len, List.length_take]
  omega
theorem be4LC (x : Int) : (be4 x).length = 4 := rfl
theorem be2LC (x : Int) : (be2 x).length = 2 := rfl

set_option maxHeartbeats 4000000 in
set_option maxRecDepth 100000 in
theorem cwriteC_any (S : Nat → Prop) (a : Option Addr) (ca : Nat) (l : List Rn) (n : Int) (w : World) (hl : Gr RnE S w a ca l) (hn : I64 n) :
    Calls Try.prog 15 #[.slice a l.length ca, .int .i64 n] w fun e w' => ∃ a' c', e = .returned (.tuple #[.slice a' (wrCB l n).length c', .int .i64 (wrCE l n)]) ∧ Rw 5 w.heap.size w' a' c' (wrCB l n) ∧ Below w.heap.size w w' := by
  have kl := hl.lenB
  have hf1 := cformC_any S a ca l n w hl hn
  cases hfo : foC l n with
  | false =>
    rw [hfo] at hf1
    have HN : Hid (_) := wrC_no (l := l) (n := n) (by unfold okC; rw [hfo, Bool.and_false])
    clear hfo
    go_enter Try.func15, Try.ntmps15
    go_wp2_with fail
    refine hf1.mono ?_
    rintro e u ⟨rfl, hb1⟩
    clear hf1
    go_wp2
    go_ret2
    exact ⟨none, 0, by rw [HN.out.1, HN.out.2]; rfl, by rw [HN.out.1]; exact Rw.nil _ _, hb1⟩
  | true =>
  rw [hfo] at hf1
  by_cases hbig : 65536 < n
  · have g1 : decide (65536 < n) = true := decide_eq_true hbig
    have HN : Hid (_) := wrC_no (l := l) (n := n) (by unfold okC; rw [decide_eq_false (by omega)]; rfl)
    clear hfo
    go_enter Try.func15, Try.ntmps15
    go_wp2_with fail
    refine hf1.mono ?_
    rintro e u ⟨rfl, hb1⟩
    clear hf1
    go_wp2
    go_ret2
    exact ⟨none, 0, by rw [HN.out.1, HN.out.2]; rfl, by rw [HN.out.1]; exact Rw.nil _ _, hb1⟩
  have g1 : decide (65536 < n) = false := decide_eq_false hbig
  have HFO : Hid (okC l n = true) := okC_iff.2 ⟨by omega, hfo⟩
  have hF1 := (foC_iff.1 hfo).1
  have HEL : Hid (_) := foC_el hfo
  have HTE : Hid (csB l = be2 ((l.length : Nat) : Int) ++ rnsE l) := rfl
  have HTK : Hid (∀ k, 2 + (rnsE (l.take k)).length ≤ 402) := rnk_len hfo
  clear hfo
  go_enter Try.func15, Try.ntmps15
  go_wp2_with fail
  refine hf1.mono ?_
  rintro e u ⟨rfl, hb1⟩
  have HL : Hid (Gr RnE (fun k => k < u.heap.size) u a ca l) := (hl.below hb1).wide (fun k _ h => h)
  have HBW : Hid (Below w.heap.size w u) := hb1
  have hP0 := pc_newA u (· < u.heap.size) (fun _ h => h)
  have hB0 := bl1 (w := u) (.cells #[.slice none 0 0, .int .i64 0, .map none, .bool false] 51)
  clear hl hf1 hb1
  go_wp2_with fail
  refine (put16_any u.heap.size _ _ (l.length : Int) _ hP0 ⟨by omega, by omega⟩ (by decide)).mono ?_
  rintro e u1 ⟨rfl, hP1, hK1⟩
  rw [show St.zero = ⟨[], [], false⟩ from rfl, put16A (by omega) (by omega), List.nil_append] at hP1
  have hB1 : Below u.heap.size u u1 := hB0.trans (hK1.below (fun k hk => hk))
  obtain ⟨Q, hQ⟩ : ∃ Q, be2 ((l.length : Nat) : Int) = Q := ⟨_, rfl⟩
  have HQL : Hid (Q.length = 2) := by show _ = _; rw [← hQ]; rfl
  rw [hQ] at hP1 HTE
  have hI : Pc u1 u.heap.size (· < u.heap.size) ⟨Q ++ rnsE (l.take 0), [], false⟩ := by
    rw [List.take_zero, rnsE, List.append_nil]
    exact hP1
  obtain ⟨B, hBB⟩ : ∃ g, u.heap.size = g := ⟨_, rfl⟩
  have HBB : Hid (u.heap.size = B) := hBB
  rw [hBB] at hI hB1 HL ⊢
  clear hP0 hK1 hB0 hP1 hQ hBB g1
  go_wp2
  go_loopw [25] (fun i wr => ∃ k : Nat, k ≤ l.length ∧ i = .int .i64 k ∧ Pc wr B (· < B) ⟨Q ++ rnsE (l.take k), [], false⟩ ∧ Below B u wr) (fun i _ => l.length - (intOf i).toNat)
  case atStart => exact ⟨0, Nat.zero_le _, rfl, hI, hB1⟩
  case round =>
    clear hI hB1
    obtain ⟨k, hk, rfl, hP, hB⟩ := hrel
    have hBs : B ≤ wr.heap.size := by have := hB.size; rw [HBB.out] at this; exact this
    have hBw : Below w.heap.size w wr := HBW.out.trans (hB.mono (by have := HBW.out.size; rw [HBB.out] at this; exact this))
    by_cases hkn : k < l.length
    · obtain ⟨b, off, ea, hb, hM, d0, d1, d2⟩ := HL.out.rn (by rw [HBB.out]; exact hB) k hkn
      obtain ⟨hE1, hE2, hE3, hE4, hE5⟩ := rnB_iff.1 (HEL.out k hkn)
      have HSJ : Hid (_) := rns_snoc hkn Q
      have hlk : (Q ++ rnsE (l.take k)).length ≤ 402 := by
        rw [List.length_append, HQL.out]
        exact HTK.out k
      obtain ⟨x, hx⟩ : ∃ x, l.getD k Rn.none = x := ⟨_, rfl⟩
      rw [hx] at hM d0 d1 d2 hE1 hE2 hE3 hE4 hE5 HSJ
      obtain ⟨b2, hb2⟩ : ∃ b2, Q ++ rnsE (l.take k) = b2 := ⟨_, rfl⟩
      rw [hb2] at hP HSJ hlk
      subst ea
      obtain ⟨m1, m2, m3⟩ := hM
      have i1 : (0 : Int) ≤ (k : Int) := by omega
      have i2 : (k : Int) < (l.length : Int) := by omega
      obtain ⟨V, hV, X0, hb0⟩ : ∃ V, V = wr.alloc (.cells #[.int .i64 x.fr, .int .i64 x.to, .int .i64 x.gl] 43) ∧ Bk 43 V wr.heap.size [.int .i64 x.fr, .int .i64 x.to, .int .i64 x.gl] ∧ Below wr.heap.size wr V := ⟨_, rfl, Bk.new _ _ _, bl1 _⟩
      have hP1 : Pc V B (fun k => k < B ∨ k = wr.heap.size) ⟨b2, [], false⟩ := by rw [hV]; exact hP.moreA _
      have hBV : Below B u V := hB.trans (hb0.mono hBs)
      obtain ⟨q0, q1, q2, -⟩ := X0.three
      obtain ⟨gt, hgt⟩ : ∃ g, wr.heap.size = g := ⟨_, rfl⟩
      have HGT : Hid (wr.heap.size = gt) := hgt
      clear hx hb2 hP
      go_upto_region 8 with fail
      rw [← hV]
      rw [hgt] at q0 q1 q2 hP1
      try rw [hgt]
      clear hV d0 d1 d2 hb0 hgt
      go_wp2_with fail
      refine (put32_any B _ _ x.fr _ hP1 m1 (by show b2.length + 4 ≤ _; omega)).mono ?_
      rintro e v1 ⟨rfl, hP2, hk2⟩
      rw [put32A (by omega) (by omega)] at hP2
      replace q1 := (hk2.cell (p := ⟨gt, 1, none⟩) (.inr rfl)).trans q1
      replace q2 := (hk2.cell (p := ⟨gt, 2, none⟩) (.inr rfl)).trans q2
      replace hBV := hBV.trans (hk2.below (fun k hk => .inl hk))
      clear q0 hk2 hP1
      go_wp2_with fail
      refine (put32_any B _ _ x.to _ hP2 m2 (by show (b2 ++ be4 x.fr).length + 4 ≤ _; rw [List.length_append, be4LC]; omega)).mono ?_
      rintro e v2 ⟨rfl, hP3, hk3⟩
      rw [put32A (by omega) (by omega)] at hP3
      replace q2 := (hk3.cell (p := ⟨gt, 2, none⟩) (.inr rfl)).trans q2
      replace hBV := hBV.trans (hk3.below (fun k hk => .inl hk))
      clear q1 hk3 hP2
      go_wp2_with fail
      refine (put16_any B _ _ x.gl _ hP3 m3 (by show (b2 ++ be4 x.fr ++ be4 x.to).length + 4 ≤ _; rw [List.length_append, List.length_append, be4LC, be4LC]; omega)).mono ?_
      rintro e v3 ⟨rfl, hP4, hk4⟩
      rw [put16A (by omega) (by omega), ← HSJ.out] at hP4
      have hB4 := hBV.trans (hk4.below (fun k hk => .inl hk))
      have hs4 : B ≤ v3.heap.size := by have := hB4.size; rw [HBB.out] at this; exact this
      have hP5 : Pc v3 B (· < B) ⟨Q ++ rnsE (l.take (k + 1)), [], false⟩ := hP4.guard (fun j hj => ⟨Nat.lt_of_lt_of_le hj hs4, .inl hj⟩)
      clear q2 hk4 hP3 hP4 hBV hB hBw X0 HSJ
      go_wp2
      go_roundw
      case rel => exact ⟨k + 1, by omega, by go_num, hP5, hB4⟩
      case measure => simp [intOf]; omega
    · obtain rfl : k = l.length := by omega
      have g4 : ¬ (l.length : Int) < (l.length : Int) := by omega
      rw [List.take_length, ← HTE.out] at hP
      have hL : (csB l).length ≤ 1048576 := by rw [csB_len]; omega
      have hall := all_any B _ _ _ hP hL
      have ea : allB ⟨csB l, [], false⟩ = csB l := by simp [allB]
      have eb : allE ⟨csB l, [], false⟩ = 0 := rfl
      rw [ea, eb] at hall
      have HN : Hid (_) := wrC_yes HFO.out
      have hbz := hBw.size
      clear hP ea eb
      go_wp2_with fail
      refine hall.mono ?_
      rintro e u9 ⟨a9, c9, rfl, hr9, hb9⟩
      have hB9 := hBw.trans (hb9.mono hBw.size)
      clear hall
      go_wp2
      go_ret2
      exact ⟨a9, c9, by rw [HN.out.1, HN.out.2]; rfl, by rw [HN.out.1]; exact hr9.mono hbz, hB9⟩

end Go.Proofs.Ytgambbmonbhpnaa

namespace Go.Proofs.Ytgambbmonbhpnaa
open Go.RowKit Go.Maps
set_option linter.unusedSimpArgs false
set_option linter.unusedVariables false

theorem info_b8 : (Try.prog.info? 5).map (fun i => (i.zero, i.size, i.bytes)) = some (some (.int .u8 0), 1, 1) := by kernel_rfl
def Bo (base : Nat) (w : World) (v : Value) (ys : List Nat) : Prop := Byt ys ∧ w.ownsRow base 5 1 v ys.length (ys.map Y)
theorem Bo.nil (base : Nat) (w : World) : Bo base w (.slice none 0 0) [] := ⟨Byt.nil, World.ownsRow_nil w base _ 1⟩
theorem Bo.slice {base : Nat} {w : World} {v : Value} {ys : List Nat} (h : Bo base w v ys) : ∃ a cap, v = .slice a ys.length cap ∧ Rb w a cap ys := by
  have h3 := h.2
  rcases h3.2 with ⟨e, h0⟩ | ⟨g, cap, cur, e, hb, hg, hc1, hc2, hc3, ht⟩
  · have : ys = [] := List.length_eq_zero_iff.1 h0
    subst this
    exact ⟨none, 0, e, Rb.nil _ _ _ (Nat.zero_le _) (fun _ => rfl)⟩
  · subst e
    exact ⟨_, _, rfl, Rw.rd (e := 5) (base := base) ⟨h.1, h3⟩⟩
theorem Bo.below {base : Nat} {w w' : World} {v : Value} {ys : List Nat} (h : Bo base w v ys) (hb : Below w.heap.size w w') : Bo base w' v ys := by
  obtain ⟨h1, h3⟩ := h
  refine ⟨h1, h3.1, ?_⟩
  rcases h3.2 with h0 | ⟨g, cap', cur, k1, k2, k3, k4⟩
  · exact .inl h0
  · exact .inr ⟨g, cap', cur, k1, k2, (hb.block g (Array.getElem?_eq_some_iff.1 k3).1).trans k3, k4⟩
theorem Bo.lo {base : Nat} {w : World} {v : Value} {ys : List Nat} (h : Bo base w v ys) {g : Nat} (hg : v.ownBlock = some g) : base ≤ g ∧ g < w.heap.size := World.ownsRow.lt h.2 g hg
/-- 'append(b, x)': x is laid in a block of its own first. -/
theorem wpList_append_b1 {w : World} {ops : Array Oper} {rest : List Oper} {o : Oper} {a : Act} {Q : Exit → Act → World → Prop}
    (hgd : o.guard = none) (s x : Operand) (ho : o.op = .call { callee := .builtin .append, args := #[s, x], argTypes := #[30, 30] })
    (base : Nat) (v : Value) (ys : List Nat) (hs : a.eval s = v) (hown : Bo base w v ys) (g : Nat) (z : Nat) (hx : a.eval x = .slice (some ⟨g, 0, none⟩) 1 1)
    (c0 : w.cell? ⟨g, 0, none⟩ = some (.int .u8 (z : Int))) (hz : z < 256) (hlen : ys.length + 1 ≤ 1000000) (hbase : base ≤ w.heap.size)
    (h : ∀ v' w', Bo base w' v' (ys ++ [z]) → w.grownBy w' v.ownBlock → wpList Try.prog ops Q rest (a.put o.dst v') w') : wpList Try.prog ops Q (o :: rest) a w := by
  obtain ⟨i0, hi, hz0, hz1, hz2⟩ := info_parts info_b8
  refine wpList_append_oneB hgd s x 30 ho base 5 i0 Try.underlying30 hi hz0 hz1 hz2 v ys.length ys hs hown.2 g z hx c0 (by omega) hbase ?_
  intro v' w' k1 k2 _
  exact h v' w' ⟨hown.1.append (fun y hy => by rw [List.mem_singleton.1 hy]; exact hz), by rw [List.length_append]; exact k1⟩ k2
/-- 'append(b, more...)'. -/
theorem wpList_append_bs {w : World} {ops : Array Oper} {rest : List Oper} {o : Oper} {a : Act} {Q : Exit → Act → World → Prop}
    (hgd : o.guard = none) (s x : Operand) (ho : o.op = .call { callee := .builtin .append, args := #[s, x], argTypes := #[30, 30] })
    (base : Nat) (v : Value) (ys : List Nat) (hs : a.eval s = v) (hown : Bo base w v ys) (ad : Option Addr) (c m : Nat) (zs : List Nat) (hm : m = zs.length) (hx : a.eval x = .slice ad m c)
    (hrd : Rb w ad c zs) (hlen : ys.length + zs.length ≤ 1000000) (hbase : base ≤ w.heap.size)
    (h : ∀ v' w', Bo base w' v' (ys ++ zs) → w.grownBy w' v.ownBlock → wpList Try.prog ops Q rest (a.put o.dst v') w') : wpList Try.prog ops Q (o :: rest) a w := by
  obtain ⟨i0, hi, hz0, hz1, hz2⟩ := info_parts info_b8
  refine wpList_append_rb hgd s x 30 ho base 5 i0 Try.underlying30 hi hz0 hz1 hz2 v ys.length ys hs hown.2 ad c m zs hx hm hrd (by omega) hbase ?_
  intro v' w' k1 k2 _
  exact h v' w' ⟨hown.1.append hrd.lim, by rw [List.length_append]; exact k1⟩ k2

end Go.Proofs.Ytgambbmonbhpnaa

namespace Go.Proofs.Ytgambbmonbhpnaa
open Go.RowKit Go.Maps
set_option linter.unusedSimpArgs false
set_option linter.unusedVariables false

/-- A row of ints and a row of bytes lie in two blocks. -/
theorem Io.ne_bo {base b2 : Nat} {w : World} {v vb : Value} {zs : List Int} {ys : List Nat} (h : Io base w v zs) (hb : Bo b2 w vb ys) {g : Nat} (h1 : v.ownBlock = some g) : some g ≠ vb.ownBlock := by
  intro e
  rcases h.2.2 with ⟨e0, _⟩ | ⟨g1, cap, cur, k1, k2, k3, k4⟩
  · rw [e0] at h1; cases h1
  · rcases hb.2.2 with ⟨e0, _⟩ | ⟨g2, cap2, cur2, m1, m2, m3, _⟩
    · rw [e0] at e; cases e
    · rw [m1] at e
      rw [k1] at h1
      cases h1
      cases e
      rw [k3] at m3
      cases m3
theorem Io.grownB {base b2 : Nat} {w w' : World} {v vb : Value} {zs : List Int} {ys : List Nat} (h : Io base w v zs) (hb : Bo b2 w vb ys) (hg : w.grownBy w' vb.ownBlock) : Io base w' v zs := by
  have hne := fun g => Io.ne_bo h hb (g := g)
  obtain ⟨h1, h3⟩ := h
  refine ⟨h1, h3.1, ?_⟩
  rcases h3.2 with h0 | ⟨g, cap, cur, k1, k2, k3, k4⟩
  · exact .inl h0
  · exact .inr ⟨g, cap, cur, k1, k2, (hg.block g (Array.getElem?_eq_some_iff.1 k3).1 (hne g (by rw [k1]; rfl))).trans k3, k4⟩
theorem Bo.grownI {base b2 : Nat} {w w' : World} {v vb : Value} {zs : List Int} {ys : List Nat} (hb : Bo b2 w vb ys) (h : Io base w v zs) (hg : w.grownBy w' v.ownBlock) : Bo b2 w' vb ys := by
  have hne := fun g => Io.ne_bo h hb (g := g)
  obtain ⟨h1, h3⟩ := hb
  refine ⟨h1, h3.1, ?_⟩
  rcases h3.2 with h0 | ⟨g, cap, cur, k1, k2, k3, k4⟩
  · exact .inl h0
  · refine .inr ⟨g, cap, cur, k1, k2, (hg.block g (Array.getElem?_eq_some_iff.1 k3).1 (fun e => ?_)).trans k3, k4⟩
    exact hne g e.symm (by rw [k1]; rfl)
/-- 'append(b, more...)', more not being empty. -/
theorem wp_append_bs {w : World} {o : Oper} {a : Act} {K : Act → World → Prop} {Q : Exit → Act → World → Prop}
    (s x : Operand) (ho : o.op = .call { callee := .builtin .append, args := #[s, x], argTypes := #[30, 30] })
    (base : Nat) (v : Value) (ys : List Nat) (hs : a.eval s = v) (hown : Bo base w v ys) (ad : Option Addr) (c m : Nat) (zs : List Nat) (hm : m = zs.length) (hne : zs ≠ []) (hx : a.eval x = .slice ad m c)
    (hrd : Rb w ad c zs) (hlen : ys.length + zs.length ≤ 1000000) (hbase : base ≤ w.heap.size)
    (h : ∀ v' w', Bo base w' v' (ys ++ zs) → w.grownBy w' v.ownBlock → K (a.put o.dst v') w') : o.wp Try.prog a w K Q := by
  obtain ⟨i0, hi, hz0, hz1, hz2⟩ := info_parts info_b8
  rcases hrd.2.2.2.2 with h0 | ⟨b, off, e', hb, hc⟩
  · exact absurd h0 hne
  subst e' hm
  refine wp_append_own_at w s x 30 ho base 5 i0 (.int .u8 0) 1 1 Try.underlying30 hi hz0 hz1 hz2 rfl (by decide) v ys.length (ys.map Y) hs hown.2 ⟨b, off, none⟩ zs.length c (zs.map Y) hx (by simp) ?_ (oneCell_Y zs) (by unfold maxLen; omega) (by omega) hbase ?_
  · intro j u hj
    have hjl : j < zs.length := by
      rcases Nat.lt_or_ge j zs.length with h1 | h1
      · exact h1
      · rw [List.getElem?_eq_none (by simpa using h1)] at hj; cases hj
    have hadd : (⟨b, off, none⟩ : Addr).add j = ⟨b, off + j, none⟩ := by unfold Addr.add; split <;> simp_all
    rw [hadd, hc j hjl]
    rw [List.getElem?_map, List.getElem?_eq_getElem hjl] at hj
    simp at hj; rw [← hj]; simp [List.getD, hjl, Y]
  · intro v' w' k1 k2 _ _
    exact h v' w' ⟨hown.1.append hrd.lim, by rw [List.map_append, List.length_append]; exact k1⟩ k2

end Go.Proofs.Ytgambbmonbhpnaa
