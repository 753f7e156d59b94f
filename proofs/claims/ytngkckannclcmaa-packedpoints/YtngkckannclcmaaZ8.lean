/-
  An append as an operation of a region that draws.
  Rows of bytes and rows of ints side by side; an append of bytes as an operation of a region that draws.
-/
import Derived.Test.YtngkckannclcmaaZ1
import Derived.Test.YtngkckannclcmaaZ7
import Derived.Test.YtngkckannclcmaaZ5
namespace Go.Proofs.Ytngkckannclcmaa
open Go.RowKit Go.Maps
set_option linter.unusedSimpArgs false
set_option linter.unusedVariables false

theorem wp_append_own_at {P : Program} (w : World) {o : Oper} {a : Act} {K : Act → World → Prop} {Q : Exit → Act → World → Prop} (s x : Operand) (t : TypeId)
    (ho : o.op = .call { callee := .builtin .append, args := #[s, x], argTypes := #[t, t] })
    (base : Nat) (e : TypeId) (i : TypeInfo) (z : Value) (size bytes : Nat) (ht : P.underlying t = some (.slice e)) (hi : P.info? e = some i) (hz : i.zero = some z)
    (hsize : i.size = size) (hby : i.bytes = bytes) (hzs : z.cells.size = size) (hsz : 0 < size)
    (v : Value) (n : Nat) (xs : List Value) (hs : a.eval s = v) (hown : w.ownsRow base e size v n xs)
    (ad : Addr) (m c : Nat) (news : List Value) (hx : a.eval x = .slice (some ad) m c) (hl : news.length = m * size) (hnews : ∀ j u, news[j]? = some u → w.cell? (ad.add j) = some u) (h1 : ∀ u ∈ news, u.oneCell' = true)
    (h63 : n + m ≤ maxLen) (hbytes : (n + m) * bytes ≤ 140737488355328) (hbase : base ≤ w.heap.size)
    (h : ∀ v' w', w'.ownsRow base e size v' (n + m) (xs ++ news) → w.grownBy w' v.ownBlock → (v' = .slice none 0 0 ↔ v = .slice none 0 0 ∧ m = 0) → (v'.ownBlock = v.ownBlock ∨ v'.ownBlock = some w.heap.size) → K (a.put o.dst v') w') :
    o.wp P a w K Q := by
  obtain ⟨v', w', hr, h2, h3, h4, h5⟩ := run_append_own_at (P := P) w base t o.type e i z size bytes ht hi hz hsize hby hzs hsz v n xs hown ad m c news hl hnews h1 h63 hbytes hbase
  unfold Oper.wp execOp
  simp only [ho, resolve, invoke, builtin, Sem.run_bind, Sem.run_pure, Result.andThen_ok, List.map_toArray, List.map_cons, List.map_nil, hs, hx, hr]
  exact h v' w' h2 h3 h4 h5

end Go.Proofs.Ytngkckannclcmaa

namespace Go.Proofs.Ytngkckannclcmaa
open Go.RowKit Go.Maps
set_option linter.unusedSimpArgs false
set_option linter.unusedVariables false

/-- A row of ints and a row of bytes lie in two blocks. -/
theorem Io.ne_bo {base b2 : Nat} {w : World} {v vb : Value} {zs : List Int} {ys : List Nat} (h : Io base w v zs) (hb : Bo b2 w vb ys) {g : Nat} (h1 : v.ownBlock = some g) : some g ≠ vb.ownBlock := by
  intro e
  rcases h.2.2 with ⟨e0, _⟩ | ⟨g1, cap, cur, k1, k2, k3, k4⟩
  · rw [e0] at h1; cases h1
  · rcases hb.2.2 with ⟨e0, _⟩ | ⟨g2, cap2, cur2, m1, m2, m3, _⟩
    · rw [e0] at e; cases e
    · rw [m1] at e
      rw [k1] at h1
      cases h1
      cases e
      rw [k3] at m3
      cases m3
theorem Io.grownB {base b2 : Nat} {w w' : World} {v vb : Value} {zs : List Int} {ys : List Nat} (h : Io base w v zs) (hb : Bo b2 w vb ys) (hg : w.grownBy w' vb.ownBlock) : Io base w' v zs := by
  have hne := fun g => Io.ne_bo h hb (g := g)
  obtain ⟨h1, h3⟩ := h
  refine ⟨h1, h3.1, ?_⟩
  rcases h3.2 with h0 | ⟨g, cap, cur, k1, k2, k3, k4⟩
  · exact .inl h0
  · exact .inr ⟨g, cap, cur, k1, k2, (hg.block g (Array.getElem?_eq_some_iff.1 k3).1 (hne g (by rw [k1]; rfl))).trans k3, k4⟩
theorem Bo.grownI {base b2 : Nat} {w w' : World} {v vb : Value} {zs : List Int} {ys : List Nat} (hb : Bo b2 w vb ys) (h : Io base w v zs) (hg : w.grownBy w' v.ownBlock) : Bo b2 w' vb ys := by
  have hne := fun g => Io.ne_bo h hb (g := g)
  obtain ⟨h1, h3⟩ := hb
  refine ⟨h1, h3.1, ?_⟩
  rcases h3.2 with h0 | ⟨g, cap, cur, k1, k2, k3, k4⟩
  · exact .inl h0
  · refine .inr ⟨g, cap, cur, k1, k2, (hg.block g (Array.getElem?_eq_some_iff.1 k3).1 (fun e => ?_)).trans k3, k4⟩
    exact hne g e.symm (by rw [k1]; rfl)
/-- 'append(b, more...)', more not being empty. -/
theorem wp_append_bs {w : World} {o : Oper} {a : Act} {K : Act → World → Prop} {Q : Exit → Act → World → Prop}
    (s x : Operand) (ho : o.op = .call { callee := .builtin .append, args := #[s, x], argTypes := #[23, 23] })
    (base : Nat) (v : Value) (ys : List Nat) (hs : a.eval s = v) (hown : Bo base w v ys) (ad : Option Addr) (c m : Nat) (zs : List Nat) (hm : m = zs.length) (hne : zs ≠ []) (hx : a.eval x = .slice ad m c)
    (hrd : Rb w ad c zs) (hlen : ys.length + zs.length ≤ 1000000) (hbase : base ≤ w.heap.size)
    (h : ∀ v' w', Bo base w' v' (ys ++ zs) → w.grownBy w' v.ownBlock → K (a.put o.dst v') w') : o.wp Try.prog a w K Q := by
  obtain ⟨i0, hi, hz0, hz1, hz2⟩ := info_parts info_b8
  rcases hrd.2.2.2.2 with h0 | ⟨b, off, e', hb, hc⟩
  · exact absurd h0 hne
  subst e' hm
  refine wp_append_own_at w s x 23 ho base 5 i0 (.int .u8 0) 1 1 Try.underlying23 hi hz0 hz1 hz2 rfl (by decide) v ys.length (ys.map Y) hs hown.2 ⟨b, off, none⟩ zs.length c (zs.map Y) hx (by simp) ?_ (oneCell_Y zs) (by unfold maxLen; omega) (by omega) hbase ?_
  · intro j u hj
    have hjl : j < zs.length := by
      rcases Nat.lt_or_ge j zs.length with h1 | h1
      · exact h1
      · rw [List.getElem?_eq_none (by simpa using h1)] at hj; cases hj
    have hadd : (⟨b, off, none⟩ : Addr).add j = ⟨b, off + j, none⟩ := by unfold Addr.add; split <;> simp_all
    rw [hadd, hc j hjl]
    rw [List.getElem?_map, List.getElem?_eq_getElem hjl] at hj
    simp at hj; rw [← hj]; simp [List.getD, hjl, Y]
  · intro v' w' k1 k2 _ _
    exact h v' w' ⟨hown.1.append hrd.lim, by rw [List.map_append, List.length_append]; exact k1⟩ k2

end Go.Proofs.Ytngkckannclcmaa
