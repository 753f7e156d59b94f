/-
  octets.Page: Now: the walk.
  Rows of ints beside a page (LayG).
  foundryref04.Page: how a page of the reference lies in a world (Ps); done, Big: the walks.
  Laws on append for the pages of the reference; a page whose bytes have grown.
  foundryref04.Page: put, Put8, Put16, Put32, PutBytes, PutTag, Pad, All: the walks.
  Pages: what is put, in plain words; new pages.
  Rows of ints kept beside a page; what is put, in plain words.
  Rows of bytes of the call's own (Bo), and how they grow.
-/
import Derived.Test.YtngmcghmniakeaaGreatZY23
import Derived.Test.YtngmcghmniakeaaGreatZY7
import Derived.Deep.OwnRows
import Derived.Lib.AppendStr
import Derived.Test.YtngmcghmniakeaaGreatZY11
import Derived.Test.YtngmcghmniakeaaGreatZY6
set_option maxHeartbeats 1000000
set_option maxRecDepth 100000
set_option linter.unusedSimpArgs false
set_option linter.unusedVariables false
namespace Go.Proofs.YtngmcghmniakeaaGreat
open Go.RowKit Go.Maps
theorem big1_any (x : Int) (w : World) (hx : 0 ≤ x) (hx2 : x ≤ 9223372036854775807) :
    Calls Tryz.prog 45 #[.int .i64 x, .int .i64 1] w fun e w' => ∃ a cap, e = .returned (.slice a (be1 x).length cap) ∧ Rb w' a cap (be1 x) ∧ Below w.heap.size w w' := by
 have hmk : ∀ w, (Instr.makeSlice 44 (.int .i64 1) (.int .i64 1)).run Tryz.prog w = .ok (.slice (some ⟨w.heap.size, 0, none⟩) 1 1) (w.alloc (.cells #[.int .u8 0] 5)) := by
  intro w
  have h := run_make_row' (P := Tryz.prog) 44 5 (.int .u8 0) 1 Tryz.underlying44 info_byte rfl .i64 .i64 1 (by decide) (by decide) w
  rw [show madeCells #[Value.int IntKind.u8 0] 1 = #[.int .u8 0] by kernel_rfl] at h
  exact h
 go_enter Tryz.func45, Tryz.ntmps45
 go_wp2
 refine wp_loop_rounds 2 ?_
 rw [rounds_succ]; go_wp2; rw [rounds_succ]; go_wp2
 go_ret
 refine ⟨_, _, rfl, rb_new w 5 (be1 x) _ ?_ (byt_be1 x) (by simp [be1, maxLen]), bl1 _⟩
 simp only [be1, List.map_cons, List.map_nil, Y]
 simp
 omega
theorem big2_any (x : Int) (w : World) (hx : 0 ≤ x) (hx2 : x ≤ 9223372036854775807) :
    Calls Tryz.prog 45 #[.int .i64 x, .int .i64 2] w fun e w' => ∃ a cap, e = .returned (.slice a (be2 x).length cap) ∧ Rb w' a cap (be2 x) ∧ Below w.heap.size w w' := by
 have hmk : ∀ w, (Instr.makeSlice 44 (.int .i64 2) (.int .i64 2)).run Tryz.prog w = .ok (.slice (some ⟨w.heap.size, 0, none⟩) 2 2) (w.alloc (.cells #[.int .u8 0, .int .u8 0] 5)) := by
  intro w
  have h := run_make_row' (P := Tryz.prog) 44 5 (.int .u8 0) 1 Tryz.underlying44 info_byte rfl .i64 .i64 2 (by decide) (by decide) w
  rw [show madeCells #[Value.int IntKind.u8 0] 2 = #[.int .u8 0, .int .u8 0] by kernel_rfl] at h
  exact h
 go_enter Tryz.func45, Tryz.ntmps45
 go_wp2
 refine wp_loop_rounds 3 ?_
 rw [rounds_succ]; go_wp2; rw [rounds_succ]; go_wp2; rw [rounds_succ]; go_wp2
 go_ret
 refine ⟨_, _, rfl, rb_new w 5 (be2 x) _ ?_ (byt_be2 x) (by simp [be2, maxLen]), bl1 _⟩
 simp only [be2, List.map_cons, List.map_nil, Y]
 simp
 omega
theorem put16A {bs : List Nat} {ws : List Int} {n : Int} (h1 : -32768 ≤ n) (h2 : n ≤ 65535) : (St.mk bs ws false).put16 n = ⟨bs ++ be2 n, ws, false⟩ := by simp [St.put16, h1, h2, St.app]
theorem pc_newA (w : World) (G : Nat → Prop) (hG : ∀ k, G k → k < w.heap.size) : Pc (w.alloc (.cells #[.slice none 0 0, .int .i64 0, .map none, .bool false] 96)) w.heap.size G St.zero := by
 refine ⟨fun k hk => by have := hG k hk; simp; omega, fun h => by have := hG _ h; omega, Wf.zero, .slice none 0 0, .map none, heap_alloc_new w _, (fun h => by cases h), fun _ => ⟨⟨World.ownsRow_nil _ 0 _ 1, fun g hg => by cases hg⟩, .inl ⟨rfl, rfl⟩⟩⟩
theorem Pc.moreA {w : World} {B : Nat} {G : Nat → Prop} {s : St} (h : Pc w B G s) (o : Obj) : Pc (w.alloc o) B (fun k => G k ∨ k = w.heap.size) s := by
 refine h.guard_new (by simp) (fun k hk _ => (bl1 o).block k hk) ?_
 rintro k (hk | rfl)
 · exact ⟨by have := h.1 k hk; simp; omega, fun _ => hk⟩
 · exact ⟨by simp, fun hlt => absurd hlt (Nat.lt_irrefl _)⟩
theorem Ri.kept {G : Nat → Prop} {w w' : World} {a : Option Addr} {cap : Nat} {zs : List Int} (h : Ri w a cap zs) (hk : Keep G w w') (hG : ∀ b o, a = some ⟨b, o, none⟩ → G b) : Ri w' a cap zs := by
 obtain ⟨h1, h2, h3, h4⟩ := h
 refine ⟨h1, h2, h3, ?_⟩
 rcases h4 with h4 | ⟨b, off, e, h5, h6⟩
 · exact .inl h4
 · exact .inr ⟨b, off, e, Nat.lt_of_lt_of_le h5 hk.size, fun i hi => (hk.cell (p := ⟨b, off + i, none⟩) (hG b off e)).trans (h6 i hi)⟩
theorem Ri.get {w : World} {a : Option Addr} {cap : Nat} {zs : List Int} (h : Ri w a cap zs) (k : Nat) (hk : k < zs.length) :
    ∃ b off, a = some ⟨b, off, none⟩ ∧ b < w.heap.size ∧ w.cell? ⟨b, off + k, none⟩ = some (.int .i64 (zs.getD k 0)) := h.at (Below.refl _ _) k hk
theorem put8A {bs : List Nat} {ws : List Int} {n : Int} (h1 : -128 ≤ n) (h2 : n ≤ 255) : (St.mk bs ws false).put8 n = ⟨bs ++ be1 n, ws, false⟩ := by simp [St.put8, h1, h2, St.app]
theorem flat_take {f : Int → List Nat} {l : List Int} {k : Nat} {x : Int} (hk : k < l.length) (hx : l.getD k 0 = x) : (l.take (k + 1)).flatMap f = (l.take k).flatMap f ++ f x := by
 have e : l.take (k + 1) = l.take k ++ [x] := by
  rw [List.take_add_one, List.getElem?_eq_getElem hk, ← hx]
  simp [List.getD, hk]
 rw [e, List.flatMap_append]
 simp
theorem flat_len {f : Int → List Nat} (h : ∀ x, (f x).length ≤ 2) (m : List Int) : (m.flatMap f).length ≤ 2 * m.length := by
 induction m with
 | nil => simp
 | cons x t ih => have := h x; rw [List.flatMap_cons, List.length_append, List.length_cons]; omega
theorem take_len2 {f : Int → List Nat} (h : ∀ x, (f x).length ≤ 2) (l : List Int) (k : Nat) : ((l.take k).flatMap f).length ≤ 2 * l.length := by
 have := flat_len h (l.take k)
 rw [List.length_take] at this
 omega
theorem getD_mem {l : List Int} {k : Nat} (h : k < l.length) : l.getD k 0 ∈ l := by
 rw [List.getD_eq_getElem?_getD, List.getElem?_eq_getElem h]
 exact List.getElem_mem h
theorem be1_nat {m : Nat} (h : m < 256) : be1 (m : Int) = [m] := by
 unfold be1
 rw [show ((m : Int) % 256).toNat = m by omega]
def slLen : Value → Nat
 | .slice _ n _ => n
 | _ => 0
theorem Pc.wider {w w' : World} {B : Nat} {G : Nat → Prop} {s : St} (h : Pc w B G s) (hb : Below w.heap.size w w') : Pc w' B (fun k => G k ∨ (w.heap.size ≤ k ∧ k < w'.heap.size)) s := by
 refine h.guard_new hb.size (fun k hk _ => hb.block k hk) ?_
 rintro k (hk | ⟨h1, h2⟩)
 · exact ⟨Nat.lt_of_lt_of_le (h.1 k hk) hb.size, fun _ => hk⟩
 · exact ⟨h2, fun h3 => by omega⟩
theorem all_B (ys : List Nat) : allB ⟨ys, [], false⟩ = ys := rfl
theorem all_E (ys : List Nat) : allE ⟨ys, [], false⟩ = 0 := rfl
theorem info_b8 : (Tryz.prog.info? 5).map (fun i => (i.zero, i.size, i.bytes)) = some (some (.int .u8 0), 1, 1) := by kernel_rfl
def Bo (base : Nat) (w : World) (v : Value) (ys : List Nat) : Prop := Byt ys ∧ w.ownsRow base 5 1 v ys.length (ys.map Y)
theorem Bo.nil (base : Nat) (w : World) : Bo base w (.slice none 0 0) [] := ⟨Byt.nil, World.ownsRow_nil w base _ 1⟩
theorem Bo.slice {base : Nat} {w : World} {v : Value} {ys : List Nat} (h : Bo base w v ys) : ∃ a cap, v = .slice a ys.length cap ∧ Rb w a cap ys := by
 have h3 := h.2
 rcases h3.2 with ⟨e, h0⟩ | ⟨g, cap, cur, e, hb, hg, hc1, hc2, hc3, ht⟩
 · have : ys = [] := List.length_eq_zero_iff.1 h0
   subst this
   exact ⟨none, 0, e, Rb.nil _ _ _ (Nat.zero_le _) (fun _ => rfl)⟩
 · subst e
   exact ⟨_, _, rfl, Rw.rd (e := 5) (base := base) ⟨h.1, h3⟩⟩
theorem Bo.below {base : Nat} {w w' : World} {v : Value} {ys : List Nat} (h : Bo base w v ys) (hb : Below w.heap.size w w') : Bo base w' v ys := by
 obtain ⟨h1, h3⟩ := h
 refine ⟨h1, h3.1, ?_⟩
 rcases h3.2 with h0 | ⟨g, cap', cur, k1, k2, k3, k4⟩
 · exact .inl h0
 · exact .inr ⟨g, cap', cur, k1, k2, (hb.block g (Array.getElem?_eq_some_iff.1 k3).1).trans k3, k4⟩
theorem Bo.lo {base : Nat} {w : World} {v : Value} {ys : List Nat} (h : Bo base w v ys) {g : Nat} (hg : v.ownBlock = some g) : base ≤ g ∧ g < w.heap.size := World.ownsRow.lt h.2 g hg
theorem wpList_append_b1 {w : World} {ops : Array Oper} {rest : List Oper} {o : Oper} {a : Act} {Q : Exit → Act → World → Prop}
    (hgd : o.guard = none) (s x : Operand) (ho : o.op = .call { callee := .builtin .append, args := #[s, x], argTypes := #[44, 44] })
    (base : Nat) (v : Value) (ys : List Nat) (hs : a.eval s = v) (hown : Bo base w v ys) (g : Nat) (z : Nat) (hx : a.eval x = .slice (some ⟨g, 0, none⟩) 1 1)
    (c0 : w.cell? ⟨g, 0, none⟩ = some (.int .u8 (z : Int))) (hz : z < 256) (hlen : ys.length + 1 ≤ 1000000) (hbase : base ≤ w.heap.size)
    (h : ∀ v' w', Bo base w' v' (ys ++ [z]) → w.grownBy w' v.ownBlock → wpList Tryz.prog ops Q rest (a.put o.dst v') w') : wpList Tryz.prog ops Q (o :: rest) a w := by
 obtain ⟨i0, hi, hz0, hz1, hz2⟩ := info_parts info_b8
 refine wpList_append_oneB hgd s x 44 ho base 5 i0 Tryz.underlying44 hi hz0 hz1 hz2 v ys.length ys hs hown.2 g z hx c0 (by omega) hbase ?_
 intro v' w' k1 k2 _
 exact h v' w' ⟨hown.1.append (fun y hy => by rw [List.mem_singleton.1 hy]; exact hz), by rw [List.length_append]; exact k1⟩ k2
theorem wpList_append_bs {w : World} {ops : Array Oper} {rest : List Oper} {o : Oper} {a : Act} {Q : Exit → Act → World → Prop}
    (hgd : o.guard = none) (s x : Operand) (ho : o.op = .call { callee := .builtin .append, args := #[s, x], argTypes := #[44, 44] })
    (base : Nat) (v : Value) (ys : List Nat) (hs : a.eval s = v) (hown : Bo base w v ys) (ad : Option Addr) (c m : Nat) (zs : List Nat) (hm : m = zs.length) (hx : a.eval x = .slice ad m c)
    (hrd : Rb w ad c zs) (hlen : ys.length + zs.length ≤ 1000000) (hbase : base ≤ w.heap.size)
    (h : ∀ v' w', Bo base w' v' (ys ++ zs) → w.grownBy w' v.ownBlock → wpList Tryz.prog ops Q rest (a.put o.dst v') w') : wpList Tryz.prog ops Q (o :: rest) a w := by
 obtain ⟨i0, hi, hz0, hz1, hz2⟩ := info_parts info_b8
 refine wpList_append_rb hgd s x 44 ho base 5 i0 Tryz.underlying44 hi hz0 hz1 hz2 v ys.length ys hs hown.2 ad c m zs hx hm hrd (by omega) hbase ?_
 intro v' w' k1 k2 _
 exact h v' w' ⟨hown.1.append hrd.lim, by rw [List.length_append]; exact k1⟩ k2
end Go.Proofs.YtngmcghmniakeaaGreat
