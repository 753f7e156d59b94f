/-
  fixed.Coordinate, Of14, Of16, Clamp, Field, To14: the walks.
  Fractions: integers as fractions, a fraction brought to -1 to 1, signs of differences (plain mathematics).
  Tents: whether they are formed, their parts, the parts of regions (plain mathematics).
  What is known of a slice of bytes in a world: where it is read (Rb), and where it is a row of the call's own (Rw). Two laws on append. Worlds that are as they were but for some blocks (Keep).
  Rows of ints: read (Ri), and of the call's own (Io), and how they grow.
  Rows of ints that are read, cut.
  How tents lie in a world: read (Tz), of the call's own (To), and how such a row grows by a list; numbers that are read, cut.
  Fields (plain mathematics).
-/
import Derived.Test.YtngmcghmniakeaaGreatZM5
import Derived.Test.YtngmcghmniakeaaGreatProg
import Derived.WalkKit
import Derived.ProofKit
import Derived.Below
import Derived.Laws.AppendOwnNone
import Derived.Maps.AppendAt
import Derived.Maps.OwnSet
set_option maxHeartbeats 1000000
set_option maxRecDepth 100000
set_option linter.unusedSimpArgs false
set_option linter.unusedVariables false
namespace Go.Proofs.YtngmcghmniakeaaGreat
open Go.RowKit
def crd (z : Int) : Bool := decide (-16384 ≤ z ∧ z ≤ 16384)
def fldN (z : Int) : Int := if -32768 ≤ z ∧ z ≤ 32767 then z else 0
def fldE (z : Int) : Int := if -32768 ≤ z ∧ z ≤ 32767 then 0 else 4
theorem wrap_i16 (z : Int) : IntKind.i16.wrap z = if 32768 ≤ z % 65536 then z % 65536 - 65536 else z % 65536 := by
 simp [IntKind.wrap, IntKind.bits, IntKind.signed]
theorem coord_any (z : Int) (w : World) : Calls Tryz.prog 117 #[.int .i64 z] w fun e w' => e = .returned (.bool (crd z)) ∧ w = w' := by
 by_cases h1 : -16384 ≤ z
 · go_enter Tryz.func117, Tryz.ntmps117
   go_wp2
   go_ret
   exact ⟨ret_bool (by simp [crd, h1]), rfl⟩
 · go_enter Tryz.func117, Tryz.ntmps117
   go_wp2
   go_ret
   exact ⟨ret_bool (by simp [crd]; omega), rfl⟩
theorem field_any (k : Nat) (q : Rat) (v : Value) (w : World) (h : Ct w v k q) (hk : k ≤ 100000000) (hk2 : 2 ≤ k) :
    Calls Tryz.prog 87 #[v] w fun e w' => e = .returned (.tuple #[.int .i64 (fldN (q + 1 / 2).floor), .int .i64 (fldE (q + 1 / 2).floor)]) ∧ Below w.heap.size w w' := by
 have hX := h
 obtain ⟨n, xs, ys, ⟨a, c, a', c', rfl, _, _⟩, hz1⟩ := h; clear hz1
 obtain ⟨z, hz⟩ : ∃ z, (q + 1 / 2).floor = z := ⟨_, rfl⟩
 rw [hz]
 have HZ : Hid ((q + 1 / 2).floor = z) := hz
 clear hz
 have e34 : (-32768 ≤ z ∧ z ≤ 32767 ∧ fldN z = z ∧ fldE z = 0 ∧ flB z = true ∧ flN z = z) ∨ (¬ (-32768 ≤ z ∧ z ≤ 32767) ∧ fldN z = 0 ∧ fldE z = 4) := by
  by_cases h1 : -32768 ≤ z ∧ z ≤ 32767
  · have e1 : flB z = true := by unfold flB; exact decide_eq_true (by omega)
    exact .inl ⟨h1.1, h1.2, by unfold fldN; rw [if_pos h1], by unfold fldE; rw [if_pos h1], e1, by unfold flN; rw [if_pos e1]⟩
  · exact .inr ⟨h1, by unfold fldN; rw [if_neg h1], by unfold fldE; rw [if_neg h1]⟩
 rcases e34 with ⟨h1, h2, e3, e4, e1, e2⟩ | ⟨h1, e3, e4⟩
 · rw [e3, e4]
   have E1 : Hid (flB z = true ∧ flN z = z) := ⟨e1, e2⟩
   clear e1 e2 e3 e4
   go_enter Tryz.func87, Tryz.ntmps87
   go_wp2_with fail
   refine (qround_any k q _ _ (hX.below (al1 _)) hk hk2).mono ?_
   rintro e u1 ⟨rfl, hb1⟩
   obtain ⟨B1, hbW⟩ := after1 hb1
   clear hb1 hX; rw [HZ.out, E1.out.1, E1.out.2]; go_wp2
   go_ret2
   exact ⟨rfl, hbW⟩
 rw [e3, e4]; clear e3 e4
 have h3 : z < -32768 ∨ 32767 < z := by omega
 clear h1
 by_cases h2 : flB z = true
 · have e2 : flN z = z := by unfold flN; rw [if_pos h2]
   have e5 : -9223372036854775808 ≤ z ∧ z < 9223372036854775808 := by unfold flB at h2; simpa using h2
   have E1 : Hid (flB z = true ∧ flN z = z) := ⟨h2, e2⟩
   have g1 : (wrap64 (IntKind.i16.wrap z) != z) = true := by
    rw [wrap_i16 z]
    simp
    unfold wrap64
    split <;> omega
   clear h2 e2
   go_enter Tryz.func87, Tryz.ntmps87
   go_wp2_with fail
   refine (qround_any k q _ _ (hX.below (al1 _)) hk hk2).mono ?_
   rintro e u1 ⟨rfl, hb1⟩
   obtain ⟨B1, hbW⟩ := after1 hb1
   clear hb1 hX; rw [HZ.out, E1.out.1, E1.out.2]; go_wp2
   go_ret2
   exact ⟨rfl, hbW⟩
 · have e1 : flB z = false := by simpa using h2
   have E1 : Hid (flB z = false) := e1
   clear h2 e1
   go_enter Tryz.func87, Tryz.ntmps87
   go_wp2_with fail
   refine (qround_any k q _ _ (hX.below (al1 _)) hk hk2).mono ?_
   rintro e u1 ⟨rfl, hb1⟩
   obtain ⟨B1, hbW⟩ := after1 hb1
   clear hb1 hX; rw [HZ.out, E1.out]
   generalize flN z = y
   go_wp2
   go_ret2
   exact ⟨rfl, hbW⟩
theorem wrapi64 {z : Int} (h1 : -9223372036854775808 ≤ z) (h2 : z ≤ 9223372036854775807) : IntKind.i64.wrap z = z := by
 simp only [IntKind.wrap, IntKind.bits, IntKind.signed]
 simp
 omega
structure Te where
 st : Int
 pk : Int
 en : Int
def Te.none : Te := ⟨0, 0, 0⟩
theorem crdT {z : Int} : crd z = true ↔ -16384 ≤ z ∧ z ≤ 16384 := by simp [crd]
def TfT (t : Te) : Prop := (-16384 ≤ t.st ∧ t.st ≤ 16384) ∧ (-16384 ≤ t.pk ∧ t.pk ≤ 16384) ∧ (-16384 ≤ t.en ∧ t.en ≤ 16384) ∧
 ((0 < t.pk ∧ 0 ≤ t.st ∧ t.st < t.pk ∧ (t.pk < t.en ∨ (t.pk = 16384 ∧ t.en = 16384))) ∨ (t.pk < 0 ∧ t.en ≤ 0 ∧ t.pk < t.en ∧ (t.st < t.pk ∨ (t.pk = -16384 ∧ t.st = -16384))) ∨ (t.pk = 0 ∧ t.st = 0 ∧ t.en = 0))
def tfB (t : Te) : Bool := decide ((-16384 ≤ t.st ∧ t.st ≤ 16384) ∧ (-16384 ≤ t.pk ∧ t.pk ≤ 16384) ∧ (-16384 ≤ t.en ∧ t.en ≤ 16384) ∧
 ((0 < t.pk ∧ 0 ≤ t.st ∧ t.st < t.pk ∧ (t.pk < t.en ∨ (t.pk = 16384 ∧ t.en = 16384))) ∨ (t.pk < 0 ∧ t.en ≤ 0 ∧ t.pk < t.en ∧ (t.st < t.pk ∨ (t.pk = -16384 ∧ t.st = -16384))) ∨ (t.pk = 0 ∧ t.st = 0 ∧ t.en = 0)))
theorem tfB_iff {t : Te} : tfB t = true ↔ TfT t := by unfold tfB TfT; exact decide_eq_true_iff
theorem tfB_no {t : Te} (h : ¬ TfT t) : tfB t = false := by
 rw [Bool.eq_false_iff]
 exact fun e => h (tfB_iff.1 e)
def paQ (t : Te) (c : Int) : Rat :=
 if tfB t && crd c then
  (if t.pk = 0 ∨ c = t.pk then 1 else if c ≤ t.st ∨ t.en ≤ c then 0 else if c < t.pk then ((c - t.st : Int) : Rat) / ((t.pk - t.st : Int) : Rat) else ((t.en - c : Int) : Rat) / ((t.en - t.pk : Int) : Rat))
 else 0
theorem paQ_no {t : Te} {c : Int} (h : ¬ (tfB t = true ∧ crd c = true)) : paQ t c = 0 := by
 rw [paQ, if_neg]; rw [Bool.and_eq_true]
 exact h
theorem paQ_yes {t : Te} {c : Int} (h1 : tfB t = true) (h2 : crd c = true) : paQ t c = if t.pk = 0 ∨ c = t.pk then 1 else if c ≤ t.st ∨ t.en ≤ c then 0 else if c < t.pk then ((c - t.st : Int) : Rat) / ((t.pk - t.st : Int) : Rat) else ((t.en - c : Int) : Rat) / ((t.en - t.pk : Int) : Rat) := by
 rw [paQ, if_pos (by rw [h1, h2]; rfl)]
theorem getT {l : List Te} {k : Nat} (hk : k < l.length) : l.getD k Te.none = l[k] := by simp [List.getD, hk]
theorem getT_mem {l : List Te} {k : Nat} (hk : k < l.length) : l.getD k Te.none ∈ l := by rw [getT hk]; exact List.getElem_mem hk
def alK (l : List Te) (cs : List Int) : Nat → Rat
 | 0 => 1
 | k + 1 => alK l cs k * paQ (l.getD k Te.none) (cs.getD k 0)
def alQ (l : List Te) (cs : List Int) : Rat := alK l cs l.length
theorem alK_succ (l : List Te) (cs : List Int) (k : Nat) : alK l cs (k + 1) = alK l cs k * paQ (l.getD k Te.none) (cs.getD k 0) := rfl
def rgB (l : List Te) (n : Int) : Bool := l.all tfB && decide ((l.length : Int) = n)
theorem allT {l : List Te} {p : Te → Bool} : l.all p = true ↔ ∀ j, j < l.length → p (l.getD j Te.none) = true := by
 rw [List.all_eq_true]
 constructor
 · exact fun h j hj => h _ (getT_mem hj)
 · intro h x hx
   obtain ⟨j, hj, e⟩ := List.getElem_of_mem hx
   have := h j hj
   rw [getT hj, e] at this
   exact this
def Y (n : Nat) : Value := .int .u8 (n : Int)
section
variable {P : Program} {w : World} {ops : Array Oper} {rest : List Oper} {o : Oper} {a : Act} {Q : Exit → Act → World → Prop}
end
structure Keep (G : Nat → Prop) (w w' : World) : Prop where
 os : w'.os = w.os
 tape : w'.tape = w.tape
 output : w'.output = w.output
 size : w.heap.size ≤ w'.heap.size
 block : ∀ k, G k → w'.heap[k]? = w.heap[k]?
theorem Keep.refl (G : Nat → Prop) (w : World) : Keep G w w := ⟨rfl, rfl, rfl, Nat.le_refl _, fun _ _ => rfl⟩
theorem Keep.trans {G : Nat → Prop} {a b c : World} (h : Keep G a b) (k : Keep G b c) : Keep G a c :=
 ⟨k.os.trans h.os, k.tape.trans h.tape, k.output.trans h.output, Nat.le_trans h.size k.size, fun i hi => (k.block i hi).trans (h.block i hi)⟩
theorem Keep.mono {G G' : Nat → Prop} {w w' : World} (h : Keep G w w') (hG : ∀ k, G' k → G k) : Keep G' w w' := ⟨h.os, h.tape, h.output, h.size, fun k hk => h.block k (hG k hk)⟩
theorem Keep.of_below {G : Nat → Prop} {w w' : World} {B : Nat} (h : Below B w w') (hG : ∀ k, G k → k < B) : Keep G w w' := ⟨h.os, h.tape, h.output, h.size, fun k hk => h.block k (hG k hk)⟩
theorem Keep.below {G : Nat → Prop} {w w' : World} {B : Nat} (h : Keep G w w') (hG : ∀ k, k < B → G k) : Below B w w' := ⟨h.os, h.tape, h.output, h.size, fun k hk => h.block k (hG k hk)⟩
theorem Keep.setCell {G : Nat → Prop} {a w : World} (h : Keep G a w) {p : Addr} (hp : ¬ G p.block) (u : Value) : Keep G a (w.setCell p u) :=
 h.trans ⟨rfl, rfl, rfl, by simp [World.setCell], fun k hk => Below.heap_setCell _ _ _ _ (fun e => hp (e ▸ hk))⟩
def I64 (n : Int) : Prop := -9223372036854775808 ≤ n ∧ n ≤ 9223372036854775807
theorem rt_bool {a b : Bool} (h : a = b) : Ending.returned (.bool a) = .returned (.bool b) := by rw [h]
theorem rt_int {a b : Int} {k : IntKind} (h : a = b) : Ending.returned (.int k a) = .returned (.int k b) := by rw [h]
theorem bl1 {w : World} (o : Obj) : Below w.heap.size w (w.alloc o) := (Below.refl _ _).alloc (Nat.le_refl _) o
theorem bl2 {w : World} (o o' : Obj) : Below w.heap.size w ((w.alloc o).alloc o') := (bl1 o).alloc (by simp) o'
open Go.Maps
def Ri (w : World) (a : Option Addr) (cap : Nat) (zs : List Int) : Prop :=
 (∀ z ∈ zs, I64 z) ∧ zs.length ≤ cap ∧ cap ≤ maxLen ∧
 (zs = [] ∨ ∃ b off, a = some ⟨b, off, none⟩ ∧ b < w.heap.size ∧ ∀ i, i < zs.length → w.cell? ⟨b, off + i, none⟩ = some (.int .i64 (zs.getD i 0)))
theorem Ri.at {w wr : World} {a : Option Addr} {cap : Nat} {zs : List Int} (h : Ri w a cap zs) (hb : Below w.heap.size w wr) (k : Nat) (hk : k < zs.length) :
    ∃ b off, a = some ⟨b, off, none⟩ ∧ b < w.heap.size ∧ wr.cell? ⟨b, off + k, none⟩ = some (.int .i64 (zs.getD k 0)) := by
 rcases h.2.2.2 with rfl | ⟨b, off, h1, h2, h3⟩
 · simp at hk
 · exact ⟨b, off, h1, h2, (hb.cell (p := ⟨b, off + k, none⟩) h2).trans (h3 k hk)⟩
theorem Ri.below {w w' : World} {a : Option Addr} {cap : Nat} {zs : List Int} (h : Ri w a cap zs) (hb : Below w.heap.size w w') : Ri w' a cap zs := by
 obtain ⟨h1, h2, h3, h4⟩ := h
 refine ⟨h1, h2, h3, ?_⟩
 rcases h4 with h4 | ⟨b, off, e, h5, h6⟩
 · exact .inl h4
 · exact .inr ⟨b, off, e, Nat.lt_of_lt_of_le h5 hb.size, fun i hi => (hb.cell (p := ⟨b, off + i, none⟩) h5).trans (h6 i hi)⟩
theorem Ri.nil (w : World) (a : Option Addr) (cap : Nat) (h : cap ≤ maxLen) : Ri w a cap [] := ⟨(fun z hz => by cases hz), Nat.zero_le _, h, .inl rfl⟩
theorem Ri.i64 {w : World} {a : Option Addr} {cap : Nat} {zs : List Int} (h : Ri w a cap zs) {k : Nat} (hk : k < zs.length) : I64 (zs.getD k 0) := by
 refine h.1 _ ?_
 rw [List.getD_eq_getElem?_getD, List.getElem?_eq_getElem hk]
 exact List.getElem_mem hk
theorem infoA_i64 : (Tryz.prog.info? 3).map (fun i => (i.zero, i.size, i.bytes)) = some (some (.int .i64 0), 1, 8) := by kernel_rfl
def Io (base : Nat) (w : World) (v : Value) (zs : List Int) : Prop := (∀ z ∈ zs, I64 z) ∧ w.ownsRow base 3 1 v zs.length (zs.map (Value.int .i64))
theorem Io.slice {base : Nat} {w : World} {v : Value} {zs : List Int} (h : Io base w v zs) : ∃ a cap, v = .slice a zs.length cap ∧ Ri w a cap zs := by
 obtain ⟨h1, h3⟩ := h
 rcases h3.2 with ⟨rfl, h0⟩ | ⟨g, cap, cur, rfl, hb, hg, hc1, hc2, hc3, ht⟩
 · have : zs = [] := List.length_eq_zero_iff.1 h0
   subst this
   exact ⟨none, 0, rfl, Ri.nil _ _ _ (Nat.zero_le _)⟩
 · refine ⟨_, cap, rfl, h1, hc1, hc2, .inr ⟨g, 0, rfl, (Array.getElem?_eq_some_iff.1 hg).1, fun i hi => ?_⟩⟩
   have := h3.cells (g := g) rfl i (.int .i64 (zs.getD i 0)) (by simp [List.getD, hi])
   have hadd : (⟨g, 0, none⟩ : Addr).add i = ⟨g, 0 + i, none⟩ := by unfold Addr.add; split <;> simp_all
   rw [hadd] at this
   exact this
theorem Io.below {base : Nat} {w w' : World} {v : Value} {zs : List Int} (h : Io base w v zs) (hb : Below w.heap.size w w') : Io base w' v zs := by
 obtain ⟨h1, h3⟩ := h
 refine ⟨h1, h3.1, ?_⟩
 rcases h3.2 with h0 | ⟨g, cap', cur, k1, k2, k3, k4⟩
 · exact .inl h0
 · exact .inr ⟨g, cap', cur, k1, k2, (hb.block g (Array.getElem?_eq_some_iff.1 k3).1).trans k3, k4⟩
theorem Io.lo {base : Nat} {w : World} {v : Value} {zs : List Int} (h : Io base w v zs) {g : Nat} (hg : v.ownBlock = some g) : base ≤ g := (World.ownsRow.lt h.2 g hg).1
theorem wpList_append_int {w : World} {ops : Array Oper} {rest : List Oper} {o : Oper} {a : Act} {Q : Exit → Act → World → Prop}
    (hgd : o.guard = none) (s x : Operand) (ho : o.op = .call { callee := .builtin .append, args := #[s, x], argTypes := #[29, 29] })
    (base : Nat) (v : Value) (zs : List Int) (hs : a.eval s = v) (hown : Io base w v zs) (g : Nat) (z : Int) (hx : a.eval x = .slice (some ⟨g, 0, none⟩) 1 1)
    (c0 : w.cell? ⟨g, 0, none⟩ = some (.int .i64 z)) (hz : I64 z) (hlen : zs.length + 1 ≤ 1000000) (hbase : base ≤ w.heap.size)
    (h : ∀ v' w', Io base w' v' (zs ++ [z]) → w.grownBy w' v.ownBlock → wpList Tryz.prog ops Q rest (a.put o.dst v') w') : wpList Tryz.prog ops Q (o :: rest) a w := by
 obtain ⟨i0, hi, hz0, hz1, hz2⟩ := info_parts infoA_i64
 refine wpList_append_own_at w hgd s x 29 ho base 3 i0 (.int .i64 0) 1 8 Tryz.underlying29 hi hz0 hz1 hz2 rfl (by decide) v zs.length (zs.map (Value.int .i64)) hs hown.2 ⟨g, 0, none⟩ 1 1 [.int .i64 z] hx rfl ?_ ?_ (by unfold maxLen; omega) (by omega) hbase ?_
 · intro j u hj
   match j, hj with
   | 0, hj => simp at hj; subst hj; simpa [Addr.add] using c0
 · intro u hu
   simp at hu
   subst hu
   rfl
 · intro v' w' k1 k2 _ _
   refine h v' w' ⟨fun s hs => ?_, ?_⟩ k2
   · rcases List.mem_append.1 hs with hs | hs
     · exact hown.1 s hs
     · rw [List.mem_singleton.1 hs]; exact hz
   · rw [List.map_append, List.length_append]
     exact k1
theorem Ri.lenB {w : World} {a : Option Addr} {cap : Nat} {zs : List Int} (h : Ri w a cap zs) : zs.length ≤ 9223372036854775807 := by
 have h1 := h.2.1
 have h2 := h.2.2.1
 unfold maxLen at h2
 omega
theorem Ri.take {w : World} {a : Option Addr} {cap : Nat} {zs : List Int} (h : Ri w a cap zs) (n : Nat) : Ri w a cap (zs.take n) := by
 refine ⟨fun z hz => h.1 z (List.mem_of_mem_take hz), Nat.le_trans (by simp; omega) h.2.1, h.2.2.1, ?_⟩
 rcases h.2.2.2 with h4 | ⟨b, off, e, h5, h6⟩
 · exact .inl (by rw [h4]; simp)
 · refine .inr ⟨b, off, e, h5, fun i hi => ?_⟩
   have hi' : i < n ∧ i < zs.length := by simp at hi; omega
   rw [h6 i hi'.2]
   simp [List.getD, List.getElem?_take, hi'.1]
theorem Ri.drop {w : World} {b off cap : Nat} {zs : List Int} (h : Ri w (some ⟨b, off, none⟩) cap zs) (n : Nat) (hn : n ≤ zs.length) : Ri w (some ⟨b, off + n, none⟩) (cap - n) (zs.drop n) := by
 refine ⟨fun z hz => h.1 z (List.mem_of_mem_drop hz), ?_, Nat.le_trans (Nat.sub_le _ _) h.2.2.1, ?_⟩
 · have := h.2.1
   simp
   omega
 · rcases h.2.2.2 with h4 | ⟨b', off', e, h5, h6⟩
   · exact .inl (by rw [h4]; simp)
   · cases e
     refine .inr ⟨b, off + n, rfl, h5, fun i hi => ?_⟩
     have hi' : n + i < zs.length := by simp at hi; omega
     rw [Nat.add_assoc, h6 (n + i) hi']
     simp [List.getD]
def Tw (t : Te) : Prop := I64 t.st ∧ I64 t.pk ∧ I64 t.en
def Tz (w : World) (a : Option Addr) (cap : Nat) (l : List Te) : Prop :=
 l.length ≤ cap ∧ cap ≤ maxLen ∧ (∀ t ∈ l, Tw t) ∧ (a = none → cap = 0) ∧
 ∀ i, i < l.length → ∃ b off, a = some ⟨b, off, none⟩ ∧ b < w.heap.size ∧ w.cell? ⟨b, off + i * 3, none⟩ = some (.int .i64 (l.getD i Te.none).st) ∧
  w.cell? ⟨b, off + i * 3 + 1, none⟩ = some (.int .i64 (l.getD i Te.none).pk) ∧ w.cell? ⟨b, off + i * 3 + 2, none⟩ = some (.int .i64 (l.getD i Te.none).en)
theorem Tz.at {w wr : World} {a : Option Addr} {cap : Nat} {l : List Te} (h : Tz w a cap l) (hb : Below w.heap.size w wr) (k : Nat) (hk : k < l.length) :
    ∃ b off, a = some ⟨b, off, none⟩ ∧ b < w.heap.size ∧ wr.cell? ⟨b, off + k * 3, none⟩ = some (.int .i64 (l.getD k Te.none).st) ∧
    wr.cell? ⟨b, off + k * 3 + 1, none⟩ = some (.int .i64 (l.getD k Te.none).pk) ∧ wr.cell? ⟨b, off + k * 3 + 2, none⟩ = some (.int .i64 (l.getD k Te.none).en) := by
 obtain ⟨b, off, h1, h2, h3, h4, h5⟩ := h.2.2.2.2 k hk
 exact ⟨b, off, h1, h2, (hb.cell (p := ⟨b, off + k * 3, none⟩) h2).trans h3, (hb.cell (p := ⟨b, off + k * 3 + 1, none⟩) h2).trans h4, (hb.cell (p := ⟨b, off + k * 3 + 2, none⟩) h2).trans h5⟩
theorem Tz.lenB {w : World} {a : Option Addr} {cap : Nat} {l : List Te} (h : Tz w a cap l) : l.length ≤ 9223372036854775807 := by
 have h1 := h.1
 have h2 := h.2.1
 unfold maxLen at h2
 omega
theorem alQ_zero {l : List Te} {cs : List Int} {j : Nat} (hj : j < l.length) (h : paQ (l.getD j Te.none) (cs.getD j 0) = 0) : alQ l cs = 0 := by
 have : ∀ k, j < k → alK l cs k = 0 := by
  intro k
  induction k with
  | zero => intro h1; omega
  | succ k ih =>
   intro h1
   rw [alK_succ]
   by_cases e : j = k
   · subst e
     rw [h, Rat.mul_zero]
   · rw [ih (by omega), Rat.zero_mul]
 exact this _ hj
def fdB (n : Int) : Bool := decide (-32768 ≤ n ∧ n ≤ 32767)
theorem fdB_iff {n : Int} : fdB n = true ↔ -32768 ≤ n ∧ n ≤ 32767 := by unfold fdB; exact decide_eq_true_iff
end Go.Proofs.YtngmcghmniakeaaGreat
