/-
  Rows of ints: read (Ri), and of the call's own (Io), and how they grow.
  chars.Map, chars.Chars: the walks.
  foundrylaw17.awake, small, fair: the walks.
-/
import Derived.Test.YtgambbmonbhpnaaZ1
import Derived.Test.YtgambbmonbhpnaaZ5
import Derived.WalkSmall
namespace Go.Proofs.Ytgambbmonbhpnaa
open Go.RowKit Go.Maps
set_option linter.unusedSimpArgs false
set_option linter.unusedVariables false

/-- Ints that are read. -/
def Ri (w : World) (a : Option Addr) (cap : Nat) (zs : List Int) : Prop :=
  (∀ z ∈ zs, I64 z) ∧ zs.length ≤ cap ∧ cap ≤ maxLen ∧
  (zs = [] ∨ ∃ b off, a = some ⟨b, off, none⟩ ∧ b < w.heap.size ∧ ∀ i, i < zs.length → w.cell? ⟨b, off + i, none⟩ = some (.int .i64 (zs.getD i 0)))
theorem Ri.at {w wr : World} {a : Option Addr} {cap : Nat} {zs : List Int} (h : Ri w a cap zs) (hb : Below w.heap.size w wr) (k : Nat) (hk : k < zs.length) :
    ∃ b off, a = some ⟨b, off, none⟩ ∧ b < w.heap.size ∧ wr.cell? ⟨b, off + k, none⟩ = some (.int .i64 (zs.getD k 0)) := by
  rcases h.2.2.2 with rfl | ⟨b, off, h1, h2, h3⟩
  · simp at hk
  · exact ⟨b, off, h1, h2, (hb.cell (p := ⟨b, off + k, none⟩) h2).trans (h3 k hk)⟩
theorem Ri.below {w w' : World} {a : Option Addr} {cap : Nat} {zs : List Int} (h : Ri w a cap zs) (hb : Below w.heap.size w w') : Ri w' a cap zs := by
  obtain ⟨h1, h2, h3, h4⟩ := h
  refine ⟨h1, h2, h3, ?_⟩
  rcases h4 with h4 | ⟨b, off, e, h5, h6⟩
  · exact .inl h4
  · exact .inr ⟨b, off, e, Nat.lt_of_lt_of_le h5 hb.size, fun i hi => (hb.cell (p := ⟨b, off + i, none⟩) h5).trans (h6 i hi)⟩
theorem Ri.nil (w : World) (a : Option Addr) (cap : Nat) (h : cap ≤ maxLen) : Ri w a cap [] := ⟨(fun z hz => by cases hz), Nat.zero_le _, h, .inl rfl⟩
theorem Ri.i64 {w : World} {a : Option Addr} {cap : Nat} {zs : List Int} (h : Ri w a cap zs) {k : Nat} (hk : k < zs.length) : I64 (zs.getD k 0) := by
  refine h.1 _ ?_
  rw [List.getD_eq_getElem?_getD, List.getElem?_eq_getElem hk]
  exact List.getElem_mem hk

theorem infoA_i64 : (Try.prog.info? 3).map (fun i => (i.zero, i.size, i.bytes)) = some (some (.int .i64 0), 1, 8) := by kernel_rfl
/-- A row of ints of the call's own. -/
def Io (base : Nat) (w : World) (v : Value) (zs : List Int) : Prop := (∀ z ∈ zs, I64 z) ∧ w.ownsRow base 3 1 v zs.length (zs.map (Value.int .i64))
theorem Io.nil (base : Nat) (w : World) : Io base w (.slice none 0 0) [] := ⟨(fun t ht => by cases ht), World.ownsRow_nil w base _ 1⟩
theorem Io.slice {base : Nat} {w : World} {v : Value} {zs : List Int} (h : Io base w v zs) : ∃ a cap, v = .slice a zs.length cap ∧ Ri w a cap zs := by
  obtain ⟨h1, h3⟩ := h
  rcases h3.2 with ⟨rfl, h0⟩ | ⟨g, cap, cur, rfl, hb, hg, hc1, hc2, hc3, ht⟩
  · have : zs = [] := List.length_eq_zero_iff.1 h0
    subst this
    exact ⟨none, 0, rfl, Ri.nil _ _ _ (Nat.zero_le _)⟩
  · refine ⟨_, cap, rfl, h1, hc1, hc2, .inr ⟨g, 0, rfl, (Array.getElem?_eq_some_iff.1 hg).1, fun i hi => ?_⟩⟩
    have := h3.cells (g := g) rfl i (.int .i64 (zs.getD i 0)) (by simp [List.getD, hi])
    have hadd : (⟨g, 0, none⟩ : Addr).add i = ⟨g, 0 + i, none⟩ := by unfold Addr.add; split <;> simp_all
    rw [hadd] at this
    exact this
theorem Io.below {base : Nat} {w w' : World} {v : Value} {zs : List Int} (h : Io base w v zs) (hb : Below w.heap.size w w') : Io base w' v zs := by
  obtain ⟨h1, h3⟩ := h
  refine ⟨h1, h3.1, ?_⟩
  rcases h3.2 with h0 | ⟨g, cap', cur, k1, k2, k3, k4⟩
  · exact .inl h0
  · exact .inr ⟨g, cap', cur, k1, k2, (hb.block g (Array.getElem?_eq_some_iff.1 k3).1).trans k3, k4⟩
theorem Io.lo {base : Nat} {w : World} {v : Value} {zs : List Int} (h : Io base w v zs) {g : Nat} (hg : v.ownBlock = some g) : base ≤ g := (World.ownsRow.lt h.2 g hg).1
/-- 'append(out, x)': x is laid in a block of its own first. -/
theorem wpList_append_int {w : World} {ops : Array Oper} {rest : List Oper} {o : Oper} {a : Act} {Q : Exit → Act → World → Prop}
    (hgd : o.guard = none) (s x : Operand) (ho : o.op = .call { callee := .builtin .append, args := #[s, x], argTypes := #[27, 27] })
    (base : Nat) (v : Value) (zs : List Int) (hs : a.eval s = v) (hown : Io base w v zs) (g : Nat) (z : Int) (hx : a.eval x = .slice (some ⟨g, 0, none⟩) 1 1)
    (c0 : w.cell? ⟨g, 0, none⟩ = some (.int .i64 z)) (hz : I64 z) (hlen : zs.length + 1 ≤ 1000000) (hbase : base ≤ w.heap.size)
    (h : ∀ v' w', Io base w' v' (zs ++ [z]) → w.grownBy w' v.ownBlock → wpList Try.prog ops Q rest (a.put o.dst v') w') : wpList Try.prog ops Q (o :: rest) a w := by
  obtain ⟨i0, hi, hz0, hz1, hz2⟩ := info_parts infoA_i64
  refine wpList_append_own_at w hgd s x 27 ho base 3 i0 (.int .i64 0) 1 8 Try.underlying27 hi hz0 hz1 hz2 rfl (by decide) v zs.length (zs.map (Value.int .i64)) hs hown.2 ⟨g, 0, none⟩ 1 1 [.int .i64 z] hx rfl ?_ ?_ (by unfold maxLen; omega) (by omega) hbase ?_
  · intro j u hj
    match j, hj with
    | 0, hj => simp at hj; subst hj; simpa [Addr.add] using c0
  · intro u hu
    simp at hu
    subst hu
    rfl
  · intro v' w' k1 k2 _ _
    refine h v' w' ⟨fun s hs => ?_, ?_⟩ k2
    · rcases List.mem_append.1 hs with hs | hs
      · exact hown.1 s hs
      · rw [List.mem_singleton.1 hs]; exact hz
    · rw [List.map_append, List.length_append]
      exact k1
theorem Ri.lenB {w : World} {a : Option Addr} {cap : Nat} {zs : List Int} (h : Ri w a cap zs) : zs.length ≤ 9223372036854775807 := by
  have h1 := h.2.1
  have h2 := h.2.2.1
  unfold maxLen at h2
  omega
/-- 'append(out, place...)'. -/
theorem wpList_append_ris {w : World} {ops : Array Oper} {rest : List Oper} {o : Oper} {a : Act} {Q : Exit → Act → World → Prop}
    (hgd : o.guard = none) (s x : Operand) (ho : o.op = .call { callee := .builtin .append, args := #[s, x], argTypes := #[27, 27] })
    (base : Nat) (v : Value) (zs : List Int) (hs : a.eval s = v) (hown : Io base w v zs) (pa : Option Addr) (pc n : Nat) (ps : List Int) (hn : n = ps.length) (hx : a.eval x = .slice pa n pc)
    (hp : Ri w pa pc ps) (hne : ps ≠ []) (hlen : zs.length + ps.length ≤ 1000000) (hbase : base ≤ w.heap.size)
    (h : ∀ v' w', Io base w' v' (zs ++ ps) → w.grownBy w' v.ownBlock → wpList Try.prog ops Q rest (a.put o.dst v') w') : wpList Try.prog ops Q (o :: rest) a w := by
  subst hn
  obtain ⟨i0, hi, hz0, hz1, hz2⟩ := info_parts infoA_i64
  rcases hp.2.2.2 with h0 | ⟨b, off, rfl, hb, hc⟩
  · exact absurd h0 hne
  refine wpList_append_own_at w hgd s x 27 ho base 3 i0 (.int .i64 0) 1 8 Try.underlying27 hi hz0 hz1 hz2 rfl (by decide) v zs.length (zs.map (Value.int .i64)) hs hown.2 ⟨b, off, none⟩ ps.length pc (ps.map (Value.int .i64)) hx (by simp) ?_ ?_ (by unfold maxLen; omega) (by omega) hbase ?_
  · intro j u hj
    have hjl : j < ps.length := by
      rcases Nat.lt_or_ge j ps.length with h1 | h1
      · exact h1
      · rw [List.getElem?_eq_none (by simpa using h1)] at hj; cases hj
    have hadd : (⟨b, off, none⟩ : Addr).add j = ⟨b, off + j, none⟩ := by unfold Addr.add; split <;> simp_all
    rw [hadd, hc j hjl]
    rw [List.getElem?_map, List.getElem?_eq_getElem hjl] at hj
    simp at hj
    rw [← hj]
    simp [List.getD, hjl]
  · intro u hu
    obtain ⟨z, _, rfl⟩ := List.mem_map.1 hu
    rfl
  · intro v' w' k1 k2 _ _
    refine h v' w' ⟨fun s hs => ?_, ?_⟩ k2
    · rcases List.mem_append.1 hs with hs | hs
      · exact hown.1 s hs
      · exact hp.1 s hs
    · rw [List.map_append, List.length_append]
      exact k1
/-- A row of ints of the call's own that isn't empty, and a store into it. -/
theorem Io.own {base : Nat} {w : World} {v : Value} {zs : List Int} (h : Io base w v zs) (hne : zs ≠ []) :
    ∃ g cap, v = .slice (some ⟨g, 0, none⟩) zs.length cap ∧ base ≤ g ∧ g < w.heap.size ∧ zs.length ≤ cap ∧ (∀ k, k < zs.length → w.cell? ⟨g, k, none⟩ = some (.int .i64 (zs.getD k 0))) ∧ (∀ k, w.frozen? ⟨g, k, none⟩ = false) ∧
      ∀ k z, k < zs.length → I64 z → Io base (w.setCell ⟨g, k, none⟩ (.int .i64 z)) v (zs.set k z) := by
  obtain ⟨h1, h3⟩ := h
  rcases h3.2 with ⟨rfl, h0⟩ | ⟨g, cap, cur, rfl, hb, hg, hc1, hc2, hc3, ht⟩
  · exact absurd (List.length_eq_zero_iff.1 h0) hne
  · refine ⟨g, cap, rfl, hb, (Array.getElem?_eq_some_iff.1 hg).1, hc1, fun k hk => ?_, fun k => frozen_of_row w g k _ _ hg, fun k z hk hz => ⟨fun s hs => ?_, ?_⟩⟩
    · have := h3.cells (g := g) rfl k (.int .i64 (zs.getD k 0)) (by simp [List.getD, hk])
      have hadd : (⟨g, 0, none⟩ : Addr).add k = ⟨g, 0 + k, none⟩ := by unfold Addr.add; split <;> simp_all
      rw [hadd, Nat.zero_add] at this
      exact this
    · rcases List.mem_or_eq_of_mem_set hs with hs | hs
      · exact h1 s hs
      · rw [hs]; exact hz
    · have hset := heap_setCell_same w g k cur 3 (.int .i64 z) hg
      refine ⟨by simp, .inr ⟨g, cap, _, by rw [List.length_set], hb, hset, by simpa using hc1, hc2, ?_, ?_⟩⟩
      · simpa using hc3
      · simp only [List.length_set, Nat.mul_one] at ht ⊢
        rw [List.map_set, ← ht]
        simp [List.take_set]

end Go.Proofs.Ytgambbmonbhpnaa

namespace Go.Proofs.Ytgambbmonbhpnaa
open Go.RowKit Go.Maps
set_option linter.unusedSimpArgs false
set_option linter.unusedVariables false

theorem glR_i64 {c : Int} : ∀ {l : List Rn}, NoR l c → I64 (glR c l) := by
  intro l
  induction l with
  | nil => intro _; exact ⟨(by decide : (-9223372036854775808 : Int) ≤ 0), (by decide : (0 : Int) ≤ 9223372036854775807)⟩
  | cons x l ih =>
    intro h
    rw [glR]
    by_cases hx : inR x c = true
    · rw [if_pos hx]; exact (h 0 (by simp) hx).2
    · rw [if_neg hx]; exact ih (fun k hk => h (k + 1) (by simpa using hk))
theorem Io.mono {b b2 : Nat} {w : World} {v : Value} {zs : List Int} (h : Io b w v zs) (hb : b2 ≤ b) : Io b2 w v zs := ⟨h.1, ownsRow_monoB h.2 hb⟩
theorem Io.step {b g : Nat} {w : World} {v : Value} {zs : List Int} (h : Io b w v zs) (hb : g < b) (s : ByteArray) (q : Nat) : Io b (stepIt w g s q) v zs := by
  obtain ⟨h1, h3⟩ := h
  refine ⟨h1, h3.1, ?_⟩
  rcases h3.2 with h0 | ⟨g', cap, cur, k1, k2, k3, k4⟩
  · exact .inl h0
  · exact .inr ⟨g', cap, cur, k1, k2, (stepIt_other w g s q g' (by omega)).trans k3, k4⟩
theorem mp_end {l : List Rn} {s : ByteArray} {zs : List Int} {pos : Nat} (h : mpC l (sb s) = zs ++ mpC l ((sb s).drop pos)) (hp : ¬ pos < s.size) : mpC l (sb s) = zs := by
  have : (sb s).drop pos = [] := List.drop_eq_nil_of_le (by rw [sb_size]; omega)
  rw [this, mpC_nil, List.append_nil] at h
  exact h
theorem mp_len {l : List Rn} {s : ByteArray} {zs : List Int} {pos : Nat} (h : mpC l (sb s) = zs ++ mpC l ((sb s).drop pos)) : zs.length ≤ s.size := by
  have h1 := mpC_len l (sb s)
  rw [h, List.length_append, sb_size] at h1
  omega
theorem mp_more {l : List Rn} {s : ByteArray} {zs : List Int} {pos : Nat} (h : mpC l (sb s) = zs ++ mpC l ((sb s).drop pos)) (hp : pos < s.size) : mpC l (sb s) = (zs ++ [glR ((dcN ((sb s).drop pos)).1 : Int) l]) ++ mpC l ((sb s).drop (pos + (dcN ((sb s).drop pos)).2)) := by
  have hne : (sb s).drop pos ≠ [] := fun e => by
    have := congrArg List.length e
    rw [List.length_drop, sb_size] at this
    simp at this
    omega
  rw [h, mpC_cons hne, List.drop_drop, List.append_assoc]
  rfl

set_option maxHeartbeats 4000000 in
set_option maxRecDepth 100000 in
theorem cmap_any (S : Nat → Prop) (a : Option Addr) (ca : Nat) (l : List Rn) (s : ByteArray) (w : World) (hl : Gr RnE S w a ca l) (hs : s.size ≤ 100000) (hno : ∀ c : Int, 0 ≤ c → c ≤ 1114111 → NoR l c) :
    Calls Try.prog 13 #[.slice a l.length ca, .string s] w fun e w' => ∃ v, e = .returned v ∧ Io w.heap.size w' v (mpC l (sb s)) ∧ Below w.heap.size w w' := by
  have kl := hl.lenB
  have HL : Hid (Gr RnE S w a ca l) := hl
  have HNO : Hid (∀ c : Int, 0 ≤ c → c ≤ 1114111 → NoR l c) := hno
  have hit0 : It (w.iter s 0) w.heap.size s 0 := It.new w s
  have hB0 : Below w.heap.size w (w.iter s 0) := bl1 _
  clear hl hno
  go_enter Try.func13, Try.ntmps13
  go_wp2
  go_loopw [5] (fun v wr => ∃ (pos : Nat) (zs : List Int), It wr w.heap.size s pos ∧ Hid (mpC l (sb s) = zs ++ mpC l ((sb s).drop pos)) ∧ Io (w.heap.size + 1) wr v zs ∧ Below w.heap.size w wr) (fun _ wr => s.size - wr.iterPos w.heap.size)
  case atStart => exact ⟨0, [], hit0, (rfl : mpC l (sb s) = [] ++ mpC l ((sb s).drop 0)), Io.nil _ _, hB0⟩
  case round =>
    clear hit0 hB0
    obtain ⟨pos, zs, hit, HE, hIo, hB⟩ := hrel
    obtain ⟨a5, c5, rfl, hri⟩ := hIo.slice
    have hzl := mp_len HE.out
    by_cases hlt : pos < s.size
    · have hnx : ∀ ty, (Instr.next (.pointer (some ⟨w.heap.size, 0, none⟩)) true ty).run Try.prog wr = _ := fun ty => run_next_at ty hit hlt
      obtain ⟨hK, hR⟩ := dcN_b ((sb s).drop pos)
      have HE2 : Hid (_) := mp_more HE.out hlt
      have hit2 := hit.step (pos + (dcN ((sb s).drop pos)).2)
      have hB2 := stepIt_below s (pos + (dcN ((sb s).drop pos)).2) hB (Nat.le_refl _)
      have hIo2 := hIo.step (Nat.lt_succ_self _) s (pos + (dcN ((sb s).drop pos)).2)
      have hms : wr.iterPos w.heap.size = pos := iterPos_of hit
      have HMS : Hid (wr.iterPos w.heap.size = pos) := hms
      obtain ⟨K, hKK⟩ : ∃ K, (dcN ((sb s).drop pos)).2 = K := ⟨_, rfl⟩
      rw [hKK] at hnx hK HE2 hit2 hB2 hIo2
      obtain ⟨z, hz⟩ : ∃ z : Int, ((dcN ((sb s).drop pos)).1 : Int) = z := ⟨_, rfl⟩
      rw [hz] at hnx HE2
      have hz0 : 0 ≤ z := by omega
      have hz1 : z ≤ 1114111 := by omega
      obtain ⟨U, hU⟩ : ∃ U, stepIt wr w.heap.size s (pos + K) = U := ⟨_, rfl⟩
      rw [hU] at hnx hit2 hB2 hIo2
      have HI : Hid (I64 (glR z l)) := glR_i64 (HNO.out z hz0 hz1)
      have hgl := cglyph_any S a ca l z U (HL.out.below hB2) ⟨by omega, by omega⟩ (HNO.out z hz0 hz1)
      obtain ⟨y, hy⟩ : ∃ y, glR z l = y := ⟨_, rfl⟩
      rw [hy] at HI hgl HE2
      have HIT : Hid (It U w.heap.size s (pos + K)) := hit2
      have HLE : Hid (pos < s.size ∧ 1 ≤ K) := ⟨hlt, hK⟩
      clear hz hU hKK hR hms hy hit hB hIo hri hit2 hK hlt HE
      go_wp2_with fail
      refine hgl.mono ?_
      rintro e u2 ⟨rfl, hb⟩
      have hT2 := hIo2.below hb
      have hB3 := hB2.trans (hb.mono hB2.size)
      have HIT2 : Hid (It u2 w.heap.size s (pos + K)) := HIT.out.below hb
      clear hgl hb hIo2 hB2 HIT
      have hT5 := hT2.below (bl1 (.cells #[.int .i64 y] 3))
      have hN := heap_alloc_new u2 (.cells #[.int .i64 y] 3)
      have n0 := cell_of_row _ u2.heap.size 0 _ _ (0, 0) hN
      have HIT3 : Hid (It (u2.alloc (.cells #[.int .i64 y] 3)) w.heap.size s (pos + K)) := HIT2.out.below (bl1 _)
      have hlt3 := HIT2.out.lt
      have hbs : w.heap.size + 1 ≤ (u2.alloc (.cells #[.int .i64 y] 3)).heap.size := by simp; omega
      have hll : zs.length + 1 ≤ 1000000 := by omega
      have hB5 : Below w.heap.size w (u2.alloc (.cells #[.int .i64 y] 3)) := hB3.alloc hB3.size _
      clear hN
      go_wp2_with (at_builtin; refine wpList_append_int rfl _ _ rfl (w.heap.size + 1) _ zs rfl hT5 u2.heap.size y rfl n0 HI.out hll hbs ?_)
      intro v' w9 hT9 hgrow
      have hB9 : Below w.heap.size w w9 := hB5.grown hgrow hB5.size (fun k hk => by have := hT5.lo hk; omega)
      have hit9 : It w9 w.heap.size s (pos + K) := HIT3.out.kept (hgrow.block w.heap.size (by simp; omega) (fun e => by have := hT5.lo e.symm; omega))
      clear hgrow hT5 n0 hbs hB5 hB3 hT2 HIT3 HIT2
      go_wp2
      go_roundw
      case rel => exact ⟨pos + K, zs ++ [y], hit9, HE2, hT9, hB9⟩
      case measure =>
        have h1 := HLE.out
        have h2 := HMS.out
        rw [iterPos_of hit9, h2]
        omega
    · have hnx : ∀ ty, (Instr.next (.pointer (some ⟨w.heap.size, 0, none⟩)) true ty).run Try.prog wr = _ := fun ty => run_next_stop ty hit hlt
      have HF : Hid (mpC l (sb s) = zs) := mp_end HE.out hlt
      clear HE hit
      go_wp2
      go_ret
      exact ⟨_, rfl, by rw [HF.out]; exact hIo.mono (by omega), hB⟩

theorem chC_no {l : List Rn} {g : Int} (h : foC l 65536 = false) : chC l g = [] := by unfold chC; rw [h]; rfl
theorem chC_yes {l : List Rn} {g : Int} (h : foC l 65536 = true) : chC l g = chK g l := by unfold chC; rw [h, if_pos rfl]
theorem chK_no {g : Int} {l : List Rn} {k : Nat} (hk : k < l.length) (h : hasG (l.getD k Rn.none) g = false) : chK g (l.take (k + 1)) = chK g (l.take k) := by rw [chK_step hk, h, if_neg (by decide), List.append_nil]
theorem chK_yes {g : Int} {l : List Rn} {k : Nat} (hk : k < l.length) (h : hasG (l.getD k Rn.none) g = true) : chK g (l.take (k + 1)) = chK g (l.take k) ++ [(l.getD k Rn.none).fr + (g - (l.getD k Rn.none).gl)] := by rw [chK_step hk, h, if_pos rfl]
theorem chT_len (g : Int) (l : List Rn) (k : Nat) (h : l.length ≤ 40) : (chK g (l.take k)).length ≤ 40 := by
  have h1 := chK_len g (l.take k)
  rw [List.length_take] at h1
  omega

set_option maxHeartbeats 4000000 in
set_option maxRecDepth 100000 in
theorem cchars_any (S : Nat → Prop) (a : Option Addr) (ca : Nat) (l : List Rn) (c : Int) (w : World) (hl : Gr RnE S w a ca l) (hc : I64 c) :
    Calls Try.prog 23 #[.slice a l.length ca, .int .i64 c] w fun e w' => ∃ v, e = .returned v ∧ Io w.heap.size w' v (chC l c) ∧ Below w.heap.size w w' := by
  have kl := hl.lenB
  obtain ⟨hc1, hc2⟩ := hc
  have hfo := cformC_any S a ca l 65536 w hl ⟨by decide, by decide⟩
  cases hf : foC l 65536 with
  | false =>
    rw [hf] at hfo
    have HF : Hid (chC l c = []) := chC_no hf
    clear hf
    go_enter Try.func23, Try.ntmps23
    go_wp2_with fail
    refine hfo.mono ?_
    rintro e u ⟨rfl, hb⟩
    clear hfo
    go_wp2
    go_ret
    exact ⟨_, rfl, by rw [HF.out]; exact Io.nil _ _, hb⟩
  | true =>
  rw [hf] at hfo
  have HC : Hid (chC l c = chK c l) := chC_yes hf
  have HEL : Hid (_) := foC_el hf
  have HTL : Hid (∀ k, (chK c (l.take k)).length ≤ 40) := fun k => chT_len c l k (foC_iff.1 hf).1
  clear hf
  go_enter Try.func23, Try.ntmps23
  go_wp2_with fail
  refine hfo.mono ?_
  rintro e u ⟨rfl, hb⟩
  have HL : Hid (Gr RnE S u a ca l) := hl.below hb
  have HBW : Hid (Below w.heap.size w u) := hb
  clear hfo hl hb
  go_wp2
  go_loopw [5, 13] (fun v i wr => ∃ (k : Nat), k ≤ l.length ∧ i = .int .i64 k ∧ Io u.heap.size wr v (chK c (l.take k)) ∧ Below u.heap.size u wr) (fun _ i _ => l.length - (intOf i).toNat)
  case atStart => exact ⟨0, Nat.zero_le _, rfl, Io.nil _ _, Below.refl _ _⟩
  case round =>
    obtain ⟨k, hk, rfl, hIo, hBu⟩ := hrel
    obtain ⟨a5, c5, rfl, hri⟩ := hIo.slice
    by_cases hkn : k < l.length
    · obtain ⟨b1, off, ea, hb1, hM, c0, c1, c2⟩ := HL.out.rn hBu k hkn
      subst ea
      have hEl := rnB_iff.1 (HEL.out k hkn)
      have HNO : Hid (_) := chK_no (g := c) hkn
      have HYE : Hid (_) := chK_yes (g := c) hkn
      have hzl := HTL.out k
      obtain ⟨x, hx⟩ : ∃ x, l.getD k Rn.none = x := ⟨_, rfl⟩
      rw [hx] at hM c0 c1 c2 HNO HYE hEl
      obtain ⟨⟨m1, m2⟩, ⟨m3, m4⟩, ⟨m5, m6⟩⟩ := hM
      obtain ⟨e1, e2, e3, e4, e5⟩ := hEl
      have i1 : (0 : Int) ≤ (k : Int) := by omega
      have i2 : (k : Int) < (l.length : Int) := by omega
      obtain ⟨U, hU, XG, hbU⟩ : ∃ U, U = wr.alloc (.cells #[.int .i64 x.fr, .int .i64 x.to, .int .i64 x.gl] 43) ∧ Bk 43 U wr.heap.size [.int .i64 x.fr, .int .i64 x.to, .int .i64 x.gl] ∧ Below wr.heap.size wr U := ⟨_, rfl, Bk.new _ _ _, bl1 _⟩
      have hIU := hIo.below hbU
      have hBuU := hBu.trans (hbU.mono hBu.size)
      obtain ⟨q0, q1, q2, -⟩ := XG.three
      obtain ⟨zs, hzs⟩ : ∃ zs, chK c (l.take k) = zs := ⟨_, rfl⟩
      rw [hzs] at hIU HNO HYE hzl ⊢
      go_upto_region 7 with fail
      rw [← hU]
      clear hU c0 c1 c2 hx hbU hIo hBu hri hzs
      by_cases f1 : x.gl ≤ c
      rotate_left
      · have d1 : decide (x.gl ≤ c) = false := decide_eq_false f1
        have HN : Hid (_) := HNO.out (by unfold hasG; exact decide_eq_false (fun h => f1 h.1))
        clear HNO HYE
        go_wp2
        go_roundw
        case rel => exact ⟨k + 1, by omega, by go_num, by rw [HN.out]; exact hIU, hBuU⟩
        case measure => simp [intOf]; omega
      have d1 : decide (x.gl ≤ c) = true := decide_eq_true f1
      by_cases f2 : c ≤ x.gl + (x.to - x.fr)
      rotate_left
      · have d2 : decide (c ≤ x.gl + (x.to - x.fr)) = false := decide_eq_false f2
        have HN : Hid (_) := HNO.out (by unfold hasG; exact decide_eq_false (fun h => f2 h.2))
        clear HNO HYE
        go_wp2
        go_roundw
        case rel => exact ⟨k + 1, by omega, by go_num, by rw [HN.out]; exact hIU, hBuU⟩
        case measure => simp [intOf]; omega
      have d2 : decide (c ≤ x.gl + (x.to - x.fr)) = true := decide_eq_true f2
      have HY : Hid (_) := HYE.out (by unfold hasG; exact decide_eq_true ⟨f1, f2⟩)
      obtain ⟨y, hy⟩ : ∃ y, x.fr + (c - x.gl) = y := ⟨_, rfl⟩
      have HI : Hid (I64 y) := ⟨by omega, by omega⟩
      rw [hy] at HY
      have hT5 := hIU.below (bl1 (.cells #[.int .i64 y] 3))
      have hN := heap_alloc_new U (.cells #[.int .i64 y] 3)
      have n0 := cell_of_row _ U.heap.size 0 _ _ (0, 0) hN
      have hll : zs.length + 1 ≤ 1000000 := by omega
      have hB6 : Below u.heap.size u (U.alloc (.cells #[.int .i64 y] 3)) := hBuU.alloc hBuU.size _
      clear hN HNO HYE hIU
      go_wp2_with (at_builtin; refine wpList_append_int rfl _ _ rfl u.heap.size _ zs rfl hT5 U.heap.size y rfl n0 HI.out hll hB6.size ?_)
      intro v' w9 hT9 hgrow
      have hB9 : Below u.heap.size u w9 := hB6.grown hgrow hB6.size (fun k hk => hT5.lo hk)
      rw [← HY.out] at hT9
      clear hgrow hT5 n0 hB6 hBuU HY hy
      go_wp2
      go_roundw
      case rel => exact ⟨k + 1, by omega, by go_num, hT9, hB9⟩
      case measure => simp [intOf]; omega
    · obtain rfl : k = l.length := by omega
      have g4 : ¬ (l.length : Int) < (l.length : Int) := by omega
      rw [List.take_length] at hIo ⊢
      clear hri
      go_wp2
      go_ret
      exact ⟨_, rfl, by rw [HC.out]; exact hIo.mono HBW.out.size, HBW.out.trans (hBu.mono HBW.out.size)⟩

end Go.Proofs.Ytgambbmonbhpnaa

namespace Go.Proofs.Ytgambbmonbhpnaa
open Go.RowKit Go.Maps
set_option linter.unusedSimpArgs false
set_option linter.unusedVariables false

def awR : List Rn := [⟨65, 90, 1⟩]
theorem awR_no (c : Int) : NoR awR c := by
  intro k hk h
  have hk0 : k = 0 := by simp [awR] at hk; exact hk
  subst hk0
  have h2 := of_decide_eq_true h
  have e : awR.getD 0 Rn.none = ⟨65, 90, 1⟩ := rfl
  rw [e] at h2 ⊢
  unfold I64
  dsimp only at h2 ⊢
  omega
theorem awR_map : mpC awR (sb ⟨#[66, 65, 33]⟩) = [2, 1, 0] := by decide
set_option maxHeartbeats 2000000 in
set_option maxRecDepth 100000 in
theorem awake17_any (w : World) :
    Calls Try.prog 8 #[] w fun e w' => e = .returned (.bool true) ∧ Below w.heap.size w w' := by
  obtain ⟨W, hW, X1, hbW⟩ : ∃ W, W = w.alloc (.cells #[.int .i64 65, .int .i64 90, .int .i64 1] 43) ∧ Bk 43 W w.heap.size [.int .i64 65, .int .i64 90, .int .i64 1] ∧ Below w.heap.size w W := ⟨_, rfl, Bk.new _ _ _, bl1 _⟩
  have hrep : RnE.rep (fun _ => True) W [.int .i64 65, .int .i64 90, .int .i64 1] ⟨65, 90, 1⟩ := RnE_rep.2 ⟨rfl, ⟨by decide, by decide⟩, ⟨by decide, by decide⟩, ⟨by decide, by decide⟩⟩
  have hone : Gr RnE (fun _ => True) W (some ⟨w.heap.size, 0, none⟩) 1 awR := Gr.one (E := RnE) hrep X1.lt (fun j hj => X1.cell j hj)
  have hv := cmap_any (fun _ => True) (some ⟨w.heap.size, 0, none⟩) 1 awR ⟨#[66, 65, 33]⟩ W hone (show (3 : Nat) ≤ 100000 by omega) (fun c _ _ => awR_no c)
  rw [awR_map] at hv
  replace hv : Calls Try.prog 13 #[.slice (some ⟨w.heap.size, 0, none⟩) 1 1, .string ⟨#[66, 65, 33]⟩] W fun e w' => ∃ v, e = .returned v ∧ Io W.heap.size w' v [2, 1, 0] ∧ Below W.heap.size W w' := hv
  clear hrep hone X1
  go_enter Try.func8, Try.ntmps8
  go_wp2_with fail
  rw [← hW]
  clear hW
  refine hv.mono ?_
  rintro e u ⟨v, rfl, hIo, hb⟩
  have hBu := hbW.trans (hb.mono hbW.size)
  obtain ⟨g, cap, rfl, _, _, hcp, hc, -, -⟩ := hIo.own (by decide)
  have c0 := hc 0 (by decide)
  have c1 := hc 1 (by decide)
  have c2 := hc 2 (by decide)
  replace c0 : u.cell? ⟨g, 0, none⟩ = some (.int .i64 2) := c0
  replace c1 : u.cell? ⟨g, 1, none⟩ = some (.int .i64 1) := c1
  replace c2 : u.cell? ⟨g, 2, none⟩ = some (.int .i64 0) := c2
  replace hcp : 3 ≤ cap := hcp
  clear hv hIo hc hb hbW
  go_wp2
  go_ret
  exact ⟨rfl, hBu⟩

def smB (n : Int) : Bool := decide (-1099511627776 ≤ n) && decide (n ≤ 1099511627776)
theorem smB_iff {n : Int} : smB n = true ↔ -1099511627776 ≤ n ∧ n ≤ 1099511627776 := by unfold smB; rw [Bool.and_eq_true, decide_eq_true_iff, decide_eq_true_iff]
set_option maxHeartbeats 2000000 in
set_option maxRecDepth 100000 in
theorem small17_any (n : Int) (w : World) (hn : I64 n) :
    Calls Try.prog 25 #[.int .i64 n] w fun e w' => e = .returned (.bool (smB n)) ∧ w = w' := by
  obtain ⟨h1, h2⟩ := hn
  by_cases f1 : -1099511627776 ≤ n
  rotate_left
  · have d1 : decide (-1099511627776 ≤ n) = false := decide_eq_false f1
    have HF : Hid (smB n = false) := by show _ = _; unfold smB; rw [d1]; rfl
    go_enter Try.func25, Try.ntmps25
    go_wp2
    go_ret
    exact ⟨rt_bool HF.out.symm, rfl⟩
  have d1 : decide (-1099511627776 ≤ n) = true := decide_eq_true f1
  have HF : Hid (smB n = decide (n ≤ 1099511627776)) := by show _ = _; unfold smB; rw [d1]; rfl
  go_enter Try.func25, Try.ntmps25
  go_wp2
  go_ret
  exact ⟨rt_bool HF.out.symm, rfl⟩

/-- Ranges whose numbers can be added. -/
def FaR (l : List Rn) : Prop := ∀ k, k < l.length → smB (l.getD k Rn.none).fr = true ∧ smB (l.getD k Rn.none).to = true ∧ smB (l.getD k Rn.none).gl = true
theorem FaR.no {l : List Rn} (h : FaR l) {c : Int} (h1 : -1099511627776 ≤ c) (h2 : c ≤ 1099511627776) : NoR l c := by
  intro k hk _
  obtain ⟨a1, a2, a3⟩ := h k hk
  have b1 := smB_iff.1 a1
  have b3 := smB_iff.1 a3
  unfold I64
  omega
/-- An answer that is true only if P. -/
structure BoolK (P : Prop) (e : Ending) : Prop where
  out : ∃ q : Bool, e = .returned (.bool q) ∧ (q = true → P)
set_option maxHeartbeats 4000000 in
set_option maxRecDepth 100000 in
theorem fair17_any (S : Nat → Prop) (a : Option Addr) (ca : Nat) (l : List Rn) (c : Int) (w : World) (hl : Gr RnE S w a ca l) (hc : I64 c) :
    Calls Try.prog 9 #[.slice a l.length ca, .int .i64 c] w fun e w' => BoolK (FaR l ∧ smB c = true) e ∧ Below w.heap.size w w' := by
  have kl := hl.lenB
  have HL : Hid (Gr RnE S w a ca l) := hl
  have HC : Hid (I64 c) := hc
  clear hl hc
  go_enter Try.func9, Try.ntmps9
  go_wp2
  go_loopw [5] (fun i wr => ∃ (k : Nat), k ≤ l.length ∧ i = .int .i64 k ∧ Hid (∀ j, j < k → smB (l.getD j Rn.none).fr = true ∧ smB (l.getD j Rn.none).to = true ∧ smB (l.getD j Rn.none).gl = true) ∧ Below w.heap.size w wr) (fun i _ => l.length - (intOf i).toNat)
  case atStart => exact ⟨0, Nat.zero_le _, rfl, (fun j hj => by omega), Below.refl _ _⟩
  case round =>
    obtain ⟨k, hk, rfl, HOK, hB⟩ := hrel
    by_cases hkn : k < l.length
    · obtain ⟨b1, off, ea, hb1, hM, c0, c1, c2⟩ := HL.out.rn hB k hkn
      subst ea
      have HNX : Hid (smB (l.getD k Rn.none).fr = true → smB (l.getD k Rn.none).to = true → smB (l.getD k Rn.none).gl = true → ∀ j, j < k + 1 → smB (l.getD j Rn.none).fr = true ∧ smB (l.getD j Rn.none).to = true ∧ smB (l.getD j Rn.none).gl = true) := fun h1 h2 h3 j hj => by
        rcases Nat.lt_or_ge j k with h4 | h4
        · exact HOK.out j h4
        · rw [show j = k by omega]; exact ⟨h1, h2, h3⟩
      obtain ⟨x, hx⟩ : ∃ x, l.getD k Rn.none = x := ⟨_, rfl⟩
      rw [hx] at hM c0 c1 c2 HNX
      obtain ⟨m1, m2, m3⟩ := hM
      have i1 : (0 : Int) ≤ (k : Int) := by omega
      have i2 : (k : Int) < (l.length : Int) := by omega
      have h1 := small17_any x.fr wr m1
      have h2 := small17_any x.to wr m2
      have h3 := small17_any x.gl wr m3
      clear hx HOK
      cases f1 : smB x.fr with
      | false =>
        rw [f1] at h1
        clear f1 HNX
        go_wp2_with fail
        refine h1.mono ?_
        rintro e u ⟨rfl, rfl⟩
        go_wp2
        go_ret
        exact ⟨⟨⟨false, rfl, (fun h => by cases h)⟩⟩, hB⟩
      | true =>
      rw [f1] at h1
      go_wp2_with fail
      refine h1.mono ?_
      rintro e u ⟨rfl, rfl⟩
      cases f2 : smB x.to with
      | false =>
        rw [f2] at h2
        clear f1 f2 HNX
        go_wp2_with fail
        refine h2.mono ?_
        rintro e u ⟨rfl, rfl⟩
        go_wp2
        go_ret
        exact ⟨⟨⟨false, rfl, (fun h => by cases h)⟩⟩, hB⟩
      | true =>
      rw [f2] at h2
      go_wp2_with fail
      refine h2.mono ?_
      rintro e u ⟨rfl, rfl⟩
      cases f3 : smB x.gl with
      | false =>
        rw [f3] at h3
        clear f1 f2 f3 HNX
        go_wp2_with fail
        refine h3.mono ?_
        rintro e u ⟨rfl, rfl⟩
        go_wp2
        go_ret
        exact ⟨⟨⟨false, rfl, (fun h => by cases h)⟩⟩, hB⟩
      | true =>
      rw [f3] at h3
      have HNN : Hid (_) := HNX.out f1 f2 f3
      clear f1 f2 f3 HNX
      go_wp2_with fail
      refine h3.mono ?_
      rintro e u ⟨rfl, rfl⟩
      clear h1 h2 h3
      go_wp2
      go_roundw
      case rel => exact ⟨k + 1, by omega, by go_num, HNN, hB⟩
      case measure => simp [intOf]; omega
    · have HF : Hid (FaR l) := fun j hj => HOK.out j (by omega)
      have g4 : ¬ (k : Int) < (l.length : Int) := by omega
      have h1 := small17_any c wr HC.out
      clear HOK
      go_wp2_with fail
      refine h1.mono ?_
      rintro e u ⟨rfl, rfl⟩
      clear h1
      obtain ⟨q, hq⟩ : ∃ q, smB c = q := ⟨_, rfl⟩
      have HQ : Hid (smB c = q) := hq
      rw [hq]
      clear hq
      go_wp2
      go_ret
      exact ⟨⟨⟨q, rfl, fun h => ⟨HF.out, by rw [HQ.out]; exact h⟩⟩⟩, hB⟩

end Go.Proofs.Ytgambbmonbhpnaa
