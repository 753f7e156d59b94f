/-
  sfnt.putHead, sfnt.putRecords: the walks.
-/
import Derived.Test.YtijehnfadpoapaaSC0
import Derived.Test.YtijehnfadpoapaaSC3
import Derived.Test.YtijehnfadpoapaaSC4
import Derived.Test.YtijehnfadpoapaaSR5
import Derived.Laws.MakeOwn
namespace Go.Proofs.Ytijehnfadpoapaa
open Go.RowKit Go.Maps
set_option linter.unusedSimpArgs false
set_option linter.unusedVariables false

theorem pc_newS (w : World) (G : Nat → Prop) (hG : ∀ k, G k → k < w.heap.size) : Pc (w.alloc (.cells #[.slice none 0 0, .int .i64 0, .map none, .bool false] 56)) w.heap.size G St.zero := by
  refine ⟨fun k hk => by have := hG k hk; simp; omega, fun h => by have := hG _ h; omega, Wf.zero, .slice none 0 0, .map none, heap_alloc_new w _, (fun h => by cases h), fun _ => ⟨⟨World.ownsRow_nil _ 0 _ 1, fun g hg => by cases hg⟩, .inl ⟨rfl, rfl⟩⟩⟩
theorem put16_ok {bs : List Nat} {ws : List Int} {n : Int} (h1 : -32768 ≤ n) (h2 : n ≤ 65535) : (St.mk bs ws false).put16 n = ⟨bs ++ be2 n, ws, false⟩ := by simp [St.put16, h1, h2, St.app]
theorem put32_ok {bs : List Nat} {ws : List Int} {n : Int} (h1 : -2147483648 ≤ n) (h2 : n ≤ 4294967295) : (St.mk bs ws false).put32 n = ⟨bs ++ be4 n, ws, false⟩ := by simp [St.put32, h1, h2, St.app]
theorem tag_ok {bs : List Nat} {ws : List Int} {xs : List Nat} (h : gd xs = true) : (St.mk bs ws false).tag xs = ⟨bs ++ xs, ws, false⟩ := by simp [St.tag, h, St.app]
theorem later_ok' {bs : List Nat} {ws : List Int} : (St.mk bs ws false).later = ⟨bs ++ be4 0, ws ++ [(bs.length : Int)], false⟩ := by simp [St.later]

theorem len_lg (n : Nat) (h1 : 1 ≤ n) (h2 : n ≤ 32) : Lib.bitLen n = lg n + 1 := by
  have : ∀ n : Fin 33, 1 ≤ n.1 → Lib.bitLen n.1 = lg n.1 + 1 := by decide
  exact this ⟨n, by omega⟩ h1
theorem lg_cases (n : Nat) : (lg n = 0 ∧ pw n = 1) ∨ (lg n = 1 ∧ pw n = 2) ∨ (lg n = 2 ∧ pw n = 4) ∨ (lg n = 3 ∧ pw n = 8) ∨ (lg n = 4 ∧ pw n = 16) ∨ (lg n = 5 ∧ pw n = 32) := by
  unfold lg pw
  repeat' split
  all_goals simp
theorem pw_le {n : Nat} (h : 1 ≤ n) : pw n ≤ n := by
  unfold pw
  repeat' split
  all_goals omega

set_option maxHeartbeats 2000000 in
set_option maxRecDepth 100000 in
theorem putHead_any (B : Nat) (G : Nat → Prop) (n : Nat) (w : World) (h : Pc w B G St.zero) (h1 : 1 ≤ n) (h2 : n ≤ 32) :
    Calls Try.prog 28 #[pg B, .int .i64 (n : Int)] w fun e w' => e = .returned (.tuple #[]) ∧ Pc w' B G ⟨hdr n, [], false⟩ ∧ Keep G w w' := by
  have hl : ∀ W, Calls Try.prog 46 #[.int .u64 (n : Int)] W fun e w' => e = .returned (.int .i64 ((lg n + 1 : Nat) : Int)) ∧ w' = W := by
    intro W
    have h := Any.bits_Len (SlLaysF0.n15.bits (P := Try.prog) (ρ := Try.sortT_ren) { Try.sortT with }) (n : Int) W (by omega) (by omega)
    rw [Int.toNat_natCast, len_lg n h1 h2] at h
    exact h
  have hp := pw_le h1
  have HD : Hid (hdr n = be4 65536 ++ (be2 n ++ (be2 ((16 * pw n : Nat) : Int) ++ (be2 ((lg n : Nat) : Int) ++ be2 ((16 * n - 16 * pw n : Nat) : Int))))) := rfl
  have HE : Hid (((16 * n - 16 * pw n : Nat) : Int) = 16 * ((n : Int) - ((pw n : Nat) : Int))) := by show _ = _; omega
  have wr : IntKind.u64.wrap (n : Int) = n := by simp [IntKind.wrap, IntKind.bits, IntKind.signed]; omega
  have hc := lg_cases n
  have hpos : 0 < pw n := by rcases hc with h | h | h | h | h | h <;> omega
  generalize lg n = g at *
  generalize pw n = q at *
  rcases hc with ⟨rfl, rfl⟩ | ⟨rfl, rfl⟩ | ⟨rfl, rfl⟩ | ⟨rfl, rfl⟩ | ⟨rfl, rfl⟩ | ⟨rfl, rfl⟩
  all_goals
    go_enter Try.func28, Try.ntmps28
    go_wp2_with (go_at_call 46; refine (hl _).mono ?_; rintro e w' ⟨rfl, rfl⟩)
    refine (put32_any B G _ _ _ h ⟨by omega, by omega⟩ (by decide)).mono ?_
    rintro e u1 ⟨rfl, hP1, hK1⟩
    rw [show St.zero = ⟨[], [], false⟩ from rfl, put32_ok (by omega) (by omega)] at hP1
    go_wp2_with fail
    refine (put16_any B G _ _ _ hP1 ⟨by omega, by omega⟩ (by simp [be4])).mono ?_
    rintro e u2 ⟨rfl, hP2, hK2⟩
    rw [put16_ok (by omega) (by omega)] at hP2
    go_wp2_with fail
    refine (put16_any B G _ _ _ hP2 ⟨by omega, by omega⟩ (by simp [be4, be2])).mono ?_
    rintro e u3 ⟨rfl, hP3, hK3⟩
    rw [put16_ok (by omega) (by omega)] at hP3
    go_wp2_with fail
    refine (put16_any B G _ _ _ hP3 ⟨by omega, by omega⟩ (by simp [be4, be2])).mono ?_
    rintro e u4 ⟨rfl, hP4, hK4⟩
    rw [put16_ok (by omega) (by omega)] at hP4
    go_wp2_with fail
    refine (put16_any B G _ _ _ hP4 ⟨by omega, by omega⟩ (by simp [be4, be2])).mono ?_
    rintro e u5 ⟨rfl, hP5, hK5⟩
    rw [put16_ok (by omega) (by omega)] at hP5
    have hK := (((hK1.trans hK2).trans hK3).trans hK4).trans hK5
    go_wp2
    go_end0
    refine ⟨rfl, ?_, hK⟩
    rw [HD.out, HE.out]
    simp only [List.nil_append, List.append_assoc] at hP5
    exact hP5

/-- Where the places of n tables wait. -/
def mkz (n : Nat) : List Int := (List.range n).map (fun i => ((20 + 16 * i : Nat) : Int))
theorem mkz_succ (k : Nat) : mkz (k + 1) = mkz k ++ [((20 + 16 * k : Nat) : Int)] := by simp [mkz, List.range_succ]
theorem mkz_len (k : Nat) : (mkz k).length = k := by simp [mkz]
/-- The directory before the places are known. -/
def dir0 : List Tb → List Nat
  | [] => []
  | t :: l => dirE t 0 ++ dir0 l
theorem dir0_append (l m : List Tb) : dir0 (l ++ m) = dir0 l ++ dir0 m := by
  induction l with
  | nil => rfl
  | cons t l ih => rw [List.cons_append, dir0, dir0, ih, List.append_assoc]
theorem dir0_len : ∀ {l : List Tb}, (∀ t ∈ l, (sb t.tx).length = 4) → (dir0 l).length = 16 * l.length := by
  intro l
  induction l with
  | nil => intro _; rfl
  | cons t l ih =>
    intro h
    rw [dir0, List.length_append, dirE_len (h t (by simp)), ih (fun s hs => h s (by simp [hs])), List.length_cons]
    omega
/-- A page with k rows of the directory. -/
def stR (n : Nat) (l : List Tb) (k : Nat) : St := ⟨hdr n ++ dir0 (l.take k), mkz k, false⟩
theorem takeT_succ {l : List Tb} {k : Nat} (hk : k < l.length) : l.take (k + 1) = l.take k ++ [l.getD k Tb.none] := by rw [List.take_succ_eq_append_getElem hk]; simp [List.getD, hk]
theorem stR_len {n : Nat} {l : List Tb} {k : Nat} (h : ∀ t ∈ l, (sb t.tx).length = 4) (hk : k ≤ l.length) : (hdr n ++ dir0 (l.take k)).length = 12 + 16 * k := by
  rw [List.length_append, hdr_len, dir0_len (fun t ht => h t (List.mem_of_mem_take ht)), List.length_take_of_le hk]
theorem stR_succ {n : Nat} {l : List Tb} {k : Nat} {tx : ByteArray} {bs : List Nat} (hk : k < l.length) (ht : l.getD k Tb.none = ⟨tx, bs⟩) {b0 : List Nat} (hb : hdr n ++ dir0 (l.take k) = b0) :
    stR n l (k + 1) = ⟨b0 ++ sb tx ++ be4 (sm bs : Nat) ++ be4 0 ++ be4 (bs.length : Nat), mkz k ++ [((20 + 16 * k : Nat) : Int)], false⟩ := by
  rw [stR, takeT_succ hk, ht, mkz_succ, dir0_append, dir0, dir0, dirE, ← hb]
  simp

/-- 'append(v, x)', and what stays. -/
theorem wpList_append_i2 {w : World} {ops : Array Oper} {rest : List Oper} {o : Oper} {a : Act} {Q : Exit → Act → World → Prop} (hgd : o.guard = none) (sx x : Operand) (ho : o.op = .call { callee := .builtin .append, args := #[sx, x], argTypes := #[58, 58] })
    {base : Nat} {W0 : World} {G : Nat → Prop} {B : Nat} {s : St} {v m : Value} {ps ms : List Int} (z : Int) (hL : LayG base W0 w G B s v ps m ms) (hs : a.eval sx = v)
    (gx : Nat) (hx : a.eval x = .slice (some ⟨gx, 0, none⟩) 1 1) (hc : w.cell? ⟨gx, 0, none⟩ = some (.int .i64 z)) (hlen : ps.length + 1 ≤ 2000000000)
    (h : ∀ v' w' G', LayG base W0 w' G' B s v' (ps ++ [z]) m ms → w.grownBy w' v.ownBlock → wpList Try.prog ops Q rest (a.put o.dst v') w') : wpList Try.prog ops Q (o :: rest) a w := by
  obtain ⟨i0, hi, hz0, hz1, hz2⟩ := info_parts info_i64
  refine wpList_append_own_at w hgd sx x 58 ho 0 3 i0 (.int .i64 0) 1 8 Try.underlying58 hi hz0 hz1 hz2 rfl (by decide) v ps.length (ps.map (Value.int .i64)) hs hL.vo ⟨gx, 0, none⟩ 1 1 [.int .i64 z] hx rfl ?_ ?_ (by unfold maxLen; omega) (by omega) (Nat.zero_le _) ?_
  · intro j u hj
    match j, hj with
    | 0, hj => simp at hj; subst hj; simpa [Addr.add] using hc
  · intro u hu
    simp at hu
    subst hu
    rfl
  · intro v' w' h1 h2 _ h4
    refine h v' w' _ (hL.app ?_ h2 h4) h2
    simpa [OwnI] using h1

/-- A block that is made is counted to G. -/
theorem LayG.more {base : Nat} {W0 w : World} {G : Nat → Prop} {B : Nat} {s : St} {v m : Value} {ps ms : List Int} (h : LayG base W0 w G B s v ps m ms) (o : Obj) : LayG base W0 (w.alloc o) (fun k => G k ∨ k = w.heap.size) B s v ps m ms := by
  have h' := h.below (bl1 o)
  refine ⟨fun k hk => .inl (h.gb k hk), ?_, h'.vo, h'.mo, fun g hg => ⟨.inl (h.vg g hg).1, (h.vg g hg).2⟩, fun g hg => .inl (h.mg g hg), h'.be⟩
  refine h.pc.guard_new (by simp) (fun k hk _ => (bl1 o).block k hk) ?_
  rintro k (hk | rfl)
  · exact ⟨by have := h.pc.1 k hk; simp; omega, fun _ => hk⟩
  · exact ⟨by simp, fun hlt => absurd hlt (Nat.lt_irrefl _)⟩

set_option maxHeartbeats 2000000 in
set_option maxRecDepth 100000 in
theorem putRecords_any (B : Nat) (base : Nat) (a : Option Addr) (cap : Nat) (l : List Tb) (u w : World) (hT : Ts u a cap l) (hbase : u.heap.size = base) (hB : Below base u w) (hf : Frm l) (hP : Pc w B (· < base) ⟨hdr l.length, [], false⟩) :
    Calls Try.prog 29 #[pg B, .slice a l.length cap] w fun e w' => ∃ v G, e = .returned v ∧ LayG base u w' G B (stR l.length l l.length) v (mkz l.length) (.slice none 0 0) [] := by
  subst hbase
  obtain ⟨i0, hi, hz0, hz1, hz2⟩ := info_parts info_i64
  have hn1 := hf.1
  have hn2 := hf.2.1
  have k1 := hT.1
  have k2 := hT.2.1
  unfold maxLen at k2
  obtain ⟨w1, hmk, hown, hgrow⟩ := run_makeSlice_owned w 0 58 3 i0 (.int .i64 0) 1 Try.underlying58 hi hz0 hz1 .i64 .i64 l.length (by omega) (by rw [hz2]; omega) (by unfold maxLen; omega) (Nat.zero_le _)
  have hL0 : LayG u.heap.size u w1 (fun k => k < u.heap.size ∨ k = w.heap.size) B (stR l.length l 0) (.slice (some ⟨w.heap.size, 0, none⟩) 0 l.length) (mkz 0) (.slice none 0 0) [] := by
    have hwz := hB.size
    have hst : ∀ k, k < w.heap.size → w1.heap[k]? = w.heap[k]? := fun k hk => hgrow.block k hk (by simp)
    refine ⟨fun k hk => .inl hk, ?_, hown, OwnI.nil _, ?_, (fun g hg => by cases hg), ?_⟩
    · have e : stR l.length l 0 = ⟨hdr l.length, [], false⟩ := by simp [stR, dir0, mkz]
      rw [e]
      refine hP.guard_new hgrow.size (fun k hk _ => hst k hk) ?_
      rintro k (hk | hk)
      · exact ⟨by have := hgrow.size; omega, fun _ => hk⟩
      · subst hk
        exact ⟨(World.ownsRow.lt hown _ rfl).2, fun h => absurd h (Nat.lt_irrefl _)⟩
    · intro g hg
      simp only [Value.ownBlock, Option.some.injEq] at hg
      subst hg
      exact ⟨.inr rfl, hwz, by simp [Value.ownBlock]⟩
    · exact hB.grown hgrow hwz (fun k hk => by cases hk)
  have HT : Hid (Ts u a cap l) := hT
  clear hT hown hgrow hP hB
  go_enter Try.func29, Try.ntmps29
  go_wp2
  go_loopw [5, 13] (fun v i wr => ∃ (k : Nat) (G : Nat → Prop), k ≤ l.length ∧ i = .int .i64 k ∧ LayG u.heap.size u wr G B (stR l.length l k) v (mkz k) (.slice none 0 0) []) (fun _ i _ => l.length - (intOf i).toNat)
  case atStart => exact ⟨0, _, Nat.zero_le _, rfl, hL0⟩
  case round =>
    obtain ⟨k, G, hk, rfl, hL⟩ := hrel
    by_cases hkn : k < l.length
    · obtain ⟨b, off, c0, c, ea, hb, d1, d2, hr⟩ := HT.out.at hL.be k hkn
      subst ea
      obtain ⟨s, hs⟩ : ∃ s, l.getD k Tb.none = s := ⟨_, rfl⟩
      have hmem := getD_mem hkn
      have hfs := hf.2.2.1 _ hmem
      have htx := HT.out.tx hkn
      rw [hs] at d1 d2 hr hfs htx
      obtain ⟨tx, bs⟩ := s
      dsimp only at d1 d2 hr hfs htx
      obtain ⟨hgd, hbl⟩ := hfs
      obtain ⟨b0, hb0⟩ : ∃ b0, hdr l.length ++ dir0 (l.take k) = b0 := ⟨_, rfl⟩
      have hlen : b0.length = 12 + 16 * k := by rw [← hb0]; exact stR_len (fun t ht => hf.tag ht) hk
      have HSU : Hid (stR l.length l (k + 1) = ⟨b0 ++ sb tx ++ be4 (sm bs : Nat) ++ be4 0 ++ be4 (bs.length : Nat), mkz k ++ [((20 + 16 * k : Nat) : Int)], false⟩) := stR_succ hkn hs hb0
      have HMS : Hid (mkz (k + 1) = mkz k ++ [((20 + 16 * k : Nat) : Int)]) := mkz_succ k
      have HML : Hid ((mkz k).length = k) := mkz_len k
      have HLN : Hid (b0.length = 12 + 16 * k) := hlen
      have HG4 : Hid ((sb tx).length = 4) := gd_len hgd
      obtain ⟨_, _, c0', c', e1, _, e3, e4, hr'⟩ := HT.out.2.2.2 k hkn
      cases e1
      rw [hs] at e4 hr'
      dsimp only at e4 hr'
      have e5 : some (Value.slice c0 bs.length c) = some (Value.slice c0' bs.length c') := by rw [← d2, ← e4]; exact hL.be.cell (p := ⟨b, off + k * 2 + 1, none⟩) hb
      cases e5
      have hG : bs ≠ [] → ∀ b o, c0 = some ⟨b, o, none⟩ → b < u.heap.size := hr'.lt
      have HG : Hid (bs ≠ [] → ∀ b o, c0 = some ⟨b, o, none⟩ → b < u.heap.size) := hG
      have hL1 := hL
      rw [stR, hb0] at hL1
      have hL2 := hL1.more (.cells #[.string tx, .slice c0 bs.length c] 46)
      have hr2 := hr.below (bl1 (.cells #[.string tx, .slice c0 bs.length c] 46))
      have t2 : (wr.alloc (.cells #[.string tx, .slice c0 bs.length c] 46)).cell? ⟨wr.heap.size, 1, none⟩ = some (.slice c0 bs.length c) := cell_of_row _ _ 1 _ _ (0, 0) (heap_alloc_new wr _)
      have HV : Hid (∀ g, Value.ownBlock _ = some g → g < wr.heap.size) := fun g hg => hL.vo.lt hg
      clear hL hL1 hb0 hlen hs hmem hr e3 e4 hr' hG
      generalize mkz k = mk0 at *
      generalize hGG : (fun j => G j ∨ j = wr.heap.size) = G1 at *
      have HG1 : Hid (G1 wr.heap.size) := by show G1 wr.heap.size; rw [← hGG]; exact .inr rfl
      clear hGG
      go_wp2_with fail
      refine (putTag_any B G1 _ tx _ hL2.pc htx (by have := HLN.out; show b0.length + 4 ≤ _; omega)).mono ?_
      rintro e u1 ⟨rfl, hP3, hK3⟩
      rw [tag_ok hgd] at hP3
      have hL3 := hL2.next hP3 hK3
      have t3 := (hK3.cell (p := ⟨wr.heap.size, 1, none⟩) HG1.out).trans t2
      have hr3 := hr2.kept' hK3 (fun hx b o e => hL2.gb b (HG.out hx b o e))
      clear hL2 hP3 hK3 t2 hr2
      go_wp2_with fail
      refine (sum_any c0 c bs _ hr3).mono ?_
      rintro e u1' ⟨rfl, rfl⟩
      have hsl := sm_lt bs
      generalize hsm : sm bs = sq at *
      have HSM : Hid (sm bs = sq) := hsm
      clear hsm
      go_wp2_with fail
      refine (put32_any B G1 _ _ _ hL3.pc ⟨by omega, by omega⟩ (by have := HLN.out; have := HG4.out; simp; omega)).mono ?_
      rintro e u4 ⟨rfl, hP4, hK4⟩
      rw [put32_ok (by omega) (by omega)] at hP4
      have hL4 := hL3.next hP4 hK4
      have t4 := (hK4.cell (p := ⟨wr.heap.size, 1, none⟩) HG1.out).trans t3
      clear hL3 hP4 hK4 t3 hr3
      go_wp2_with fail
      refine (later_any B G1 _ _ hL4.pc (by have := HLN.out; have := HG4.out; simp [be4]; omega)).mono ?_
      rintro e u5 ⟨rfl, hP5, hK5⟩
      have hmark : ((b0 ++ sb tx ++ be4 (sq : Int)).length : Int) = ((20 + 16 * k : Nat) : Int) := by have := HLN.out; have := HG4.out; simp [be4]; omega
      rw [later_ok', hmark] at hP5
      dsimp only
      rw [hmark]
      have hL5 := hL4.next hP5 hK5
      have t5 := (hK5.cell (p := ⟨wr.heap.size, 1, none⟩) HG1.out).trans t4
      clear hL4 hP5 hK5 t4 hmark
      obtain ⟨z, hz⟩ : ∃ z : Int, ((20 + 16 * k : Nat) : Int) = z := ⟨_, rfl⟩
      rw [hz] at hL5 ⊢
      have HZ : Hid (((20 + 16 * k : Nat) : Int) = z) := hz
      have hzb : 0 ≤ z ∧ z ≤ 1000 := by omega
      obtain ⟨hzb1, hzb2⟩ := hzb
      clear hz
      have hL6 := hL5.below (bl1 (.cells #[.int .i64 z] 3))
      have hcn := cell_of_row _ _ 0 _ _ (0, 0) (heap_alloc_new u5 (.cells #[.int .i64 z] 3))
      have t6 : (u5.alloc (.cells #[.int .i64 z] 3)).cell? ⟨wr.heap.size, 1, none⟩ = some (.slice c0 bs.length c) := (Below.cell (bl1 _) (p := ⟨wr.heap.size, 1, none⟩) (hL5.pc.1 _ HG1.out)).trans t5
      have HG2 : Hid (wr.heap.size < (u5.alloc (.cells #[.int .i64 z] 3)).heap.size) := by
        have := hL5.pc.1 _ HG1.out
        show _ < _
        simp
        omega
      have hml : mk0.length + 1 ≤ 2000000000 := by rw [HML.out]; omega
      go_wp2_with (at_builtin; refine wpList_append_i2 rfl _ _ rfl z hL6 rfl u5.heap.size rfl hcn hml ?_)
      intro v' w7 G7 hL7 hgr7
      have t7 := (World.cell?_of_block (w := u5.alloc (.cells #[.int .i64 z] 3)) (a := ⟨wr.heap.size, 1, none⟩) (hgr7.block wr.heap.size HG2.out (fun e => by have := HV.out _ e.symm; omega))).trans t6
      clear hL5 hL6 hcn t5 t6 hgr7
      go_wp2_with fail
      refine (put32_any B G7 _ _ _ hL7.pc ⟨by omega, by omega⟩ (by have := HLN.out; have := HG4.out; simp [be4]; omega)).mono ?_
      rintro e u8 ⟨rfl, hP8, hK8⟩
      rw [put32_ok (by omega) (by omega)] at hP8
      have hL8 := hL7.next hP8 hK8
      have HL8 : Hid (LayG u.heap.size u u8 G7 B (stR l.length l (k + 1)) v' (mkz (k + 1)) (.slice none 0 0) []) := by
        show LayG _ _ _ _ _ _ _ _ _ _
        rw [HSU.out, HMS.out, HZ.out]
        simp only [List.append_assoc] at hL8 ⊢
        exact hL8
      clear hL7 hP8 hK8 t7 hL8
      go_wp2
      go_roundw
      case rel => exact ⟨k + 1, G7, by omega, by go_num, HL8.out⟩
      case measure => simp [intOf]; omega
    · obtain rfl : k = l.length := by omega
      go_wp2
      go_ret
      exact ⟨_, G, rfl, hL⟩

end Go.Proofs.Ytijehnfadpoapaa
