/-
  foundrylaw04.OctetsPages: the walk.
-/
import Derived.Test.YtcjomppgllbfpaaOM
namespace Go.Proofs.Ytcjomppgllbfpaa
open Go.RowKit Go.Maps
set_option linter.unusedSimpArgs false
set_option linter.unusedVariables false

/-- The page behind a script. -/
def runS : List OpD → St → St
  | [], s => s
  | o :: os, s => runS os (stp s o)
theorem runS_append (xs ys : List OpD) (s : St) : runS (xs ++ ys) s = runS ys (runS xs s) := by
  induction xs generalizing s with
  | nil => rfl
  | cons x xs ih => rw [List.cons_append, runS, runS, ih]
theorem runS_snoc (os : List OpD) (k : Nat) (hk : k < os.length) (s : St) : runS (os.take (k + 1)) s = stp (runS (os.take k) s) (os.getD k OpD.none) := by
  rw [List.take_succ_eq_append_getElem hk, runS_append]
  simp [runS, List.getD, hk]
theorem stp_len {s : St} (h : Wf s) (o : OpD) : (stp s o).bs.length ≤ s.bs.length + 16 * (1 + o.tx.size) := by
  have ha : ∀ xs, (s.app xs).bs.length ≤ s.bs.length + xs.length := s.app_len
  have hf : s.fail.bs.length = s.bs.length := rfl
  unfold stp
  split
  · unfold St.put8; split
    · have := ha (be1 o.n); have e : (be1 o.n).length = 1 := rfl; omega
    · omega
  split
  · unfold St.put16; split
    · have := ha (be2 o.n); have e : (be2 o.n).length = 2 := rfl; omega
    · omega
  split
  · unfold St.put32; split
    · have := ha (be4 o.n); have e : (be4 o.n).length = 4 := rfl; omega
    · omega
  split
  · unfold St.tag; split
    · have := ha (sb o.tx); rw [len_sb] at this; omega
    · omega
  split
  · have := ha (sb o.tx); rw [len_sb] at this; omega
  split
  · unfold St.later; split
    · omega
    · simp [be4]; omega
  split
  · by_cases hno : s.no = true
    · rw [St.now_bad hno]; omega
    · have hno : s.no = false := by simpa using hno
      by_cases hc : o.n ∈ s.ws ∧ -2147483648 ≤ o.m ∧ o.m ≤ (s.bs.length : Int)
      · have := h.2.2.1 o.n hc.1
        rw [St.now_ok hno hc]
        dsimp only
        rw [ovr_len (by simp [be4]; omega)]
        omega
      · rw [St.now_no hno hc]; omega
  split
  · unfold St.pad; split
    · rename_i hc
      have := ha (List.replicate (padN s.bs.length o.n.toNat) 0)
      have h2 := padN_lt (l := s.bs.length) (n := o.n.toNat) (by omega)
      simp at this
      omega
    · omega
  · omega
theorem tot_mem {os : List OpD} {k : Nat} (hk : k < os.length) (h : tot os ≤ 10000) : (os.getD k OpD.none).tx.size ≤ 9999 ∧ sz1 (os.getD k OpD.none) = 1 + (os.getD k OpD.none).tx.size := by
  have h1 := tot_snoc os k hk
  have h2 := tot_take_le os (k + 1)
  unfold sz1 at *
  omega

set_option maxHeartbeats 4000000 in
set_option maxRecDepth 100000 in
theorem octetsPages_any (a : Option Addr) (cap : Nat) (os : List OpD) (t : ByteArray) (w : World) (h : Ro w a cap os) (ht : t.size ≤ maxLen) :
    Calls Try.prog 4 #[.slice a os.length cap, .string t] w fun e w' => e = .returned (.bool true) ∧ Below w.heap.size w w' := by
  have k1 := h.2.1
  have k2 := h.2.2.1
  unfold maxLen at k2
  have hro : ∀ u, Below w.heap.size w u → Ro u a cap os := by
    intro u hb
    refine ⟨h.1, h.2.1, h.2.2.1, ?_⟩
    rcases h.2.2.2 with h0 | ⟨b, off, e, hlt, hc⟩
    · exact .inl h0
    · refine .inr ⟨b, off, e, Nat.lt_of_lt_of_le hlt hb.size, fun i hi => ?_⟩
      obtain ⟨c1, c2, c3, c4⟩ := hc i hi
      exact ⟨(hb.cell (p := ⟨b, off + i * 4, none⟩) hlt).trans c1, (hb.cell (p := ⟨b, off + i * 4 + 1, none⟩) hlt).trans c2, (hb.cell (p := ⟨b, off + i * 4 + 2, none⟩) hlt).trans c3, (hb.cell (p := ⟨b, off + i * 4 + 3, none⟩) hlt).trans c4⟩
  by_cases hf : fewB os = true
  rotate_left
  · have hf : fewB os = false := by simpa using hf
    go_enter Try.func4, Try.ntmps4
    go_wp2_with fail
    refine (awake4_any _).mono ?_
    rintro e u ⟨rfl, hb⟩
    go_wp2_with fail
    refine (few4_any a cap os _ (hro u hb)).mono ?_
    rintro e u' ⟨rfl, rfl⟩
    rw [hf]
    go_wp2_with fail
    refine (awake4_any _).mono ?_
    rintro e u2 ⟨rfl, hb2⟩
    go_wp2
    go_ret
    exact ⟨rfl, hb.trans (hb2.mono hb.size)⟩
  have hfw : tot os ≤ 10000 ∧ os.length ≤ 200 := by simpa [fewB] using hf
  obtain ⟨hf1, hf2⟩ := hfw
  go_enter Try.func4, Try.ntmps4
  go_wp2_with fail
  refine (awake4_any _).mono ?_
  rintro e u0 ⟨rfl, hb0⟩
  go_wp2_with fail
  refine (few4_any a cap os _ (hro u0 hb0)).mono ?_
  rintro e u' ⟨rfl, rfl⟩
  rw [hf]
  have hT0 : Two w ((u0.alloc (.cells #[.slice none 0 0, .int .i64 0, .map none, .bool false] 39)).alloc (.cells #[.slice none 0 0, .slice none 0 0, .bool false] 43)) u0.heap.size (u0.heap.size + 1) St.zero := by
    have hs1 : (u0.alloc (.cells #[.slice none 0 0, .int .i64 0, .map none, .bool false] 39)).heap.size = u0.heap.size + 1 := by simp
    have hP := (pc_new u0 (fun k => k < u0.heap.size) (fun _ h => h)).guard_new (w' := (u0.alloc (.cells #[.slice none 0 0, .int .i64 0, .map none, .bool false] 39)).alloc (.cells #[.slice none 0 0, .slice none 0 0, .bool false] 43)) (G' := fun k => k < u0.heap.size ∨ k = u0.heap.size + 1) (bl1 _).size (fun k hk _ => (bl1 _).block k hk) (by
      rintro k (hk | rfl)
      · exact ⟨by simp; omega, fun _ => hk⟩
      · exact ⟨by simp, fun hlt => by simp at hlt⟩)
    have hB : Bx3 ((u0.alloc (.cells #[.slice none 0 0, .int .i64 0, .map none, .bool false] 39)).alloc (.cells #[.slice none 0 0, .slice none 0 0, .bool false] 43)) (u0.heap.size + 1) (.slice none 0 0) (.slice none 0 0) (.bool false) := by
      have := heap_alloc_new (u0.alloc (.cells #[.slice none 0 0, .int .i64 0, .map none, .bool false] 39)) (.cells #[.slice none 0 0, .slice none 0 0, .bool false] 43)
      rw [hs1] at this
      exact this
    refine ⟨_, fun k => k < u0.heap.size ∨ k = u0.heap.size, hP, ⟨?_, ?_, Wf.zero, _, _, hB, ⟨World.ownsRow_nil _ _ _ _, fun g hg => (by cases hg)⟩, ⟨OwnI.nil _, fun g hg => (by cases hg)⟩⟩, ?_, ?_, ?_⟩
    · rintro k (hk | rfl)
      · simp; omega
      · simp; omega
    · rintro (hk | hk) <;> omega
    · intro k hk
      simp at hk
      omega
    · intro k hk
      have := hb0.size
      exact ⟨.inl (by omega), .inl (by omega)⟩
    · exact (hb0.alloc hb0.size _).alloc (by simp; have := hb0.size; omega) _
  go_wp2
  generalize (u0.alloc (.cells #[.slice none 0 0, .int .i64 0, .map none, .bool false] 39)).alloc (.cells #[.slice none 0 0, .slice none 0 0, .bool false] 43) = W1 at hT0 ⊢
  generalize hC : u0.heap.size + 1 = C at hT0 ⊢
  generalize u0.heap.size = B at hT0 ⊢
  clear hb0 hC hf
  go_loopw [7] (fun i wr => ∃ k : Nat, k ≤ os.length ∧ i = .int .i64 k ∧ Two w wr B C (runS (os.take k) St.zero) ∧ (runS (os.take k) St.zero).bs.length ≤ 16 * tot (os.take k)) (fun i _ => os.length - (intOf i).toNat)
  case atStart => exact ⟨0, Nat.zero_le _, rfl, hT0, by simp [runS, tot, St.zero]⟩
  case round =>
    clear hT0
    obtain ⟨k, hk, rfl, hT, hlen⟩ := hrel
    by_cases hkn : k < os.length
    · have hrs := runS_snoc os k hkn St.zero
      have htk := tot_take_le os k
      obtain ⟨o1, o2⟩ := tot_mem hkn hf1
      have hts := tot_snoc os k hkn
      have hok := h.ok hkn
      have hbe : Below w.heap.size w wr := by obtain ⟨_, _, hT'⟩ := hT; exact hT'.be
      have hwf : Wf (runS (os.take k) St.zero) := by obtain ⟨_, _, hT'⟩ := hT; exact hT'.pc.wf
      obtain ⟨b, off, rfl, hb, c1, c2, c3, c4⟩ := h.at hbe k hkn
      have hsl := stp_len hwf (os.getD k OpD.none)
      generalize os.getD k OpD.none = o at *
      obtain ⟨s, hs⟩ : ∃ s, runS (os.take k) St.zero = s := ⟨_, rfl⟩
      rw [hs] at hT hlen hrs hwf hsl
      have HRS := Hid_mk' hrs
      have hnl : Hid ((stp s o).bs.length ≤ 16 * tot (os.take (k + 1))) := by show _ ≤ _; rw [hts, o2]; omega
      have hlb : s.bs.length ≤ 160000 := by omega
      have hlb2 : (stp s o).bs.length ≤ 400000 := by omega
      have hact := fun u => act_any w B C s o u
      have hkl : (k : Int) < (os.length : Int) := by omega
      clear hrs hs hts hsl hlen o2 htk hwf
      obtain ⟨kd, n, m, tx⟩ := o
      dsimp only at *
      go_wp2_with fail
      refine drewRegion (by kernel_rfl) ?_
      have hT3 : Two w wr.drew B C s := by
        obtain ⟨Gp, Gq, hT'⟩ := hT
        exact ⟨_, _, hT'.grow (Below.drew (Below.refl _ _))⟩
      have c1 : wr.drew.cell? ⟨b, off + k * 4, none⟩ = some (.int .i64 kd) := c1
      have c2 : wr.drew.cell? ⟨b, off + k * 4 + 1, none⟩ = some (.int .i64 n) := c2
      have c3 : wr.drew.cell? ⟨b, off + k * 4 + 2, none⟩ = some (.int .i64 m) := c3
      have c4 : wr.drew.cell? ⟨b, off + k * 4 + 3, none⟩ = some (.string tx) := c4
      clear hT
      generalize wr.drew = u3 at *
      refine aTake (i := 0) (v := ?v1) rfl (by kernel_rfl) (by kernel_rfl) (by kernel_rfl) (fun _ _ _ h => h) (Or.inl ⟨by rfl, ?y1⟩) ?r1
      case y1 =>
        intro w9
        go_simp
        try with_reducible rfl
      try simp only [Act.put, List.setIfInBounds_toArray, List.set_cons_zero, List.set_cons_succ]
      refine aTake (i := 1) (v := ?v2) rfl (by kernel_rfl) (by kernel_rfl) (by kernel_rfl) (fun _ _ _ h => h) (Or.inl ⟨by rfl, ?y2⟩) ?r2
      case y2 =>
        intro w9
        go_simp
        try with_reducible rfl
      try simp only [Act.put, List.setIfInBounds_toArray, List.set_cons_zero, List.set_cons_succ]
      refine aTake (i := 2) (v := ?v3) rfl (by kernel_rfl) (by kernel_rfl) (by kernel_rfl) (fun _ _ _ h => h) (Or.inl ⟨by rfl, ?y3⟩) ?r3
      case y3 =>
        intro w9
        go_simp
        try with_reducible rfl
      try simp only [Act.put, List.setIfInBounds_toArray, List.set_cons_zero, List.set_cons_succ]
      refine aTake (i := 3) (v := ?v4) rfl (by kernel_rfl) (by kernel_rfl) (by kernel_rfl) (fun _ _ _ h => h) (Or.inl ⟨by rfl, ?y4⟩) ?r4
      case y4 =>
        intro w9
        go_simp
        try with_reducible rfl
      try simp only [Act.put, List.setIfInBounds_toArray, List.set_cons_zero, List.set_cons_succ]
      refine aTake (i := 4) (v := ?v5) rfl (by kernel_rfl) (by kernel_rfl) (by kernel_rfl) (fun _ _ _ h => h) (Or.inl ⟨by rfl, ?y5⟩) ?r5
      case y5 =>
        intro w9
        go_simp
        try with_reducible rfl
      try simp only [Act.put, List.setIfInBounds_toArray, List.set_cons_zero, List.set_cons_succ]
      refine wpAny_ready (rs := [5]) (by kernel_rfl) (by simp) (aCons (i := 5) rfl (by rfl) (fun K hK => ?_) AllReady.nil)
      go_simp
      refine hK.out _ _ ?_
      clear hK K
      try simp only [Act.put, List.setIfInBounds_toArray, List.set_cons_zero, List.set_cons_succ]
      refine wpAny_ready (rs := [6]) (by kernel_rfl) (by simp) (aCons (i := 6) rfl (by rfl) (fun K hK => ?_) AllReady.nil)
      go_simp
      refine (hact _ hT3 hok (by omega)).mono ?_
      rintro e u4 ⟨rfl, Gp, Gq, hT4⟩
      go_wp2_with fail
      obtain ⟨hs1, hs2, hs3, vb, vw, hs4, hs5, hs6⟩ := hT4.ps
      obtain ⟨av, cv, rfl⟩ := hs5.slice
      have d0 := hs4.cells.1
      clear c1 c2 c3 c4 hT3
      refine hK.out _ _ ?_
      clear hK K
      try simp only [Act.put, List.setIfInBounds_toArray, List.set_cons_zero, List.set_cons_succ]
      refine aTake (i := 7) (v := ?v6) rfl (by kernel_rfl) (by kernel_rfl) (by kernel_rfl) (fun _ _ _ h => h) (Or.inl ⟨by rfl, ?y6⟩) ?r6
      case y6 =>
        intro w9
        go_simp
        try with_reducible rfl
      try simp only [Act.put, List.setIfInBounds_toArray, List.set_cons_zero, List.set_cons_succ]
      refine aTake (i := 8) (v := ?v7) rfl (by kernel_rfl) (by kernel_rfl) (by kernel_rfl) (fun _ _ _ h => h) (Or.inl ⟨by rfl, ?y7⟩) ?r7
      case y7 =>
        intro w9
        go_simp
        try with_reducible rfl
      try simp only [Act.put, List.setIfInBounds_toArray, List.set_cons_zero, List.set_cons_succ]
      refine aTake (i := 9) (v := ?v8) rfl (by kernel_rfl) (by kernel_rfl) (by kernel_rfl) (fun _ _ _ h => h) (Or.inl ⟨by rfl, ?y8⟩) ?r8
      case y8 =>
        intro w9
        go_simp
        try with_reducible rfl
      try simp only [Act.put, List.setIfInBounds_toArray, List.set_cons_zero, List.set_cons_succ]
      refine aTake (i := 11) (v := ?v9) rfl (by kernel_rfl) (by kernel_rfl) (by kernel_rfl) (fun _ _ _ h => h) (Or.inl ⟨by rfl, ?y9⟩) ?r9
      case y9 =>
        intro w9
        go_simp
        try with_reducible rfl
      try simp only [Act.put, List.setIfInBounds_toArray, List.set_cons_zero, List.set_cons_succ]
      refine aTake (i := 12) (v := ?v10) rfl (by kernel_rfl) (by kernel_rfl) (by kernel_rfl) (fun _ _ _ h => h) (Or.inl ⟨by rfl, ?y10⟩) ?r10
      case y10 =>
        intro w9
        go_simp
        try with_reducible rfl
      try simp only [Act.put, List.setIfInBounds_toArray, List.set_cons_zero, List.set_cons_succ]
      refine aTake (i := 13) (v := ?v11) rfl (by kernel_rfl) (by kernel_rfl) (by kernel_rfl) (fun _ _ _ h => h) (Or.inl ⟨by rfl, ?y11⟩) ?r11
      case y11 =>
        intro w9
        go_simp
        try with_reducible rfl
      try simp only [Act.put, List.setIfInBounds_toArray, List.set_cons_zero, List.set_cons_succ]
      refine wpAny_ready (rs := [10, 14]) (by kernel_rfl) (by simp) (aCons (i := 10) rfl (by rfl) (fun K hK => ?_) (aCons (i := 14) rfl (by rfl) (fun K hK => ?_) AllReady.nil))
      · go_simp
        refine (here_any _ _ _ _ hT4.pc).mono ?_
        rintro e u5 ⟨rfl, rfl⟩
        go_wp2_with fail
        refine hK.out _ _ ?_
        clear hK K
        try simp only [Act.put, List.setIfInBounds_toArray, List.set_cons_zero, List.set_cons_succ]
        refine wpAny_ready (rs := [14]) (by kernel_rfl) (by simp) (aCons (i := 14) rfl (by rfl) (fun K hK => ?_) AllReady.nil)
        go_simp
        refine hK.out _ _ ?_
        clear hK K
        try simp only [Act.put, List.setIfInBounds_toArray, List.set_cons_zero, List.set_cons_succ]
        refine aTake (i := 15) (v := ?v12) rfl (by kernel_rfl) (by kernel_rfl) (by kernel_rfl) (fun _ _ _ h => h) (Or.inl ⟨by rfl, ?y12⟩) ?r12
        case y12 =>
          intro w9
          go_simp
          try with_reducible rfl
        try simp only [Act.put, List.setIfInBounds_toArray, List.set_cons_zero, List.set_cons_succ]
        refine aTake (i := 16) (v := ?v13) rfl (by kernel_rfl) (by kernel_rfl) (by kernel_rfl) (fun _ _ _ h => h) (Or.inl ⟨by rfl, ?y13⟩) ?r13
        case y13 =>
          intro w9
          go_simp
          try with_reducible rfl
        try simp only [Act.put, List.setIfInBounds_toArray, List.set_cons_zero, List.set_cons_succ]
        refine aTake (i := 17) (v := ?v14) rfl (by kernel_rfl) (by kernel_rfl) (by kernel_rfl) (fun _ _ _ h => h) (Or.inl ⟨by rfl, ?y14⟩) ?r14
        case y14 =>
          intro w9
          go_simp
          try with_reducible rfl
        try simp only [Act.put, List.setIfInBounds_toArray, List.set_cons_zero, List.set_cons_succ]
        refine wpAny_done (by kernel_rfl) ?_ _
        clear d0 hs1 hs2 hs3 hs4 hs5 hs6 hact
        generalize stp s ⟨kd, n, m, tx⟩ = s2 at *
        have hll : ((s2.bs.length : Int) != (s2.bs.length : Int)) = false := by simp
        go_wp2_with fail
        refine (all_any _ _ _ _ hT4.pc (by omega)).mono ?_
        rintro e u6 ⟨a6, c6, rfl, hR6, hb6⟩
        have hT6 := hT4.grow hb6
        go_wp2_with fail
        refine (sall_any _ _ _ _ hT6.ps (by omega)).mono ?_
        rintro e u7 ⟨a7, c7, rfl, hR7, hb7⟩
        have hT7 := hT6.grow hb7
        have hr6 := hR6.rd.below hb7
        have hr7 := hR7.rd
        generalize allB s2 = zs at *
        generalize allE s2 = ev at *
        have hee : (ev != ev) = false := by simp
        clear hT4 hT6 hR6 hR7 hb6 hb7
        go_wp2_with fail
        refine (same8_any _ _ _ _ zs _ hr6 hr7).mono ?_
        rintro e u8 ⟨rfl, hb8⟩
        have hT8 := hT7.grow hb8
        clear hT7 hr6 hr7 hb8
        go_wp2
        go_roundw
        case rel => exact ⟨k + 1, by omega, by go_num, ⟨_, _, by rw [HRS.out]; exact hT8⟩, by rw [HRS.out]; exact hnl.out⟩
        case measure => simp [intOf]; omega
      · go_simp
        refine hK.out _ _ ?_
        clear hK K
        try simp only [Act.put, List.setIfInBounds_toArray, List.set_cons_zero, List.set_cons_succ]
        refine aTake (i := 15) (v := ?v15) rfl (by kernel_rfl) (by kernel_rfl) (by kernel_rfl) (fun _ _ _ h => h) (Or.inl ⟨by rfl, ?y15⟩) ?r15
        case y15 =>
          intro w9
          go_simp
          try with_reducible rfl
        try simp only [Act.put, List.setIfInBounds_toArray, List.set_cons_zero, List.set_cons_succ]
        refine wpAny_ready (rs := [10]) (by kernel_rfl) (by simp) (aCons (i := 10) rfl (by rfl) (fun K hK => ?_) AllReady.nil)
        go_simp
        refine (here_any _ _ _ _ hT4.pc).mono ?_
        rintro e u5 ⟨rfl, rfl⟩
        go_wp2_with fail
        refine hK.out _ _ ?_
        clear hK K
        try simp only [Act.put, List.setIfInBounds_toArray, List.set_cons_zero, List.set_cons_succ]
        refine aTake (i := 16) (v := ?v16) rfl (by kernel_rfl) (by kernel_rfl) (by kernel_rfl) (fun _ _ _ h => h) (Or.inl ⟨by rfl, ?y16⟩) ?r16
        case y16 =>
          intro w9
          go_simp
          try with_reducible rfl
        try simp only [Act.put, List.setIfInBounds_toArray, List.set_cons_zero, List.set_cons_succ]
        refine aTake (i := 17) (v := ?v17) rfl (by kernel_rfl) (by kernel_rfl) (by kernel_rfl) (fun _ _ _ h => h) (Or.inl ⟨by rfl, ?y17⟩) ?r17
        case y17 =>
          intro w9
          go_simp
          try with_reducible rfl
        try simp only [Act.put, List.setIfInBounds_toArray, List.set_cons_zero, List.set_cons_succ]
        refine wpAny_done (by kernel_rfl) ?_ _
        clear d0 hs1 hs2 hs3 hs4 hs5 hs6 hact
        generalize stp s ⟨kd, n, m, tx⟩ = s2 at *
        have hll : ((s2.bs.length : Int) != (s2.bs.length : Int)) = false := by simp
        go_wp2_with fail
        refine (all_any _ _ _ _ hT4.pc (by omega)).mono ?_
        rintro e u6 ⟨a6, c6, rfl, hR6, hb6⟩
        have hT6 := hT4.grow hb6
        go_wp2_with fail
        refine (sall_any _ _ _ _ hT6.ps (by omega)).mono ?_
        rintro e u7 ⟨a7, c7, rfl, hR7, hb7⟩
        have hT7 := hT6.grow hb7
        have hr6 := hR6.rd.below hb7
        have hr7 := hR7.rd
        generalize allB s2 = zs at *
        generalize allE s2 = ev at *
        have hee : (ev != ev) = false := by simp
        clear hT4 hT6 hR6 hR7 hb6 hb7
        go_wp2_with fail
        refine (same8_any _ _ _ _ zs _ hr6 hr7).mono ?_
        rintro e u8 ⟨rfl, hb8⟩
        have hT8 := hT7.grow hb8
        clear hT7 hr6 hr7 hb8
        go_wp2
        go_roundw
        case rel => exact ⟨k + 1, by omega, by go_num, ⟨_, _, by rw [HRS.out]; exact hT8⟩, by rw [HRS.out]; exact hnl.out⟩
        case measure => simp [intOf]; omega
    · obtain rfl : k = os.length := by omega
      have hbe : Below w.heap.size w wr := by obtain ⟨_, _, hT'⟩ := hT; exact hT'.be
      have hgg : (gd (sb t) == gd (sb t)) = true := by simp
      go_wp2_with fail
      refine (good_any t _ ht).mono ?_
      rintro e u ⟨rfl, rfl⟩
      go_wp2_with fail
      refine (sgood_any t _ ht).mono ?_
      rintro e u ⟨rfl, rfl⟩
      go_wp2
      go_ret
      exact ⟨rt_bool (by simp), hbe⟩

end Go.Proofs.Ytcjomppgllbfpaa
