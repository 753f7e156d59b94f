/-
  The tables' own copy, by their tags: slices.Clone, slices.SortFunc.
-/
import Derived.Test.YtijehnfadpoapaaSR2
import Derived.Test.YtijehnfadpoapaaSO
import Derived.Test.YtijehnfadpoapaaShelfS
namespace Go.Proofs.Ytijehnfadpoapaa
open Go.RowKit Go.Maps
set_option linter.unusedSimpArgs false
set_option linter.unusedVariables false

/-- A table and where its bytes lie. -/
abbrev Al := ByteArray × List Nat × Option Addr × Nat
def enA (x : Al) : List Value := [.string x.1, .slice x.2.2.1 x.2.1.length x.2.2.2]
def tbA (x : Al) : Tb := ⟨x.1, x.2.1⟩
def cfA (x y : Al) : Int := Lib.compareBytes x.1.data.toList y.1.data.toList
theorem cmpB_iff : ∀ (a b : List UInt8), Lib.compareBytes a b < 0 ↔ a < b := by
  intro a
  induction a with
  | nil => intro b; cases b <;> simp [Lib.compareBytes]
  | cons x a ih =>
    intro b
    cases b with
    | nil => simp [Lib.compareBytes]
    | cons y b =>
      rw [Lib.compareBytes, List.cons_lt_cons_iff]
      by_cases h1 : x < y
      · simp [h1]
      · by_cases h2 : y < x
        · have h3 : x ≠ y := by
            rintro rfl
            exact h1 h2
          simp [h1, h2, h3]
        · have h3 : x = y := UInt8.le_antisymm (UInt8.not_lt.1 h2) (UInt8.not_lt.1 h1)
          simp [h1, h2, ih b]
          exact fun _ => h3
theorem ltA_iff (x y : Al) : ltOf cfA x y = true ↔ tlt x.1 y.1 := by
  unfold ltOf cfA tlt
  rw [ByteArray.toList_eq, ByteArray.toList_eq, decide_eq_true_iff]
  exact cmpB_iff _ _
theorem ltA_no (x y : Al) : ltOf cfA x y = false ↔ ¬ tlt x.1 y.1 := by
  rw [← ltA_iff]
  simp
theorem swoA : Sort.SWO (ltOf cfA) where
  irrefl x := (ltA_no x x).2 (tlt_irrefl _)
  trans x y z h1 h2 := (ltA_iff x z).2 (tlt_trans ((ltA_iff x y).1 h1) ((ltA_iff y z).1 h2))
  ntrans x y z h1 h2 := by
    rw [ltA_no] at *
    exact List.not_lt.2 (List.le_trans (List.not_lt.1 h2) (List.not_lt.1 h1))

theorem info_tabC : (Try.prog.info? 46).map (fun i => (i.zero, i.size, i.bytes)) = some (some (.agg #[.string ⟨#[]⟩, .slice none 0 0]), 2, 40) := by kernel_rfl

set_option maxHeartbeats 1000000 in
set_option maxRecDepth 100000 in
/-- The closure that Pack hands over. -/
theorem closure_any (x y : Al) (W : World) : Calls Try.prog 26 #[.agg #[.string x.1, .slice x.2.2.1 x.2.1.length x.2.2.2], .agg #[.string y.1, .slice y.2.2.1 y.2.1.length y.2.2.2]] W fun e w' => e = .returned (.int .i64 (cfA x y)) ∧ ∃ q os', w' = Sort.grow (W.drewN q) os' := by
  have hcon := fun W' => Any.strings_Compare Try.cmpS x.1 y.1 W'
  change ∀ W', Calls Try.prog 27 _ _ _ at hcon
  unfold cfA
  generalize Lib.compareBytes x.1.data.toList y.1.data.toList = r at hcon ⊢
  go_enter Try.func26, Try.ntmps26
  go_wp2_with (go_at_call 27; refine (hcon _).mono ?_; rintro e w' ⟨rfl, rfl⟩)
  go_ret
  exact ⟨rfl, 0, _, by rw [Sort.alloc_eq_grow, Sort.alloc_eq_grow, Sort.grow_grow]; rfl⟩
theorem cmpLaysA (blk off size : Nat) (w : World) : CmpLays Try.prog 26 #[] enA 2 cfA blk off size w :=
  fun _ _ _ _ x y => closure_any x y _

/-- A row of tables, cell by cell, that may be written. -/
theorem heap_putRowK (w : World) (blk off : Nat) (d : Array Al) {k : Nat} (hk : k ≠ blk) : (Sort.putRowK enA 2 w blk off d).heap[k]? = w.heap[k]? := by
  simp [Sort.putRowK, Sort.putRow, Sort.mapBlock, Array.getElem?_modify, Ne.symm hk]

structure RowA (base : Nat) (w u : World) (g c : Nat) (d : Array Al) : Prop where
  lo : base ≤ g
  hi : g < u.heap.size
  holds : Sort.HoldsK enA 2 u g 0 d
  cap : d.size ≤ c ∧ c ≤ maxLen
  bytes : ∀ x ∈ d.toList, x.1.size ≤ maxLen ∧ Rb u x.2.2.1 x.2.2.2 x.2.1 ∧ (x.2.1 ≠ [] → ∀ b o, x.2.2.1 = some ⟨b, o, none⟩ → b < base)
  below : Below base w u

theorem RowA.ts {base : Nat} {w u : World} {g c : Nat} {d : Array Al} (h : RowA base w u g c d) : Ts u (some ⟨g, 0, none⟩) c (d.toList.map tbA) := by
  refine ⟨by simp; exact h.cap.1, h.cap.2, ?_, fun i hi => ?_⟩
  · intro t ht
    obtain ⟨x, hx, rfl⟩ := List.mem_map.1 ht
    exact (h.bytes x hx).1
  · have hi' : i < d.size := by simpa using hi
    have e : (d.toList.map tbA).getD i Tb.none = tbA d[i]! := by simp [List.getD, hi']
    have hm : d[i]! ∈ d.toList := by rw [getElem!_pos d i hi']; simp
    have c0 := (h.holds.cell hi' (show 0 < 2 by decide)).1
    have c1 := (h.holds.cell hi' (show 1 < 2 by decide)).1
    rw [e]
    exact ⟨g, 0, d[i]!.2.2.1, d[i]!.2.2.2, rfl, h.hi, c0, c1, (h.bytes _ hm).2.1⟩

theorem sortA {base : Nat} {w u : World} {g c : Nat} {d d' : Array Al} (h : RowA base w u g c d) (n : Nat) (os : Array Obj) (hp : Sort.PermIn 0 d.size d d') : RowA base w (sortWorldK enA 2 u g 0 n d' os) g c d' := by
  have hsz : (sortWorldK enA 2 u g 0 n d' os).heap.size = u.heap.size + os.size := by
    simp [sortWorldK, Sort.grow, Sort.putRowK, Sort.putRow, Sort.mapBlock, Sort.ahead]
  have hblk : ∀ k, k < u.heap.size → k ≠ g → (sortWorldK enA 2 u g 0 n d' os).heap[k]? = u.heap[k]? := by
    intro k h1 h2
    rw [sortWorldK, Sort.heap_grow_old _ _ (by rw [Sort.size_putRowK]; exact h1), heap_putRowK _ _ _ _ h2]
    rfl
  have hle : base ≤ u.heap.size := Nat.le_trans h.lo (Nat.le_of_lt h.hi)
  have hB : Below base u (sortWorldK enA 2 u g 0 n d' os) := ⟨rfl, rfl, rfl, by rw [hsz]; omega, fun k hk => hblk k (by omega) (by have := h.lo; omega)⟩
  have hsd : d'.size = d.size := hp.1
  refine ⟨h.lo, by rw [hsz]; have := h.hi; omega, ?_, by rw [hsd]; exact h.cap, fun x hx => ?_, h.below.trans hB⟩
  · exact Sort.holdsK_grow enA 2 _ os g 0 d' (by rw [Sort.size_putRowK]; exact h.hi) (Sort.holdsK_putRowK enA 2 (Sort.ahead u n) g 0 d d' h.holds hsd)
  · have hx' : x ∈ d.toList := by
      have e := hp.2.2
      have e1 : d'.extract 0 d.size = d' := by rw [← hsd]; simp
      have e2 : d.extract 0 d.size = d := by simp
      rw [e1, e2] at e
      exact e.subset hx
    obtain ⟨b1, b2, b3⟩ := h.bytes x hx'
    refine ⟨b1, ?_, b3⟩
    exact b2.kept' (Keep.of_below hB (G := (· < base)) (fun k hk => hk)) b3

theorem riseA {d d' : Array Al} (hp : Sort.PermIn 0 d.size d d') (hs : Sort.SortedIn (ltOf cfA) 0 d.size d') (hD : Dis (d.toList.map tbA)) : d'.toList.map tbA = srt (d.toList.map tbA) := by
  have hsd : d'.size = d.size := hp.1
  have hpp : d'.toList.Perm d.toList := by
    have e := hp.2.2
    have e1 : d'.extract 0 d.size = d' := by rw [← hsd]; simp
    have e2 : d.extract 0 d.size = d := by simp
    rw [e1, e2] at e
    exact e
  have hpt := hpp.map tbA
  have hD' : Dis (d'.toList.map tbA) := hD.perm hpt.symm
  refine srt_of_perm hD ?_ hpt
  unfold Ris
  unfold Dis at hD'
  rw [List.pairwise_iff_getElem] at hD' ⊢
  intro i j hi hj hij
  have hne := hD' i j hi hj hij
  have hi' : i < d'.size := by simpa using hi
  have hj' : j < d'.size := by simpa using hj
  have := hs i j (Nat.zero_le _) hij (by omega)
  rw [ltA_no, getElem!_pos d' i hi', getElem!_pos d' j hj'] at this
  simp only [List.getElem_map, Array.getElem_toList, tbA] at hne ⊢
  rcases tlt_total hne with h1 | h1
  · exact h1
  · exact absurd h1 this

set_option maxHeartbeats 1000000 in
set_option maxRecDepth 100000 in
theorem sort_any {base : Nat} {w u : World} {g c : Nat} {d : Array Al} (h : RowA base w u g c d) (hD : Dis (d.toList.map tbA)) (hsz : d.size < 1000000) :
    Calls Try.prog 25 #[.slice (some ⟨g, 0, none⟩) d.size c, .func (.func 26) #[] #[]] u fun e w' => e = .returned (.tuple #[]) ∧ Ts w' (some ⟨g, 0, none⟩) c (srt (d.toList.map tbA)) ∧ Below base w w' := by
  have eg : ∀ args w, (callFunc 26 args).run Try.prog w = .ok (.enter 26 args) w := enters_of Try.func26 (by kernel_rfl) rfl
  have hcon := AnyQ.slices_SortFunc Try.sortT 2 Try.isAgg46 Try.sizeOf46 enA (fun _ => rfl) (fun x v hv => by simp [enA] at hv; rcases hv with rfl | rfl <;> rfl) cfA swoA 26 #[] g 0 c d u eg (cmpLaysA g 0 d.size u) h.holds h.hi (by omega)
  change Calls Try.prog 25 _ _ _ at hcon
  refine hcon.mono ?_
  rintro e w' ⟨rfl, d', n, os, hp, hs, rfl⟩
  have h2 := sortA h n os hp
  have h3 := h2.ts
  rw [riseA hp hs hD] at h3
  exact ⟨rfl, h3, h2.below⟩

set_option maxHeartbeats 1000000 in
set_option maxRecDepth 100000 in
theorem tclone_any (b off cap : Nat) (l : List Tb) (w : World) (h : Ts w (some ⟨b, off, none⟩) cap l) (hl : l.length ≤ 1000000) :
    Calls Try.prog 24 #[.slice (some ⟨b, off, none⟩) l.length cap] w fun e w' => ∃ g c d, e = .returned (.slice (some ⟨g, 0, none⟩) l.length c) ∧ d.toList.map tbA = l ∧ RowA w.heap.size w w' g c d := by
  obtain ⟨i0, hi, hz0, hz1, hz2⟩ := info_parts info_tabC
  have q22 : ∀ (w : World) (a : Option Addr) (n c n' c' : Nat), (binOp .eql 22 (.slice a n c) (.slice none n' c')).run Try.prog w = .ok (.bool a.isNone) w := fun w a n c n' c' => Lib.run_eql_slice_nil w _ _ a n c n' c' Try.underlying22
  obtain ⟨dl, hdl, hd⟩ := list_of_ltT (d := ((⟨#[]⟩, [], none, 0) : Al)) (p := fun i x => tbA x = l.getD i Tb.none ∧ w.cell? ⟨b, off + i * 2, none⟩ = some (.string x.1) ∧ w.cell? ⟨b, off + i * 2 + 1, none⟩ = some (.slice x.2.2.1 x.2.1.length x.2.2.2) ∧ Rb w x.2.2.1 x.2.2.2 x.2.1) l.length (fun i hi => by
    obtain ⟨b', off', c0, c, e, h2, h3, h4, h5⟩ := h.2.2.2 i hi
    cases e
    exact ⟨((l.getD i Tb.none).tx, (l.getD i Tb.none).bs, c0, c), rfl, h3, h4, h5⟩)
  have hdm : dl.map tbA = l := by
    apply List.ext_getElem
    · simpa using hdl
    · intro i h1 h2
      have := (hd i h2).1
      simp [List.getD, h2, hdl] at this
      simpa using this
  obtain ⟨d, hdd⟩ : ∃ d : Array Al, d.toList = dl := ⟨dl.toArray, by simp⟩
  have hds : d.size = l.length := by rw [← hdl, ← hdd]; simp
  have hget : ∀ i, i < l.length → d[i]! = dl.getD i (⟨#[]⟩, [], none, 0) := by
    intro i hi
    subst hdd
    rw [getElem!_pos d i (by omega)]
    simp [List.getD, hds, hi]
  obtain ⟨news, hnw⟩ : ∃ news, (Sort.flatK enA 2 d).toList = news := ⟨_, rfl⟩
  have hnl : news.length = l.length * 2 := by rw [← hnw, Array.length_toList, Sort.size_flatK, hds]
  have hcell : ∀ j u, news[j]? = some u → w.cell? ⟨b, off + j, none⟩ = some u := by
    intro j u hj
    have hjl : j < d.size * 2 := by
      have := (List.getElem?_eq_some_iff.1 hj).1
      omega
    rw [← hnw, Array.getElem?_toList] at hj
    have e1 := Sort.get_flatK enA 2 d j hjl
    rw [getElem!_def, hj] at e1
    simp only at e1
    rw [e1]
    have hi2 : j / 2 < l.length := by omega
    obtain ⟨_, k1, k2, _⟩ := hd (j / 2) hi2
    rw [hget _ hi2]
    rcases Nat.mod_two_eq_zero_or_one j with hm | hm
    · rw [hm]
      rw [show off + j / 2 * 2 = off + j by omega] at k1
      exact k1
    · rw [hm]
      rw [show off + j / 2 * 2 + 1 = off + j by omega] at k2
      exact k2
  have hone : ∀ u ∈ news, u.oneCell' = true := by
    intro u hu
    obtain ⟨j, hj, e⟩ := List.getElem_of_mem hu
    have hj2 : news[j]? = some u := List.getElem?_eq_some_iff.2 ⟨hj, e⟩
    have hjl : j < d.size * 2 := by omega
    rw [← hnw, Array.getElem?_toList] at hj2
    have e1 := Sort.get_flatK enA 2 d j hjl
    rw [getElem!_def, hj2] at e1
    simp only at e1
    rw [e1]
    rcases Nat.mod_two_eq_zero_or_one j with hm | hm <;> rw [hm] <;> rfl
  have HC : Hid (∀ j u, news[j]? = some u → w.cell? ⟨b, off + j, none⟩ = some u) := hcell
  have HD : Hid (∀ i, i < l.length → tbA (dl.getD i (⟨#[]⟩, [], none, 0)) = l.getD i Tb.none ∧ w.cell? ⟨b, off + i * 2, none⟩ = some (.string (dl.getD i (⟨#[]⟩, [], none, 0)).1) ∧ w.cell? ⟨b, off + i * 2 + 1, none⟩ = some (.slice (dl.getD i (⟨#[]⟩, [], none, 0)).2.2.1 (dl.getD i (⟨#[]⟩, [], none, 0)).2.1.length (dl.getD i (⟨#[]⟩, [], none, 0)).2.2.2) ∧ Rb w (dl.getD i (⟨#[]⟩, [], none, 0)).2.2.1 (dl.getD i (⟨#[]⟩, [], none, 0)).2.2.2 (dl.getD i (⟨#[]⟩, [], none, 0)).2.1) := hd
  have HDM : Hid (dl.map tbA = l) := hdm
  have HDS : Hid (d.size = l.length) := hds
  have HDD : Hid (d.toList = dl) := hdd
  have HNW : Hid ((Sort.flatK enA 2 d).toList = news) := hnw
  have HNL : Hid (news.length = l.length * 2) := hnl
  have HTX : Hid (∀ t ∈ l, t.tx.size ≤ maxLen) := h.2.2.1
  have HDL : Hid (dl.length = l.length) := hdl
  clear hcell hd hdm hds hdd hnw hnl hget hdl h
  go_enter Try.func24, Try.ntmps24
  go_wp2_with (at_builtin; refine wpList_append_own_at _ rfl _ _ 22 rfl w.heap.size 46 i0 (.agg #[.string ⟨#[]⟩, .slice none 0 0]) 2 40 Try.underlying22 hi hz0 hz1 hz2 rfl (by decide) _ 0 [] rfl ?q1 ⟨b, off, none⟩ l.length cap news rfl ?q2 ?q3 hone ?q4 ?q5 ?q6 ?_)
  case q1 => exact World.ownsRow_made w #[] 0 (Nat.le_refl _) (Nat.zero_le _) rfl
  case q2 => exact HNL.out
  case q3 =>
    intro j u hj
    rw [Addr.add_lit]
    exact Lib.cell?_alloc_some _ (HC.out j u hj)
  case q4 => unfold maxLen; omega
  case q5 => omega
  case q6 => simp
  intro v' w1 hown hgrow hnil hat
  have hB : Below w.heap.size w w1 := ((Below.refl _ w).alloc (Nat.le_refl _) _).grown hgrow (by simp) (by intro k hk; simp [Value.ownBlock] at hk; omega)
  have hown' := hown
  rcases hown.2 with ⟨e0, h0⟩ | ⟨g, cap', cur, e0, hbg, hg, hc1, hc2, hc3, ht⟩
  · exact absurd e0 hnil
  subst e0
  go_wp2
  go_ret
  refine ⟨g, cap', d, rfl, by rw [HDD.out]; exact HDM.out, hbg, (Array.getElem?_eq_some_iff.1 hg).1, ?_, by rw [HDS.out]; exact ⟨hc1, hc2⟩, ?_, hB⟩
  · intro j hj
    have hjn : j < news.length := by rw [← HNW.out]; simpa using hj
    have e1 : news[j]? = some (Sort.flatK enA 2 d)[j]! := by
      rw [← HNW.out, Array.getElem?_toList, getElem!_pos _ j hj]
      exact Array.getElem?_eq_getElem hj
    have d1 := hown'.cells (g := g) rfl j _ e1
    rw [Addr.add_lit] at d1
    exact ⟨d1, frozen_of_row w1 g (0 + j) _ _ hg⟩
  · intro x hx
    rw [HDD.out] at hx
    obtain ⟨i, hi, e⟩ := List.getElem_of_mem hx
    have hil : i < l.length := by rw [← HDL.out]; exact hi
    have ex : dl.getD i (⟨#[]⟩, [], none, 0) = x := by simp [List.getD, hi, e]
    obtain ⟨k0, k1, k2, k3⟩ := HD.out i hil
    rw [ex] at k0 k3
    refine ⟨?_, k3.below hB, k3.lt⟩
    have := HTX.out _ (getD_mem hil)
    rw [← k0] at this
    exact this

end Go.Proofs.Ytijehnfadpoapaa
