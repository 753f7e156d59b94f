/-
  foundryref13.Same, foundrylaw13.plain, foundrylaw13.few: the walks.
  foundrylaw14.plain: the walk.
  What a law is told of a slice of bytes, or of int32, that came in.
  What a law is told of things that came in, one for all (Opens).
  What a law is told of an outline that came in.
  Rows of int16 that are read.
  What a law of layer 13 is told of what came in: rows of ints, int16 and bools; structs of them.
  What a law of layer 14 is told of what came in: an outline and its tuples.
-/
import Derived.Test.YtngmcghmniakeaaGreatZM41
import Derived.Test.YtngmcghmniakeaaGreatZM25
import Derived.Test.YtngmcghmniakeaaGreatZM7
import Derived.Test.YtngmcghmniakeaaGreatZM6
import Derived.ProofKit
import Derived.Test.YtngmcghmniakeaaGreatZM8
import Derived.Deep.Strs
import Derived.OpenShut
import Derived.SizedLaws
import Derived.Lib.SmallJoins
import Derived.Test.YtngmcghmniakeaaGreatZM13
import Derived.Test.YtngmcghmniakeaaGreatZM14
set_option maxHeartbeats 2000000
set_option maxRecDepth 100000
set_option linter.unusedSimpArgs false
set_option linter.unusedVariables false
namespace Go.Proofs.YtngmcghmniakeaaGreat
open Go.RowKit Go.Maps
theorem ssameR_any (k l : Nat) (a : Option Addr) (ca : Nat) (b : Option Addr) (cb : Nat) (qs : List Rat) (w : World) (ha : Rz w a ca k qs) (hb : Rz w b cb l qs) :
    Calls Tryz.prog 12 #[.slice a qs.length ca, .slice b qs.length cb] w fun e w' => e = .returned (.bool true) ∧ Below w.heap.size w w' := by
 have b1 := ha.lenB
 have HA : Hid (Rz w a ca k qs) := ha
 have HB : Hid (Rz w b cb l qs) := hb
 clear ha hb
 go_enter Tryz.func12, Tryz.ntmps12
 go_wp2
 go_loopw [5] (fun i wr => ∃ j : Nat, j ≤ qs.length ∧ i = .int .i64 j ∧ Below w.heap.size w wr) (fun i _ => qs.length - (intOf i).toNat)
 case atStart => exact ⟨0, Nat.zero_le _, rfl, Below.refl _ _⟩
 case round =>
  obtain ⟨i, hi, rfl, hB⟩ := hrel
  by_cases hin : i < qs.length
  · obtain ⟨c1, o1, x1, y1, z1, ea1, hc1, d0, d1, d2, hFa⟩ := HA.out.at hB i hin
    subst ea1
    obtain ⟨c2, o2, x2, y2, z2, ea2, hc2, d3, d4, d5, hFb⟩ := HB.out.at hB i hin
    subst ea2
    have i1 : (0 : Int) ≤ (i : Int) := by omega
    have i2 : (i : Int) < (qs.length : Int) := by omega
    obtain ⟨n1, a10, a11, a12, a13, a14, a15, e1⟩ := hFa.cells3'
    simp only [Value.agg.injEq, Array.mk.injEq, List.cons.injEq, and_true] at e1
    obtain ⟨rfl, rfl, rfl⟩ := e1; obtain ⟨n2, a20, a21, a22, a23, a24, a25, e2⟩ := hFb.cells3'
    simp only [Value.agg.injEq, Array.mk.injEq, List.cons.injEq, and_true] at e2
    obtain ⟨rfl, rfl, rfl⟩ := e2
    go_wp2_with fail
    refine wp_region_held_drew (S := fun w9 => w9.cell? ⟨c1, o1 + i * 3, none⟩ = some (.bool n1) ∧ w9.cell? ⟨c1, o1 + i * 3 + 1, none⟩ = some (.slice a10 a11 a12) ∧ w9.cell? ⟨c1, o1 + i * 3 + 2, none⟩ = some (.slice a13 a14 a15) ∧ w9.cell? ⟨c2, o2 + i * 3, none⟩ = some (.bool n2) ∧ w9.cell? ⟨c2, o2 + i * 3 + 1, none⟩ = some (.slice a20 a21 a22) ∧ w9.cell? ⟨c2, o2 + i * 3 + 2, none⟩ = some (.slice a23 a24 a25)) (by kernel_rfl) ?_ (fun hHeld => ?_)
    · (try dsimp only)
      go_keep
    have hdr : Below wr.heap.size wr wr.drew := Below.drew1
    generalize wr.drew = Z1 at hdr hHeld ⊢
    replace hFa := hFa.below hdr; replace hFb := hFb.below hdr
    replace hB := hB.trans (hdr.mono hB.size)
    clear hdr; refine hT 0 hHeld ?_; refine hT 1 hHeld ?_; refine hT 2 hHeld ?_; refine hT 3 hHeld ?_; refine hT 4 hHeld ?_; refine hT 5 hHeld ?_; refine hT 6 hHeld ?_; refine hT 7 hHeld ?_
    refine hCall (i := 8) rfl (by kernel_rfl) (by rfl) (fun K hK => ?_)
    go_simp
    refine (same3_any k l _ _ _ _ Z1 hFa hFb rfl).mono ?_
    rintro e m5 ⟨rfl, hbc⟩
    have hHz : m5.cell? ⟨c1, o1 + i * 3, none⟩ = some (.bool n1) ∧ m5.cell? ⟨c1, o1 + i * 3 + 1, none⟩ = some (.slice a10 a11 a12) ∧ m5.cell? ⟨c1, o1 + i * 3 + 2, none⟩ = some (.slice a13 a14 a15) ∧ m5.cell? ⟨c2, o2 + i * 3, none⟩ = some (.bool n2) ∧ m5.cell? ⟨c2, o2 + i * 3 + 1, none⟩ = some (.slice a20 a21 a22) ∧ m5.cell? ⟨c2, o2 + i * 3 + 2, none⟩ = some (.slice a23 a24 a25) := ⟨(hbc.cell (p := ⟨c1, o1 + i * 3, none⟩) (Nat.lt_of_lt_of_le hc1 hB.size)).trans hHeld.1, (hbc.cell (p := ⟨c1, o1 + i * 3 + 1, none⟩) (Nat.lt_of_lt_of_le hc1 hB.size)).trans hHeld.2.1, (hbc.cell (p := ⟨c1, o1 + i * 3 + 2, none⟩) (Nat.lt_of_lt_of_le hc1 hB.size)).trans hHeld.2.2.1, (hbc.cell (p := ⟨c2, o2 + i * 3, none⟩) (Nat.lt_of_lt_of_le hc2 hB.size)).trans hHeld.2.2.2.1, (hbc.cell (p := ⟨c2, o2 + i * 3 + 1, none⟩) (Nat.lt_of_lt_of_le hc2 hB.size)).trans hHeld.2.2.2.2.1, (hbc.cell (p := ⟨c2, o2 + i * 3 + 2, none⟩) (Nat.lt_of_lt_of_le hc2 hB.size)).trans hHeld.2.2.2.2.2⟩
    replace hFa := hFa.below hbc; replace hFb := hFb.below hbc
    replace hB := hB.trans (hbc.mono hB.size)
    clear hbc
    go_wp2_with fail
    refine hK.out _ _ ?_ (fun hHeld => ?_)
    · (try dsimp only)
      exact hHz
    clear hK K hHz
    try simp only [Act.put, pZ]
    refine hT 9 hHeld ?_
    refine wpAnyH_done (by kernel_rfl) ?_ _
    clear hHeld; go_wp2
    go_roundw
    case rel => exact ⟨i + 1, by omega, by go_num, hB⟩
    case measure => simp [intOf]; omega
  · obtain rfl : i = qs.length := by omega
    have g6 : ¬ (qs.length : Int) < (qs.length : Int) := by omega
    go_wp2
    go_ret
    exact ⟨rfl, hB⟩
theorem plain14_any (a : Option Addr) (ca : Nat) (qs : List Rat) (w : World) (h : Rf w a ca 900 qs) (hl : qs.length ≤ 100000) :
    Calls Tryz.prog 13 #[.slice a qs.length ca] w fun e w' => ∃ a' c', e = .returned (.slice a' qs.length c') ∧ Rf w' a' c' 900 qs ∧ Below w.heap.size w w' := by
 have HA : Hid (Rf w a ca 900 qs) := h
 clear h
 go_enter Tryz.func13, Tryz.ntmps13
 go_wp2
 go_loopw [3, 4] (fun v i wr => ∃ k : Nat, k ≤ qs.length ∧ i = .int .i64 k ∧ Ro 80 w.heap.size wr v 900 (qs.take k) ∧ Below w.heap.size w wr) (fun _ i _ => qs.length - (intOf i).toNat)
 case atStart => exact ⟨0, Nat.zero_le _, rfl, Ro.nil _ _ _ _, Below.refl _ _⟩
 case round =>
  obtain ⟨k, hk, rfl, hT, hB⟩ := hrel; obtain ⟨a2, c2, rfl, hts⟩ := hT.rf
  have hlen : (qs.take k).length = k := by rw [List.length_take]; omega
  rw [hlen] at hT ⊢
  have HT2 : Hid (Ro 80 w.heap.size wr (.slice a2 k c2) 900 (qs.take k)) := hT
  have HTS : Hid (Rf wr a2 c2 900 (qs.take k)) := hts
  clear hT hts
  have hsz := hB.size
  by_cases hkn : k < qs.length
  · obtain ⟨b0, o0, x, y, z, ea, hbb0, d0, d1, d2, hF1⟩ := HA.out.1.at hB k hkn
    subst ea
    have HS : Hid (qs.take (k + 1) = qs.take k ++ [qs.getD k 0]) := by show _ = _; rw [List.take_add_one, List.getElem?_eq_getElem hkn]; simp [List.getD, hkn]
    have hll : (qs.take k).length + [qs.getD k 0].length ≤ 1000000 := by rw [hlen]; simp; omega
    have i1 : (0 : Int) ≤ (k : Int) := by omega
    have i2 : (k : Int) < (qs.length : Int) := by omega
    obtain ⟨z1, x1, x2, x3, x4, x5, x6, e9⟩ := hF1.cells3'
    simp only [Value.agg.injEq, Array.mk.injEq, List.cons.injEq, and_true] at e9
    obtain ⟨rfl, rfl, rfl⟩ := e9
    generalize qs.take k = L at *
    go_wp2_with fail
    refine wp_region_held_drew (S := fun w9 => w9.cell? ⟨b0, o0 + k * 3, none⟩ = some (.bool z1) ∧ w9.cell? ⟨b0, o0 + k * 3 + 1, none⟩ = some (.slice x1 x2 x3) ∧ w9.cell? ⟨b0, o0 + k * 3 + 2, none⟩ = some (.slice x4 x5 x6)) (by kernel_rfl) ?_ (fun hHeld => ?_)
    · (try dsimp only)
      go_keep
    have hdr : Below wr.heap.size wr wr.drew := Below.drew1
    generalize wr.drew = Z at hdr hHeld ⊢
    have hBq : Below w.heap.size w Z := hB.trans (hdr.mono hB.size)
    have hown := HT2.out.below hdr
    replace hF1 := hF1.below hdr; clear hdr d0 d1 d2; refine hT 0 hHeld ?_; refine hT 1 hHeld ?_; refine hT 2 hHeld ?_; refine hT 3 hHeld ?_; refine hT 4 hHeld ?_; refine hT 5 hHeld ?_; refine hT 6 hHeld ?_; refine hT 7 hHeld ?_; refine hT 8 hHeld ?_; refine hT 9 hHeld ?_; refine hT 10 hHeld ?_; refine hT 11 hHeld ?_
    refine hT 12 hHeld ?_; refine hT 13 hHeld ?_; refine hT 14 hHeld ?_; refine hT 15 hHeld ?_; refine hT 16 hHeld ?_
    obtain ⟨V, hV, B4, hb4⟩ : ∃ V, V = Z.alloc (.cells #[.bool z1, .slice x1 x2 x3, .slice x4 x5 x6] 80) ∧ Box 80 V Z.heap.size (.bool z1) (.slice x1 x2 x3) (.slice x4 x5 x6) ∧ Below Z.heap.size Z V := ⟨_, rfl, Box.new _ _ _ _ _, bl1 _⟩
    obtain ⟨r0, r1, r2, _⟩ := B4.cells
    have hone := Rz.one B4.lt r0 r1 r2 (hF1.below hb4)
    refine hCall (i := 17) rfl (by kernel_rfl) (by rfl) (fun K hK => ?_)
    go_simp; rw [← hV]; clear hV
    have hHz : V.cell? ⟨b0, o0 + k * 3, none⟩ = some (.bool z1) ∧ V.cell? ⟨b0, o0 + k * 3 + 1, none⟩ = some (.slice x1 x2 x3) ∧ V.cell? ⟨b0, o0 + k * 3 + 2, none⟩ = some (.slice x4 x5 x6) := ⟨(hb4.cell (p := ⟨b0, o0 + k * 3, none⟩) (Nat.lt_of_lt_of_le hbb0 hBq.size)).trans hHeld.1, (hb4.cell (p := ⟨b0, o0 + k * 3 + 1, none⟩) (Nat.lt_of_lt_of_le hbb0 hBq.size)).trans hHeld.2.1, (hb4.cell (p := ⟨b0, o0 + k * 3 + 2, none⟩) (Nat.lt_of_lt_of_le hbb0 hBq.size)).trans hHeld.2.2⟩
    replace hBq := hBq.trans (hb4.mono hBq.size)
    replace hown := hown.below hb4; clear hb4 hF1 r0 r1 r2 B4
    refine hK.out _ _ ?_ (fun hHeld => ?_)
    · (try dsimp only)
      exact hHz
    clear hK K hHz
    try simp only [Act.put, pZ]
    refine hCall (i := 18) rfl (by kernel_rfl) (by rfl) (fun K hK => ?_)
    refine wp_append_rts 36 80 Tryz.underlying36 info_srt _ _ rfl w.heap.size (.slice a2 k c2) 900 _ _ rfl hown _ 1 1 rfl rfl hone (fun e => by cases e) (fun ad e => by cases e; exact ⟨_, _, rfl⟩) hll hBq.size ?_
    intro v9 w9 hT9 hgrow _
    have hB9 : Below w.heap.size w w9 := hBq.grown hgrow hBq.size (fun g hg => (HT2.out.lo hg).1)
    rw [← HS.out] at hT9
    have hHz : w9.cell? ⟨b0, o0 + k * 3, none⟩ = some (.bool z1) ∧ w9.cell? ⟨b0, o0 + k * 3 + 1, none⟩ = some (.slice x1 x2 x3) ∧ w9.cell? ⟨b0, o0 + k * 3 + 2, none⟩ = some (.slice x4 x5 x6) := by
     have hk : ∀ b, b < w.heap.size → w9.heap[b]? = V.heap[b]? := fun b hb => hgrow.block b (Nat.lt_of_lt_of_le hb hBq.size) (fun e => by have := (HT2.out.lo (g := b) e.symm).1; omega)
     exact ⟨(World.cell?_of_block (w := V) (a := ⟨b0, o0 + k * 3, none⟩) (hk b0 hbb0)).trans hHeld.1, (World.cell?_of_block (w := V) (a := ⟨b0, o0 + k * 3 + 1, none⟩) (hk b0 hbb0)).trans hHeld.2.1, (World.cell?_of_block (w := V) (a := ⟨b0, o0 + k * 3 + 2, none⟩) (hk b0 hbb0)).trans hHeld.2.2⟩
    refine hK.out _ _ ?_ (fun hHeld => ?_)
    · (try dsimp only)
      exact hHz
    clear hK K hHz hgrow hown hone
    try simp only [Act.put, pZ]
    refine hT 19 hHeld ?_
    refine wpAnyH_done (by kernel_rfl) ?_ _
    clear hHeld; go_wp2
    go_roundw
    case rel => exact ⟨k + 1, by omega, by go_num, hT9, hB9⟩
    case measure => simp [intOf]; omega
  · obtain rfl : k = qs.length := by omega
    have g4 : ¬ (qs.length : Int) < (qs.length : Int) := by omega
    rw [List.take_length] at HTS; go_wp2
    go_ret
    exact ⟨a2, c2, rfl, HTS.out, hB⟩
theorem wfo_i64_bounds {n : Int} (h : (Lit.int .i64 n).wf = true) : -9223372036854775808 ≤ n ∧ n ≤ 9223372036854775807 := by
 simp [Lit.wf, IntKind.min, IntKind.max, IntKind.bits, IntKind.signed] at h
 omega
open Go.ChangeShapes Go.WideShapes Go.Joins Go.Deep
def Opens {α : Type} (E : El α) (t : TypeId) : Prop :=
 Tryz.prog.cellsOf t = E.sz ∧ ∀ (H : Type) (enc : TypeId × Value → H) (W : World) (held : Bool) (fuel : Nat) (cs : List Value) (x : DataW H × List MemPlace),
  DataW.trod enc Tryz.prog W 0 (fun _ => true) held fuel t cs = some x → (∀ n ∈ x.1.weights Tryz.prog t, n ≤ reachBytes) → ∃ y : α, E.rep (fun k => k < W.heap.size) W cs y
theorem Opens.num {t : TypeId} {k : IntKind} {lo hi : Int} (ht : Tryz.prog.underlying t = some (.int k)) (hc : Tryz.prog.cellsOf t = 1) (hb : ∀ z, (Lit.int k z).wf = true → lo ≤ z ∧ z ≤ hi) : Opens (El.num k lo hi) t :=
 ⟨hc, fun H enc W held fuel cs x h hz => by
  obtain ⟨z, e, _, hw⟩ := DataW.trod_int ht h
  exact ⟨z, e, hb z hw⟩⟩
theorem Opens.int {t : TypeId} (ht : Tryz.prog.underlying t = some (.int .i64)) (hc : Tryz.prog.cellsOf t = 1) : Opens El.int t := Opens.num ht hc (fun z hw => wfo_i64_bounds hw)
theorem Opens.bool {t : TypeId} (ht : Tryz.prog.underlying t = some .bool) (hc : Tryz.prog.cellsOf t = 1) : Opens El.bool t :=
 ⟨hc, fun H enc W held fuel cs x h hz => by
  obtain ⟨z, e, _⟩ := DataW.trod_bool ht h
  exact ⟨z, e⟩⟩
theorem Opens.via {α β : Type} {E : El α} {t : TypeId} (h : Opens E t) {f : β → α} {d : β} (hf : ∀ x, ∃ y, f y = x) : Opens (E.via f d) t :=
 ⟨h.1, fun H enc W held fuel cs x h1 hz => by
  obtain ⟨z, hz⟩ := h.2 H enc W held fuel cs x h1 hz
  obtain ⟨y, rfl⟩ := hf z
  exact ⟨y, hz⟩⟩
theorem list_of_ltG {α : Type} {d : α} {p : Nat → α → Prop} : ∀ n, (∀ i, i < n → ∃ o, p i o) → ∃ os : List α, os.length = n ∧ ∀ i, i < n → p i (os.getD i d) := by
 intro n
 induction n with
 | zero => exact fun _ => ⟨[], rfl, fun i hi => by omega⟩
 | succ n ih =>
  intro h
  obtain ⟨os, hl, ho⟩ := ih (fun i hi => h i (by omega))
  obtain ⟨o, h1⟩ := h n (by omega)
  refine ⟨os ++ [o], by simp [hl], fun i hi => ?_⟩
  by_cases hi' : i < n
  · have e : (os ++ [o]).getD i d = os.getD i d := by simp [List.getD, List.getElem?_append_left (show i < os.length by omega)]
    rw [e]
    exact ho i hi'
  · have e : i = n := by omega
    subst e
    have e : (os ++ [o]).getD i d = o := by simp [List.getD, ← hl]
    rw [e]
    exact h1
theorem weights_all {H : Type} {P : Program} {e : TypeId} {d : DataW H} : ∀ {l : List (DataW H)}, d ∈ l → ∀ {n : Nat}, n ∈ d.weights P e → n ∈ DataW.weightsAll P e l
 | c :: l, h, n, hn => by
  rw [DataW.weightsAll, List.mem_append]
  rcases List.mem_cons.1 h with h | h
  · exact .inl (by rw [← h]; exact hn)
  · exact .inr (weights_all h hn)
theorem Opens.row {α : Type} {E : El α} {t e : TypeId} (h : Opens E e) (ht : Tryz.prog.underlying t = some (.slice e)) (hc : Tryz.prog.cellsOf t = 1) (hsz : 0 < E.sz) (hby : 1 ≤ Tryz.prog.bytesOf e) : Opens E.row t :=
 ⟨hc, fun H enc W held fuel cs x hf hz => by
  rcases open_slice ht hf with ⟨hcs, _⟩ | ⟨ad, len, cap, m, n, D, Pl, hcs, _, hl, hm, hmm, hx, hel⟩
  · exact ⟨[], none, 0, hcs, (fun b o e1 => by cases e1), Gr.nil _ _ _ _ _ (Nat.zero_le _) (fun _ => rfl), Nat.zero_le _⟩
  · have hle : len ≤ m := by rw [hmm]; split <;> omega
    subst hx
    have hzm : ∀ i, i < len → ∀ k ∈ (D i).weights Tryz.prog e, k ≤ reachBytes := by
     intro i hi k hk
     refine hz k ?_
     simp only [DataW.weights, ht, List.mem_cons, List.mem_append]
     exact .inr (.inl (weights_all (List.mem_map.2 ⟨i, List.mem_range.2 hi, rfl⟩) hk))
    have hzl : len ≤ 140737488351232 := by
     have h1 := hz ((((List.range len).map D).length + ((List.range (m - len)).map fun j => D (len + j)).length) * Tryz.prog.bytesOf e) (by simp only [DataW.weights, ht]; exact List.mem_cons_self)
     rw [List.length_map, List.length_map, List.length_range, List.length_range] at h1
     have h2 : (len + (m - len)) * 1 ≤ (len + (m - len)) * Tryz.prog.bytesOf e := Nat.mul_le_mul_left _ hby
     have h3 : reachBytes = 140737488351232 := rfl
     omega
    have hone : ∀ i, i < len → ∃ o : α, ∃ vs, E.rep (fun k => k < W.heap.size) W vs o ∧ ∀ j, j < E.sz → W.cell? ((ad.add (i * E.sz)).add j) = vs[j]? := by
     intro i hi
     obtain ⟨cs', hc', ht'⟩ := hel i (by omega)
     rw [h.1] at hc'
     obtain ⟨hlen, _, hcell⟩ := World.cells?_some hc'
     obtain ⟨o, ho⟩ := h.2 H enc W held n cs' _ ht' (hzm i hi)
     refine ⟨o, cs', ho, fun j hj => ?_⟩
     have := hcell j (by omega)
     rw [this, List.getElem?_eq_getElem (by omega)]
    obtain ⟨os, hol, ho⟩ := list_of_ltG (d := E.dfl) len hone
    have key : ∀ i, i < len → ∃ b off vs, ad = ⟨b, off, none⟩ ∧ b < W.heap.size ∧ E.rep (fun k => k < W.heap.size) W vs (os.getD i E.dfl) ∧ ∀ j, j < E.sz → W.cell? ⟨b, off + i * E.sz + j, none⟩ = vs[j]? := by
     intro i hi
     obtain ⟨vs, h1, h2⟩ := ho i hi
     obtain ⟨b, off, spot⟩ := ad
     have h0 := h2 0 hsz
     have hv : 0 < vs.length := by rw [E.len h1]; exact hsz
     rw [List.getElem?_eq_getElem hv] at h0
     have hspot : spot = none := by
      obtain ⟨vs', h1', h2'⟩ := ho 0 (by omega)
      have h0' := h2' 0 hsz
      rw [List.getElem?_eq_getElem (by rw [E.len h1']; exact hsz)] at h0'
      have := World.cell?_spot h0'
      simpa [Addr.add] using this
     subst hspot
     have hadd : ∀ i, (⟨b, off, none⟩ : Addr).add i = ⟨b, off + i, none⟩ := by intro i; unfold Addr.add; split <;> simp_all
     have hadd2 : ∀ i j, ((⟨b, off, none⟩ : Addr).add i).add j = ⟨b, off + i + j, none⟩ := by intro i j; rw [hadd]; unfold Addr.add; split <;> simp_all
     have hlt := World.block_lt_of_cell? W _ h0
     rw [hadd2] at hlt
     exact ⟨b, off, vs, rfl, hlt, h1, fun j hj => by rw [← hadd2]; exact h2 j hj⟩
    refine ⟨os, some ad, cap, by rw [hcs, hol], fun b o e1 hne => ?_, ⟨by omega, hm, (fun e => by cases e), fun i hi => ?_⟩, by rw [hol]; exact hzl⟩
    · obtain ⟨b', off', _, e2, hb', _⟩ := key 0 (by have := List.length_pos_iff.2 hne; omega)
      rw [e2] at e1
      cases e1
      exact hb'
    · obtain ⟨b, off, vs, e2, hb, h1, h2⟩ := key i (by omega)
      exact ⟨b, off, vs, by rw [e2], hb, h1, h2⟩⟩
def OpensF {α : Type} (E : El α) (fs : List Field) (off : Nat) : Prop :=
 ∀ (H : Type) (enc : TypeId × Value → H) (W : World) (held : Bool) (n : Nat) (cs : List Value), (∀ f ∈ fs, ∃ y, DataW.trod enc Tryz.prog W 0 (fun _ => true) held n f.type ((cs.drop f.offset).take (Tryz.prog.cellsOf f.type)) = some y ∧ ∀ k ∈ y.1.weights Tryz.prog f.type, k ≤ reachBytes) →
  ∃ x : α, E.rep (fun k => k < W.heap.size) W ((cs.drop off).take E.sz) x
theorem OpensF.last {α : Type} {E : El α} {f : Field} {off : Nat} (h : Opens E f.type) (ho : f.offset = off) : OpensF E [f] off := by
 intro H enc W held n cs hy
 obtain ⟨y, hy, hz⟩ := hy f (by simp)
 rw [h.1, ho] at hy
 exact h.2 H enc W held n _ y hy hz
theorem OpensF.more {α β : Type} {E : El α} {F : El β} {f : Field} {fs : List Field} {off : Nat} (h : Opens E f.type) (ho : f.offset = off) (hs : OpensF F fs (off + E.sz)) : OpensF (E.cat F) (f :: fs) off := by
 intro H enc W held n cs hy
 obtain ⟨y, hy0, hz0⟩ := hy f (by simp)
 rw [h.1, ho] at hy0
 obtain ⟨x, hx⟩ := h.2 H enc W held n _ y hy0 hz0
 obtain ⟨z, hz⟩ := hs H enc W held n cs (fun g hg => hy g (by simp [hg]))
 refine ⟨(x, z), (cs.drop off).take E.sz, (cs.drop (off + E.sz)).take F.sz, ?_, hx, hz⟩
 show (cs.drop off).take (E.sz + F.sz) = _
 rw [List.take_add, List.drop_drop]
theorem Opens.struct {α : Type} {E : El α} {t : TypeId} {fs : Array Field} (ht : Tryz.prog.underlying t = some (.struct fs)) (hc : Tryz.prog.cellsOf t = E.sz) (h : OpensF E fs.toList 0) : Opens E t :=
 ⟨hc, fun H enc W held fuel cs x hf hz => by
  obtain ⟨xs, n, _, hx, hl, hlen, hff⟩ := DataW.trod_struct ht hf
  subst hx
  obtain ⟨y, hy⟩ := h H enc W held n cs (fun f hf' => by
   obtain ⟨i, hi, e⟩ := List.getElem_of_mem hf'
   have := hff i f (by rw [← e]; simp)
   have hix : i < xs.length := by simpa [hlen] using hi
   rw [this]
   refine ⟨xs[i]'hix, by rw [List.getElem?_eq_getElem], fun k hk => hz k ?_⟩
   simp only [DataW.weights, ht]
   refine DataW.weights_mem_each (j := i) (t := f.type) (d := (xs[i]'hix).1) ?_ ?_ k hk
   · rw [List.getElem?_map, List.getElem?_eq_getElem hi, e]
     rfl
   · rw [List.getElem?_map, List.getElem?_eq_getElem hix]
     rfl)
  rw [List.drop_zero, List.take_of_length_le (by rw [hl, hc]; exact Nat.le_refl _)] at hy
  exact ⟨y, hy⟩⟩
theorem Opens.agg {α : Type} {E : El α} {t : TypeId} (h : Opens E t) {fs : Array Field} (ht : Tryz.prog.underlying t = some (.struct fs)) {H : Type} {enc : TypeId × Value → H} {W : World} {held : Bool} {r : Reach} {b0 : Nat} {v : Value} {d : DataW H} {p : List MemPlace}
    (hv : Value.okWide Tryz.prog W r b0 t v) (hd : DataW.Trod enc Tryz.prog W 0 (fun _ => true) held t v d p) (hz : ∀ n ∈ d.weights Tryz.prog t, n ≤ reachBytes) : ∃ (cs : Array Value) (y : α), v = .agg cs ∧ E.rep (fun k => k < W.heap.size) W cs.toList y := by
 obtain ⟨cs, rfl, hsz⟩ := okWide_struct ht hv
 obtain ⟨fuel, hf⟩ := hd
 obtain ⟨y, hy⟩ := h.2 H enc W held fuel _ _ hf hz
 exact ⟨cs, y, rfl, by simpa [Value.cells] using hy⟩
theorem Opens.cell {α : Type} {E : El α} {t : TypeId} (h : Opens E t) {H : Type} {enc : TypeId × Value → H} {W : World} {held : Bool} {v : Value} {d : DataW H} {p : List MemPlace}
    (hd : DataW.Trod enc Tryz.prog W 0 (fun _ => true) held t v d p) (hz : ∀ n ∈ d.weights Tryz.prog t, n ≤ reachBytes) (hone : v.cells = #[v]) : ∃ y : α, E.rep (fun k => k < W.heap.size) W [v] y := by
 obtain ⟨fuel, hf⟩ := hd
 obtain ⟨y, hy⟩ := h.2 H enc W held fuel _ _ hf hz
 exact ⟨y, by simpa [hone] using hy⟩
theorem opens_int : Opens El.int 3 := Opens.int Tryz.underlying3 (by kernel_rfl)
theorem opens_bool : Opens El.bool 4 := Opens.bool Tryz.underlying4 (by kernel_rfl)
theorem opens_pn : Opens PnE 54 :=
 (Opens.struct (E := El.int.cat (El.int.cat El.bool)) Tryz.underlying54 (by kernel_rfl) (OpensF.more opens_int rfl (OpensF.more opens_int rfl (OpensF.last opens_bool rfl)))).via (fun x => ⟨⟨x.1, x.2.1, x.2.2⟩, rfl⟩)
theorem opens_pa : Opens PaE 91 :=
 (Opens.struct (E := El.int.cat (El.int.cat El.int)) Tryz.underlying91 (by kernel_rfl) (OpensF.more opens_int rfl (OpensF.more opens_int rfl (OpensF.last opens_int rfl)))).via (fun x => ⟨⟨x.1, x.2.1, x.2.2⟩, rfl⟩)
theorem opens_pns : Opens PnE.row 55 := Opens.row opens_pn Tryz.underlying55 (by kernel_rfl) (by decide) (of_decide_eq_true (by kernel_rfl))
theorem opens_pnss : Opens PnE.row.row 22 := Opens.row opens_pns Tryz.underlying22 (by kernel_rfl) Nat.one_pos (of_decide_eq_true (by kernel_rfl))
theorem opens_pas : Opens PaE.row 23 := Opens.row opens_pa Tryz.underlying23 (by kernel_rfl) (by decide) (of_decide_eq_true (by kernel_rfl))
theorem opens_outline : Opens (PnE.row.row.cat PaE.row) 25 :=
 Opens.struct Tryz.underlying25 (by kernel_rfl) (OpensF.more opens_pnss rfl (OpensF.last opens_pas rfl))
theorem open_row {α : Type} {E : El α} {t : TypeId} (h : Opens E.row t) {H : Type} {enc : TypeId × Value → H} {W : World} {held : Bool} {a : Option Addr} {len cap : Nat} {d : DataW H} {p : List MemPlace}
    (hd : DataW.Trod enc Tryz.prog W 0 (fun _ => true) held t (.slice a len cap) d p) (hz : ∀ n ∈ d.weights Tryz.prog t, n ≤ reachBytes) : ∃ l : List α, len = l.length ∧ Gr E (fun k => k < W.heap.size) W a cap l := by
 obtain ⟨l, a', cap', e, _, hg, _⟩ := h.cell hd hz rfl
 simp at e
 obtain ⟨rfl, rfl, rfl⟩ := e
 exact ⟨l, rfl, hg⟩
theorem opens_is : Opens El.int.row 29 := Opens.row opens_int Tryz.underlying29 (by kernel_rfl) Nat.one_pos (of_decide_eq_true (by kernel_rfl))
theorem opens_te : Opens TeE 57 :=
 (Opens.struct (E := El.int.cat (El.int.cat El.int)) Tryz.underlying57 (by kernel_rfl) (OpensF.more opens_int rfl (OpensF.more opens_int rfl (OpensF.last opens_int rfl)))).via (fun x => ⟨⟨x.1, x.2.1, x.2.2⟩, rfl⟩)
theorem opens_tes : Opens TeE.row 58 := Opens.row opens_te Tryz.underlying58 (by kernel_rfl) (by decide) (of_decide_eq_true (by kernel_rfl))
theorem opens_tu : Opens TuE 60 :=
 (Opens.struct (E := TeE.row.cat (El.bool.cat (El.int.row.cat (El.int.row.cat El.int.row)))) Tryz.underlying60 (by kernel_rfl) (OpensF.more opens_tes rfl (OpensF.more opens_bool rfl (OpensF.more opens_is rfl (OpensF.more opens_is rfl (OpensF.last opens_is rfl)))))).via (fun x => ⟨⟨x.1, x.2.1, x.2.2.1, x.2.2.2.1, x.2.2.2.2⟩, rfl⟩)
theorem opens_tus : Opens TuE.row 26 := Opens.row opens_tu Tryz.underlying26 (by kernel_rfl) (by decide) (of_decide_eq_true (by kernel_rfl))
theorem opens_shape : Opens ((PnE.row.row.cat PaE.row).cat TuE.row) 28 :=
 Opens.struct Tryz.underlying28 (by kernel_rfl) (OpensF.more opens_outline rfl (OpensF.last opens_tus rfl))
theorem open_shape {H : Type} {enc : TypeId × Value → H} {W : World} {held : Bool} {r : Reach} {b0 : Nat} {v : Value} {d : DataW H} {p : List MemPlace}
    (hv : Value.okWide Tryz.prog W r b0 28 v) (hd : DataW.Trod enc Tryz.prog W 0 (fun _ => true) held 28 v d p) (hz : ∀ n ∈ d.weights Tryz.prog 28, n ≤ reachBytes) :
    ∃ a ca b cb, ∃ o : Ol, ∃ la lc, ∃ l : List Tu, v = .agg #[.slice a o.cs.length ca, .slice b o.ps.length cb, .slice la l.length lc] ∧ Gr PnE.row (fun k => k < W.heap.size) W a ca o.cs ∧ Gr PaE (fun k => k < W.heap.size) W b cb o.ps ∧ Gr TuE (fun k => k < W.heap.size) W la lc l := by
 obtain ⟨cs, ⟨⟨l, m⟩, n⟩, rfl, us, ts, e, ⟨us1, ts1, e1, ⟨a, ca, h1, _, h2, _⟩, b, cb, h3, _, h4, _⟩, c, cc, h5, _, h6, _⟩ := opens_shape.agg Tryz.underlying28 hv hd hz
 subst h1 h3 h5
 refine ⟨a, ca, b, cb, ⟨l, m⟩, c, cc, n, ?_, h2, h4, h6⟩
 congr 1
 apply Array.ext'
 rw [e, e1]
 rfl
end Go.Proofs.YtngmcghmniakeaaGreat
