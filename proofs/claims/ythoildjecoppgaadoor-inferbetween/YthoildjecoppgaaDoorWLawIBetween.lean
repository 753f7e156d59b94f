/-
  foundrylaw13.InferBetween: the walk.
-/
import Derived.Test.YthoildjecoppgaaDoorWLawIAlike
namespace Go.Proofs.YthoildjecoppgaaDoor
open Go.RowKit Go.Maps
set_option linter.unusedSimpArgs false
set_option linter.unusedVariables false

theorem sgn_iff_ge {q : Rat} : 0 ≤ sgnQ q ↔ 0 ≤ q := by
  unfold sgnQ
  split
  · rename_i h; constructor <;> intro _ <;> grind
  · split <;> constructor <;> intro _ <;> grind
theorem sgn_iff_le {q : Rat} : sgnQ q ≤ 0 ↔ q ≤ 0 := by
  unfold sgnQ
  split
  · rename_i h; constructor <;> intro _ <;> grind
  · split <;> constructor <;> intro _ <;> grind
/-- What the loop has found: the least and the greatest change. -/
def LM (ts : List Bool) (cs : List Int) (k : Nat) (l m : Int) : Prop := (-32768 ≤ l ∧ l ≤ 32767) ∧ (-32768 ≤ m ∧ m ≤ 32767) ∧ ∀ j, j < k → ts.getD j false = true → l ≤ cs.getD j 0 ∧ cs.getD j 0 ≤ m
theorem LM.skip {ts : List Bool} {cs : List Int} {k : Nat} {l m : Int} (h : LM ts cs k l m) (ht : ts.getD k false = false) : LM ts cs (k + 1) l m :=
  ⟨h.1, h.2.1, fun j hj htj => by
    by_cases e : j = k
    · subst e; rw [ht] at htj; cases htj
    · exact h.2.2 j (by omega) htj⟩
theorem LM.first {ts : List Bool} {cs : List Int} {k : Nat} {z : Int} (hz : -32768 ≤ z ∧ z ≤ 32767) (hn : ∀ j, j < k → ts.getD j false = false) (hc : cs.getD k 0 = z) : LM ts cs (k + 1) z z :=
  ⟨hz, hz, fun j hj htj => by
    by_cases e : j = k
    · subst e; rw [hc]; omega
    · rw [hn j (by omega)] at htj; cases htj⟩
theorem LM.more {ts : List Bool} {cs : List Int} {k : Nat} {l m z l' m' : Int} (h : LM ts cs k l m) (hz : -32768 ≤ z ∧ z ≤ 32767) (hc : cs.getD k 0 = z) (h1 : l' = z ∨ l' = l) (h2 : m' = z ∨ m' = m) (h3 : l' ≤ z ∧ l' ≤ l) (h4 : z ≤ m' ∧ m ≤ m') : LM ts cs (k + 1) l' m' := by
  refine ⟨?_, ?_, fun j hj htj => ?_⟩
  · have := h.1
    rcases h1 with rfl | rfl <;> omega
  · have := h.2.1
    rcases h2 with rfl | rfl <;> omega
  · by_cases e : j = k
    · subst e; rw [hc]; omega
    · have := h.2.2 j (by omega) htj
      omega
theorem any_none' {ts : List Bool} {k : Nat} (h : (ts.take k).any id = false) (hk : k ≤ ts.length) (j : Nat) (hj : j < k) : ts.getD j false = false := by
  have := any_none h j (by rw [List.length_take]; omega)
  rw [List.getD_eq_getElem?_getD, List.getElem?_take_of_lt hj] at this
  rw [List.getD_eq_getElem?_getD]
  exact this

theorem cell3 {m w u : World} {b o : Nat} {x y z : Value} (h1 : Below m.heap.size m w) (h2 : Below m.heap.size m u) (hb : b < m.heap.size) (h : w.cell? ⟨b, o, none⟩ = some x ∧ w.cell? ⟨b, o + 1, none⟩ = some y ∧ w.cell? ⟨b, o + 2, none⟩ = some z) : u.cell? ⟨b, o, none⟩ = some x ∧ u.cell? ⟨b, o + 1, none⟩ = some y ∧ u.cell? ⟨b, o + 2, none⟩ = some z :=
  ⟨((h2.cell (p := ⟨b, o, none⟩) hb).trans (h1.cell (p := ⟨b, o, none⟩) hb).symm).trans h.1, ((h2.cell (p := ⟨b, o + 1, none⟩) hb).trans (h1.cell (p := ⟨b, o + 1, none⟩) hb).symm).trans h.2.1, ((h2.cell (p := ⟨b, o + 2, none⟩) hb).trans (h1.cell (p := ⟨b, o + 2, none⟩) hb).symm).trans h.2.2⟩

set_option maxHeartbeats 8000000 in
set_option maxRecDepth 100000 in
theorem inferBetween_any (a : Option Addr) (ca : Nat) (ns : List Int) (ta : Option Addr) (tc : Nat) (ts : List Bool) (da : Option Addr) (dc : Nat) (cs : List Int) (w : World) (hn : Rh w a ca ns) (ht : Rl w ta tc ts) (hc : Rh w da dc cs) (htab : Pow w) :
    Calls Tryd.prog 3 #[.slice a ns.length ca, .slice ta ts.length tc, .slice da cs.length dc] w fun e w' => e = .returned (.bool true) ∧ Below w.heap.size w w' := by
  have b1 := hn.lenB
  have b2 := ht.lenB
  have b3 := hc.lenB
  have HB : Hid (Pow w) := htab
  have HN : Hid (Rh w a ca ns) := hn
  have HT : Hid (Rl w ta tc ts) := ht
  have HC : Hid (Rh w da dc cs) := hc
  clear htab hn ht hc
  go_enter Tryd.func3, Tryd.ntmps3
  go_wp2_with fail
  refine (awake13_any _ HB.out).mono ?_
  rintro e m1 ⟨rfl, hbW⟩
  by_cases h80 : ns.length ≤ 80
  rotate_left
  · clear HN HT HC
    generalize ns.length = n at *
    generalize ts.length = m at *
    generalize cs.length = m2 at *
    have g1 : (n : Int) > 80 := by omega
    go_wp2_with fail
    refine (awake13_any _ (HB.out.below hbW)).mono ?_
    rintro e v9 ⟨rfl, hb9⟩
    replace hbW := hbW.trans (hb9.mono hbW.size)
    clear hb9
    go_wp2
    go_ret
    exact ⟨rfl, hbW⟩
  by_cases hl : ts.length = ns.length
  rotate_left
  · clear HN HT HC
    generalize ns.length = n at *
    generalize ts.length = m at *
    generalize cs.length = m2 at *
    have g1 : ¬ (n : Int) > 80 := by omega
    have g2 : ((m : Int) != (n : Int)) = true := by simp; omega
    go_wp2_with fail
    refine (awake13_any _ (HB.out.below hbW)).mono ?_
    rintro e v9 ⟨rfl, hb9⟩
    replace hbW := hbW.trans (hb9.mono hbW.size)
    clear hb9
    go_wp2
    go_ret
    exact ⟨rfl, hbW⟩
  by_cases hl2 : cs.length = ns.length
  rotate_left
  · clear HN HT HC
    rw [hl]
    generalize ns.length = n at *
    generalize cs.length = m2 at *
    have g1 : ¬ (n : Int) > 80 := by omega
    have g2 : ((m2 : Int) != (n : Int)) = true := by simp; omega
    go_wp2_with fail
    refine (awake13_any _ (HB.out.below hbW)).mono ?_
    rintro e v9 ⟨rfl, hb9⟩
    replace hbW := hbW.trans (hb9.mono hbW.size)
    clear hb9
    go_wp2
    go_ret
    exact ⟨rfl, hbW⟩
  obtain ⟨n, hnn⟩ : ∃ n, ns.length = n := ⟨_, rfl⟩
  have HL : Hid (ns.length = n ∧ ts.length = n ∧ cs.length = n) := ⟨hnn, by omega, by omega⟩
  rw [hl, hl2]
  rw [hnn] at h80 ⊢
  have g1 : ¬ (n : Int) > 80 := by omega
  clear hl hl2 hnn b1 b2 b3
  go_wp2
  go_loopw [7, 8, 9, 10, 11, 12] (fun va vb lv mv s i wr => ∃ (k : Nat) (l m : Int), k ≤ n ∧ i = .int .i64 k ∧ lv = .int .i64 l ∧ mv = .int .i64 m ∧ s = .bool ((ts.take k).any id) ∧ LM ts cs k l m ∧ Fam El.int 3 m1.heap.size wr [va, vb] [ns.take k, cs.take k] ∧ Below m1.heap.size m1 wr) (fun _ _ _ _ _ i _ => n - (intOf i).toNat)
  case atStart => exact ⟨0, 0, 0, Nat.zero_le _, rfl, rfl, rfl, rfl, ⟨by omega, by omega, fun j hj => by omega⟩, Fam.two _ _ _ _, Below.refl _ _⟩
  case round =>
    obtain ⟨k, l, m, hk, rfl, rfl, rfl, rfl, hLM, fam, hB⟩ := hrel
    by_cases hkn : k < n
    · obtain ⟨b0, o0, e0, hb0, d0⟩ := HN.out.at (hbW.trans (hB.mono hbW.size)) k (by rw [HL.out.1]; exact hkn)
      have hz0 := HN.out.in (k := k) (by rw [HL.out.1]; exact hkn)
      have hx0 := HC.out.in (k := k) (by rw [HL.out.2.2]; exact hkn)
      have HTK : Hid (ns.take (k + 1) = ns.take k ++ [ns.getD k 0]) := take_get (by rw [HL.out.1]; exact hkn)
      have HCK : Hid (cs.take (k + 1) = cs.take k ++ [cs.getD k 0]) := take_get (by rw [HL.out.2.2]; exact hkn)
      have HAN : Hid ((ts.take (k + 1)).any id = ((ts.take k).any id || ts.getD k false)) := any_take (by rw [HL.out.2.1]; exact hkn)
      subst e0
      obtain ⟨z, hz⟩ : ∃ z, ns.getD k 0 = z := ⟨_, rfl⟩
      obtain ⟨x, hx⟩ : ∃ z, cs.getD k 0 = z := ⟨_, rfl⟩
      have HX : Hid (cs.getD k 0 = x) := hx
      rw [hz] at d0 hz0 HTK
      rw [hx] at hx0 HCK
      have hz1 : I64 z := by unfold I64; omega
      have hz2 : I64 x := by unfold I64; omega
      have hll1 : (ns.take k).length + 1 ≤ 1000000 := by rw [List.length_take]; omega
      have hll2 : (cs.take k).length + 1 ≤ 1000000 := by rw [List.length_take]; omega
      have i1 : (0 : Int) ≤ (k : Int) := by omega
      have i2 : (k : Int) < (n : Int) := by omega
      clear hz hx
      obtain ⟨V1, hV1, c1, hbV1, hlV1⟩ : ∃ V, V = wr.alloc (.cells #[.int .i64 z] 3) ∧ V.cell? ⟨wr.heap.size, 0, none⟩ = some (.int .i64 z) ∧ Below wr.heap.size wr V ∧ wr.heap.size < V.heap.size := ⟨_, rfl, cell_of_row _ _ 0 _ _ (0, 0) (heap_alloc_new _ _), bl1 _, by simp⟩
      have famv1 := fam.below hbV1
      have hown1 : Gw El.int 3 m1.heap.size (fun _ => False) V1 u7 (ns.take k) := famv1.row 0 (by simp)
      have hbs1 : m1.heap.size ≤ V1.heap.size := Nat.le_trans hB.size hbV1.size
      have hBV1 : Below m1.heap.size m1 V1 := hB.trans (hbV1.mono hB.size)
      go_wp2_with (at_builtin; rw [← hV1]; refine wpList_append_gi rfl _ _ rfl m1.heap.size u7 (ns.take k) rfl hown1 wr.heap.size z rfl hlV1 c1 hz1 hll1 hbs1 ?_)
      intro v1 y1 hT1 hg1 ho1
      rw [← hV1] at hg1
      rw [show wr.heap.size + 1 = V1.heap.size by rw [hV1]; simp] at ho1
      replace hB : Below m1.heap.size m1 y1 := hBV1.grown hg1 hbs1 (fun g hg => (hown1.lo hg).1)
      replace fam : Fam El.int 3 m1.heap.size y1 [v1, u8] [((ns.take k) ++ [z]), (cs.take k)] := famv1.grow 0 (by simp) hT1 hg1 ho1
      clear hV1 c1 hlV1 famv1 hbs1 hBV1 hT1 hll1
      obtain ⟨b5, o5, e5, hb5, d5⟩ := HC.out.at (hbW.trans (hB.mono hbW.size)) k (by rw [HL.out.2.2]; exact hkn)
      subst e5
      rw [HX.out] at d5
      obtain ⟨V2, hV2, c2, hbV2, hlV2⟩ : ∃ V, V = y1.alloc (.cells #[.int .i64 x] 3) ∧ V.cell? ⟨y1.heap.size, 0, none⟩ = some (.int .i64 x) ∧ Below y1.heap.size y1 V ∧ y1.heap.size < V.heap.size := ⟨_, rfl, cell_of_row _ _ 0 _ _ (0, 0) (heap_alloc_new _ _), bl1 _, by simp⟩
      have famv2 := fam.below hbV2
      have hown2 : Gw El.int 3 m1.heap.size (fun _ => False) V2 u8 (cs.take k) := famv2.row 1 (by simp)
      have hbs2 : m1.heap.size ≤ V2.heap.size := Nat.le_trans hB.size hbV2.size
      have hBV2 : Below m1.heap.size m1 V2 := hB.trans (hbV2.mono hB.size)
      go_wp2_with (at_builtin; rw [← hV2]; refine wpList_append_gi rfl _ _ rfl m1.heap.size u8 (cs.take k) rfl hown2 y1.heap.size x rfl hlV2 c2 hz2 hll2 hbs2 ?_)
      intro v2 y2 hT2 hg2 ho2
      rw [← hV2] at hg2
      rw [show y1.heap.size + 1 = V2.heap.size by rw [hV2]; simp] at ho2
      replace hB : Below m1.heap.size m1 y2 := hBV2.grown hg2 hbs2 (fun g hg => (hown2.lo hg).1)
      replace fam : Fam El.int 3 m1.heap.size y2 [v1, v2] [((ns.take k) ++ [z]), ((cs.take k) ++ [x])] := famv2.grow 1 (by simp) hT2 hg2 ho2
      clear hV2 c2 hlV2 famv2 hbs2 hBV2 hT2 hll2
      have hBw : Below w.heap.size w y2 := hbW.trans (hB.mono hbW.size)
      obtain ⟨b3, o3, e3, hb3, d3⟩ := HT.out.at hBw k (by rw [HL.out.2.1]; exact hkn)
      subst e3
      have FAM : Hid (Fam El.int 3 m1.heap.size y2 [v1, v2] [ns.take (k + 1), cs.take (k + 1)]) := by
        rw [HTK.out, HCK.out]
        exact fam
      have hr2 : Gi m1.heap.size y2 v2 (cs.take (k + 1)) := FAM.out.row 1 (by simp)
      obtain ⟨a6, c6, e6, hr6, _⟩ := hr2.slice
      have hl6 : (cs.take (k + 1)).length = k + 1 := by rw [List.length_take, HL.out.2.2]; omega
      obtain ⟨b7, o7, e7, hb7, d7⟩ := hr6.at (Below.refl _ _) k (by rw [hl6]; omega)
      rw [show (cs.take (k + 1)).getD k 0 = x by rw [← HX.out]; simp [List.getD]] at d7
      rw [hl6] at e6
      subst e6 e7
      obtain ⟨tz, htz⟩ : ∃ z, ts.getD k false = z := ⟨_, rfl⟩
      have HTZ : Hid (ts.getD k false = tz) := htz
      rw [htz] at d3 HAN
      obtain ⟨sz, hsz⟩ : ∃ z, (ts.take k).any id = z := ⟨_, rfl⟩
      have HSZ : Hid ((ts.take k).any id = sz) := hsz
      rw [hsz] at HAN ⊢
      have HBB : Hid (Below m1.heap.size m1 y2) := hB
      have HLM : Hid (LM ts cs k l m) := hLM
      have HKN : Hid (k ≤ ts.length) := by rw [HL.out.2.1]; exact hk
      have i3 : (k : Int) < ((k + 1 : Nat) : Int) := by omega
      have hlb := hLM.1
      have hmb := hLM.2.1
      clear htz hsz fam hB hz0 hz1 hz2 hr2 hr6 hl6 hLM
      cases tz with
      | false =>
        go_wp2
        go_roundw
        case rel => exact ⟨k + 1, l, m, by omega, by go_num, rfl, rfl, by rw [HAN.out]; cases sz <;> rfl, HLM.out.skip HTZ.out, FAM.out, HBB.out⟩
        case measure => simp [intOf]; omega
      | true =>
        cases sz with
        | false =>
          go_wp2
          go_roundw
          case rel => exact ⟨k + 1, x, x, by omega, by go_num, rfl, rfl, by rw [HAN.out]; rfl, LM.first hx0 (any_none' HSZ.out HKN.out) HX.out, FAM.out, HBB.out⟩
          case measure => simp [intOf]; omega
        | true =>
          by_cases q1 : x < l <;> by_cases q2 : m < x
          · have r1 : decide (x < l) = true := decide_eq_true q1
            have r2 : decide (m < x) = true := decide_eq_true q2
            have HNX : Hid (LM ts cs (k + 1) x x) := LM.more HLM.out hx0 HX.out (.inl rfl) (.inl rfl) (by omega) (by omega)
            go_wp2
            go_roundw
            case rel => exact ⟨k + 1, x, x, by omega, by go_num, rfl, rfl, by rw [HAN.out]; rfl, HNX.out, FAM.out, HBB.out⟩
            case measure => simp [intOf]; omega
          · have r1 : decide (x < l) = true := decide_eq_true q1
            have r2 : decide (m < x) = false := decide_eq_false q2
            have HNX : Hid (LM ts cs (k + 1) x m) := LM.more HLM.out hx0 HX.out (.inl rfl) (.inr rfl) (by omega) (by omega)
            go_wp2
            go_roundw
            case rel => exact ⟨k + 1, x, m, by omega, by go_num, rfl, rfl, by rw [HAN.out]; rfl, HNX.out, FAM.out, HBB.out⟩
            case measure => simp [intOf]; omega
          · have r1 : decide (x < l) = false := decide_eq_false q1
            have r2 : decide (m < x) = true := decide_eq_true q2
            have HNX : Hid (LM ts cs (k + 1) l x) := LM.more HLM.out hx0 HX.out (.inr rfl) (.inl rfl) (by omega) (by omega)
            go_wp2
            go_roundw
            case rel => exact ⟨k + 1, l, x, by omega, by go_num, rfl, rfl, by rw [HAN.out]; rfl, HNX.out, FAM.out, HBB.out⟩
            case measure => simp [intOf]; omega
          · have r1 : decide (x < l) = false := decide_eq_false q1
            have r2 : decide (m < x) = false := decide_eq_false q2
            have HNX : Hid (LM ts cs (k + 1) l m) := LM.more HLM.out hx0 HX.out (.inr rfl) (.inr rfl) (by omega) (by omega)
            go_wp2
            go_roundw
            case rel => exact ⟨k + 1, l, m, by omega, by go_num, rfl, rfl, by rw [HAN.out]; rfl, HNX.out, FAM.out, HBB.out⟩
            case measure => simp [intOf]; omega
    · obtain rfl : k = n := by omega
      have g4 : ¬ (k : Int) < (k : Int) := by omega
      have hra : Gi m1.heap.size wr u7 (ns.take k) := fam.row 0 (by simp)
      have hrb : Gi m1.heap.size wr u8 (cs.take k) := fam.row 1 (by simp)
      rw [show ns.take k = ns by rw [← HL.out.1, List.take_length]] at hra
      rw [show cs.take k = cs by rw [← HL.out.2.2, List.take_length]] at hrb
      rw [show ts.take k = ts by rw [← HL.out.2.1, List.take_length]]
      obtain ⟨aa, cc, rfl, hra, _⟩ := hra.slice
      obtain ⟨ab, cb, rfl, hrb, _⟩ := hrb.slice
      have hBw : Below w.heap.size w wr := hbW.trans (hB.mono hbW.size)
      have hrt := HT.out.below hBw
      have HFI : Hid (fitB ns ts cs = true) := fitB_iff.2 ⟨⟨by rw [HL.out.1, HL.out.2.1], by rw [HL.out.1, HL.out.2.2], by rw [HL.out.1]; exact h80⟩, HN.out.1, HC.out.1⟩
      have hfi := cfill_any aa cc ns ta tc ts ab cb cs wr hra hrt hrb
      have HFL : Hid ((fillQ ns ts cs).length = k) := by have := fillQ_len HFI.out; rw [HL.out.1] at this; exact this
      have HFG : Hid (∀ i, i < k → (fillQ ns ts cs).getD i 0 = fiQ ns ts cs i) := fun i hi => fillQ_get HFI.out (by rw [HL.out.1]; exact hi)
      have HBD : Hid (∀ i, i < k → fiQ ns ts cs i = 0 ∨ ((l : Rat) ≤ fiQ ns ts cs i ∧ fiQ ns ts cs i ≤ (m : Rat))) := fun i hi => fiQ_bounds HFI.out (by rw [HL.out.1]; exact hi) (fun j hj htj => (hLM.2.2 j (by rw [HL.out.1] at hj; exact hj) htj).1) (fun j hj htj => (hLM.2.2 j (by rw [HL.out.1] at hj; exact hj) htj).2)
      generalize fillQ ns ts cs = qs at *
      rw [HL.out.1, HL.out.2.1, HL.out.2.2] at hfi
      rw [HL.out.1, HL.out.2.2]
      have hlb := hLM.1
      have hmb := hLM.2.1
      obtain ⟨sz, hsz⟩ : ∃ z, ts.any id = z := ⟨_, rfl⟩
      rw [hsz]
      have HRB : Hid (Ri wr ab cb cs) := hrb
      have HRT : Hid (Rl wr ta tc ts) := hrt
      clear fam hra hrb hB hrt hLM hsz
      go_wp2_with fail
      refine hfi.mono ?_
      rintro e m5 ⟨af, cf, rfl, hRf, hb5⟩
      rw [HFL.out]
      have HRF : Hid (Rf m5 af cf 7 qs) := hRf
      replace HRB : Hid (Ri m5 ab cb cs) := HRB.out.below hb5
      replace HRT : Hid (Rl m5 ta tc ts) := HRT.out.below hb5
      have HBX : Hid (Below w.heap.size w m5) := hBw.trans (hb5.mono hBw.size)
      clear hRf hb5 hfi hBw
      go_wp2
      go_loopw [14] (fun i wr => ∃ j : Nat, j ≤ k ∧ i = .int .i64 j ∧ Below m5.heap.size m5 wr) (fun i _ => k - (intOf i).toNat)
      case atStart => exact ⟨0, Nat.zero_le _, rfl, Below.refl _ _⟩
      case round =>
        obtain ⟨j, hj, rfl, hB⟩ := hrel
        by_cases hjn : j < k
        · obtain ⟨b, off, p, q, r, ea, hb, d0, d1, d2, hFj⟩ := HRF.out.1.at hB j (by rw [HFL.out]; exact hjn)
          rw [HFG.out j hjn] at hFj
          subst ea
          obtain ⟨bt, ot, eat, hbt, dt⟩ := HRT.out.at hB j (by rw [HL.out.2.1]; exact hjn)
          subst eat
          obtain ⟨bb, ob, eab, hbb, db⟩ := HRB.out.at hB j (by rw [HL.out.2.2]; exact hjn)
          subst eab
          have hxb := HC.out.in (k := j) (by rw [HL.out.2.2]; exact hjn)
          have hbd := HBD.out j hjn
          obtain ⟨tz, htz⟩ : ∃ z, ts.getD j false = z := ⟨_, rfl⟩
          have HOWN : Hid (tz = true → fiQ ns ts cs j = ((cs.getD j 0 : Int) : Rat)) := fun e => fiQ_own (by rw [htz]; exact e)
          rw [htz] at dt
          obtain ⟨x, hx⟩ : ∃ z, cs.getD j 0 = z := ⟨_, rfl⟩
          rw [hx] at db hxb HOWN
          have i1 : (0 : Int) ≤ (j : Int) := by omega
          have i2 : (j : Int) < (k : Int) := by omega
          obtain ⟨n9, y1, y2, y3, y4, y5, y6, e9⟩ := hFj.cells3'
          simp only [Value.agg.injEq, Array.mk.injEq, List.cons.injEq, and_true] at e9
          obtain ⟨rfl, rfl, rfl⟩ := e9
          generalize fiQ ns ts cs j = qj at *
          obtain ⟨s1, hs1⟩ : ∃ s, sgnQ (qj - (l : Rat)) = s := ⟨_, rfl⟩
          obtain ⟨s2, hs2⟩ : ∃ s, sgnQ (qj - (m : Rat)) = s := ⟨_, rfl⟩
          have HS1 : Hid (sgnQ (qj - (l : Rat)) = s1) := hs1
          have HS2 : Hid (sgnQ (qj - (m : Rat)) = s2) := hs2
          have HIN : Hid (¬ (0 ≤ s1 ∧ s2 ≤ 0) → sgnQ qj = 0) := fun hno => by
            rcases hbd with h0 | ⟨h1, h2⟩
            · rw [h0]; rfl
            · exfalso
              refine hno ⟨?_, ?_⟩
              · rw [← hs1]; exact sgn_iff_ge.2 (by grind)
              · rw [← hs2]; exact sgn_iff_le.2 (by grind)
          have hC3 : Hid (wr.cell? ⟨b, off + j * 3, none⟩ = some (.bool n9) ∧ wr.cell? ⟨b, off + j * 3 + 1, none⟩ = some (.slice y1 y2 y3) ∧ wr.cell? ⟨b, off + j * 3 + 2, none⟩ = some (.slice y4 y5 y6)) := ⟨d0, d1, d2⟩
          have hBr : Hid (Below m5.heap.size m5 wr) := hB
          clear htz hx hs1 hs2 hbd
          go_wp2_with fail
          cases tz with
          | false =>
            refine wp_region_held_drew (S := fun w9 => w9.cell? ⟨bt, ot + j, none⟩ = some (.bool false) ∧ w9.cell? ⟨bb, ob + j, none⟩ = some (.int .i64 x) ∧ w9.cell? ⟨b, off + j * 3, none⟩ = some (.bool n9) ∧ w9.cell? ⟨b, off + j * 3 + 1, none⟩ = some (.slice y1 y2 y3) ∧ w9.cell? ⟨b, off + j * 3 + 2, none⟩ = some (.slice y4 y5 y6)) (by kernel_rfl) ?_ (fun hHeld => ?_)
            · (try dsimp only)
              go_keep
            have hdr : Below wr.heap.size wr wr.drew := Below.drew1
            generalize wr.drew = Z1 at hdr hHeld ⊢
            replace hFj := hFj.below hdr
            replace hB := hB.trans (hdr.mono hB.size)
            clear hdr
            refine hT 0 hHeld ?_
            refine hT 1 hHeld ?_
            refine hT 2 hHeld ?_
            refine hT 3 hHeld ?_
            refine hT 4 hHeld ?_
            refine hN 5 hHeld ?_
            refine hN 6 hHeld ?_
            refine hN 7 hHeld ?_
            refine hN 8 hHeld ?_
            refine hN 9 hHeld ?_
            refine hN 10 hHeld ?_
            refine hN 11 hHeld ?_
            refine hN 12 hHeld ?_
            refine hN 13 hHeld ?_
            refine hN 14 hHeld ?_
            refine hN 15 hHeld ?_
            refine hT 16 hHeld ?_
            refine wpAnyH_done (by kernel_rfl) ?_ _
            clear hHeld
            clear d0 d1 d2 dt db
            go_wp2_with fail
            have hcl := cell3 hBr.out hB hb hC3.out
            obtain ⟨d0, d1, d2⟩ := hcl
            by_cases p1 : 0 ≤ s1
            · have g7 : decide (0 ≤ s1) = true := decide_eq_true p1
              have g7b : s1 ≥ 0 := p1
              by_cases p2 : s2 ≤ 0
              · have g8 : decide (s2 ≤ 0) = true := decide_eq_true p2
                refine wp_region_held_drew (S := fun w9 => w9.cell? ⟨b, off + j * 3, none⟩ = some (.bool n9) ∧ w9.cell? ⟨b, off + j * 3 + 1, none⟩ = some (.slice y1 y2 y3) ∧ w9.cell? ⟨b, off + j * 3 + 2, none⟩ = some (.slice y4 y5 y6)) (by kernel_rfl) ?_ (fun hHeld => ?_)
                · (try dsimp only)
                  go_keep
                have hdr : Below Z1.heap.size Z1 Z1.drew := Below.drew1
                generalize Z1.drew = Z2 at hdr hHeld ⊢
                replace hFj := hFj.below hdr
                replace hB := hB.trans (hdr.mono hB.size)
                clear hdr
                refine hT 0 hHeld ?_
                refine hT 1 hHeld ?_
                refine hT 2 hHeld ?_
                refine hT 3 hHeld ?_
                refine hT 4 hHeld ?_
                refine hCall (i := 5) rfl (by kernel_rfl) (by rfl) (fun K hK => ?_)
                go_simp
                refine (whole_any l _ (by omega) (by omega)).mono ?_
                rintro e m7 ⟨v7, rfl, hF7, hbc⟩
                have hHz : m7.cell? ⟨b, off + j * 3, none⟩ = some (.bool n9) ∧ m7.cell? ⟨b, off + j * 3 + 1, none⟩ = some (.slice y1 y2 y3) ∧ m7.cell? ⟨b, off + j * 3 + 2, none⟩ = some (.slice y4 y5 y6) := ⟨(hbc.cell (p := ⟨b, off + j * 3, none⟩) (Nat.lt_of_lt_of_le hb hB.size)).trans hHeld.1, (hbc.cell (p := ⟨b, off + j * 3 + 1, none⟩) (Nat.lt_of_lt_of_le hb hB.size)).trans hHeld.2.1, (hbc.cell (p := ⟨b, off + j * 3 + 2, none⟩) (Nat.lt_of_lt_of_le hb hB.size)).trans hHeld.2.2⟩
                replace hFj := hFj.below hbc
                replace hB := hB.trans (hbc.mono hB.size)
                clear hbc
                go_wp2_with fail
                refine hK.out _ _ ?_ (fun hHeld => ?_)
                · (try dsimp only)
                  exact hHz
                clear hK K hHz
                try simp only [Act.put, List.setIfInBounds_toArray, List.set_cons_zero, List.set_cons_succ]
                refine hCall (i := 6) rfl (by kernel_rfl) (by rfl) (fun K hK => ?_)
                go_simp
                refine (qcmp_any 7 2 _ _ _ _ m7 hFj.ct hF7.ct (by decide) (by decide) (by decide) (by decide)).mono ?_
                rintro e m8 ⟨rfl, hbc⟩
                have hHz : m8.cell? ⟨b, off + j * 3, none⟩ = some (.bool n9) ∧ m8.cell? ⟨b, off + j * 3 + 1, none⟩ = some (.slice y1 y2 y3) ∧ m8.cell? ⟨b, off + j * 3 + 2, none⟩ = some (.slice y4 y5 y6) := ⟨(hbc.cell (p := ⟨b, off + j * 3, none⟩) (Nat.lt_of_lt_of_le hb hB.size)).trans hHeld.1, (hbc.cell (p := ⟨b, off + j * 3 + 1, none⟩) (Nat.lt_of_lt_of_le hb hB.size)).trans hHeld.2.1, (hbc.cell (p := ⟨b, off + j * 3 + 2, none⟩) (Nat.lt_of_lt_of_le hb hB.size)).trans hHeld.2.2⟩
                replace hFj := hFj.below hbc
                replace hB := hB.trans (hbc.mono hB.size)
                clear hbc
                rw [HS1.out]
                go_wp2_with fail
                refine hK.out _ _ ?_ (fun hHeld => ?_)
                · (try dsimp only)
                  exact hHz
                clear hK K hHz
                try simp only [Act.put, List.setIfInBounds_toArray, List.set_cons_zero, List.set_cons_succ]
                refine hT 7 hHeld ?_
                refine hT 8 hHeld ?_
                refine hT 9 hHeld ?_
                refine hT 10 hHeld ?_
                refine hT 11 hHeld ?_
                refine hT 12 hHeld ?_
                refine hT 13 hHeld ?_
                refine hCall (i := 14) rfl (by kernel_rfl) (by rfl) (fun K hK => ?_)
                go_simp
                refine (whole_any m _ (by omega) (by omega)).mono ?_
                rintro e m9 ⟨v9, rfl, hF9, hbc⟩
                have hHz : m9.cell? ⟨b, off + j * 3, none⟩ = some (.bool n9) ∧ m9.cell? ⟨b, off + j * 3 + 1, none⟩ = some (.slice y1 y2 y3) ∧ m9.cell? ⟨b, off + j * 3 + 2, none⟩ = some (.slice y4 y5 y6) := ⟨(hbc.cell (p := ⟨b, off + j * 3, none⟩) (Nat.lt_of_lt_of_le hb hB.size)).trans hHeld.1, (hbc.cell (p := ⟨b, off + j * 3 + 1, none⟩) (Nat.lt_of_lt_of_le hb hB.size)).trans hHeld.2.1, (hbc.cell (p := ⟨b, off + j * 3 + 2, none⟩) (Nat.lt_of_lt_of_le hb hB.size)).trans hHeld.2.2⟩
                replace hFj := hFj.below hbc
                replace hB := hB.trans (hbc.mono hB.size)
                clear hbc
                go_wp2_with fail
                refine hK.out _ _ ?_ (fun hHeld => ?_)
                · (try dsimp only)
                  exact hHz
                clear hK K hHz
                try simp only [Act.put, List.setIfInBounds_toArray, List.set_cons_zero, List.set_cons_succ]
                refine hCall (i := 15) rfl (by kernel_rfl) (by rfl) (fun K hK => ?_)
                go_simp
                refine (qcmp_any 7 2 _ _ _ _ m9 hFj.ct hF9.ct (by decide) (by decide) (by decide) (by decide)).mono ?_
                rintro e ma ⟨rfl, hbc⟩
                have hHz : ma.cell? ⟨b, off + j * 3, none⟩ = some (.bool n9) ∧ ma.cell? ⟨b, off + j * 3 + 1, none⟩ = some (.slice y1 y2 y3) ∧ ma.cell? ⟨b, off + j * 3 + 2, none⟩ = some (.slice y4 y5 y6) := ⟨(hbc.cell (p := ⟨b, off + j * 3, none⟩) (Nat.lt_of_lt_of_le hb hB.size)).trans hHeld.1, (hbc.cell (p := ⟨b, off + j * 3 + 1, none⟩) (Nat.lt_of_lt_of_le hb hB.size)).trans hHeld.2.1, (hbc.cell (p := ⟨b, off + j * 3 + 2, none⟩) (Nat.lt_of_lt_of_le hb hB.size)).trans hHeld.2.2⟩
                replace hFj := hFj.below hbc
                replace hB := hB.trans (hbc.mono hB.size)
                clear hbc
                rw [HS2.out]
                go_wp2_with fail
                refine hK.out _ _ ?_ (fun hHeld => ?_)
                · (try dsimp only)
                  exact hHz
                clear hK K hHz
                try simp only [Act.put, List.setIfInBounds_toArray, List.set_cons_zero, List.set_cons_succ]
                refine hT 16 hHeld ?_
                refine hT 17 hHeld ?_
                refine hT 18 hHeld ?_
                refine wpAnyH_done (by kernel_rfl) ?_ _
                clear hHeld
                go_wp2
                go_roundw
                case rel => exact ⟨j + 1, by omega, by go_num, hB⟩
                case measure => simp [intOf]; omega
              · have g8 : decide (s2 ≤ 0) = false := decide_eq_false p2
                have HZ : Hid (sgnQ qj = 0) := HIN.out (fun h => p2 h.2)
                refine wp_region_held_drew (S := fun w9 => w9.cell? ⟨b, off + j * 3, none⟩ = some (.bool n9) ∧ w9.cell? ⟨b, off + j * 3 + 1, none⟩ = some (.slice y1 y2 y3) ∧ w9.cell? ⟨b, off + j * 3 + 2, none⟩ = some (.slice y4 y5 y6)) (by kernel_rfl) ?_ (fun hHeld => ?_)
                · (try dsimp only)
                  go_keep
                have hdr : Below Z1.heap.size Z1 Z1.drew := Below.drew1
                generalize Z1.drew = Z2 at hdr hHeld ⊢
                replace hFj := hFj.below hdr
                replace hB := hB.trans (hdr.mono hB.size)
                clear hdr
                refine hT 0 hHeld ?_
                refine hT 1 hHeld ?_
                refine hT 2 hHeld ?_
                refine hT 3 hHeld ?_
                refine hT 4 hHeld ?_
                refine hCall (i := 5) rfl (by kernel_rfl) (by rfl) (fun K hK => ?_)
                go_simp
                refine (whole_any l _ (by omega) (by omega)).mono ?_
                rintro e m7 ⟨v7, rfl, hF7, hbc⟩
                have hHz : m7.cell? ⟨b, off + j * 3, none⟩ = some (.bool n9) ∧ m7.cell? ⟨b, off + j * 3 + 1, none⟩ = some (.slice y1 y2 y3) ∧ m7.cell? ⟨b, off + j * 3 + 2, none⟩ = some (.slice y4 y5 y6) := ⟨(hbc.cell (p := ⟨b, off + j * 3, none⟩) (Nat.lt_of_lt_of_le hb hB.size)).trans hHeld.1, (hbc.cell (p := ⟨b, off + j * 3 + 1, none⟩) (Nat.lt_of_lt_of_le hb hB.size)).trans hHeld.2.1, (hbc.cell (p := ⟨b, off + j * 3 + 2, none⟩) (Nat.lt_of_lt_of_le hb hB.size)).trans hHeld.2.2⟩
                replace hFj := hFj.below hbc
                replace hB := hB.trans (hbc.mono hB.size)
                clear hbc
                go_wp2_with fail
                refine hK.out _ _ ?_ (fun hHeld => ?_)
                · (try dsimp only)
                  exact hHz
                clear hK K hHz
                try simp only [Act.put, List.setIfInBounds_toArray, List.set_cons_zero, List.set_cons_succ]
                refine hCall (i := 6) rfl (by kernel_rfl) (by rfl) (fun K hK => ?_)
                go_simp
                refine (qcmp_any 7 2 _ _ _ _ m7 hFj.ct hF7.ct (by decide) (by decide) (by decide) (by decide)).mono ?_
                rintro e m8 ⟨rfl, hbc⟩
                have hHz : m8.cell? ⟨b, off + j * 3, none⟩ = some (.bool n9) ∧ m8.cell? ⟨b, off + j * 3 + 1, none⟩ = some (.slice y1 y2 y3) ∧ m8.cell? ⟨b, off + j * 3 + 2, none⟩ = some (.slice y4 y5 y6) := ⟨(hbc.cell (p := ⟨b, off + j * 3, none⟩) (Nat.lt_of_lt_of_le hb hB.size)).trans hHeld.1, (hbc.cell (p := ⟨b, off + j * 3 + 1, none⟩) (Nat.lt_of_lt_of_le hb hB.size)).trans hHeld.2.1, (hbc.cell (p := ⟨b, off + j * 3 + 2, none⟩) (Nat.lt_of_lt_of_le hb hB.size)).trans hHeld.2.2⟩
                replace hFj := hFj.below hbc
                replace hB := hB.trans (hbc.mono hB.size)
                clear hbc
                rw [HS1.out]
                go_wp2_with fail
                refine hK.out _ _ ?_ (fun hHeld => ?_)
                · (try dsimp only)
                  exact hHz
                clear hK K hHz
                try simp only [Act.put, List.setIfInBounds_toArray, List.set_cons_zero, List.set_cons_succ]
                refine hT 7 hHeld ?_
                refine hT 8 hHeld ?_
                refine hT 9 hHeld ?_
                refine hT 10 hHeld ?_
                refine hT 11 hHeld ?_
                refine hT 12 hHeld ?_
                refine hT 13 hHeld ?_
                refine hCall (i := 14) rfl (by kernel_rfl) (by rfl) (fun K hK => ?_)
                go_simp
                refine (whole_any m _ (by omega) (by omega)).mono ?_
                rintro e m9 ⟨v9, rfl, hF9, hbc⟩
                have hHz : m9.cell? ⟨b, off + j * 3, none⟩ = some (.bool n9) ∧ m9.cell? ⟨b, off + j * 3 + 1, none⟩ = some (.slice y1 y2 y3) ∧ m9.cell? ⟨b, off + j * 3 + 2, none⟩ = some (.slice y4 y5 y6) := ⟨(hbc.cell (p := ⟨b, off + j * 3, none⟩) (Nat.lt_of_lt_of_le hb hB.size)).trans hHeld.1, (hbc.cell (p := ⟨b, off + j * 3 + 1, none⟩) (Nat.lt_of_lt_of_le hb hB.size)).trans hHeld.2.1, (hbc.cell (p := ⟨b, off + j * 3 + 2, none⟩) (Nat.lt_of_lt_of_le hb hB.size)).trans hHeld.2.2⟩
                replace hFj := hFj.below hbc
                replace hB := hB.trans (hbc.mono hB.size)
                clear hbc
                go_wp2_with fail
                refine hK.out _ _ ?_ (fun hHeld => ?_)
                · (try dsimp only)
                  exact hHz
                clear hK K hHz
                try simp only [Act.put, List.setIfInBounds_toArray, List.set_cons_zero, List.set_cons_succ]
                refine hCall (i := 15) rfl (by kernel_rfl) (by rfl) (fun K hK => ?_)
                go_simp
                refine (qcmp_any 7 2 _ _ _ _ m9 hFj.ct hF9.ct (by decide) (by decide) (by decide) (by decide)).mono ?_
                rintro e ma ⟨rfl, hbc⟩
                have hHz : ma.cell? ⟨b, off + j * 3, none⟩ = some (.bool n9) ∧ ma.cell? ⟨b, off + j * 3 + 1, none⟩ = some (.slice y1 y2 y3) ∧ ma.cell? ⟨b, off + j * 3 + 2, none⟩ = some (.slice y4 y5 y6) := ⟨(hbc.cell (p := ⟨b, off + j * 3, none⟩) (Nat.lt_of_lt_of_le hb hB.size)).trans hHeld.1, (hbc.cell (p := ⟨b, off + j * 3 + 1, none⟩) (Nat.lt_of_lt_of_le hb hB.size)).trans hHeld.2.1, (hbc.cell (p := ⟨b, off + j * 3 + 2, none⟩) (Nat.lt_of_lt_of_le hb hB.size)).trans hHeld.2.2⟩
                replace hFj := hFj.below hbc
                replace hB := hB.trans (hbc.mono hB.size)
                clear hbc
                rw [HS2.out]
                go_wp2_with fail
                refine hK.out _ _ ?_ (fun hHeld => ?_)
                · (try dsimp only)
                  exact hHz
                clear hK K hHz
                try simp only [Act.put, List.setIfInBounds_toArray, List.set_cons_zero, List.set_cons_succ]
                refine hT 16 hHeld ?_
                refine hT 17 hHeld ?_
                refine hT 18 hHeld ?_
                refine wpAnyH_done (by kernel_rfl) ?_ _
                clear hHeld
                have hcl := cell3 hBr.out hB hb hC3.out
                obtain ⟨d0, d1, d2⟩ := hcl
                go_wp2_with fail
                refine (qsign_any 7 _ _ _ hFj.ct (by decide) (by decide)).mono ?_
                rintro e mb ⟨rfl, hbc⟩
                rw [HZ.out]
                replace hB := hB.trans (hbc.mono hB.size)
                clear hbc d0 d1 d2
                go_wp2
                go_roundw
                case rel => exact ⟨j + 1, by omega, by go_num, hB⟩
                case measure => simp [intOf]; omega
            · have g7 : decide (0 ≤ s1) = false := decide_eq_false p1
              have g7b : ¬ s1 ≥ 0 := p1
              have HZ : Hid (sgnQ qj = 0) := HIN.out (fun h => p1 h.1)
              refine wp_region_held_drew (S := fun w9 => w9.cell? ⟨b, off + j * 3, none⟩ = some (.bool n9) ∧ w9.cell? ⟨b, off + j * 3 + 1, none⟩ = some (.slice y1 y2 y3) ∧ w9.cell? ⟨b, off + j * 3 + 2, none⟩ = some (.slice y4 y5 y6)) (by kernel_rfl) ?_ (fun hHeld => ?_)
              · (try dsimp only)
                go_keep
              have hdr : Below Z1.heap.size Z1 Z1.drew := Below.drew1
              generalize Z1.drew = Z2 at hdr hHeld ⊢
              replace hFj := hFj.below hdr
              replace hB := hB.trans (hdr.mono hB.size)
              clear hdr
              refine hT 0 hHeld ?_
              refine hT 1 hHeld ?_
              refine hT 2 hHeld ?_
              refine hT 3 hHeld ?_
              refine hT 4 hHeld ?_
              refine hCall (i := 5) rfl (by kernel_rfl) (by rfl) (fun K hK => ?_)
              go_simp
              refine (whole_any l _ (by omega) (by omega)).mono ?_
              rintro e m7 ⟨v7, rfl, hF7, hbc⟩
              have hHz : m7.cell? ⟨b, off + j * 3, none⟩ = some (.bool n9) ∧ m7.cell? ⟨b, off + j * 3 + 1, none⟩ = some (.slice y1 y2 y3) ∧ m7.cell? ⟨b, off + j * 3 + 2, none⟩ = some (.slice y4 y5 y6) := ⟨(hbc.cell (p := ⟨b, off + j * 3, none⟩) (Nat.lt_of_lt_of_le hb hB.size)).trans hHeld.1, (hbc.cell (p := ⟨b, off + j * 3 + 1, none⟩) (Nat.lt_of_lt_of_le hb hB.size)).trans hHeld.2.1, (hbc.cell (p := ⟨b, off + j * 3 + 2, none⟩) (Nat.lt_of_lt_of_le hb hB.size)).trans hHeld.2.2⟩
              replace hFj := hFj.below hbc
              replace hB := hB.trans (hbc.mono hB.size)
              clear hbc
              go_wp2_with fail
              refine hK.out _ _ ?_ (fun hHeld => ?_)
              · (try dsimp only)
                exact hHz
              clear hK K hHz
              try simp only [Act.put, List.setIfInBounds_toArray, List.set_cons_zero, List.set_cons_succ]
              refine hCall (i := 6) rfl (by kernel_rfl) (by rfl) (fun K hK => ?_)
              go_simp
              refine (qcmp_any 7 2 _ _ _ _ m7 hFj.ct hF7.ct (by decide) (by decide) (by decide) (by decide)).mono ?_
              rintro e m8 ⟨rfl, hbc⟩
              have hHz : m8.cell? ⟨b, off + j * 3, none⟩ = some (.bool n9) ∧ m8.cell? ⟨b, off + j * 3 + 1, none⟩ = some (.slice y1 y2 y3) ∧ m8.cell? ⟨b, off + j * 3 + 2, none⟩ = some (.slice y4 y5 y6) := ⟨(hbc.cell (p := ⟨b, off + j * 3, none⟩) (Nat.lt_of_lt_of_le hb hB.size)).trans hHeld.1, (hbc.cell (p := ⟨b, off + j * 3 + 1, none⟩) (Nat.lt_of_lt_of_le hb hB.size)).trans hHeld.2.1, (hbc.cell (p := ⟨b, off + j * 3 + 2, none⟩) (Nat.lt_of_lt_of_le hb hB.size)).trans hHeld.2.2⟩
              replace hFj := hFj.below hbc
              replace hB := hB.trans (hbc.mono hB.size)
              clear hbc
              rw [HS1.out]
              go_wp2_with fail
              refine hK.out _ _ ?_ (fun hHeld => ?_)
              · (try dsimp only)
                exact hHz
              clear hK K hHz
              try simp only [Act.put, List.setIfInBounds_toArray, List.set_cons_zero, List.set_cons_succ]
              refine hT 7 hHeld ?_
              refine hT 8 hHeld ?_
              refine hN 9 hHeld ?_
              refine hN 10 hHeld ?_
              refine hN 11 hHeld ?_
              refine hN 12 hHeld ?_
              refine hN 13 hHeld ?_
              refine hN 14 hHeld ?_
              refine hN 15 hHeld ?_
              refine hN 16 hHeld ?_
              refine hT 17 hHeld ?_
              refine hT 18 hHeld ?_
              refine wpAnyH_done (by kernel_rfl) ?_ _
              clear hHeld
              have hcl := cell3 hBr.out hB hb hC3.out
              obtain ⟨d0, d1, d2⟩ := hcl
              go_wp2_with fail
              refine (qsign_any 7 _ _ _ hFj.ct (by decide) (by decide)).mono ?_
              rintro e mb ⟨rfl, hbc⟩
              rw [HZ.out]
              replace hB := hB.trans (hbc.mono hB.size)
              clear hbc d0 d1 d2
              go_wp2
              go_roundw
              case rel => exact ⟨j + 1, by omega, by go_num, hB⟩
              case measure => simp [intOf]; omega
          | true =>
            have hqx : qj = (x : Rat) := HOWN.out rfl
            have HQX : Hid (sgnQ (qj - (x : Rat)) = 0) := sgn_nil hqx
            clear hqx
            refine wp_region_held_drew (S := fun w9 => w9.cell? ⟨bt, ot + j, none⟩ = some (.bool true) ∧ w9.cell? ⟨bb, ob + j, none⟩ = some (.int .i64 x) ∧ w9.cell? ⟨b, off + j * 3, none⟩ = some (.bool n9) ∧ w9.cell? ⟨b, off + j * 3 + 1, none⟩ = some (.slice y1 y2 y3) ∧ w9.cell? ⟨b, off + j * 3 + 2, none⟩ = some (.slice y4 y5 y6)) (by kernel_rfl) ?_ (fun hHeld => ?_)
            · (try dsimp only)
              go_keep
            have hdr : Below wr.heap.size wr wr.drew := Below.drew1
            generalize wr.drew = Z1 at hdr hHeld ⊢
            replace hFj := hFj.below hdr
            replace hB := hB.trans (hdr.mono hB.size)
            clear hdr
            refine hT 0 hHeld ?_
            refine hT 1 hHeld ?_
            refine hT 2 hHeld ?_
            refine hT 3 hHeld ?_
            refine hT 4 hHeld ?_
            refine hT 5 hHeld ?_
            refine hT 6 hHeld ?_
            refine hT 7 hHeld ?_
            refine hT 8 hHeld ?_
            refine hT 9 hHeld ?_
            refine hT 10 hHeld ?_
            refine hT 11 hHeld ?_
            refine hT 12 hHeld ?_
            refine hCall (i := 13) rfl (by kernel_rfl) (by rfl) (fun K hK => ?_)
            go_simp
            refine (whole_any x _ (by omega) (by omega)).mono ?_
            rintro e mc ⟨v5, rfl, hF5, hbc⟩
            have hHz : mc.cell? ⟨bt, ot + j, none⟩ = some (.bool true) ∧ mc.cell? ⟨bb, ob + j, none⟩ = some (.int .i64 x) ∧ mc.cell? ⟨b, off + j * 3, none⟩ = some (.bool n9) ∧ mc.cell? ⟨b, off + j * 3 + 1, none⟩ = some (.slice y1 y2 y3) ∧ mc.cell? ⟨b, off + j * 3 + 2, none⟩ = some (.slice y4 y5 y6) := ⟨(hbc.cell (p := ⟨bt, ot + j, none⟩) (Nat.lt_of_lt_of_le hbt hB.size)).trans hHeld.1, (hbc.cell (p := ⟨bb, ob + j, none⟩) (Nat.lt_of_lt_of_le hbb hB.size)).trans hHeld.2.1, (hbc.cell (p := ⟨b, off + j * 3, none⟩) (Nat.lt_of_lt_of_le hb hB.size)).trans hHeld.2.2.1, (hbc.cell (p := ⟨b, off + j * 3 + 1, none⟩) (Nat.lt_of_lt_of_le hb hB.size)).trans hHeld.2.2.2.1, (hbc.cell (p := ⟨b, off + j * 3 + 2, none⟩) (Nat.lt_of_lt_of_le hb hB.size)).trans hHeld.2.2.2.2⟩
            replace hFj := hFj.below hbc
            replace hB := hB.trans (hbc.mono hB.size)
            clear hbc
            go_wp2_with fail
            refine hK.out _ _ ?_ (fun hHeld => ?_)
            · (try dsimp only)
              exact hHz
            clear hK K hHz
            try simp only [Act.put, List.setIfInBounds_toArray, List.set_cons_zero, List.set_cons_succ]
            refine hCall (i := 14) rfl (by kernel_rfl) (by rfl) (fun K hK => ?_)
            go_simp
            refine (qcmp_any 7 2 _ _ _ _ mc hFj.ct hF5.ct (by decide) (by decide) (by decide) (by decide)).mono ?_
            rintro e md ⟨rfl, hbc⟩
            have hHz : md.cell? ⟨bt, ot + j, none⟩ = some (.bool true) ∧ md.cell? ⟨bb, ob + j, none⟩ = some (.int .i64 x) ∧ md.cell? ⟨b, off + j * 3, none⟩ = some (.bool n9) ∧ md.cell? ⟨b, off + j * 3 + 1, none⟩ = some (.slice y1 y2 y3) ∧ md.cell? ⟨b, off + j * 3 + 2, none⟩ = some (.slice y4 y5 y6) := ⟨(hbc.cell (p := ⟨bt, ot + j, none⟩) (Nat.lt_of_lt_of_le hbt hB.size)).trans hHeld.1, (hbc.cell (p := ⟨bb, ob + j, none⟩) (Nat.lt_of_lt_of_le hbb hB.size)).trans hHeld.2.1, (hbc.cell (p := ⟨b, off + j * 3, none⟩) (Nat.lt_of_lt_of_le hb hB.size)).trans hHeld.2.2.1, (hbc.cell (p := ⟨b, off + j * 3 + 1, none⟩) (Nat.lt_of_lt_of_le hb hB.size)).trans hHeld.2.2.2.1, (hbc.cell (p := ⟨b, off + j * 3 + 2, none⟩) (Nat.lt_of_lt_of_le hb hB.size)).trans hHeld.2.2.2.2⟩
            replace hFj := hFj.below hbc
            replace hB := hB.trans (hbc.mono hB.size)
            clear hbc
            rw [HQX.out]
            go_wp2_with fail
            refine hK.out _ _ ?_ (fun hHeld => ?_)
            · (try dsimp only)
              exact hHz
            clear hK K hHz
            try simp only [Act.put, List.setIfInBounds_toArray, List.set_cons_zero, List.set_cons_succ]
            refine hT 15 hHeld ?_
            refine hT 16 hHeld ?_
            refine wpAnyH_done (by kernel_rfl) ?_ _
            clear hHeld
            clear d0 d1 d2 dt db hF5
            go_wp2_with fail
            have hcl := cell3 hBr.out hB hb hC3.out
            obtain ⟨d0, d1, d2⟩ := hcl
            by_cases p1 : 0 ≤ s1
            · have g7 : decide (0 ≤ s1) = true := decide_eq_true p1
              have g7b : s1 ≥ 0 := p1
              by_cases p2 : s2 ≤ 0
              · have g8 : decide (s2 ≤ 0) = true := decide_eq_true p2
                refine wp_region_held_drew (S := fun w9 => w9.cell? ⟨b, off + j * 3, none⟩ = some (.bool n9) ∧ w9.cell? ⟨b, off + j * 3 + 1, none⟩ = some (.slice y1 y2 y3) ∧ w9.cell? ⟨b, off + j * 3 + 2, none⟩ = some (.slice y4 y5 y6)) (by kernel_rfl) ?_ (fun hHeld => ?_)
                · (try dsimp only)
                  go_keep
                have hdr : Below md.heap.size md md.drew := Below.drew1
                generalize md.drew = Z2 at hdr hHeld ⊢
                replace hFj := hFj.below hdr
                replace hB := hB.trans (hdr.mono hB.size)
                clear hdr
                refine hT 0 hHeld ?_
                refine hT 1 hHeld ?_
                refine hT 2 hHeld ?_
                refine hT 3 hHeld ?_
                refine hT 4 hHeld ?_
                refine hCall (i := 5) rfl (by kernel_rfl) (by rfl) (fun K hK => ?_)
                go_simp
                refine (whole_any l _ (by omega) (by omega)).mono ?_
                rintro e m7 ⟨v7, rfl, hF7, hbc⟩
                have hHz : m7.cell? ⟨b, off + j * 3, none⟩ = some (.bool n9) ∧ m7.cell? ⟨b, off + j * 3 + 1, none⟩ = some (.slice y1 y2 y3) ∧ m7.cell? ⟨b, off + j * 3 + 2, none⟩ = some (.slice y4 y5 y6) := ⟨(hbc.cell (p := ⟨b, off + j * 3, none⟩) (Nat.lt_of_lt_of_le hb hB.size)).trans hHeld.1, (hbc.cell (p := ⟨b, off + j * 3 + 1, none⟩) (Nat.lt_of_lt_of_le hb hB.size)).trans hHeld.2.1, (hbc.cell (p := ⟨b, off + j * 3 + 2, none⟩) (Nat.lt_of_lt_of_le hb hB.size)).trans hHeld.2.2⟩
                replace hFj := hFj.below hbc
                replace hB := hB.trans (hbc.mono hB.size)
                clear hbc
                go_wp2_with fail
                refine hK.out _ _ ?_ (fun hHeld => ?_)
                · (try dsimp only)
                  exact hHz
                clear hK K hHz
                try simp only [Act.put, List.setIfInBounds_toArray, List.set_cons_zero, List.set_cons_succ]
                refine hCall (i := 6) rfl (by kernel_rfl) (by rfl) (fun K hK => ?_)
                go_simp
                refine (qcmp_any 7 2 _ _ _ _ m7 hFj.ct hF7.ct (by decide) (by decide) (by decide) (by decide)).mono ?_
                rintro e m8 ⟨rfl, hbc⟩
                have hHz : m8.cell? ⟨b, off + j * 3, none⟩ = some (.bool n9) ∧ m8.cell? ⟨b, off + j * 3 + 1, none⟩ = some (.slice y1 y2 y3) ∧ m8.cell? ⟨b, off + j * 3 + 2, none⟩ = some (.slice y4 y5 y6) := ⟨(hbc.cell (p := ⟨b, off + j * 3, none⟩) (Nat.lt_of_lt_of_le hb hB.size)).trans hHeld.1, (hbc.cell (p := ⟨b, off + j * 3 + 1, none⟩) (Nat.lt_of_lt_of_le hb hB.size)).trans hHeld.2.1, (hbc.cell (p := ⟨b, off + j * 3 + 2, none⟩) (Nat.lt_of_lt_of_le hb hB.size)).trans hHeld.2.2⟩
                replace hFj := hFj.below hbc
                replace hB := hB.trans (hbc.mono hB.size)
                clear hbc
                rw [HS1.out]
                go_wp2_with fail
                refine hK.out _ _ ?_ (fun hHeld => ?_)
                · (try dsimp only)
                  exact hHz
                clear hK K hHz
                try simp only [Act.put, List.setIfInBounds_toArray, List.set_cons_zero, List.set_cons_succ]
                refine hT 7 hHeld ?_
                refine hT 8 hHeld ?_
                refine hT 9 hHeld ?_
                refine hT 10 hHeld ?_
                refine hT 11 hHeld ?_
                refine hT 12 hHeld ?_
                refine hT 13 hHeld ?_
                refine hCall (i := 14) rfl (by kernel_rfl) (by rfl) (fun K hK => ?_)
                go_simp
                refine (whole_any m _ (by omega) (by omega)).mono ?_
                rintro e m9 ⟨v9, rfl, hF9, hbc⟩
                have hHz : m9.cell? ⟨b, off + j * 3, none⟩ = some (.bool n9) ∧ m9.cell? ⟨b, off + j * 3 + 1, none⟩ = some (.slice y1 y2 y3) ∧ m9.cell? ⟨b, off + j * 3 + 2, none⟩ = some (.slice y4 y5 y6) := ⟨(hbc.cell (p := ⟨b, off + j * 3, none⟩) (Nat.lt_of_lt_of_le hb hB.size)).trans hHeld.1, (hbc.cell (p := ⟨b, off + j * 3 + 1, none⟩) (Nat.lt_of_lt_of_le hb hB.size)).trans hHeld.2.1, (hbc.cell (p := ⟨b, off + j * 3 + 2, none⟩) (Nat.lt_of_lt_of_le hb hB.size)).trans hHeld.2.2⟩
                replace hFj := hFj.below hbc
                replace hB := hB.trans (hbc.mono hB.size)
                clear hbc
                go_wp2_with fail
                refine hK.out _ _ ?_ (fun hHeld => ?_)
                · (try dsimp only)
                  exact hHz
                clear hK K hHz
                try simp only [Act.put, List.setIfInBounds_toArray, List.set_cons_zero, List.set_cons_succ]
                refine hCall (i := 15) rfl (by kernel_rfl) (by rfl) (fun K hK => ?_)
                go_simp
                refine (qcmp_any 7 2 _ _ _ _ m9 hFj.ct hF9.ct (by decide) (by decide) (by decide) (by decide)).mono ?_
                rintro e ma ⟨rfl, hbc⟩
                have hHz : ma.cell? ⟨b, off + j * 3, none⟩ = some (.bool n9) ∧ ma.cell? ⟨b, off + j * 3 + 1, none⟩ = some (.slice y1 y2 y3) ∧ ma.cell? ⟨b, off + j * 3 + 2, none⟩ = some (.slice y4 y5 y6) := ⟨(hbc.cell (p := ⟨b, off + j * 3, none⟩) (Nat.lt_of_lt_of_le hb hB.size)).trans hHeld.1, (hbc.cell (p := ⟨b, off + j * 3 + 1, none⟩) (Nat.lt_of_lt_of_le hb hB.size)).trans hHeld.2.1, (hbc.cell (p := ⟨b, off + j * 3 + 2, none⟩) (Nat.lt_of_lt_of_le hb hB.size)).trans hHeld.2.2⟩
                replace hFj := hFj.below hbc
                replace hB := hB.trans (hbc.mono hB.size)
                clear hbc
                rw [HS2.out]
                go_wp2_with fail
                refine hK.out _ _ ?_ (fun hHeld => ?_)
                · (try dsimp only)
                  exact hHz
                clear hK K hHz
                try simp only [Act.put, List.setIfInBounds_toArray, List.set_cons_zero, List.set_cons_succ]
                refine hT 16 hHeld ?_
                refine hT 17 hHeld ?_
                refine hT 18 hHeld ?_
                refine wpAnyH_done (by kernel_rfl) ?_ _
                clear hHeld
                go_wp2
                go_roundw
                case rel => exact ⟨j + 1, by omega, by go_num, hB⟩
                case measure => simp [intOf]; omega
              · have g8 : decide (s2 ≤ 0) = false := decide_eq_false p2
                have HZ : Hid (sgnQ qj = 0) := HIN.out (fun h => p2 h.2)
                refine wp_region_held_drew (S := fun w9 => w9.cell? ⟨b, off + j * 3, none⟩ = some (.bool n9) ∧ w9.cell? ⟨b, off + j * 3 + 1, none⟩ = some (.slice y1 y2 y3) ∧ w9.cell? ⟨b, off + j * 3 + 2, none⟩ = some (.slice y4 y5 y6)) (by kernel_rfl) ?_ (fun hHeld => ?_)
                · (try dsimp only)
                  go_keep
                have hdr : Below md.heap.size md md.drew := Below.drew1
                generalize md.drew = Z2 at hdr hHeld ⊢
                replace hFj := hFj.below hdr
                replace hB := hB.trans (hdr.mono hB.size)
                clear hdr
                refine hT 0 hHeld ?_
                refine hT 1 hHeld ?_
                refine hT 2 hHeld ?_
                refine hT 3 hHeld ?_
                refine hT 4 hHeld ?_
                refine hCall (i := 5) rfl (by kernel_rfl) (by rfl) (fun K hK => ?_)
                go_simp
                refine (whole_any l _ (by omega) (by omega)).mono ?_
                rintro e m7 ⟨v7, rfl, hF7, hbc⟩
                have hHz : m7.cell? ⟨b, off + j * 3, none⟩ = some (.bool n9) ∧ m7.cell? ⟨b, off + j * 3 + 1, none⟩ = some (.slice y1 y2 y3) ∧ m7.cell? ⟨b, off + j * 3 + 2, none⟩ = some (.slice y4 y5 y6) := ⟨(hbc.cell (p := ⟨b, off + j * 3, none⟩) (Nat.lt_of_lt_of_le hb hB.size)).trans hHeld.1, (hbc.cell (p := ⟨b, off + j * 3 + 1, none⟩) (Nat.lt_of_lt_of_le hb hB.size)).trans hHeld.2.1, (hbc.cell (p := ⟨b, off + j * 3 + 2, none⟩) (Nat.lt_of_lt_of_le hb hB.size)).trans hHeld.2.2⟩
                replace hFj := hFj.below hbc
                replace hB := hB.trans (hbc.mono hB.size)
                clear hbc
                go_wp2_with fail
                refine hK.out _ _ ?_ (fun hHeld => ?_)
                · (try dsimp only)
                  exact hHz
                clear hK K hHz
                try simp only [Act.put, List.setIfInBounds_toArray, List.set_cons_zero, List.set_cons_succ]
                refine hCall (i := 6) rfl (by kernel_rfl) (by rfl) (fun K hK => ?_)
                go_simp
                refine (qcmp_any 7 2 _ _ _ _ m7 hFj.ct hF7.ct (by decide) (by decide) (by decide) (by decide)).mono ?_
                rintro e m8 ⟨rfl, hbc⟩
                have hHz : m8.cell? ⟨b, off + j * 3, none⟩ = some (.bool n9) ∧ m8.cell? ⟨b, off + j * 3 + 1, none⟩ = some (.slice y1 y2 y3) ∧ m8.cell? ⟨b, off + j * 3 + 2, none⟩ = some (.slice y4 y5 y6) := ⟨(hbc.cell (p := ⟨b, off + j * 3, none⟩) (Nat.lt_of_lt_of_le hb hB.size)).trans hHeld.1, (hbc.cell (p := ⟨b, off + j * 3 + 1, none⟩) (Nat.lt_of_lt_of_le hb hB.size)).trans hHeld.2.1, (hbc.cell (p := ⟨b, off + j * 3 + 2, none⟩) (Nat.lt_of_lt_of_le hb hB.size)).trans hHeld.2.2⟩
                replace hFj := hFj.below hbc
                replace hB := hB.trans (hbc.mono hB.size)
                clear hbc
                rw [HS1.out]
                go_wp2_with fail
                refine hK.out _ _ ?_ (fun hHeld => ?_)
                · (try dsimp only)
                  exact hHz
                clear hK K hHz
                try simp only [Act.put, List.setIfInBounds_toArray, List.set_cons_zero, List.set_cons_succ]
                refine hT 7 hHeld ?_
                refine hT 8 hHeld ?_
                refine hT 9 hHeld ?_
                refine hT 10 hHeld ?_
                refine hT 11 hHeld ?_
                refine hT 12 hHeld ?_
                refine hT 13 hHeld ?_
                refine hCall (i := 14) rfl (by kernel_rfl) (by rfl) (fun K hK => ?_)
                go_simp
                refine (whole_any m _ (by omega) (by omega)).mono ?_
                rintro e m9 ⟨v9, rfl, hF9, hbc⟩
                have hHz : m9.cell? ⟨b, off + j * 3, none⟩ = some (.bool n9) ∧ m9.cell? ⟨b, off + j * 3 + 1, none⟩ = some (.slice y1 y2 y3) ∧ m9.cell? ⟨b, off + j * 3 + 2, none⟩ = some (.slice y4 y5 y6) := ⟨(hbc.cell (p := ⟨b, off + j * 3, none⟩) (Nat.lt_of_lt_of_le hb hB.size)).trans hHeld.1, (hbc.cell (p := ⟨b, off + j * 3 + 1, none⟩) (Nat.lt_of_lt_of_le hb hB.size)).trans hHeld.2.1, (hbc.cell (p := ⟨b, off + j * 3 + 2, none⟩) (Nat.lt_of_lt_of_le hb hB.size)).trans hHeld.2.2⟩
                replace hFj := hFj.below hbc
                replace hB := hB.trans (hbc.mono hB.size)
                clear hbc
                go_wp2_with fail
                refine hK.out _ _ ?_ (fun hHeld => ?_)
                · (try dsimp only)
                  exact hHz
                clear hK K hHz
                try simp only [Act.put, List.setIfInBounds_toArray, List.set_cons_zero, List.set_cons_succ]
                refine hCall (i := 15) rfl (by kernel_rfl) (by rfl) (fun K hK => ?_)
                go_simp
                refine (qcmp_any 7 2 _ _ _ _ m9 hFj.ct hF9.ct (by decide) (by decide) (by decide) (by decide)).mono ?_
                rintro e ma ⟨rfl, hbc⟩
                have hHz : ma.cell? ⟨b, off + j * 3, none⟩ = some (.bool n9) ∧ ma.cell? ⟨b, off + j * 3 + 1, none⟩ = some (.slice y1 y2 y3) ∧ ma.cell? ⟨b, off + j * 3 + 2, none⟩ = some (.slice y4 y5 y6) := ⟨(hbc.cell (p := ⟨b, off + j * 3, none⟩) (Nat.lt_of_lt_of_le hb hB.size)).trans hHeld.1, (hbc.cell (p := ⟨b, off + j * 3 + 1, none⟩) (Nat.lt_of_lt_of_le hb hB.size)).trans hHeld.2.1, (hbc.cell (p := ⟨b, off + j * 3 + 2, none⟩) (Nat.lt_of_lt_of_le hb hB.size)).trans hHeld.2.2⟩
                replace hFj := hFj.below hbc
                replace hB := hB.trans (hbc.mono hB.size)
                clear hbc
                rw [HS2.out]
                go_wp2_with fail
                refine hK.out _ _ ?_ (fun hHeld => ?_)
                · (try dsimp only)
                  exact hHz
                clear hK K hHz
                try simp only [Act.put, List.setIfInBounds_toArray, List.set_cons_zero, List.set_cons_succ]
                refine hT 16 hHeld ?_
                refine hT 17 hHeld ?_
                refine hT 18 hHeld ?_
                refine wpAnyH_done (by kernel_rfl) ?_ _
                clear hHeld
                have hcl := cell3 hBr.out hB hb hC3.out
                obtain ⟨d0, d1, d2⟩ := hcl
                go_wp2_with fail
                refine (qsign_any 7 _ _ _ hFj.ct (by decide) (by decide)).mono ?_
                rintro e mb ⟨rfl, hbc⟩
                rw [HZ.out]
                replace hB := hB.trans (hbc.mono hB.size)
                clear hbc d0 d1 d2
                go_wp2
                go_roundw
                case rel => exact ⟨j + 1, by omega, by go_num, hB⟩
                case measure => simp [intOf]; omega
            · have g7 : decide (0 ≤ s1) = false := decide_eq_false p1
              have g7b : ¬ s1 ≥ 0 := p1
              have HZ : Hid (sgnQ qj = 0) := HIN.out (fun h => p1 h.1)
              refine wp_region_held_drew (S := fun w9 => w9.cell? ⟨b, off + j * 3, none⟩ = some (.bool n9) ∧ w9.cell? ⟨b, off + j * 3 + 1, none⟩ = some (.slice y1 y2 y3) ∧ w9.cell? ⟨b, off + j * 3 + 2, none⟩ = some (.slice y4 y5 y6)) (by kernel_rfl) ?_ (fun hHeld => ?_)
              · (try dsimp only)
                go_keep
              have hdr : Below md.heap.size md md.drew := Below.drew1
              generalize md.drew = Z2 at hdr hHeld ⊢
              replace hFj := hFj.below hdr
              replace hB := hB.trans (hdr.mono hB.size)
              clear hdr
              refine hT 0 hHeld ?_
              refine hT 1 hHeld ?_
              refine hT 2 hHeld ?_
              refine hT 3 hHeld ?_
              refine hT 4 hHeld ?_
              refine hCall (i := 5) rfl (by kernel_rfl) (by rfl) (fun K hK => ?_)
              go_simp
              refine (whole_any l _ (by omega) (by omega)).mono ?_
              rintro e m7 ⟨v7, rfl, hF7, hbc⟩
              have hHz : m7.cell? ⟨b, off + j * 3, none⟩ = some (.bool n9) ∧ m7.cell? ⟨b, off + j * 3 + 1, none⟩ = some (.slice y1 y2 y3) ∧ m7.cell? ⟨b, off + j * 3 + 2, none⟩ = some (.slice y4 y5 y6) := ⟨(hbc.cell (p := ⟨b, off + j * 3, none⟩) (Nat.lt_of_lt_of_le hb hB.size)).trans hHeld.1, (hbc.cell (p := ⟨b, off + j * 3 + 1, none⟩) (Nat.lt_of_lt_of_le hb hB.size)).trans hHeld.2.1, (hbc.cell (p := ⟨b, off + j * 3 + 2, none⟩) (Nat.lt_of_lt_of_le hb hB.size)).trans hHeld.2.2⟩
              replace hFj := hFj.below hbc
              replace hB := hB.trans (hbc.mono hB.size)
              clear hbc
              go_wp2_with fail
              refine hK.out _ _ ?_ (fun hHeld => ?_)
              · (try dsimp only)
                exact hHz
              clear hK K hHz
              try simp only [Act.put, List.setIfInBounds_toArray, List.set_cons_zero, List.set_cons_succ]
              refine hCall (i := 6) rfl (by kernel_rfl) (by rfl) (fun K hK => ?_)
              go_simp
              refine (qcmp_any 7 2 _ _ _ _ m7 hFj.ct hF7.ct (by decide) (by decide) (by decide) (by decide)).mono ?_
              rintro e m8 ⟨rfl, hbc⟩
              have hHz : m8.cell? ⟨b, off + j * 3, none⟩ = some (.bool n9) ∧ m8.cell? ⟨b, off + j * 3 + 1, none⟩ = some (.slice y1 y2 y3) ∧ m8.cell? ⟨b, off + j * 3 + 2, none⟩ = some (.slice y4 y5 y6) := ⟨(hbc.cell (p := ⟨b, off + j * 3, none⟩) (Nat.lt_of_lt_of_le hb hB.size)).trans hHeld.1, (hbc.cell (p := ⟨b, off + j * 3 + 1, none⟩) (Nat.lt_of_lt_of_le hb hB.size)).trans hHeld.2.1, (hbc.cell (p := ⟨b, off + j * 3 + 2, none⟩) (Nat.lt_of_lt_of_le hb hB.size)).trans hHeld.2.2⟩
              replace hFj := hFj.below hbc
              replace hB := hB.trans (hbc.mono hB.size)
              clear hbc
              rw [HS1.out]
              go_wp2_with fail
              refine hK.out _ _ ?_ (fun hHeld => ?_)
              · (try dsimp only)
                exact hHz
              clear hK K hHz
              try simp only [Act.put, List.setIfInBounds_toArray, List.set_cons_zero, List.set_cons_succ]
              refine hT 7 hHeld ?_
              refine hT 8 hHeld ?_
              refine hN 9 hHeld ?_
              refine hN 10 hHeld ?_
              refine hN 11 hHeld ?_
              refine hN 12 hHeld ?_
              refine hN 13 hHeld ?_
              refine hN 14 hHeld ?_
              refine hN 15 hHeld ?_
              refine hN 16 hHeld ?_
              refine hT 17 hHeld ?_
              refine hT 18 hHeld ?_
              refine wpAnyH_done (by kernel_rfl) ?_ _
              clear hHeld
              have hcl := cell3 hBr.out hB hb hC3.out
              obtain ⟨d0, d1, d2⟩ := hcl
              go_wp2_with fail
              refine (qsign_any 7 _ _ _ hFj.ct (by decide) (by decide)).mono ?_
              rintro e mb ⟨rfl, hbc⟩
              rw [HZ.out]
              replace hB := hB.trans (hbc.mono hB.size)
              clear hbc d0 d1 d2
              go_wp2
              go_roundw
              case rel => exact ⟨j + 1, by omega, by go_num, hB⟩
              case measure => simp [intOf]; omega
        · obtain rfl : j = k := by omega
          have g5 : ¬ (j : Int) < (j : Int) := by omega
          have HBY : Hid (Below w.heap.size w wr) := HBX.out.trans (hB.mono HBX.out.size)
          go_wp2
          go_ret
          exact ⟨rfl, HBY.out⟩

end Go.Proofs.YthoildjecoppgaaDoor
