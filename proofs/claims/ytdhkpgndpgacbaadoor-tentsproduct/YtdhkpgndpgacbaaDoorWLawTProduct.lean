/-
  foundrylaw09.TentsProduct: the walk.
-/
import Derived.Test.YtdhkpgndpgacbaaDoorZ11
import Derived.Test.YtdhkpgndpgacbaaDoorZ15
import Derived.Test.YtdhkpgndpgacbaaDoorZ14
import Derived.Deep.CutRange
namespace Go.Proofs.YtdhkpgndpgacbaaDoor
open Go.RowKit Go.Maps
set_option linter.unusedSimpArgs false
set_option linter.unusedVariables false

/-- Numbers, cut at both ends. -/
theorem Ri.from {w : World} {a : Option Addr} {cap : Nat} {zs : List Int} (h : Ri w a cap zs) (n : Nat) (hn : n ≤ zs.length) : Ri w (if cap = n then a else a.map (fun x => x.add n)) (cap - n) (zs.drop n) := by
  by_cases h0 : n < zs.length
  · rcases h.2.2.2 with h4 | ⟨b, off, rfl, h5, h6⟩
    · rw [h4] at h0; simp at h0
    · have := h.2.1
      rw [if_neg (by omega)]
      have hadd : (⟨b, off, none⟩ : Addr).add n = ⟨b, off + n, none⟩ := by unfold Addr.add; split <;> simp_all
      show Ri w (some ((⟨b, off, none⟩ : Addr).add n)) _ _
      rw [hadd]
      exact h.drop n hn
  · have e : zs.drop n = [] := List.drop_eq_nil_of_le (by omega)
    rw [e]
    exact Ri.nil _ _ _ (Nat.le_trans (Nat.sub_le _ _) h.2.2.1)
theorem map_add0 (a : Option Addr) : a.map (fun x => x.add 0) = a := by
  cases a with
  | none => rfl
  | some y => obtain ⟨b, off, spot⟩ := y; cases spot <;> simp [Addr.add]
theorem sg_start {l : List Te} (h : l.all tfB = true) : decide (0 < sgnQ (alQ l [])) = evB l := by
  cases he : evB l with
  | true => rw [(alQ_start h).1 he]; decide +kernel
  | false => rw [(alQ_start h).2 he]; decide +kernel

set_option maxHeartbeats 8000000 in
set_option maxRecDepth 100000 in
theorem tentsProduct_any (a : Option Addr) (cap : Nat) (l : List Te) (b : Option Addr) (bc : Nat) (m : List Te) (pa : Option Addr) (pc : Nat) (cs : List Int) (w : World) (h : Tz w a cap l) (hm : Tz w b bc m) (hp : Ri w pa pc cs) (htab : Pow w) :
    Calls Tryd.prog 6 #[.slice a l.length cap, .slice b m.length bc, .slice pa cs.length pc] w fun e w' => e = .returned (.bool true) ∧ Below w.heap.size w w' := by
  have k1 := h.lenB
  have k2 := hm.lenB
  have k3 := hp.lenB
  have HTAB : Hid (Pow w) := htab
  clear htab
  go_enter Tryd.func6, Tryd.ntmps6
  go_wp2_with fail
  refine (awake9_any _ HTAB.out).mono ?_
  rintro e u1 ⟨rfl, hbW⟩
  replace h := h.below hbW
  replace hm := hm.below hbW
  replace hp := hp.below hbW
  by_cases hf : l.length ≤ 6 ∧ m.length ≤ 6 ∧ cs.length = l.length + m.length
  · obtain ⟨hl6, hm6, hcl⟩ := hf
    have g1 : decide ((6 : Int) < (l.length : Int)) = false := decide_eq_false (by omega)
    have g2 : decide ((6 : Int) < (m.length : Int)) = false := decide_eq_false (by omega)
    have g3 : ((cs.length : Int) != (l.length : Int) + (m.length : Int)) = false := by rw [hcl]; simp
    have HCL : Hid (cs.length = l.length + m.length) := hcl
    clear hcl
    go_wp2_with (at_builtin; refine wpList_append_tes rfl _ _ rfl u1.heap.size _ [] rfl (To.nil _ _) a cap l.length l rfl rfl h (by simp; omega) (Nat.le_refl _) ?_)
    intro v2 w2 hT2 hg2
    try rw [List.nil_append] at hT2
    have hB2 : Below u1.heap.size u1 w2 := (Below.refl _ _).grown hg2 (Nat.le_refl _) (fun k hk => by cases hk)
    have hm2 := hm.below hB2
    clear hg2 g1 g2 g3
    go_wp2_with (at_builtin; refine wpList_append_tes rfl _ _ rfl u1.heap.size v2 l rfl hT2 b bc m.length m rfl rfl hm2 (by omega) hB2.size ?_)
    intro v3 w3 hT3 hg3
    have hB3 : Below u1.heap.size u1 w3 := hB2.grown hg3 hB2.size (fun k hk => hT2.lo hk)
    obtain ⟨a3, c3, rfl, hS⟩ := hT3.slice
    have HLM : Hid ((l ++ m).length = l.length + m.length) := List.length_append
    have HQ : Hid (alQ l (cs.take l.length) * alQ m (cs.drop l.length) = alQ (l ++ m) cs) := by
      show _ = _
      rw [← alQ_append (by rw [List.length_take, HCL.out]; omega), List.take_append_drop]
    replace h := h.below hB3
    replace hm := hm.below hB3
    replace hp := hp.below hB3
    replace hbW := hbW.trans (hB3.mono hbW.size)
    have hp1 := hp.take l.length
    have hp2 := hp.from l.length (by rw [HCL.out]; omega)
    have hc1 := fun U h1 h2 => callT_any a cap l pa pc (cs.take l.length) U h1 h2 (by omega)
    have hc2 := fun U h1 h2 => callT_any b bc m (if pc = l.length then pa else pa.map (fun x => x.add l.length)) (pc - l.length) (cs.drop l.length) U h1 h2 (by omega)
    have e1 : (cs.take l.length).length = l.length := by rw [List.length_take, HCL.out]; omega
    have e2 : (cs.drop l.length).length = m.length := by rw [List.length_drop, HCL.out]; omega
    rw [e1] at hc1
    rw [e2] at hc2
    have hpc : l.length ≤ pc := by have := hp.2.1; rw [HCL.out] at this; omega
    have hsub : cs.length - l.length = m.length := by rw [HCL.out]; omega
    have hle : l.length ≤ cs.length := by rw [HCL.out]; omega
    clear e1 e2 hB2 hT2 hT3 hg3 hm2
    obtain ⟨q1, hq1⟩ : ∃ q, alQ l (cs.take l.length) = q := ⟨_, rfl⟩
    obtain ⟨q2, hq2⟩ : ∃ q, alQ m (cs.drop l.length) = q := ⟨_, rfl⟩
    rw [hq1, hq2] at HQ
    simp only [hq1] at hc1
    simp only [hq2] at hc2
    obtain ⟨c1, hcs1⟩ : ∃ c, cs.take l.length = c := ⟨_, rfl⟩
    obtain ⟨c2, hcs2⟩ : ∃ c, cs.drop l.length = c := ⟨_, rfl⟩
    rw [hcs1] at hp1
    rw [hcs2] at hp2
    simp only [hcs1] at hc1
    simp only [hcs2] at hc2
    obtain ⟨lm, hlm⟩ : ∃ x, l ++ m = x := ⟨_, rfl⟩
    rw [hlm] at HLM HQ hS
    have hl12 : lm.length ≤ 12 := by rw [HLM.out]; omega
    simp only [hlm]
    clear hlm hcs1 hcs2 hq1 hq2
    obtain ⟨pa2, hpa2⟩ : ∃ x, (if pc = l.length then pa else pa.map (fun x => x.add l.length)) = x := ⟨_, rfl⟩
    rw [hpa2] at hp2
    simp only [hpa2] at hc2
    have HPA2 : Hid ((if pc = l.length then pa else pa.map (fun x => x.add l.length)) = pa2) := hpa2
    clear hpa2
    have HS0 : Hid (Tz w3 a3 c3 lm) := hS
    have HP0 : Hid (Ri w3 pa pc cs) := hp
    have HBW : Hid (Below w.heap.size w w3) := hbW
    go_upto_region 6 with fail
    go_cut [8] from 39 to 51 (fun s8 wx => ∃ (g8 : Nat) (n8 : Bool) (a8 : Option Addr) (x8 c8 : Nat) (b8 : Option Addr) (y8 d8 : Nat), s8 = .pointer (some ⟨g8, 0, none⟩) ∧ Box 34 wx g8 (.bool n8) (.slice a8 x8 c8) (.slice b8 y8 d8) ∧ Fr wx (.agg #[.bool n8, .slice a8 x8 c8, .slice b8 y8 d8]) ((2 + 2 * l.length) + (2 + 2 * m.length)) (alQ lm cs) ∧ w3.heap.size ≤ g8 ∧ Below w3.heap.size w3 wx)
    case first =>
      have hbR : Below w3.heap.size w3 w3 := Below.refl _ _
      refine wp_region_held_drew (S := (fun _ => True)) (by kernel_rfl) ?_ (fun hHeld => ?_)
      · (try dsimp only)
        all_goals go_keep
      have hdr : Below w3.heap.size w3 w3.drew := Below.drew1
      generalize w3.drew = ud9 at hdr hHeld ⊢
      replace h := h.below hdr
      replace hm := hm.below hdr
      replace hp1 := hp1.below hdr
      replace hp2 := hp2.below hdr
      replace hbW : Below w.heap.size w ud9 := hbW.trans (hdr.mono hbW.size)
      replace hbR : Below w3.heap.size w3 ud9 := hbR.trans (hdr.mono hbR.size)
      clear hdr
      refine hT 0 hHeld ?_
      refine hT 1 hHeld ?_
      refine hT 2 hHeld ?_
      refine hT 3 hHeld ?_
      refine hTake (i := 4) (v := .slice pa l.length pc) rfl (by kernel_rfl) (by kernel_rfl) (by kernel_rfl) (fun _ _ _ h => h) (Or.inl ⟨by rfl, ?y10⟩) hHeld ?r10
      case y10 =>
        intro w9 hSw
        (try dsimp only at hSw)
        go_simp
      try simp only [Act.put, List.setIfInBounds_toArray, List.set_cons_zero, List.set_cons_succ]
      refine hT 6 hHeld ?_
      refine hT 7 hHeld ?_
      refine hT 8 hHeld ?_
      refine hT 9 hHeld ?_
      refine hTake (i := 10) (v := .slice pa2 m.length (pc - l.length)) rfl (by kernel_rfl) (by kernel_rfl) (by kernel_rfl) (fun _ _ _ h => h) (Or.inl ⟨by rfl, ?y11⟩) hHeld ?r11
      case y11 =>
        intro w9 hSw
        (try dsimp only at hSw)
        go_simp
        exact HPA2.out
      try simp only [Act.put, List.setIfInBounds_toArray, List.set_cons_zero, List.set_cons_succ]
      refine wpAnyH_ready (rs := [5, 13]) (by kernel_rfl) (by simp) (hCons (i := 5) rfl (by rfl) (fun K hK => ?_) (hCons (i := 13) rfl (by rfl) (fun K hK => ?_) AllReadyH.nil))
      · go_simp
        refine (hc1 _ h hp1).mono ?_
        rintro e u1 ⟨v5, rfl, hF5, hb1⟩
        replace h := h.below hb1
        replace hm := hm.below hb1
        replace hp1 := hp1.below hb1
        replace hp2 := hp2.below hb1
        replace hbW : Below w.heap.size w u1 := hbW.trans (hb1.mono hbW.size)
        replace hbR : Below w3.heap.size w3 u1 := hbR.trans (hb1.mono hbR.size)
        clear hb1
        go_wp2_with fail
        refine hK.out _ _ ?_ (fun hHeld => ?_)
        · (try dsimp only)
          all_goals trivial
        clear hK K
        try simp only [Act.put, List.setIfInBounds_toArray, List.set_cons_zero, List.set_cons_succ]
        refine wpAnyH_ready (rs := [11, 13]) (by kernel_rfl) (by simp) (hCons (i := 11) rfl (by rfl) (fun K hK => ?_) (hCons (i := 13) rfl (by rfl) (fun K hK => ?_) AllReadyH.nil))
        · go_simp
          refine (hc2 _ hm hp2).mono ?_
          rintro e u2 ⟨v6, rfl, hF6, hb2⟩
          replace h := h.below hb2
          replace hm := hm.below hb2
          replace hp1 := hp1.below hb2
          replace hp2 := hp2.below hb2
          replace hF5 := hF5.below hb2
          replace hbW : Below w.heap.size w u2 := hbW.trans (hb2.mono hbW.size)
          replace hbR : Below w3.heap.size w3 u2 := hbR.trans (hb2.mono hbR.size)
          clear hb2
          go_wp2_with fail
          refine hK.out _ _ ?_ (fun hHeld => ?_)
          · (try dsimp only)
            all_goals trivial
          clear hK K
          try simp only [Act.put, List.setIfInBounds_toArray, List.set_cons_zero, List.set_cons_succ]
          refine wpAnyH_ready (rs := [12, 13]) (by kernel_rfl) (by simp) (hCons (i := 12) rfl (by rfl) (fun K hK => ?_) (hCons (i := 13) rfl (by rfl) (fun K hK => ?_) AllReadyH.nil))
          · go_simp
            refine (qmul_any (2 + 2 * l.length) (2 + 2 * m.length) q1 q2 _ _ _ hF5.ct hF6.ct (by omega) (by omega) (by omega) (by omega)).mono ?_
            rintro e u3 ⟨v8, rfl, hF8, hb3⟩
            replace h := h.below hb3
            replace hm := hm.below hb3
            replace hp1 := hp1.below hb3
            replace hp2 := hp2.below hb3
            replace hF5 := hF5.below hb3
            replace hF6 := hF6.below hb3
            replace hbW : Below w.heap.size w u3 := hbW.trans (hb3.mono hbW.size)
            replace hbR : Below w3.heap.size w3 u3 := hbR.trans (hb3.mono hbR.size)
            clear hb3
            rw [HQ.out] at hF8
            obtain ⟨n8, x8, y8, ⟨a8, c8, b8, d8, rfl, hx8, hy8⟩, hF8⟩ := hF8
            go_wp2_with fail
            refine hK.out _ _ ?_ (fun hHeld => ?_)
            · (try dsimp only)
              all_goals trivial
            clear hK K
            try simp only [Act.put, List.setIfInBounds_toArray, List.set_cons_zero, List.set_cons_succ]
            refine hCall (i := 13) rfl (by kernel_rfl) (by rfl) (fun K hK => ?_)
            go_simp
            obtain ⟨u64, hU, B8, hb9⟩ : ∃ U, U = u3.alloc (.cells #[.bool false, .slice none 0 0, .slice none 0 0] 34) ∧ Box 34 U u3.heap.size (.bool false) (.slice none 0 0) (.slice none 0 0) ∧ Below u3.heap.size u3 U := ⟨_, rfl, Box.new _ _ _ _ _, al1 _⟩
            rw [← hU]
            clear hU
            have n81 := hbR.size
            have n82 := hbW.size
            replace h := h.below hb9
            replace hm := hm.below hb9
            replace hp1 := hp1.below hb9
            replace hp2 := hp2.below hb9
            replace hF5 := hF5.below hb9
            replace hF6 := hF6.below hb9
            replace hx8 := hx8.below hb9
            replace hy8 := hy8.below hb9
            replace hbW : Below w.heap.size w u64 := hbW.trans (hb9.mono hbW.size)
            replace hbR : Below w3.heap.size w3 u64 := hbR.trans (hb9.mono hbR.size)
            clear hb9
            generalize u3.heap.size = g8 at B8 n81 n82 ⊢
            obtain ⟨p00, p01, p02, _⟩ := B8.cells
            refine hK.out _ _ ?_ (fun hHeld => ?_)
            · (try dsimp only)
              all_goals trivial
            clear hK K
            try simp only [Act.put, List.setIfInBounds_toArray, List.set_cons_zero, List.set_cons_succ]
            refine hCall (i := 14) rfl (by kernel_rfl) (by rfl) (fun K hK => ?_)
            go_simp
            obtain ⟨u65, hU, A8, hbU, hK9, ho⟩ := set3_world B8 (.bool n8) (.slice a8 x8.length c8) (.slice b8 y8.length d8)
            rw [← hU]
            clear hU
            replace hbR := hbU _ _ hbR (by omega)
            replace hx8 := hK9 _ _ _ hx8
            replace hy8 := hK9 _ _ _ hy8
            clear hbU hK9 ho
            refine hK.out _ _ ?_ (fun hHeld => ?_)
            · (try dsimp only)
              all_goals trivial
            clear hK K
            try simp only [Act.put, List.setIfInBounds_toArray, List.set_cons_zero, List.set_cons_succ]
            refine wpAnyH_done (by kernel_rfl) ?_ _
            clear hHeld
            go_wp2_with fail
            go_meet
            exact ⟨g8, _, _, _, _, _, _, _, rfl, A8, ⟨_, _, _, ⟨_, _, _, _, rfl, hx8, hy8⟩, hF8⟩, n81, hbR⟩
          · go_simp
            obtain ⟨u63, hU, B8, hb9⟩ : ∃ U, U = u2.alloc (.cells #[.bool false, .slice none 0 0, .slice none 0 0] 34) ∧ Box 34 U u2.heap.size (.bool false) (.slice none 0 0) (.slice none 0 0) ∧ Below u2.heap.size u2 U := ⟨_, rfl, Box.new _ _ _ _ _, al1 _⟩
            rw [← hU]
            clear hU
            have n81 := hbR.size
            have n82 := hbW.size
            replace h := h.below hb9
            replace hm := hm.below hb9
            replace hp1 := hp1.below hb9
            replace hp2 := hp2.below hb9
            replace hF5 := hF5.below hb9
            replace hF6 := hF6.below hb9
            replace hbW : Below w.heap.size w u63 := hbW.trans (hb9.mono hbW.size)
            replace hbR : Below w3.heap.size w3 u63 := hbR.trans (hb9.mono hbR.size)
            clear hb9
            generalize u2.heap.size = g8 at B8 n81 n82 ⊢
            obtain ⟨p00, p01, p02, _⟩ := B8.cells
            refine hK.out _ _ ?_ (fun hHeld => ?_)
            · (try dsimp only)
              all_goals trivial
            clear hK K
            try simp only [Act.put, List.setIfInBounds_toArray, List.set_cons_zero, List.set_cons_succ]
            refine hCall (i := 12) rfl (by kernel_rfl) (by rfl) (fun K hK => ?_)
            go_simp
            refine (qmul_any (2 + 2 * l.length) (2 + 2 * m.length) q1 q2 _ _ _ hF5.ct hF6.ct (by omega) (by omega) (by omega) (by omega)).mono ?_
            rintro e u4 ⟨v8, rfl, hF8, hb4⟩
            replace h := h.below hb4
            replace hm := hm.below hb4
            replace hp1 := hp1.below hb4
            replace hp2 := hp2.below hb4
            replace hF5 := hF5.below hb4
            replace hF6 := hF6.below hb4
            replace B8 := B8.below hb4
            replace hbW : Below w.heap.size w u4 := hbW.trans (hb4.mono hbW.size)
            replace hbR : Below w3.heap.size w3 u4 := hbR.trans (hb4.mono hbR.size)
            clear hb4
            rw [HQ.out] at hF8
            obtain ⟨n8, x8, y8, ⟨a8, c8, b8, d8, rfl, hx8, hy8⟩, hF8⟩ := hF8
            clear p00 p01 p02
            obtain ⟨p00, p01, p02, _⟩ := B8.cells
            go_wp2_with fail
            refine hK.out _ _ ?_ (fun hHeld => ?_)
            · (try dsimp only)
              all_goals trivial
            clear hK K
            try simp only [Act.put, List.setIfInBounds_toArray, List.set_cons_zero, List.set_cons_succ]
            refine hCall (i := 14) rfl (by kernel_rfl) (by rfl) (fun K hK => ?_)
            go_simp
            obtain ⟨u65, hU, A8, hbU, hK9, ho⟩ := set3_world B8 (.bool n8) (.slice a8 x8.length c8) (.slice b8 y8.length d8)
            rw [← hU]
            clear hU
            replace hbR := hbU _ _ hbR (by omega)
            replace hx8 := hK9 _ _ _ hx8
            replace hy8 := hK9 _ _ _ hy8
            clear hbU hK9 ho
            refine hK.out _ _ ?_ (fun hHeld => ?_)
            · (try dsimp only)
              all_goals trivial
            clear hK K
            try simp only [Act.put, List.setIfInBounds_toArray, List.set_cons_zero, List.set_cons_succ]
            refine wpAnyH_done (by kernel_rfl) ?_ _
            clear hHeld
            go_wp2_with fail
            go_meet
            exact ⟨g8, _, _, _, _, _, _, _, rfl, A8, ⟨_, _, _, ⟨_, _, _, _, rfl, hx8, hy8⟩, hF8⟩, n81, hbR⟩
        · go_simp
          obtain ⟨u62, hU, B8, hb9⟩ : ∃ U, U = u1.alloc (.cells #[.bool false, .slice none 0 0, .slice none 0 0] 34) ∧ Box 34 U u1.heap.size (.bool false) (.slice none 0 0) (.slice none 0 0) ∧ Below u1.heap.size u1 U := ⟨_, rfl, Box.new _ _ _ _ _, al1 _⟩
          rw [← hU]
          clear hU
          have n81 := hbR.size
          have n82 := hbW.size
          replace h := h.below hb9
          replace hm := hm.below hb9
          replace hp1 := hp1.below hb9
          replace hp2 := hp2.below hb9
          replace hF5 := hF5.below hb9
          replace hbW : Below w.heap.size w u62 := hbW.trans (hb9.mono hbW.size)
          replace hbR : Below w3.heap.size w3 u62 := hbR.trans (hb9.mono hbR.size)
          clear hb9
          generalize u1.heap.size = g8 at B8 n81 n82 ⊢
          obtain ⟨p00, p01, p02, _⟩ := B8.cells
          refine hK.out _ _ ?_ (fun hHeld => ?_)
          · (try dsimp only)
            all_goals trivial
          clear hK K
          try simp only [Act.put, List.setIfInBounds_toArray, List.set_cons_zero, List.set_cons_succ]
          refine hCall (i := 11) rfl (by kernel_rfl) (by rfl) (fun K hK => ?_)
          go_simp
          refine (hc2 _ hm hp2).mono ?_
          rintro e u3 ⟨v6, rfl, hF6, hb3⟩
          replace h := h.below hb3
          replace hm := hm.below hb3
          replace hp1 := hp1.below hb3
          replace hp2 := hp2.below hb3
          replace hF5 := hF5.below hb3
          replace B8 := B8.below hb3
          replace hbW : Below w.heap.size w u3 := hbW.trans (hb3.mono hbW.size)
          replace hbR : Below w3.heap.size w3 u3 := hbR.trans (hb3.mono hbR.size)
          clear hb3
          clear p00 p01 p02
          obtain ⟨p00, p01, p02, _⟩ := B8.cells
          go_wp2_with fail
          refine hK.out _ _ ?_ (fun hHeld => ?_)
          · (try dsimp only)
            all_goals trivial
          clear hK K
          try simp only [Act.put, List.setIfInBounds_toArray, List.set_cons_zero, List.set_cons_succ]
          refine hCall (i := 12) rfl (by kernel_rfl) (by rfl) (fun K hK => ?_)
          go_simp
          refine (qmul_any (2 + 2 * l.length) (2 + 2 * m.length) q1 q2 _ _ _ hF5.ct hF6.ct (by omega) (by omega) (by omega) (by omega)).mono ?_
          rintro e u4 ⟨v8, rfl, hF8, hb4⟩
          replace h := h.below hb4
          replace hm := hm.below hb4
          replace hp1 := hp1.below hb4
          replace hp2 := hp2.below hb4
          replace hF5 := hF5.below hb4
          replace hF6 := hF6.below hb4
          replace B8 := B8.below hb4
          replace hbW : Below w.heap.size w u4 := hbW.trans (hb4.mono hbW.size)
          replace hbR : Below w3.heap.size w3 u4 := hbR.trans (hb4.mono hbR.size)
          clear hb4
          rw [HQ.out] at hF8
          obtain ⟨n8, x8, y8, ⟨a8, c8, b8, d8, rfl, hx8, hy8⟩, hF8⟩ := hF8
          clear p00 p01 p02
          obtain ⟨p00, p01, p02, _⟩ := B8.cells
          go_wp2_with fail
          refine hK.out _ _ ?_ (fun hHeld => ?_)
          · (try dsimp only)
            all_goals trivial
          clear hK K
          try simp only [Act.put, List.setIfInBounds_toArray, List.set_cons_zero, List.set_cons_succ]
          refine hCall (i := 14) rfl (by kernel_rfl) (by rfl) (fun K hK => ?_)
          go_simp
          obtain ⟨u65, hU, A8, hbU, hK9, ho⟩ := set3_world B8 (.bool n8) (.slice a8 x8.length c8) (.slice b8 y8.length d8)
          rw [← hU]
          clear hU
          replace hbR := hbU _ _ hbR (by omega)
          replace hx8 := hK9 _ _ _ hx8
          replace hy8 := hK9 _ _ _ hy8
          clear hbU hK9 ho
          refine hK.out _ _ ?_ (fun hHeld => ?_)
          · (try dsimp only)
            all_goals trivial
          clear hK K
          try simp only [Act.put, List.setIfInBounds_toArray, List.set_cons_zero, List.set_cons_succ]
          refine wpAnyH_done (by kernel_rfl) ?_ _
          clear hHeld
          go_wp2_with fail
          go_meet
          exact ⟨g8, _, _, _, _, _, _, _, rfl, A8, ⟨_, _, _, ⟨_, _, _, _, rfl, hx8, hy8⟩, hF8⟩, n81, hbR⟩
      · go_simp
        obtain ⟨u61, hU, B8, hb9⟩ : ∃ U, U = ud9.alloc (.cells #[.bool false, .slice none 0 0, .slice none 0 0] 34) ∧ Box 34 U ud9.heap.size (.bool false) (.slice none 0 0) (.slice none 0 0) ∧ Below ud9.heap.size ud9 U := ⟨_, rfl, Box.new _ _ _ _ _, al1 _⟩
        rw [← hU]
        clear hU
        have n81 := hbR.size
        have n82 := hbW.size
        replace h := h.below hb9
        replace hm := hm.below hb9
        replace hp1 := hp1.below hb9
        replace hp2 := hp2.below hb9
        replace hbW : Below w.heap.size w u61 := hbW.trans (hb9.mono hbW.size)
        replace hbR : Below w3.heap.size w3 u61 := hbR.trans (hb9.mono hbR.size)
        clear hb9
        generalize ud9.heap.size = g8 at B8 n81 n82 ⊢
        obtain ⟨p00, p01, p02, _⟩ := B8.cells
        refine hK.out _ _ ?_ (fun hHeld => ?_)
        · (try dsimp only)
          all_goals trivial
        clear hK K
        try simp only [Act.put, List.setIfInBounds_toArray, List.set_cons_zero, List.set_cons_succ]
        refine hCall (i := 5) rfl (by kernel_rfl) (by rfl) (fun K hK => ?_)
        go_simp
        refine (hc1 _ h hp1).mono ?_
        rintro e u2 ⟨v5, rfl, hF5, hb2⟩
        replace h := h.below hb2
        replace hm := hm.below hb2
        replace hp1 := hp1.below hb2
        replace hp2 := hp2.below hb2
        replace B8 := B8.below hb2
        replace hbW : Below w.heap.size w u2 := hbW.trans (hb2.mono hbW.size)
        replace hbR : Below w3.heap.size w3 u2 := hbR.trans (hb2.mono hbR.size)
        clear hb2
        clear p00 p01 p02
        obtain ⟨p00, p01, p02, _⟩ := B8.cells
        go_wp2_with fail
        refine hK.out _ _ ?_ (fun hHeld => ?_)
        · (try dsimp only)
          all_goals trivial
        clear hK K
        try simp only [Act.put, List.setIfInBounds_toArray, List.set_cons_zero, List.set_cons_succ]
        refine hCall (i := 11) rfl (by kernel_rfl) (by rfl) (fun K hK => ?_)
        go_simp
        refine (hc2 _ hm hp2).mono ?_
        rintro e u3 ⟨v6, rfl, hF6, hb3⟩
        replace h := h.below hb3
        replace hm := hm.below hb3
        replace hp1 := hp1.below hb3
        replace hp2 := hp2.below hb3
        replace hF5 := hF5.below hb3
        replace B8 := B8.below hb3
        replace hbW : Below w.heap.size w u3 := hbW.trans (hb3.mono hbW.size)
        replace hbR : Below w3.heap.size w3 u3 := hbR.trans (hb3.mono hbR.size)
        clear hb3
        clear p00 p01 p02
        obtain ⟨p00, p01, p02, _⟩ := B8.cells
        go_wp2_with fail
        refine hK.out _ _ ?_ (fun hHeld => ?_)
        · (try dsimp only)
          all_goals trivial
        clear hK K
        try simp only [Act.put, List.setIfInBounds_toArray, List.set_cons_zero, List.set_cons_succ]
        refine hCall (i := 12) rfl (by kernel_rfl) (by rfl) (fun K hK => ?_)
        go_simp
        refine (qmul_any (2 + 2 * l.length) (2 + 2 * m.length) q1 q2 _ _ _ hF5.ct hF6.ct (by omega) (by omega) (by omega) (by omega)).mono ?_
        rintro e u4 ⟨v8, rfl, hF8, hb4⟩
        replace h := h.below hb4
        replace hm := hm.below hb4
        replace hp1 := hp1.below hb4
        replace hp2 := hp2.below hb4
        replace hF5 := hF5.below hb4
        replace hF6 := hF6.below hb4
        replace B8 := B8.below hb4
        replace hbW : Below w.heap.size w u4 := hbW.trans (hb4.mono hbW.size)
        replace hbR : Below w3.heap.size w3 u4 := hbR.trans (hb4.mono hbR.size)
        clear hb4
        rw [HQ.out] at hF8
        obtain ⟨n8, x8, y8, ⟨a8, c8, b8, d8, rfl, hx8, hy8⟩, hF8⟩ := hF8
        clear p00 p01 p02
        obtain ⟨p00, p01, p02, _⟩ := B8.cells
        go_wp2_with fail
        refine hK.out _ _ ?_ (fun hHeld => ?_)
        · (try dsimp only)
          all_goals trivial
        clear hK K
        try simp only [Act.put, List.setIfInBounds_toArray, List.set_cons_zero, List.set_cons_succ]
        refine hCall (i := 14) rfl (by kernel_rfl) (by rfl) (fun K hK => ?_)
        go_simp
        obtain ⟨u65, hU, A8, hbU, hK9, ho⟩ := set3_world B8 (.bool n8) (.slice a8 x8.length c8) (.slice b8 y8.length d8)
        rw [← hU]
        clear hU
        replace hbR := hbU _ _ hbR (by omega)
        replace hx8 := hK9 _ _ _ hx8
        replace hy8 := hK9 _ _ _ hy8
        clear hbU hK9 ho
        refine hK.out _ _ ?_ (fun hHeld => ?_)
        · (try dsimp only)
          all_goals trivial
        clear hK K
        try simp only [Act.put, List.setIfInBounds_toArray, List.set_cons_zero, List.set_cons_succ]
        refine wpAnyH_done (by kernel_rfl) ?_ _
        clear hHeld
        go_wp2_with fail
        go_meet
        exact ⟨g8, _, _, _, _, _, _, _, rfl, A8, ⟨_, _, _, ⟨_, _, _, _, rfl, hx8, hy8⟩, hF8⟩, n81, hbR⟩
    case rest =>
      clear hbW h hm hp hp1 hp2 hc1 hc2 hS
      obtain ⟨g8, n8, a8, x8, c8, b8, y8, d8, rfl, A8, hF8, n81, hbR⟩ := hcut
      have hS := HS0.out.below hbR
      have hp := HP0.out.below hbR
      have hbW := HBW.out.trans (hbR.mono HBW.out.size)
      clear hbR hB3
      have HS1 : Hid (sgnQ (alQ lm cs - alQ lm cs) = 0) := sgn_eq0.2 rfl
      have hca := fun U h1 h2 => callT_any a3 c3 lm pa pc cs U h1 h2 (by omega)
      generalize alQ lm cs = q at *
      go_wp2_with fail
      obtain ⟨p00, p01, p02, _⟩ := A8.cells
      refine wp_region_held_drew (S := (fun u => u.cell? ⟨g8, 0, none⟩ = some (.bool n8) ∧ u.cell? ⟨g8, 1, none⟩ = some (.slice a8 x8 c8) ∧ u.cell? ⟨g8, 2, none⟩ = some (.slice b8 y8 d8))) (by kernel_rfl) ?_ (fun hHeld => ?_)
      · (try dsimp only)
        go_keep
      have hdr : Below wc.heap.size wc wc.drew := Below.drew1
      generalize wc.drew = ud12 at hdr hHeld ⊢
      replace hS := hS.below hdr
      replace hp := hp.below hdr
      replace hF8 := hF8.below hdr
      replace A8 := A8.below hdr
      replace hbW : Below w.heap.size w ud12 := hbW.trans (hdr.mono hbW.size)
      clear hdr
      clear p00 p01 p02
      obtain ⟨p00, p01, p02, _⟩ := A8.cells
      refine hT 0 hHeld ?_
      refine hT 1 hHeld ?_
      refine hT 3 hHeld ?_
      refine hCall (i := 2) rfl (by kernel_rfl) (by rfl) (fun K hK => ?_)
      go_simp
      refine (hca _ hS hp).mono ?_
      rintro e u1 ⟨v9, rfl, hF9, hb1⟩
      replace hS := hS.below hb1
      replace hp := hp.below hb1
      replace hF8 := hF8.below hb1
      replace A8 := A8.below hb1
      replace hbW : Below w.heap.size w u1 := hbW.trans (hb1.mono hbW.size)
      clear hb1
      clear p00 p01 p02
      obtain ⟨p00, p01, p02, _⟩ := A8.cells
      go_wp2_with fail
      refine hK.out _ _ ?_ (fun hHeld => ?_)
      · (try dsimp only)
        exact ⟨p00, p01, p02⟩
      clear hK K
      try simp only [Act.put, List.setIfInBounds_toArray, List.set_cons_zero, List.set_cons_succ]
      refine hCall (i := 4) rfl (by kernel_rfl) (by rfl) (fun K hK => ?_)
      go_simp
      refine (qcmp_any (2 + 2 * lm.length) ((2 + 2 * l.length) + (2 + 2 * m.length)) _ _ _ _ _ hF9.ct hF8.ct (by omega) (by omega) (by omega) (by omega)).mono ?_
      rintro e u2 ⟨rfl, hb2⟩
      replace hS := hS.below hb2
      replace hp := hp.below hb2
      replace hF8 := hF8.below hb2
      replace hF9 := hF9.below hb2
      replace A8 := A8.below hb2
      replace hbW : Below w.heap.size w u2 := hbW.trans (hb2.mono hbW.size)
      clear hb2
      rw [HS1.out]
      clear p00 p01 p02
      obtain ⟨p00, p01, p02, _⟩ := A8.cells
      go_wp2_with fail
      refine hK.out _ _ ?_ (fun hHeld => ?_)
      · (try dsimp only)
        exact ⟨p00, p01, p02⟩
      clear hK K
      try simp only [Act.put, List.setIfInBounds_toArray, List.set_cons_zero, List.set_cons_succ]
      refine hT 5 hHeld ?_
      refine wpAnyH_done (by kernel_rfl) ?_ _
      clear hHeld hca hp hF8 hF9
      have hrg := fun U hU => cregion_any a3 c3 lm ((l.length : Int) + (m.length : Int)) U hU
      cases hr : rgB lm ((l.length : Int) + (m.length : Int)) with
      | false =>
        simp only [hr] at hrg
        clear hr
        go_wp2_with fail
        refine (hrg _ hS).mono ?_
        rintro e v1 ⟨rfl, hb8⟩
        replace hbW := hbW.trans (hb8.mono hbW.size)
        clear hb8 hrg
        go_wp2
        go_ret
        exact ⟨rfl, hbW⟩
      | true =>
        simp only [hr] at hrg
        have hal : lm.all tfB = true := by rw [rgB, Bool.and_eq_true] at hr; exact hr.1
        clear hr
        go_wp2_with fail
        refine (hrg _ hS).mono ?_
        rintro e v1 ⟨rfl, hb8⟩
        replace hS := hS.below hb8
        replace hbW := hbW.trans (hb8.mono hbW.size)
        clear hb8 hrg
        go_wp2_with fail
        refine (cpeak_any a3 c3 lm _ hS (by omega)).mono ?_
        rintro e v2 ⟨pa7, pc7, rfl, hP7, hb8⟩
        replace hS := hS.below hb8
        replace hbW := hbW.trans (hb8.mono hbW.size)
        clear hb8
        have hcp := callT_any a3 c3 lm pa7 pc7 _ _ hS hP7 (by omega)
        rw [alQ_peak hal] at hcp
        go_wp2_with fail
        refine hcp.mono ?_
        rintro e v3 ⟨v5, rfl, hF5, hb8⟩
        replace hS := hS.below hb8
        replace hbW := hbW.trans (hb8.mono hbW.size)
        clear hb8 hcp hP7
        obtain ⟨n5, x5, y5, ⟨a5, c5, b5, d5, rfl, hx5, hy5⟩, hF5⟩ := hF5
        obtain ⟨V, hV, X5, hb4⟩ : ∃ V, V = v3.alloc (.cells #[.bool n5, .slice a5 x5.length c5, .slice b5 y5.length d5] 34) ∧ Box 34 V v3.heap.size (.bool n5) (.slice a5 x5.length c5) (.slice b5 y5.length d5) ∧ Below v3.heap.size v3 V := ⟨_, rfl, Box.new _ _ _ _ _, al1 _⟩
        have hF5 : Fr V (.agg #[.bool n5, .slice a5 x5.length c5, .slice b5 y5.length d5]) (2 + 2 * lm.length) 1 := Fr.below ⟨_, _, _, ⟨_, _, _, _, rfl, hx5, hy5⟩, hF5⟩ hb4
        clear hx5 hy5
        go_upto_region 12 with fail
        rw [← hV]
        clear hV
        replace hS := hS.below hb4
        replace hbW := hbW.trans (hb4.mono hbW.size)
        generalize v3.heap.size = g5 at X5 ⊢
        clear hb4
        have HS2 : Hid (sgnQ ((1 : Rat) - ((1 : Int) : Rat)) = 0) := sgn_eq0.2 rfl
        have hcn := fun U h1 => callT_any a3 c3 lm none 0 [] U h1 (Ri.nil U none 0 (Nat.zero_le _)) (by omega)
        simp only [List.length_nil] at hcn
        have hev := fun U h1 => ceverywhere_any a3 c3 lm U h1
        have hse := sg_start hal
        obtain ⟨r, hr⟩ : ∃ r, alQ lm [] = r := ⟨_, rfl⟩
        rw [hr] at hse
        simp only [hr] at hcn
        obtain ⟨s4, hs4⟩ : ∃ s, sgnQ r = s := ⟨_, rfl⟩
        rw [hs4] at hse
        have HS4 : Hid (sgnQ r = s4) := hs4
        obtain ⟨ev, hev0⟩ : ∃ x, evB lm = x := ⟨_, rfl⟩
        rw [hev0] at hse
        simp only [hev0] at hev
        have hee : (ev == ev) = true := by simp
        clear hs4 hr hev0 hal
        obtain ⟨p00, p01, p02, _⟩ := X5.cells
        refine wp_region_held_drew (S := (fun u => u.cell? ⟨g5, 0, none⟩ = some (.bool n5) ∧ u.cell? ⟨g5, 1, none⟩ = some (.slice a5 x5.length c5) ∧ u.cell? ⟨g5, 2, none⟩ = some (.slice b5 y5.length d5))) (by kernel_rfl) ?_ (fun hHeld => ?_)
        · (try dsimp only)
          go_keep
        have hdr : Below V.heap.size V V.drew := Below.drew1
        generalize V.drew = ud13 at hdr hHeld ⊢
        replace hS := hS.below hdr
        replace hF5 := hF5.below hdr
        replace X5 := X5.below hdr
        replace hbW : Below w.heap.size w ud13 := hbW.trans (hdr.mono hbW.size)
        clear hdr
        clear p00 p01 p02
        obtain ⟨p00, p01, p02, _⟩ := X5.cells
        refine hT 0 hHeld ?_
        refine hCall (i := 1) rfl (by kernel_rfl) (by rfl) (fun K hK => ?_)
        go_simp
        refine (whole_any 1 _ (by decide) (by decide)).mono ?_
        rintro e u3 ⟨v6, rfl, hF6, hb3⟩
        replace hS := hS.below hb3
        replace hF5 := hF5.below hb3
        replace X5 := X5.below hb3
        replace hbW : Below w.heap.size w u3 := hbW.trans (hb3.mono hbW.size)
        clear hb3
        clear p00 p01 p02
        obtain ⟨p00, p01, p02, _⟩ := X5.cells
        go_wp2_with fail
        refine hK.out _ _ ?_ (fun hHeld => ?_)
        · (try dsimp only)
          exact ⟨p00, p01, p02⟩
        clear hK K
        try simp only [Act.put, List.setIfInBounds_toArray, List.set_cons_zero, List.set_cons_succ]
        refine hCall (i := 2) rfl (by kernel_rfl) (by rfl) (fun K hK => ?_)
        go_simp
        refine (qcmp_any (2 + 2 * lm.length) 2 _ _ _ _ _ hF5.ct hF6.ct (by omega) (by decide) (by omega) (by decide)).mono ?_
        rintro e u4 ⟨rfl, hb4⟩
        replace hS := hS.below hb4
        replace hF5 := hF5.below hb4
        replace hF6 := hF6.below hb4
        replace X5 := X5.below hb4
        replace hbW : Below w.heap.size w u4 := hbW.trans (hb4.mono hbW.size)
        clear hb4
        rw [HS2.out]
        clear p00 p01 p02
        obtain ⟨p00, p01, p02, _⟩ := X5.cells
        go_wp2_with fail
        refine hK.out _ _ ?_ (fun hHeld => ?_)
        · (try dsimp only)
          exact ⟨p00, p01, p02⟩
        clear hK K
        try simp only [Act.put, List.setIfInBounds_toArray, List.set_cons_zero, List.set_cons_succ]
        refine hT 3 hHeld ?_
        refine hT 4 hHeld ?_
        refine hT 5 hHeld ?_
        refine hT 9 hHeld ?_
        refine hCall (i := 6) rfl (by kernel_rfl) (by rfl) (fun K hK => ?_)
        go_simp
        refine (hcn _ hS).mono ?_
        rintro e u5 ⟨v7, rfl, hF7, hb5⟩
        replace hS := hS.below hb5
        replace hF5 := hF5.below hb5
        replace hF6 := hF6.below hb5
        replace X5 := X5.below hb5
        replace hbW : Below w.heap.size w u5 := hbW.trans (hb5.mono hbW.size)
        clear hb5
        clear p00 p01 p02
        obtain ⟨p00, p01, p02, _⟩ := X5.cells
        go_wp2_with fail
        refine hK.out _ _ ?_ (fun hHeld => ?_)
        · (try dsimp only)
          exact ⟨p00, p01, p02⟩
        clear hK K
        try simp only [Act.put, List.setIfInBounds_toArray, List.set_cons_zero, List.set_cons_succ]
        refine hCall (i := 7) rfl (by kernel_rfl) (by rfl) (fun K hK => ?_)
        go_simp
        refine (qsign_any (2 + 2 * lm.length) r _ _ hF7.ct (by omega) (by omega)).mono ?_
        rintro e u6 ⟨rfl, hb6⟩
        replace hS := hS.below hb6
        replace hF5 := hF5.below hb6
        replace hF6 := hF6.below hb6
        replace hF7 := hF7.below hb6
        replace X5 := X5.below hb6
        replace hbW : Below w.heap.size w u6 := hbW.trans (hb6.mono hbW.size)
        clear hb6
        rw [HS4.out]
        clear p00 p01 p02
        obtain ⟨p00, p01, p02, _⟩ := X5.cells
        go_wp2_with fail
        refine hK.out _ _ ?_ (fun hHeld => ?_)
        · (try dsimp only)
          exact ⟨p00, p01, p02⟩
        clear hK K
        try simp only [Act.put, List.setIfInBounds_toArray, List.set_cons_zero, List.set_cons_succ]
        refine hT 8 hHeld ?_
        refine hCall (i := 10) rfl (by kernel_rfl) (by rfl) (fun K hK => ?_)
        go_simp
        refine (hev _ hS).mono ?_
        rintro e u7 ⟨rfl, hb7⟩
        replace hS := hS.below hb7
        replace hF5 := hF5.below hb7
        replace hF6 := hF6.below hb7
        replace hF7 := hF7.below hb7
        replace X5 := X5.below hb7
        replace hbW : Below w.heap.size w u7 := hbW.trans (hb7.mono hbW.size)
        clear hb7
        clear p00 p01 p02
        obtain ⟨p00, p01, p02, _⟩ := X5.cells
        go_wp2_with fail
        refine hK.out _ _ ?_ (fun hHeld => ?_)
        · (try dsimp only)
          exact ⟨p00, p01, p02⟩
        clear hK K
        try simp only [Act.put, List.setIfInBounds_toArray, List.set_cons_zero, List.set_cons_succ]
        refine hT 11 hHeld ?_
        refine hT 12 hHeld ?_
        refine hT 13 hHeld ?_
        refine wpAnyH_done (by kernel_rfl) ?_ _
        clear hHeld
        go_wp2
        go_ret
        exact ⟨rt_bool (by first | rfl | simp), hbW⟩
  · clear h hm hp
    by_cases h1 : l.length ≤ 6
    · have g1 : decide ((6 : Int) < (l.length : Int)) = false := decide_eq_false (by omega)
      by_cases h2 : m.length ≤ 6
      · have g2 : decide ((6 : Int) < (m.length : Int)) = false := decide_eq_false (by omega)
        have g3 : ((cs.length : Int) != (l.length : Int) + (m.length : Int)) = true := bne_iff_ne.2 (by omega)
        clear hf
        go_wp2_with fail
        refine (awake9_any _ (HTAB.out.below hbW)).mono ?_
        rintro e u2 ⟨rfl, hb2⟩
        replace hbW := hbW.trans (hb2.mono hbW.size)
        clear hb2
        go_wp2
        go_ret
        exact ⟨rfl, hbW⟩
      · have g2 : decide ((6 : Int) < (m.length : Int)) = true := decide_eq_true (by omega)
        clear hf
        go_wp2_with fail
        refine (awake9_any _ (HTAB.out.below hbW)).mono ?_
        rintro e u2 ⟨rfl, hb2⟩
        replace hbW := hbW.trans (hb2.mono hbW.size)
        clear hb2
        go_wp2
        go_ret
        exact ⟨rfl, hbW⟩
    · have g1 : decide ((6 : Int) < (l.length : Int)) = true := decide_eq_true (by omega)
      clear hf
      go_wp2_with fail
      refine (awake9_any _ (HTAB.out.below hbW)).mono ?_
      rintro e u2 ⟨rfl, hb2⟩
      replace hbW := hbW.trans (hb2.mono hbW.size)
      clear hb2
      go_wp2
      go_ret
      exact ⟨rfl, hbW⟩

end Go.Proofs.YtdhkpgndpgacbaaDoor
