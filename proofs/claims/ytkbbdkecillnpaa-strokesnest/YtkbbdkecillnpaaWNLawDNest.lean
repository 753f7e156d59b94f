/-
  foundrylaw18.StrokesNest: the walk.
-/
import Derived.Test.YtkbbdkecillnpaaZN26
namespace Go.Proofs.Ytkbbdkecillnpaa
open Go.RowKit Go.Maps
set_option linter.unusedSimpArgs false
set_option linter.unusedVariables false

/-- A store of a whole element of one cell. -/
theorem Gw.put1 {α : Type} {E : El α} {t : TypeId} {base : Nat} {S : Nat → Prop} {w : World} {v : Value} {l : List α} (h : Gw E t base S w v l) (hsz : E.sz = 1) {i : Nat} (hi : i < l.length) :
    ∃ g cap, v = .slice (some ⟨g, 0, none⟩) l.length cap ∧ base ≤ g ∧ g < w.heap.size ∧ (∀ n, w.frozen? ⟨g, n, none⟩ = false) ∧ (∃ z, w.cell? ⟨g, i, none⟩ = some z) ∧
      ∀ x y, E.rep (fun k => S k ∧ v.ownBlock ≠ some k) w [x] y → Gw E t base S (w.setCell ⟨g, i, none⟩ x) v (l.set i y) := by
  have hne : l ≠ [] := fun e => by rw [e] at hi; cases hi
  obtain ⟨g0, cap0, ev, hbg, hlt, hlc, hfz, hel, -⟩ := h.own hne
  have hty := h.ty (g := g0) (by rw [ev]; rfl)
  obtain ⟨vss, hl, h3, h4⟩ := h
  have h5 : ∀ i, i < vss.length → (vss.getD i []).length = 1 := fun i hi => by rw [E.len (h4 i (by omega)), hsz]
  rcases h3.2 with ⟨e, e0⟩ | ⟨g, cap, cur, ev9, hb, hg, hc1, hc2, hc3, ht⟩
  · exact absurd (List.length_eq_zero_iff.1 e0) hne
  have e9 : g = g0 := by
    rw [ev] at ev9
    injection ev9 with e
    cases e
    rfl
  subst e9
  obtain ⟨vs, hvs, hc⟩ := hel i hi
  have hvl : vs.length = 1 := by rw [E.len hvs, hsz]
  have hc0 := hc 0 (by omega)
  rw [hsz, Nat.mul_one, Nat.add_zero, List.getElem?_eq_getElem (by omega)] at hc0
  refine ⟨g, cap, ev9, hb, hlt, hfz, ⟨_, hc0⟩, fun x y hrep => ?_⟩
  have hset := heap_setCell_same w g i cur t x hg
  have hoth : ∀ k, k ≠ g → (w.setCell ⟨g, i, none⟩ x).heap[k]? = w.heap[k]? := fun k hk => Below.heap_setCell _ _ _ _ (fun e => hk e)
  have hs : (w.setCell ⟨g, i, none⟩ x).heap.size = w.heap.size := by simp [World.setCell]
  have hst : ∀ vs z, E.rep (fun k => S k ∧ v.ownBlock ≠ some k) w vs z → E.rep (fun k => S k ∧ v.ownBlock ≠ some k) (w.setCell ⟨g, i, none⟩ x) vs z := fun vs z hz => E.stay hz (by rw [hs]; exact Nat.le_refl _) (fun k hk _ => ⟨hk, hoth k (fun e => hk.2 (by rw [e, ev9]; rfl))⟩)
  have hfl := flat_set (i := i) (j := 0) x h5 (by omega) Nat.one_pos
  rw [Nat.mul_one, Nat.add_zero] at hfl
  have hse : (vss.getD i []).set 0 x = [x] := by
    have := h5 i (by omega)
    generalize vss.getD i [] = q at this
    rcases q with _ | ⟨a, _ | ⟨b, q⟩⟩
    · cases this
    · rfl
    · simp at this
  refine ⟨vss.set i ((vss.getD i []).set 0 x), by rw [List.length_set, List.length_set, hl], ⟨?_, .inr ⟨g, cap, _, by rw [List.length_set]; exact ev9, hb, hset, by simpa using hc1, hc2, by simpa using hc3, ?_⟩⟩, fun k hk => ?_⟩
  · rw [hfl, List.length_set, List.length_set]; exact h3.1
  · rw [hfl, List.length_set, ← ht, hsz]
    simp [List.take_set]
  · rw [List.length_set] at hk
    by_cases hki : k = i
    · subst hki
      have e1 : (vss.set k ((vss.getD k []).set 0 x)).getD k [] = [x] := by rw [hse]; simp [List.getD, show k < vss.length by omega]
      have e2 : (l.set k y).getD k E.dfl = y := by simp [List.getD, hk]
      rw [e1, e2]
      exact hst _ _ hrep
    · have e1 : (vss.set i ((vss.getD i []).set 0 x)).getD k [] = vss.getD k [] := by simp [List.getD, List.getElem?_set_ne (fun e => hki e.symm)]
      have e2 : (l.set i y).getD k E.dfl = l.getD k E.dfl := by simp [List.getD, List.getElem?_set_ne (fun e => hki e.symm)]
      rw [e1, e2]
      exact hst _ _ (h4 k hk)
theorem one_slot {S : Nat → Prop} {w : World} {g : Nat} {x : Int} (h : Bk 50 w g [.int .i64 x, .int .i64 (-1)]) (hx : I64 x) (hS : S g) : SlE.row.rep S w [.slice (some ⟨g, 0, none⟩) 1 1] [(x, -1)] :=
  ⟨_, _, rfl, (fun b o e _ => by cases e; exact hS), Gr.one (E := SlE) (vs := [.int .i64 x, .int .i64 (-1)]) (SlE_rep.2 ⟨rfl, hx, ⟨by show (-9223372036854775808 : Int) ≤ -1; decide, by show (-1 : Int) ≤ 9223372036854775807; decide⟩⟩) h.lt (fun j hj => h.cell j hj), by show 1 ≤ _; omega⟩
theorem info_sts : (Try.prog.info? 54).map (fun i => (i.zero, i.size, i.bytes)) = some (some (.slice none 0 0), SpE.row.sz, 24) := by kernel_rfl
/-- What At answers. -/
theorem ne_at {k : Nat} (hk : k < 16) (lp : Bool) :
    (((lp || decide (10 < k)) = true → atDE (fiS sNo) (RS sNo []) (neA k lp) 0 = 6 ∧ atDL (fiS sNo) (RS sNo []) (neA k lp) 0 = [])) ∧
    (((lp || decide (10 < k)) = false → atDE (fiS sNo) (RS sNo []) (neA k lp) 0 = 0 ∧ ∃ y on, atDL (fiS sNo) (RS sNo []) (neA k lp) 0 = [[⟨3, y, on⟩]])) := by
  have hf : foD (fiS sNo) (neA k lp) = true := neA_fo (fun b h1 h2 => fi_no (by omega) (by omega)) hk lp
  have hd : isD (neA k lp).length 0 = true := by unfold isD; rw [neA_len, decide_eq_true (by omega), decide_eq_true (by omega)]; rfl
  obtain ⟨-, h1, h2⟩ := atD_yes (R := RS sNo []) hf hd
  rw [at_no (fun d hd x hx a ha => by have := neA_sl hk d hd x hx a ha; omega)] at h1 h2
  constructor
  · intro h
    have e := neA_at k hk lp h
    rw [h1, h2, e, if_neg (by decide)]
    exact ⟨rfl, rfl⟩
  · intro h
    obtain ⟨e1, e2, e3, e4⟩ := neA_ok k hk lp h
    rw [h1, h2, e1, if_pos rfl]
    refine ⟨rfl, ?_⟩
    generalize (atDp R0 (neA k lp) 0).out = o at *
    rcases o with _ | ⟨c, _ | ⟨c2, o⟩⟩
    · cases e2
    · have e3' : c.length = 1 := e3
      rcases c with _ | ⟨p, _ | ⟨p2, c⟩⟩
      · cases e3'
      · have e4' : p.x = 3 := e4
        refine ⟨p.y, p.on, ?_⟩
        obtain ⟨px, py, pon⟩ := p
        dsimp only at e4'
        rw [e4']
      · simp at e3'
    · simp at e2
theorem neA_false (k : Nat) : neA k false = neL k ++ [[⟨1, [(3, -1), (4, -1)]⟩]] := rfl
theorem neA_true (k : Nat) : (neL k ++ [[(⟨1, [(3, -1), (4, -1)]⟩ : Sp)]]).set k (neS 0) = neA k true := by
  rw [List.set_append_right _ _ (by rw [neL_len]; omega), neL_len, Nat.sub_self]
  rfl

set_option maxHeartbeats 8000000 in
set_option maxRecDepth 100000 in
theorem strokesNest_any (m : Int) (lp : Bool) (w : World) (hm : 0 ≤ m ∧ m < 256) :
    Calls Try.prog 5 #[.int .u8 m, .bool lp] w fun e w' => e = .returned (.bool true) ∧ Below w.heap.size w w' := by
  obtain ⟨hm1, hm2⟩ := hm
  obtain ⟨k, hk⟩ : ∃ k : Nat, m.tmod 16 = (k : Int) := ⟨(m.tmod 16).toNat, by rw [Int.tmod_eq_emod_of_nonneg hm1]; omega⟩
  have hk16 : k < 16 := by rw [Int.tmod_eq_emod_of_nonneg hm1] at hk; omega
  go_enter Try.func5, Try.ntmps5
  go_wp2_with fail
  refine (awake18_any _).mono ?_
  rintro e w1 ⟨rfl, hb1⟩
  have HB1 : Hid (Below w.heap.size w w1) := hb1
  obtain ⟨base, hbase⟩ : ∃ b, w1.heap.size = b := ⟨_, rfl⟩
  have HBA : Hid (w1.heap.size = base) := hbase
  have hw8 : IntKind.i64.wrap (k : Int) = (k : Int) := wrapi64 (by omega) (by omega)
  clear hb1 hbase
  go_upto_region 5 with fail
  clear hw8 hk
  go_wp2
  go_loopw [6, 7] (fun v i wr => ∃ (j : Nat), j ≤ k ∧ i = .int .i64 j ∧ Gw SpE.row 54 base (fun q => base ≤ q) wr v (neL j) ∧ Below w1.heap.size w1 wr) (fun _ i _ => k - (intOf i).toNat)
  case atStart => exact ⟨0, Nat.zero_le _, rfl, Gw.nil _ _ _ _ _, Below.refl _ _⟩
  case round =>
    obtain ⟨j, hj, rfl, hGw, hB⟩ := hrel
    obtain ⟨av, cv, rfl, hgr0, -⟩ := hGw.slice
    rw [neL_len] at hGw ⊢
    have hBs : base ≤ wr.heap.size := by have h1 := hB.size; have h2 := HBA.out; omega
    have HLO : Hid (∀ q, (Value.slice av j cv).ownBlock = some q → base ≤ q ∧ q < wr.heap.size) := fun q hq => hGw.lo hq
    by_cases hjk : j < k
    · have g1 : (j : Int) < (k : Int) := by omega
      have HNL : Hid (neL (j + 1) = neL j ++ [neS ((j : Int) + 1)]) := neL_succ j
      have HLN : Hid ((neL j).length = j) := neL_len j
      obtain ⟨V, hV, X0, X1, X2, hbV⟩ : ∃ V, V = ((wr.alloc (.cells #[.int .i64 ((j : Int) + 1), .int .i64 (-1)] 50)).alloc (.cells #[.int .i64 4, .slice (some ⟨wr.heap.size, 0, none⟩) 1 1] 53)).alloc (.cells #[.slice (some ⟨wr.heap.size + 1, 0, none⟩) 1 1] 54) ∧ Bk 50 V wr.heap.size [.int .i64 ((j : Int) + 1), .int .i64 (-1)] ∧ Bk 53 V (wr.heap.size + 1) [.int .i64 4, .slice (some ⟨wr.heap.size, 0, none⟩) 1 1] ∧ Bk 54 V (wr.heap.size + 2) [.slice (some ⟨wr.heap.size + 1, 0, none⟩) 1 1] ∧ Below wr.heap.size wr V :=
        ⟨_, rfl, (Bk.new _ _ _).below (bl2 _ _), (Bk.new1 _ _ _ _).below (bl1 _), by
          have h := Bk.new1 54 (wr.alloc (.cells #[.int .i64 ((j : Int) + 1), .int .i64 (-1)] 50)) (.cells #[.int .i64 4, .slice (some ⟨wr.heap.size, 0, none⟩) 1 1] 53) [.slice (some ⟨wr.heap.size + 1, 0, none⟩) 1 1]
          simpa using h, (bl2 _ _).alloc (by simp; omega) _⟩
      have hS : ∀ q, wr.heap.size ≤ q → base ≤ q ∧ (Value.slice av j cv).ownBlock ≠ some q := fun q hq => ⟨by omega, fun e => by have := (HLO.out q e).2; omega⟩
      have hrow := one_row (S := fun q => base ≤ q ∧ (Value.slice av j cv).ownBlock ≠ some q) (ar := [((j : Int) + 1, -1)]) X1 ⟨by decide, by decide⟩ (one_slot X0 ⟨by omega, by omega⟩ (hS _ (Nat.le_refl _)))
      have hrows : Gr SpE.row (fun q => base ≤ q ∧ (Value.slice av j cv).ownBlock ≠ some q) V (some ⟨wr.heap.size + 2, 0, none⟩) 1 [neS ((j : Int) + 1)] := one_rows X2 hrow (hS _ (by omega)) (by show 1 ≤ 1000; omega)
      have hGV := hGw.below hbV
      have hBV := hB.trans (hbV.mono hB.size)
      have hvs := hbV.size
      have hlb : base ≤ V.heap.size := by omega
      have hll : (neL j).length + 1 ≤ 1000000 := by rw [neL_len]; omega
      clear hrow X0 X1 X2 hGw hB hbV hS
      go_wp2_with (at_builtin; rw [← hV]; refine wpList_append_el (E := SpE.row) 22 54 Try.underlying22 info_sts rfl Nat.one_pos (by decide) rfl _ _ rfl base (fun q => base ≤ q) _ (neL j) rfl hGV (some ⟨wr.heap.size + 2, 0, none⟩) 1 1 [neS ((j : Int) + 1)] rfl rfl hrows hll hlb ?_)
      intro v9 w9 hT9 hgrow _
      rw [← hV] at hgrow
      rw [← HNL.out] at hT9
      have hB9 : Below w1.heap.size w1 w9 := hBV.grown hgrow hBV.size (fun q hq => by have h1 := (HLO.out q hq).1; have h2 := HBA.out; omega)
      clear hV hGV hrows hgrow hBV hlb hll hvs
      go_wp2
      go_roundw
      case rel => exact ⟨j + 1, by omega, by go_num, hT9, hB9⟩
      case measure => simp [intOf]; omega
    · have hjj : j = k := by omega
      subst hjj
      have g1 : ¬ (j : Int) < (j : Int) := by omega
      -- end
      have HLN : Hid ((neL j).length = j) := neL_len j
      clear hgr0
      go_wp2_with fail
      refine (go1_any 3 4 wr ⟨by decide, by decide⟩ ⟨by decide, by decide⟩).mono ?_
      rintro e u ⟨g, rfl, hgw, hg, hb⟩
      have hus := hb.size
      obtain ⟨V, hV, X1, X2, hbV⟩ : ∃ V, V = (u.alloc (.cells #[.int .i64 1, .slice (some ⟨g, 0, none⟩) 2 2] 53)).alloc (.cells #[.slice (some ⟨u.heap.size, 0, none⟩) 1 1] 54) ∧ Bk 53 V u.heap.size [.int .i64 1, .slice (some ⟨g, 0, none⟩) 2 2] ∧ Bk 54 V (u.heap.size + 1) [.slice (some ⟨u.heap.size, 0, none⟩) 1 1] ∧ Below u.heap.size u V := ⟨_, rfl, (Bk.new _ _ _).below (bl1 _), Bk.new1 _ _ _ _, bl2 _ _⟩
      have hS : ∀ q, wr.heap.size ≤ q → base ≤ q ∧ (Value.slice av j cv).ownBlock ≠ some q := fun q hq => ⟨by omega, fun e => by have := (HLO.out q e).2; omega⟩
      have hrow := one_row (S := fun q => base ≤ q ∧ (Value.slice av j cv).ownBlock ≠ some q) (ar := [(3, -1), (4, -1)]) X1 ⟨by decide, by decide⟩ (two_slots (hg.below hbV) ⟨by decide, by decide⟩ ⟨by decide, by decide⟩ (hS g hgw))
      have hrows : Gr SpE.row (fun q => base ≤ q ∧ (Value.slice av j cv).ownBlock ≠ some q) V (some ⟨u.heap.size + 1, 0, none⟩) 1 [[(⟨1, [(3, -1), (4, -1)]⟩ : Sp)]] := one_rows X2 hrow (hS _ (by omega)) (by show 1 ≤ 1000; omega)
      have hGV := (hGw.below hb).below hbV
      have hBV := (hB.trans (hb.mono hB.size)).trans (hbV.mono (Nat.le_trans hB.size hus))
      have hvs := hbV.size
      have hlb : base ≤ V.heap.size := by omega
      have hll : (neL j).length + 1 ≤ 1000000 := by rw [neL_len]; omega
      clear hrow X1 X2 hGw hB hb hbV hS hg
      go_wp2_with (at_builtin; rw [← hV]; refine wpList_append_el (E := SpE.row) 22 54 Try.underlying22 info_sts rfl Nat.one_pos (by decide) rfl _ _ rfl base (fun q => base ≤ q) _ (neL j) rfl hGV (some ⟨u.heap.size + 1, 0, none⟩) 1 1 [[(⟨1, [(3, -1), (4, -1)]⟩ : Sp)]] rfl rfl hrows hll hlb ?_)
      intro v9 w9 hT hgrow _
      rw [← hV] at hgrow
      have hB9 : Below w1.heap.size w1 w9 := hBV.grown hgrow hBV.size (fun q hq => by have h1 := (HLO.out q hq).1; have h2 := HBA.out; omega)
      have hbs9 : base ≤ w9.heap.size := by have := hgrow.size; omega
      clear hV hGV hrows hgrow hBV hlb hll hvs HLO hBs hj hjk g1 hus hgw
      cases lp with
      | false =>
        rw [← neA_false] at hT
        obtain ⟨a9, c9, e9, hg9, -⟩ := hT.slice
        subst e9
        have hat := atD_any _ a9 c9 (neA j false) none 0 none 0 sNo 0 none 0 [] w9 hg9 (sNo_tz _) (sNo_ri _) (Ri.nil _ _ _ (Nat.zero_le _)) ⟨by decide, by decide⟩ (by decide) (fun l hl => by cases hl)
        have HK : Hid (_) := ne_at hk16 false
        rw [neA_len] at hat
        try rw [neA_len]
        clear hT hg9
        by_cases hd : 10 < j
        · have g2 : decide ((10 : Int) < (j : Int)) = true := decide_eq_true (by omega)
          have hq : (false || decide (10 < j)) = true := by rw [decide_eq_true hd]; rfl
          rw [(HK.out.1 hq).1, (HK.out.1 hq).2] at hat
          replace hat : Calls Try.prog 13 #[.slice a9 (j + 1) c9, .agg #[.slice none 0 0, .slice none 0 0], .int .i64 0, .slice none 0 0] w9 fun e w' => ∃ a' c', e = .returned (.tuple #[.slice a' 0 c', .int .i64 6]) ∧ Gr PnE.row (fun k => w9.heap.size ≤ k) w' a' c' [] ∧ Below w9.heap.size w9 w' := hat
          clear HK
          go_wp2_with fail
          refine hat.mono ?_
          rintro e u2 ⟨a', c', rfl, -, hb2⟩
          have hfin := HB1.out.trans ((hB9.trans (hb2.mono hB9.size)).mono HB1.out.size)
          clear hat hb2
          go_wp2
          go_ret
          exact ⟨rfl, hfin⟩
        · have g2 : decide ((10 : Int) < (j : Int)) = false := decide_eq_false (by omega)
          have hq : (false || decide (10 < j)) = false := by rw [decide_eq_false hd]; rfl
          obtain ⟨k1, y, on, k2⟩ := HK.out.2 hq
          rw [k1, k2] at hat
          replace hat : Calls Try.prog 13 #[.slice a9 (j + 1) c9, .agg #[.slice none 0 0, .slice none 0 0], .int .i64 0, .slice none 0 0] w9 fun e w' => ∃ a' c', e = .returned (.tuple #[.slice a' 1 c', .int .i64 0]) ∧ Gr PnE.row (fun k => w9.heap.size ≤ k) w' a' c' [[⟨3, y, on⟩]] ∧ Below w9.heap.size w9 w' := hat
          clear HK k1 k2
          go_wp2_with fail
          refine hat.mono ?_
          rintro e u2 ⟨a', c', rfl, hgr, hb2⟩
          have hfin := HB1.out.trans ((hB9.trans (hb2.mono hB9.size)).mono HB1.out.size)
          obtain ⟨b3, o3, a4, c4, e3, -, d0, hgp, -⟩ := hgr.rw (Below.refl _ _) 0 (by show 0 < 1; omega)
          have hgp2 : Gr PnE _ u2 a4 c4 [⟨3, y, on⟩] := hgp
          replace d0 : u2.cell? ⟨b3, o3 + 0, none⟩ = some (.slice a4 1 c4) := d0
          obtain ⟨b5, o5, e5, -, -, x0, -, -⟩ := hgp2.pn (Below.refl _ _) 0 (by show 0 < 1; omega)
          replace x0 : u2.cell? ⟨b5, o5 + 0 * 3, none⟩ = some (.int .i64 3) := x0
          rw [Nat.zero_mul, Nat.add_zero] at x0
          rw [Nat.add_zero] at d0
          subst e3 e5
          clear hat hgr hgp hgp2 hb2
          go_wp2
          go_ret
          exact ⟨rfl, hfin⟩
      | true =>
        have hjl : j < (neL j ++ [[(⟨1, [(3, -1), (4, -1)]⟩ : Sp)]]).length := by rw [List.length_append, neL_len, List.length_singleton]; omega
        have HL2 : Hid ((neL j ++ [[(⟨1, [(3, -1), (4, -1)]⟩ : Sp)]]).length = j + 1) := by show _ = _; rw [List.length_append, neL_len, List.length_singleton]
        obtain ⟨V, hV, X0, X1, hbV⟩ : ∃ V, V = (w9.alloc (.cells #[.int .i64 0, .int .i64 (-1)] 50)).alloc (.cells #[.int .i64 4, .slice (some ⟨w9.heap.size, 0, none⟩) 1 1] 53) ∧ Bk 50 V w9.heap.size [.int .i64 0, .int .i64 (-1)] ∧ Bk 53 V (w9.heap.size + 1) [.int .i64 4, .slice (some ⟨w9.heap.size, 0, none⟩) 1 1] ∧ Below w9.heap.size w9 V := ⟨_, rfl, (Bk.new _ _ _).below (bl1 _), Bk.new1 _ _ _ _, bl2 _ _⟩
        have hTV := hT.below hbV
        have hlo := fun q hq => (hT.lo (g := q) hq)
        have hvs := hbV.size
        have hBV := hB9.trans (hbV.mono hB9.size)
        obtain ⟨g, cap, e9, hbg, hgl, hfz, -, hput⟩ := hTV.put1 rfl hjl
        subst e9
        obtain ⟨a8, c8, e8, hg8, -⟩ := hTV.slice
        obtain ⟨b8, o8, a7, c7, e7, -, hz0, -⟩ := hg8.rw (Below.refl _ _) j hjl
        injection e8 with e8 e8b e8c
        rw [← e8] at e7
        cases e7
        rw [Nat.zero_add] at hz0
        generalize ((neL j ++ [[(⟨1, [(3, -1), (4, -1)]⟩ : Sp)]]).getD j []).length = n7 at hz0
        have hg9l : g < w9.heap.size := (hlo g rfl).2
        have hz9 : w9.cell? ⟨g, j, none⟩ = some (.slice a7 n7 c7) := (hbV.cell (p := ⟨g, j, none⟩) hg9l).symm.trans hz0
        have hf9 : w9.frozen? ⟨g, j, none⟩ = false := by
          obtain ⟨cur, hcur⟩ := hT.ty (g := g) rfl
          exact frozen_of_row w9 g j _ _ hcur
        clear hg8 e8 e8b e8c
        have hS : ∀ q, w9.heap.size ≤ q → base ≤ q ∧ (Value.slice (some ⟨g, 0, none⟩) (neL j ++ [[(⟨1, [(3, -1), (4, -1)]⟩ : Sp)]]).length cap).ownBlock ≠ some q := fun q hq => ⟨by omega, fun e => by have := (hlo q e).2; omega⟩
        have hrow := one_row (S := fun q => base ≤ q ∧ (Value.slice (some ⟨g, 0, none⟩) (neL j ++ [[(⟨1, [(3, -1), (4, -1)]⟩ : Sp)]]).length cap).ownBlock ≠ some q) (ar := [(0, -1)]) X1 ⟨by decide, by decide⟩ (one_slot X0 ⟨by decide, by decide⟩ (hS _ (Nat.le_refl _)))
        have hT2 := hput (.slice (some ⟨w9.heap.size + 1, 0, none⟩) 1 1) (neS 0) ⟨_, _, rfl, (fun b o e _ => by cases e; exact hS _ (by omega)), hrow, by show 1 ≤ _; omega⟩
        rw [neA_true, HL2.out] at hT2
        have hfj := hfz j
        obtain ⟨W9, hW9, hT, hB9⟩ : ∃ U, U = V.setCell ⟨g, j, none⟩ (.slice (some ⟨w9.heap.size + 1, 0, none⟩) 1 1) ∧ Gw SpE.row 54 base (fun q => base ≤ q) U (.slice (some ⟨g, 0, none⟩) (j + 1) cap) (neA j true) ∧ Below w1.heap.size w1 U := ⟨_, rfl, hT2, hBV.setCell (p := ⟨g, j, none⟩) (by show w1.heap.size ≤ g; have := HBA.out; omega) _⟩
        rw [HL2.out]
        clear hput hrow hS hT2 hTV hlo hBV X0 X1 hbV hfz
        have i1 : (0 : Int) ≤ (j : Int) := by omega
        have i2 : (j : Int) < ((j + 1 : Nat) : Int) := by omega
        have hW8 : W9 = ((w9.setCell ⟨g, j, none⟩ (.slice (some ⟨w9.heap.size + 1, 0, none⟩) 1 1)).alloc (.cells #[.int .i64 0, .int .i64 (-1)] 50)).alloc (.cells #[.int .i64 4, .slice (some ⟨w9.heap.size, 0, none⟩) 1 1] 53) := by
          rw [hW9, hV, World.setCell_alloc_past (hn := by simp; omega), World.setCell_alloc_past (hn := hg9l)]
        clear hW9
        go_upto_region 12 with fail
        rw [← hW8]
        clear hV hW8 hz0 hfj i1 i2 hz9 hf9
        obtain ⟨a9, c9, e9, hg9, -⟩ := hT.slice
        injection e9 with e1 e2 e3
        subst e1 e3
        clear e2
        have hat := atD_any _ (some ⟨g, 0, none⟩) cap (neA j true) none 0 none 0 sNo 0 none 0 [] W9 hg9 (sNo_tz _) (sNo_ri _) (Ri.nil _ _ _ (Nat.zero_le _)) ⟨by decide, by decide⟩ (by decide) (fun l hl => by cases hl)
        have HK : Hid (_) := ne_at hk16 true
        rw [neA_len] at hat
        try rw [neA_len]
        clear hT hg9
        rw [(HK.out.1 rfl).1, (HK.out.1 rfl).2] at hat
        replace hat : Calls Try.prog 13 #[.slice (some ⟨g, 0, none⟩) (j + 1) cap, .agg #[.slice none 0 0, .slice none 0 0], .int .i64 0, .slice none 0 0] W9 fun e w' => ∃ a' c', e = .returned (.tuple #[.slice a' 0 c', .int .i64 6]) ∧ Gr PnE.row (fun k => W9.heap.size ≤ k) w' a' c' [] ∧ Below W9.heap.size W9 w' := hat
        clear HK
        go_wp2_with fail
        refine hat.mono ?_
        rintro e u2 ⟨a', c', rfl, -, hb2⟩
        have hfin := HB1.out.trans ((hB9.trans (hb2.mono hB9.size)).mono HB1.out.size)
        clear hat hb2
        go_wp2
        go_ret
        exact ⟨rfl, hfin⟩

end Go.Proofs.Ytkbbdkecillnpaa
