/-
  foundrylaw04.OctetsLater: the walk.
-/
import Derived.Test.YtcjomppgllbfpaaOD
namespace Go.Proofs.Ytcjomppgllbfpaa
open Go.RowKit Go.Maps
set_option linter.unusedSimpArgs false
set_option linter.unusedVariables false

/-- The places that wait. -/
def mks (k : Nat) : List Int := (List.range k).map (fun i : Nat => 1 + 4 * (i : Int))
theorem mks_succ (k : Nat) : mks (k + 1) = mks k ++ [1 + 4 * (k : Int)] := by simp [mks, List.range_succ]
theorem mks_len (k : Nat) : (mks k).length = k := by simp [mks]
theorem mks_get {k i : Nat} (h : i < k) : (mks k).getD i 0 = 1 + 4 * (i : Int) := by simp [mks, List.getD, h]
theorem mks_drop {n i : Nat} (h : i < n) : (mks n).drop i = (1 + 4 * (i : Int)) :: (mks n).drop (i + 1) := by
  have hl : i < (mks n).length := by rw [mks_len]; exact h
  rw [List.drop_eq_getElem_cons hl]
  congr 1
  simp [mks]
theorem mks_mem_drop {n i : Nat} {x : Int} (h : x ∈ (mks n).drop i) : 1 + 4 * (i : Int) ≤ x := by
  rw [List.mem_drop_iff_getElem] at h
  obtain ⟨j, hj, e⟩ := h
  simp [mks] at e
  omega
theorem mks_filter {n i : Nat} (h : i < n) : ((mks n).drop i).filter (fun x => decide (x ≠ 1 + 4 * (i : Int))) = (mks n).drop (i + 1) := by
  rw [mks_drop h, List.filter_cons_of_neg (by simp)]
  rw [List.filter_eq_self]
  intro x hx
  have := mks_mem_drop hx
  simp
  omega

/-- What is known of the page behind i rounds. -/
def LInv (n i : Nat) (s : St) (ps : List Int) : Prop :=
  s.no = false ∧ s.ws = (mks n).drop i ∧ 1 + 4 * n ≤ s.bs.length ∧ s.bs.length ≤ 1 + 4 * n + 20 * i ∧ ps.length = i ∧
    ∀ j, j < i → (s.bs.drop (1 + 4 * j)).take 4 = be4 (ps.getD j 0) ∧ 0 ≤ ps.getD j 0 ∧ ps.getD j 0 ≤ 10000

theorem take_drop_app {bs t : List Nat} {q : Nat} (h : q + 4 ≤ bs.length) : ((bs ++ t).drop q).take 4 = (bs.drop q).take 4 := by
  rw [List.drop_append_of_le_length (by omega), List.take_append_of_le_length (by simp; omega)]
theorem take_drop_ovr_lo {bs xs : List Nat} {p q : Nat} (h : p + 4 ≤ q) (hq : q ≤ bs.length) : ((ovr bs q xs).drop p).take 4 = (bs.drop p).take 4 := by
  rw [ovr, List.append_assoc]
  have e : bs = bs.take q ++ bs.drop q := (List.take_append_drop q bs).symm
  have hl : (bs.take q).length = q := by simp; omega
  rw [take_drop_app (by rw [hl]; omega)]
  conv => rhs; rw [e]
  rw [take_drop_app (by rw [hl]; omega)]
theorem take_drop_ovr_at {bs xs : List Nat} {q : Nat} (hx : xs.length = 4) (hq : q ≤ bs.length) : ((ovr bs q xs).drop q).take 4 = xs := by
  rw [ovr, List.append_assoc]
  have hl : (bs.take q).length = q := by simp; omega
  generalize bs.take q = ys at hl ⊢
  generalize bs.drop (q + xs.length) = ts
  subst hl
  rw [List.drop_left, ← hx, List.take_left]

theorem LInv.step {n i : Nat} {s : St} {ps : List Int} (h : LInv n i s ps) (hi : i < n) (hn : n ≤ 100) (t : List Nat) (ht : t.length ≤ 19) :
    LInv n (i + 1) (St.now ⟨s.bs ++ t, s.ws, false⟩ (1 + 4 * (i : Int)) 1) (ps ++ [((s.bs ++ t).length : Int) - 1]) := by
  obtain ⟨h1, h2, h3, h4, h5, h6⟩ := h
  have hm : (1 + 4 * (i : Int)) ∈ s.ws := by rw [h2, mks_drop hi]; simp
  have hlen : (s.bs ++ t).length = s.bs.length + t.length := by simp
  have hs := St.now_ok (s := ⟨s.bs ++ t, s.ws, false⟩) rfl (m := 1 + 4 * (i : Int)) (b := 1) ⟨hm, by decide, by dsimp only; omega⟩
  dsimp only at hs
  rw [hs]
  have hq : (1 + 4 * (i : Int)).toNat = 1 + 4 * i := by omega
  rw [hq]
  have hov : (ovr (s.bs ++ t) (1 + 4 * i) (be4 (((s.bs ++ t).length : Int) - 1))).length = (s.bs ++ t).length := ovr_len (by simp [be4]; omega)
  refine ⟨rfl, ?_, ?_, ?_, by simp [h5], ?_⟩
  · dsimp only
    rw [h2, mks_filter hi]
  · dsimp only
    omega
  · dsimp only
    omega
  · intro j hj
    dsimp only
    by_cases hji : j = i
    · subst hji
      rw [take_drop_ovr_at rfl (by omega)]
      have e : (ps ++ [((s.bs ++ t).length : Int) - 1]).getD j 0 = ((s.bs ++ t).length : Int) - 1 := by simp [List.getD, h5]
      rw [e]
      exact ⟨rfl, by omega, by omega⟩
    · have hj' : j < i := by omega
      obtain ⟨e1, e2, e3⟩ := h6 j hj'
      have e : (ps ++ [((s.bs ++ t).length : Int) - 1]).getD j 0 = ps.getD j 0 := by simp [List.getD, List.getElem?_append_left (show j < ps.length by omega)]
      rw [take_drop_ovr_lo (by omega) (by omega), take_drop_app (by omega), e]
      exact ⟨e1, e2, e3⟩

theorem LInv.read {n : Nat} {s : St} {ps : List Int} (h : LInv n n s ps) (j : Nat) (hj : j < n) : (nmV s.bs (1 + 4 * (j : Int)) 4 : Int) = ps.getD j 0 ∧ inB s.bs.length (1 + 4 * (j : Int)) 4 = true := by
  obtain ⟨h1, h2, h3, h4, h5, h6⟩ := h
  obtain ⟨e1, e2, e3⟩ := h6 j hj
  have hi : inB s.bs.length (1 + 4 * (j : Int)) 4 = true := by simp [inB]; omega
  refine ⟨?_, hi⟩
  have e : nmV s.bs (1 + 4 * (j : Int)) 4 = V8 (be4 (ps.getD j 0)) := by
    rw [nmV, if_pos (by exact hi), show (1 + 4 * (j : Int)).toNat = 1 + 4 * j by omega, e1]
  rw [e]
  generalize ps.getD j 0 = z at *
  simp only [be4, V8, List.foldl_cons, List.foldl_nil]
  omega

/-- The page behind k offsets that wait. -/
def lat : Nat → St
  | 0 => ⟨[1], [], false⟩
  | k + 1 => (lat k).later
theorem lat_eq (k : Nat) : lat k = ⟨1 :: List.replicate (4 * k) 0, mks k, false⟩ := by
  induction k with
  | zero => rfl
  | succ k ih =>
    rw [lat, ih, St.later_ok rfl]
    simp only [St.mk.injEq]
    refine ⟨?_, ?_, trivial⟩
    · rw [List.cons_append, show be4 0 = List.replicate 4 0 from rfl, List.replicate_append_replicate]
      congr 2
    · rw [mks_succ]
      congr 2
      simp
      omega

theorem LayG.swap {base : Nat} {W0 w : World} {G : Nat → Prop} {B : Nat} {s : St} {v : Value} {ps : List Int} (h : LayG base W0 w G B s v ps (.slice none 0 0) []) : LayG base W0 w G B s (.slice none 0 0) [] v ps :=
  ⟨h.gb, h.pc, h.mo, h.vo, fun g hg => (by cases hg), fun g hg => (h.vg g hg).1, h.be⟩



set_option maxHeartbeats 4000000 in
set_option maxRecDepth 100000 in
theorem octetsLater_any (a : Option Addr) (cap : Nat) (xs : List Nat) (w : World) (h : Rb w a cap xs) :
    Calls Try.prog 6 #[.slice a xs.length cap] w fun e w' => e = .returned (.bool true) ∧ Below w.heap.size w w' := by
  have k1 := h.le
  have k2 := h.cap
  unfold maxLen at k2
  by_cases hl : xs.length ≤ 100
  rotate_left
  · have g1 : 100 < (xs.length : Int) := by omega
    go_enter Try.func6, Try.ntmps6
    go_wp2_with fail
    refine (awake4_any _).mono ?_
    rintro e u ⟨rfl, hb⟩
    go_wp2_with fail
    refine (awake4_any _).mono ?_
    rintro e u2 ⟨rfl, hb2⟩
    go_wp2
    go_ret
    exact ⟨rfl, hb.trans (hb2.mono hb.size)⟩
  have g1 : ¬ (100 < (xs.length : Int)) := by omega
  have hfm := h.fm
  have hbyt := h.lim
  go_enter Try.func6, Try.ntmps6
  go_wp2_with fail
  refine (awake4_any _).mono ?_
  rintro e u0 ⟨rfl, hb0⟩
  have hL0 : LayG w.heap.size w (u0.alloc (.cells #[.slice none 0 0, .int .i64 0, .map none, .bool false] 39)) (fun k => k < u0.heap.size) u0.heap.size St.zero (.slice none 0 0) [] (.slice none 0 0) [] :=
    ⟨fun k hk => Nat.lt_of_lt_of_le hk hb0.size, pc_new u0 _ (fun _ h => h), OwnI.nil _, OwnI.nil _, fun g hg => (by cases hg), fun g hg => (by cases hg), hb0.alloc hb0.size _⟩
  go_wp2_with fail
  generalize (u0.alloc (.cells #[.slice none 0 0, .int .i64 0, .map none, .bool false] 39)) = W0 at hL0 ⊢
  generalize u0.heap.size = B at hL0 ⊢
  clear hb0
  refine (put8_any B _ _ 1 _ hL0.pc ⟨by decide, by decide⟩ (by decide)).mono ?_
  rintro e u1 ⟨rfl, hP1, hK1⟩
  have hL1 := hL0.next hP1 hK1
  rw [show St.zero.put8 1 = lat 0 from rfl] at hL1
  clear hL0 hP1 hK1
  go_wp2_with fail
  refine (here_any _ _ _ _ hL1.pc).mono ?_
  rintro e u ⟨rfl, rfl⟩
  rw [show ((lat 0).bs.length : Int) = 1 from rfl]
  generalize (fun k => k < B) = G0 at hL1
  go_wp2
  go_loopw [5, 7] (fun v i wr => ∃ (k : Nat) (G : Nat → Prop), k ≤ xs.length ∧ i = .int .i64 k ∧ LayG w.heap.size w wr G B (lat k) v (mks k) (.slice none 0 0) []) (fun _ i _ => xs.length - (intOf i).toNat)
  case atStart => exact ⟨0, _, Nat.zero_le _, rfl, hL1⟩
  case round =>
    obtain ⟨k, G, hk, rfl, hL⟩ := hrel
    have hll : (lat k).bs.length = 1 + 4 * k := by rw [lat_eq]; simp; omega
    by_cases hkn : k < xs.length
    · go_wp2_with fail
      refine (later_any B G _ _ hL.pc (by rw [hll]; omega)).mono ?_
      rintro e u2 ⟨rfl, hP2, hK2⟩
      have hL2 := hL.next hP2 hK2
      rw [hll, show ((1 + 4 * k : Nat) : Int) = 1 + 4 * (k : Int) by simp]
      have hL3 := hL2.below (bl1 (.cells #[.int .i64 (1 + 4 * (k : Int))] 3))
      have hcn := cell_one_new u2 (.int .i64 (1 + 4 * (k : Int))) 3 0 _ rfl
      have HM : Hid (mks (k + 1) = mks k ++ [1 + 4 * (k : Int)]) := mks_succ k
      have hml : (mks k).length + 1 ≤ 2000000000 := by rw [mks_len]; omega
      generalize mks k = mk0 at *
      clear hL hP2 hK2 hL2 hll
      go_wp2_with (at_builtin; refine wpList_append_i rfl _ _ rfl (1 + 4 * (k : Int)) hL3 rfl u2.heap.size rfl hcn hml ?_)
      intro v' w2 G2 hL4
      rw [← HM.out] at hL4
      clear hL3 hcn
      go_wp2
      go_roundw
      case rel => exact ⟨k + 1, G2, by omega, by go_num, hL4⟩
      case measure => simp [intOf]; omega
    · obtain rfl : k = xs.length := by omega
      have hL := hL.swap
      have hI0 : LInv xs.length 0 (lat xs.length) [] := by
        rw [lat_eq]
        exact ⟨rfl, rfl, by simp; omega, by simp; omega, rfl, fun j hj => by omega⟩
      obtain ⟨am, cm, hum, hm1, hm2, hm3, _⟩ := hL.mo.slice
      subst hum
      unfold maxLen at hm2
      clear hL1 hll
      go_wp2
      go_loopw [6, 8] (fun v i wr => ∃ (k : Nat) (G : Nat → Prop) (s : St) (ps : List Int), k ≤ xs.length ∧ i = .int .i64 k ∧ LayG w.heap.size w wr G B s v ps (.slice am (mks xs.length).length cm) (mks xs.length) ∧ LInv xs.length k s ps) (fun _ i _ => xs.length - (intOf i).toNat)
      case atStart => exact ⟨0, G, _, [], Nat.zero_le _, rfl, hL, hI0⟩
      case round =>
        clear hL hI0
        obtain ⟨k, G, s, ps, hk, rfl, hL, hI⟩ := hrel
        by_cases hkn : k < xs.length
        · have hno : s.no = false := hI.1
          have hws : s.ws ≠ [] := by rw [hI.2.1, mks_drop hkn]; simp
          have hlb : s.bs.length ≤ 3000 := by have := hI.2.2.2.1; omega
          have hE : allE s = 1 := by simp [allE, hno, hws]
          have hpl : ps.length = k := hI.2.2.2.2.1
          have hst : s = ⟨s.bs, s.ws, false⟩ := by rw [← hno]
          have HST := Hid_mk' hst
          have HI := Hid_mk' hI
          clear hst hI hws hno
          go_wp2_with fail
          refine (all_any B G s _ hL.pc (by omega)).mono ?_
          rintro e u3 ⟨a3, c3, rfl, _, hb3⟩
          rw [hE]
          have hL3 := hL.below hb3
          generalize (allB s).length = l3
          clear hL hb3
          obtain ⟨b, off, rfl, hbb, _⟩ := hfm.at (Below.refl _ _) k hkn
          have hc0 : ∀ u, Below w.heap.size w u → u.cell? ⟨b, off + k, none⟩ = some (.int .u8 ((xs.getD k 0 : Nat) : Int)) := fun u hb => by
            obtain ⟨b', off', e, _, hc⟩ := hfm.at hb k hkn
            simp at e
            rw [e.1, e.2, hc]
          have hx := hbyt.getD k
          generalize xs.getD k 0 = x at hc0 hx
          obtain ⟨r, hr⟩ : ∃ r, x % 20 = r := ⟨_, rfl⟩
          have hr20 : r < 20 := by omega
          have hrem : (x : Int).tmod 20 = (r : Int) := by rw [show (20 : Int) = ((20 : Nat) : Int) from rfl, ← Int.ofNat_tmod, hr]
          have hrem2 : (x : Int) % 20 = (r : Int) := by omega
          clear hr
          go_wp2
          go_loopw [11] (fun i wr2 => ∃ (j : Nat) (t : List Nat), j ≤ r ∧ i = .int .i64 j ∧ t.length = j ∧ LayG w.heap.size w wr2 G B ⟨s.bs ++ t, s.ws, false⟩ u6 ps (.slice am (mks xs.length).length cm) (mks xs.length)) (fun i _ => r - (intOf i).toNat)
          case atStart => exact ⟨0, [], Nat.zero_le _, rfl, rfl, by rw [List.append_nil]; exact HST.out ▸ hL3⟩
          case round =>
            clear hL3
            obtain ⟨j, t, hj, rfl, htl, hL4⟩ := hrel
            have hcx := hc0 _ hL4.be
            by_cases hjr : j < r
            · go_wp2_with fail
              refine (put8_any B G _ (j : Int) _ hL4.pc ⟨by omega, by omega⟩ (by simp; omega)).mono ?_
              rintro e u5 ⟨rfl, hP5, hK5⟩
              have hL5 := hL4.next hP5 hK5
              have e5 : St.put8 ⟨s.bs ++ t, s.ws, false⟩ (j : Int) = ⟨s.bs ++ (t ++ be1 (j : Int)), s.ws, false⟩ := by
                rw [St.put8, if_pos ⟨by omega, by omega⟩]
                simp [St.app]
              rw [e5] at hL5
              have ht2 : (t ++ be1 (j : Int)).length = j + 1 := by simp [be1, htl]
              generalize t ++ be1 (j : Int) = t2 at *
              clear hL4 hP5 hK5 e5 hcx
              go_wp2
              go_roundw
              case rel => exact ⟨j + 1, t2, by omega, by go_num, ht2, hL5⟩
              case measure => simp [intOf]; omega
            · obtain rfl : j = r := by omega
              obtain ⟨L, hLL⟩ : ∃ L, (s.bs ++ t).length = L := ⟨_, rfl⟩
              have hLb : L ≤ 4000 := by rw [← hLL, List.length_append]; omega
              go_wp2_with fail
              refine (here_any _ _ _ _ hL4.pc).mono ?_
              rintro e u ⟨rfl, rfl⟩
              dsimp only
              rw [hLL]
              have HLL : Hid ((s.bs ++ t).length = L) := hLL
              clear hLL
              have hL5 := hL4.below (bl1 (.cells #[.int .i64 ((L : Int) - 1)] 3))
              have hcn := cell_one_new wr (.int .i64 ((L : Int) - 1)) 3 0 _ rfl
              clear hL4 hcx hrem hrem2
              go_wp2_with (at_builtin; refine wpList_append_i rfl _ _ rfl ((L : Int) - 1) hL5 rfl wr.heap.size rfl hcn (by omega) ?_)
              intro v' w2 G2 hL6
              obtain ⟨am', cm', em, _, _, hg3, hg4⟩ := hL6.mo.slice
              simp at em
              obtain ⟨rfl, rfl⟩ := em
              obtain ⟨gm, rfl⟩ := hg3 (by rw [mks_len]; omega)
              have hcm := hg4 gm rfl k (by rw [mks_len]; exact hkn)
              rw [mks_get hkn] at hcm
              have hkm : (k : Int) < ((mks xs.length).length : Int) := by rw [mks_len]; omega
              clear hL5 hcn hg3 hg4 hm3
              go_wp2_with fail
              refine (now_any B G2 _ (1 + 4 * (k : Int)) 1 _ hL6.pc ⟨by omega, by omega⟩ ⟨by decide, by decide⟩ (by have := HLL.out; dsimp only; omega)).mono ?_
              rintro e u7 ⟨rfl, hP7, hK7⟩
              have hL7 := hL6.next hP7 hK7
              have hI7 := LInv.step HI.out hkn hl t (by omega)
              rw [HLL.out] at hI7
              clear hL6 hP7 hK7 hcm
              go_wp2
              go_roundw
              case rel => exact ⟨k + 1, G2, _, _, by omega, by go_num, hL7, hI7⟩
              case measure => simp [intOf]; omega
        · obtain rfl : k = xs.length := by omega
          have hno : s.no = false := hI.1
          have hws : s.ws = [] := by rw [hI.2.1]; exact List.drop_eq_nil_of_le (by rw [mks_len]; exact Nat.le_refl _)
          have hlb : s.bs.length ≤ 3000 := by have := hI.2.2.2.1; omega
          have hE : allE s = 0 := by simp [allE, hno, hws]
          have hA : allB s = s.bs := by simp [allB, hno, hws]
          have hpl : ps.length = xs.length := hI.2.2.2.2.1
          have hrd := hI.read
          clear hno hws hI
          go_wp2_with fail
          refine (all_any B G s _ hL.pc (by omega)).mono ?_
          rintro e u3 ⟨a3, c3, rfl, hR3, hb3⟩
          rw [hE, hA]
          rw [hA] at hR3
          have hL3 := hL.below hb3
          have hr3 := hR3.rd
          generalize s.bs = bs at *
          obtain ⟨av, cv, hev, hv1, hv2, hv3, hv4⟩ := hL3.vo.slice
          subst hev
          obtain ⟨am', cm', em, _, _, hg3, hg4⟩ := hL3.mo.slice
          simp at em
          obtain ⟨rfl, rfl⟩ := em
          unfold maxLen at hv2
          have hmn : (mks xs.length).length = xs.length := mks_len _
          have hbe := hL3.be
          clear hL hR3 hb3 hL3 hE hA
          go_wp2
          go_loop [14] (fun i => ∃ j : Nat, j ≤ xs.length ∧ i = .int .i64 j) (fun i => xs.length - (intOf i).toNat)
          case atStart => exact ⟨0, Nat.zero_le _, rfl⟩
          case round =>
            obtain ⟨j, hj, rfl⟩ := hrel
            by_cases hjn : j < xs.length
            · obtain ⟨gv, rfl⟩ := hv3 (by omega)
              obtain ⟨gm, rfl⟩ := hg3 (by omega)
              have hcv := hv4 gv rfl j (by omega)
              have hcm := hg4 gm rfl j (by omega)
              rw [mks_get hjn] at hcm
              obtain ⟨r1, r2⟩ := hrd j hjn
              obtain ⟨z, hz⟩ : ∃ z, ps.getD j 0 = z := ⟨_, rfl⟩
              rw [hz] at hcv r1
              have hzz : (z != z) = false := by simp
              have hmm : (1 + 4 * (j : Int) != 1 + 4 * (j : Int)) = false := by simp
              have hjm : (j : Int) < ((mks xs.length).length : Int) := by omega
              have hjp : (j : Int) < (ps.length : Int) := by omega
              clear hz hrd hv4 hg4
              go_wp2_with fail
              refine (u32_any a3 c3 bs (1 + 4 * (j : Int)) _ hr3 ⟨by omega, by omega⟩).mono ?_
              rintro e u ⟨rfl, rfl⟩
              rw [r1, r2]
              go_wp2
              go_round
              case rel => exact ⟨j + 1, by omega, by go_num⟩
              case measure => simp [intOf]; omega
            · go_wp2
              go_ret
              exact ⟨rfl, hbe⟩

end Go.Proofs.Ytcjomppgllbfpaa
