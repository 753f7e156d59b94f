/-
  foundryref12.contours: the walk.
-/
import Derived.Test.YtdojgkejpfdaeaaZ19
import Derived.Test.YtdojgkejpfdaeaaZ2
import Derived.Test.YtdojgkejpfdaeaaZ9
import Derived.Test.YtdojgkejpfdaeaaZ16
import Derived.Test.YtdojgkejpfdaeaaZ17
import Derived.Test.YtdojgkejpfdaeaaZ7
import Derived.Deep.CutRange
import Derived.Deep.CutBlock
namespace Go.Proofs.Ytdojgkejpfdaeaa
open Go.RowKit Go.Maps
set_option linter.unusedSimpArgs false
set_option linter.unusedVariables false

theorem apt_gi {base b2 : Nat} {w : World} {v u : Value} {l : List Int} {ys : List Nat} (h : Gi base w v l) (hb : Bo b2 w u ys) : Apt v u := by
  intro k h1 h2
  obtain ⟨cur, hc⟩ := Gw.ty h h1
  rcases hb.2.2 with ⟨e0, _⟩ | ⟨g2, cap2, cur2, m1, m2, m3, _⟩
  · rw [e0] at h2; cases h2
  · rw [m1] at h2
    cases h2
    rw [hc] at m3
    cases m3
theorem apt_base {b1 b2 : Nat} {w w' : World} {v u : Value} {xs ys : List Nat} (h : Bo b1 w v xs) (hb : Bo b2 w' u ys) (hs : w.heap.size ≤ b2) : Apt v u := fun k h1 h2 => by
  have := (h.lo h1).2
  have := (hb.lo h2).1
  omega
/-- What is gathered from the first points. -/
def gaX (l : List Pn) (k : Nat) : List Nat := ((difs 0 0 l).take k).flatMap (fun t => axB t.1)
def gaY (l : List Pn) (k : Nat) : List Nat := ((difs 0 0 l).take k).flatMap (fun t => axB t.2.1)
theorem difs_at {l : List Pn} {k : Nat} (hk : k < l.length) : (difs 0 0 l).getD k (0, 0, false) = ((l.getD k Pn.none).x - (ahP l k).x, (l.getD k Pn.none).y - (ahP l k).y, (l.getD k Pn.none).on) := by
  rw [difs_get l 0 0 k hk]
  unfold ahP
  by_cases h0 : k = 0
  · rw [if_pos h0, if_pos h0, if_pos h0]; rfl
  · rw [if_neg h0, if_neg h0, if_neg h0]
theorem ga_succ {l : List Pn} {k : Nat} {dx dy : Int} {on : Bool} (hk : k < l.length) (h : (difs 0 0 l).getD k (0, 0, false) = (dx, dy, on)) : gaX l (k + 1) = gaX l k ++ axB dx ∧ gaY l (k + 1) = gaY l k ++ axB dy ∧ (flL l).take (k + 1) = (flL l).take k ++ [((axF dx 2 16 : Nat) : Int) + (if on then 1 else 0) + ((axF dy 4 32 : Nat) : Int)] := by
  have hd : k < (difs 0 0 l).length := by rw [difs_len]; exact hk
  unfold gaX gaY flL
  rw [← List.map_take, take_snoc (d := (0, 0, false)) hd, h, List.flatMap_append, List.flatMap_append, List.map_append, List.map_take]
  refine ⟨by simp, by simp, ?_⟩
  congr 1
  show [((flg (dx, dy, on) : Nat) : Int)] = _
  unfold flg
  cases on <;> simp <;> omega
theorem ga_len (l : List Pn) (k : Nat) : (gaX l k).length ≤ 2 * l.length ∧ (gaY l k).length ≤ 2 * l.length := by
  have h1 := flat2 (f := fun t : Int × Int × Bool => axB t.1) (fun t => axB_len _) ((difs 0 0 l).take k)
  have h2 := flat2 (f := fun t : Int × Int × Bool => axB t.2.1) (fun t => axB_len _) ((difs 0 0 l).take k)
  have h3 : ((difs 0 0 l).take k).length ≤ l.length := by rw [List.length_take, difs_len]; omega
  unfold gaX gaY
  omega
theorem diB_no {l : List Pn} {k : Nat} {dx dy : Int} {on : Bool} (hk : k < l.length) (h : (difs 0 0 l).getD k (0, 0, false) = (dx, dy, on)) (hf : (fdB dx && fdB dy) = false) : diB l = false := by
  rw [Bool.eq_false_iff]
  intro hd
  have hk' : k < (difs 0 0 l).length := by rw [difs_len]; exact hk
  have := diB_iff.1 hd _ (get_mem (d := (0, 0, false)) hk')
  rw [h] at this
  rw [fdB_iff.2 this.1, fdB_iff.2 this.2] at hf
  cases hf
theorem diB_yes {l : List Pn} (h : ∀ k, k < l.length → (fdB ((difs 0 0 l).getD k (0, 0, false)).1 && fdB ((difs 0 0 l).getD k (0, 0, false)).2.1) = true) : diB l = true := by
  refine diB_iff.2 (of_get (d := (0, 0, false)) (fun k hk => ?_))
  rw [difs_len] at hk
  have := h k hk
  rw [Bool.and_eq_true] at this
  exact ⟨fdB_iff.1 this.1, fdB_iff.1 this.2⟩
theorem wrapi64q {z : Int} (h1 : -9223372036854775808 ≤ z) (h2 : z ≤ 9223372036854775807) : IntKind.i64.wrap z = z := by
  unfold IntKind.wrap
  simp [IntKind.bits, IntKind.signed]
  omega
/-- As wpList_append_b1, with what is told of the block. -/
theorem wpList_append_b13 {w : World} {ops : Array Oper} {rest : List Oper} {o : Oper} {a : Act} {Q : Exit → Act → World → Prop}
    (hgd : o.guard = none) (s x : Operand) (ho : o.op = .call { callee := .builtin .append, args := #[s, x], argTypes := #[26, 26] })
    (base : Nat) (v : Value) (ys : List Nat) (hs : a.eval s = v) (hown : Bo base w v ys) (g : Nat) (z : Nat) (hx : a.eval x = .slice (some ⟨g, 0, none⟩) 1 1)
    (c0 : w.cell? ⟨g, 0, none⟩ = some (.int .u8 (z : Int))) (hz : z < 256) (hlen : ys.length + 1 ≤ 1000000) (hbase : base ≤ w.heap.size)
    (h : ∀ v' w', Bo base w' v' (ys ++ [z]) → w.grownBy w' v.ownBlock → (v'.ownBlock = v.ownBlock ∨ v'.ownBlock = some w.heap.size) → wpList Try.prog ops Q rest (a.put o.dst v') w') : wpList Try.prog ops Q (o :: rest) a w := by
  obtain ⟨i0, hi, hz0, hz1, hz2⟩ := info_parts info_b8
  refine wpList_append_oneB hgd s x 26 ho base 5 i0 Try.underlying26 hi hz0 hz1 hz2 v ys.length ys hs hown.2 g z hx c0 (by omega) hbase ?_
  intro v' w' k1 k2 k3
  exact h v' w' ⟨hown.1.append (fun y hy => by rw [List.mem_singleton.1 hy]; exact hz), by rw [List.length_append]; exact k1⟩ k2 k3
/-- All that the last loop keeps. -/
def Ld (W wC : World) (vf : Value) (F : List Int) (vx : Value) (X : List Nat) (vy : Value) (Y : List Nat) (w : World) (v : Value) (ys : List Nat) : Prop :=
  Bo W.heap.size w v ys ∧ Gi wC.heap.size w vf F ∧ Bo wC.heap.size w vx X ∧ Bo wC.heap.size w vy Y ∧ Apt v vx ∧ Apt v vy ∧ Below W.heap.size W w
theorem Ld.below {W wC : World} {vf : Value} {F : List Int} {vx : Value} {X : List Nat} {vy : Value} {Y : List Nat} {w w' : World} {v : Value} {ys : List Nat} (h : Ld W wC vf F vx X vy Y w v ys) (hb : Below w.heap.size w w') : Ld W wC vf F vx X vy Y w' v ys :=
  ⟨h.1.below hb, h.2.1.below hb, h.2.2.1.below hb, h.2.2.2.1.below hb, h.2.2.2.2.1, h.2.2.2.2.2.1, h.2.2.2.2.2.2.trans (hb.mono h.2.2.2.2.2.2.size)⟩
theorem Ld.app {W wC : World} {vf : Value} {F : List Int} {vx : Value} {X : List Nat} {vy : Value} {Y : List Nat} {w w' : World} {v v' : Value} {ys ys' : List Nat} (h : Ld W wC vf F vx X vy Y w v ys) (hg : w.grownBy w' v.ownBlock) (ho : v'.ownBlock = v.ownBlock ∨ v'.ownBlock = some w.heap.size) (hn : Bo W.heap.size w' v' ys') : Ld W wC vf F vx X vy Y w' v' ys' :=
  ⟨hn, h.2.1.grown hg (apt_gi h.2.1 h.1), h.2.2.1.grownA hg h.2.2.2.2.1, h.2.2.2.1.grownA hg h.2.2.2.2.2.1, h.2.2.2.2.1.of h.2.2.1 ho, h.2.2.2.2.2.1.of h.2.2.2.1 ho, h.2.2.2.2.2.2.grown hg h.2.2.2.2.2.2.size (fun k hk => (h.1.lo hk).1)⟩
theorem drop_getD {l : List Int} {i j : Nat} : (l.drop i).getD j 0 = l.getD (i + j) 0 := by simp [List.getD]
theorem rl_step {F : List Int} {i m : Nat} {ys T : List Nat} {x : Int} (hi : i < F.length) (hr : rn Int.toNat 256 (F.drop i) = m + 1) (hx : F.getD i 0 = x) (ht : ys ++ rl (F.drop i) = T) : ys ++ (if m = 0 then [x.toNat] else [x.toNat + 8, m]) ++ rl (F.drop (i + (m + 1))) = T := by
  have hne : F.drop i ≠ [] := by intro e; have := congrArg List.length e; rw [List.length_drop] at this; simp at this; omega
  have e0 : (F.drop i).getD 0 0 = x := by rw [drop_getD, Nat.add_zero]; exact hx
  rw [← ht, rl_cons hne, hr, e0, List.drop_drop]
  by_cases h0 : m = 0
  · rw [if_pos h0, if_pos (by omega), List.append_assoc]
  · rw [if_neg h0, if_neg (by omega), List.append_assoc, Nat.add_sub_cancel]
set_option maxHeartbeats 2000000 in
set_option maxRecDepth 100000 in
theorem sconts_any (S : Nat → Prop) (a : Option Addr) (ca : Nat) (vb : Value) (cs : List (List Pn)) (w : World) (h : Gr PnE.row S w a ca cs) (hv : vb.cells = #[vb]) (hl : cs.flatten.length ≤ 80) (hn : cs.length ≤ 10) (hne : ∀ c ∈ cs, 0 < c.length) (hpf : ∀ p ∈ cs.flatten, PnF p) :
    Calls Try.prog 24 #[.agg #[.slice a cs.length ca, vb]] w fun e w' => ∃ a' c', e = .returned (.tuple #[.slice a' (if diB cs.flatten then coB cs else []).length c', .bool (diB cs.flatten)]) ∧ Rb w' a' c' (if diB cs.flatten then coB cs else []) ∧ Below w.heap.size w w' := by
  obtain ⟨W, hW, X1, hbW⟩ : ∃ W, W = w.alloc (.cells #[.slice a cs.length ca, vb] 25) ∧ Bk 25 W w.heap.size [.slice a cs.length ca, vb] ∧ Below w.heap.size w W := ⟨_, rfl, Bk.new _ _ _, bl1 _⟩
  have hpt := fun U h1 => spointsO_any S a ca vb cs U h1 (by omega) hv
  have hen := fun U h1 => sendsO_any S a ca vb cs U h1 (by omega) (by omega) hv
  have HEB : Hid (∀ x ∈ endF 0 cs, 0 ≤ x ∧ x < 1000) := fun x hx => by have := endF_le cs 0 (by omega) hne x hx; omega
  have HPF : Hid (∀ k, k < cs.flatten.length → PnF (cs.flatten.getD k Pn.none)) := fun k hk => hpf _ (get_mem hk)
  obtain ⟨D, hD⟩ : ∃ D, diB cs.flatten = D := ⟨_, rfl⟩
  obtain ⟨R, hR⟩ : ∃ R, (if diB cs.flatten then coB cs else []) = R := ⟨_, rfl⟩
  have HDF : Hid ((diB cs.flatten = false → D = false ∧ R = []) ∧ (diB cs.flatten = true → D = true ∧ R = coB cs)) := ⟨fun h => by rw [← hD, ← hR, h]; exact ⟨rfl, rfl⟩, fun h => by rw [← hD, ← hR, h]; exact ⟨rfl, rfl⟩⟩
  rw [hR, hD]
  clear hR hD
  have HCO : Hid (coB cs = be2 (cs.length : Int) ++ (endF 0 cs).flatMap be2 ++ rl (flL cs.flatten) ++ gaX cs.flatten cs.flatten.length ++ gaY cs.flatten cs.flatten.length) := by
    show _ = _
    unfold coB gaX gaY
    rw [List.take_of_length_le (by rw [difs_len]; exact Nat.le_refl _)]
    simp only [List.append_assoc]
  have hfl := flL_lim cs.flatten
  have hfn := flL_len cs.flatten
  have hrl := (byt_rl _ (flL cs.flatten) rfl hfl).2
  rw [hfn] at hrl
  have HFL : Hid (∀ k, k < (flL cs.flatten).length → 0 ≤ (flL cs.flatten).getD k 0 ∧ (flL cs.flatten).getD k 0 < 64) := fun k hk => hfl _ (get_mem hk)
  have HFN : Hid ((flL cs.flatten).length = cs.flatten.length) := hfn
  have HEN : Hid ((endF 0 cs).length = cs.length) := endF_len 0 cs
  replace h := h.below hbW
  obtain ⟨x0, x1, _⟩ := X1.two
  clear hpf hne hfl hfn
  have hbg := fun U => big2_own (cs.length : Int) U (by omega) (by omega)
  have HH : Hid (Gr PnE.row S W a ca cs) := h
  have HX : Hid (Bk 25 W w.heap.size [.slice a cs.length ca, vb]) := X1
  have HB0 : Hid (Below w.heap.size w W) := hbW
  clear h X1 hbW
  go_enter Try.func24, Try.ntmps24
  go_wp2_with fail
  rw [← hW]
  clear hW
  refine (hbg _).mono ?_
  rintro e wA ⟨v1, rfl, hv1, hb1⟩
  clear hbg x0 x1
  obtain ⟨x0, x1, _⟩ := (HX.out.below hb1).two
  go_wp2_with fail
  refine (hen _ (HH.out.below hb1)).mono ?_
  rintro e wB ⟨a2, c2, rfl, hE, hblE, hb2⟩
  have HBW : Hid (Below W.heap.size W wB) := hb1.trans (hb2.mono hb1.size)
  have HV1 : Hid (Bo W.heap.size wB v1 (be2 (cs.length : Int))) := hv1.below hb2
  have HO1 : Hid (∀ k, v1.ownBlock = some k → ¬ (wA.heap.size ≤ k ∧ k < wB.heap.size)) := fun k hk h => by have := (hv1.lo hk).2; omega
  have HBE : Hid (∀ b o, a2 = some ⟨b, o, none⟩ → wA.heap.size ≤ b ∧ b < wB.heap.size) := hblE
  have HE : Hid (Ri wB a2 c2 (endF 0 cs)) := hE
  have hEl : (endF 0 cs).length ≤ 10 := by rw [HEN.out]; exact hn
  clear hb1 hb2 hen x0 x1 hv1 hblE hE
  generalize endF 0 cs = EE at *
  have hcl : (be2 (cs.length : Int)).length ≤ 2 := Nat.le_refl _
  generalize be2 (cs.length : Int) = BC at *
  go_wp2
  go_loopw [4, 6] (fun v i wr => ∃ k : Nat, k ≤ EE.length ∧ i = .int .i64 k ∧ Bo W.heap.size wr v (BC ++ (EE.take k).flatMap be2) ∧ Below W.heap.size W wr ∧ Keep (fun j => wA.heap.size ≤ j ∧ j < wB.heap.size) wB wr ∧ (∀ k, v.ownBlock = some k → ¬ (wA.heap.size ≤ k ∧ k < wB.heap.size))) (fun _ i _ => EE.length - (intOf i).toNat)
  case atStart => exact ⟨0, Nat.zero_le _, rfl, by rw [List.take_zero, List.flatMap_nil, List.append_nil]; exact HV1.out, HBW.out, Keep.refl _ _, HO1.out⟩
  case round =>
    clear HV1 HO1
    obtain ⟨k, hk, rfl, hT, hB, hK, hO⟩ := hrel
    obtain ⟨av, cv, rfl, _⟩ := hT.slice
    by_cases hkn : k < EE.length
    · obtain ⟨b, off, ea, hb, d0⟩ := (HE.out.kept hK (fun b o e => HBE.out b o e)).at (Below.refl _ _) k hkn
      subst ea
      have hz := HEB.out _ (get_mem (d := 0) hkn)
      have HS : Hid ((EE.take (k + 1)).flatMap be2 = (EE.take k).flatMap be2 ++ be2 (EE.getD k 0)) := by show _ = _; rw [take_snoc (d := 0) hkn, List.flatMap_append]; simp
      have hle := flat2 (f := be2) (fun x => Nat.le_refl _) (EE.take k)
      have hle2 : (EE.take k).length ≤ 10 := by rw [List.length_take]; omega
      generalize EE.getD k 0 = z at *
      have hll : (BC ++ (EE.take k).flatMap be2).length + (be2 z).length ≤ 1000000 := by rw [List.length_append, show (be2 z).length = 2 from rfl]; omega
      have hbg := fun U => big2_any z U (by omega) (by omega)
      have i1 : (0 : Int) ≤ (k : Int) := by omega
      have i2 : (k : Int) < (EE.length : Int) := by omega
      clear hle hle2
      generalize (EE.take k).flatMap be2 = ZZ at *
      have HS2 : Hid (BC ++ (EE.take (k + 1)).flatMap be2 = BC ++ ZZ ++ be2 z) := by show _ = _; rw [HS.out, List.append_assoc]
      clear HS
      generalize BC ++ ZZ = YY at *
      have HK : Hid (Keep (fun j => wA.heap.size ≤ j ∧ j < wB.heap.size) wB wr) := hK
      have HO : Hid (∀ k, (Value.slice av YY.length cv).ownBlock = some k → ¬ (wA.heap.size ≤ k ∧ k < wB.heap.size)) := hO
      clear hK hO
      go_wp2_with fail
      refine (hbg _).mono ?_
      rintro e w2 ⟨ab, cb, rfl, hrb, hb2⟩
      clear hbg d0
      have hT5 := hT.below hb2
      have hB2 := hB.trans (hb2.mono hB.size)
      have hbs := hB2.size
      have hK2 := HK.out.trans (Keep.of_below (G := fun j => wA.heap.size ≤ j ∧ j < wB.heap.size) hb2 (fun j hj => Nat.lt_of_lt_of_le hj.2 HK.out.size))
      go_wp2_with (at_builtin; refine wpList_append_bs3 rfl _ _ rfl W.heap.size (.slice av YY.length cv) YY rfl hT5 _ _ _ (be2 z) rfl rfl hrb hll hbs ?_)
      intro v' w9 hT9 hgrow hown
      have hB9 : Below W.heap.size W w9 := hB2.grown hgrow hbs (fun k hk => (hT5.lo hk).1)
      have hK9 := hK2.grown hgrow (fun j hj => Nat.lt_of_lt_of_le hj.2 hK2.size) HO.out
      have hO9 : ∀ k, v'.ownBlock = some k → ¬ (wA.heap.size ≤ k ∧ k < wB.heap.size) := fun k hk hj => by
        rcases hown with e | e
        · exact HO.out k (by rw [← e]; exact hk) hj
        · rw [e] at hk; cases hk; have := hK2.size; omega
      have HR : Hid (Bo W.heap.size w9 v' (BC ++ (EE.take (k + 1)).flatMap be2) ∧ Below W.heap.size W w9 ∧ Keep (fun j => wA.heap.size ≤ j ∧ j < wB.heap.size) wB w9 ∧ (∀ k, v'.ownBlock = some k → ¬ (wA.heap.size ≤ k ∧ k < wB.heap.size))) := ⟨by rw [HS2.out]; exact hT9, hB9, hK9, hO9⟩
      clear hgrow hown hT9 hT5 hbs hll hrb hB2 hb2 hK2 hO9 hK9 hB9 HK HO HS2 hB hT
      go_wp2
      go_roundw
      case rel => exact ⟨k + 1, by omega, by go_num, HR.out⟩
      case measure => simp [intOf]; omega
    · obtain rfl : k = EE.length := by omega
      rw [List.take_length] at hT ⊢
      have hle := flat2 (f := be2) (fun x => Nat.le_refl _) EE
      have hyl : (BC ++ EE.flatMap be2).length ≤ 22 := by rw [List.length_append]; omega
      clear hle hK hO HE HBE
      generalize hB0 : BC ++ EE.flatMap be2 = B0 at *
      have HB0e : Hid (BC ++ EE.flatMap be2 = B0) := hB0
      clear hB0
      have g1 : ¬ (EE.length : Int) < (EE.length : Int) := by omega
      obtain ⟨x0, x1, _⟩ := (HX.out.below hB).two
      go_wp2_with fail
      refine (hpt _ (HH.out.below hB)).mono ?_
      rintro e wC ⟨a3, c3, rfl, hL, _, hb3⟩
      clear hpt x0 x1
      have HL : Hid (Gr PnE (fun _ => True) wC a3 c3 cs.flatten) := hL
      have HT : Hid (Bo W.heap.size wC (.slice av B0.length cv) B0) := hT.below hb3
      have HBW3 : Hid (Below W.heap.size W wC) := hB.trans (hb3.mono hB.size)
      clear hL hT hB hb3 HB0e HBW
      generalize cs.flatten = L at *
      go_wp2
      go_loopw [8, 9, 10, 11] (fun vf vx vy i wr => ∃ k : Nat, k ≤ L.length ∧ i = .int .i64 k ∧ Gi wC.heap.size wr vf ((flL L).take k) ∧ Bo wC.heap.size wr vx (gaX L k) ∧ Bo wC.heap.size wr vy (gaY L k) ∧ Apt vx vy ∧ (∀ j, j < k → (fdB ((difs 0 0 L).getD j (0, 0, false)).1 && fdB ((difs 0 0 L).getD j (0, 0, false)).2.1) = true) ∧ Below wC.heap.size wC wr) (fun _ _ _ i _ => L.length - (intOf i).toNat)
      case atStart => exact ⟨0, Nat.zero_le _, rfl, Gi.nil _ _, Bo.nil _ _, Bo.nil _ _, (fun k h => by cases h), (fun j hj => by omega), Below.refl _ _⟩
      case round =>
        obtain ⟨k, hk, rfl, hF, hXr, hYr, hap, hok, hB⟩ := hrel
        have hlf : ((flL L).take k).length ≤ 80 := by have := HFN.out; rw [List.length_take]; omega
        have HGL : Hid (_) := ga_len L k
        have hgl : (gaX L k).length ≤ 2 * L.length ∧ (gaY L k).length ≤ 2 * L.length := ga_len L k
        obtain ⟨FK, hFK⟩ : ∃ l, (flL L).take k = l := ⟨_, rfl⟩
        obtain ⟨XK, hXK⟩ : ∃ l, gaX L k = l := ⟨_, rfl⟩
        obtain ⟨YK, hYK⟩ : ∃ l, gaY L k = l := ⟨_, rfl⟩
        have HKK : Hid ((flL L).take k = FK ∧ gaX L k = XK ∧ gaY L k = YK) := ⟨hFK, hXK, hYK⟩
        rw [hFK] at hF hlf
        rw [hXK] at hXr hgl
        rw [hYK] at hYr hgl
        clear hFK hXK hYK HGL
        obtain ⟨af, cf, rfl, _⟩ := hF.slice
        obtain ⟨ax, cx, rfl, _⟩ := hXr.slice
        obtain ⟨ay, cy, rfl, _⟩ := hYr.slice
        have hbW : Below w.heap.size w wr := HB0.out.trans ((HBW3.out.trans (hB.mono HBW3.out.size)).mono HB0.out.size)
        by_cases hkn : k < L.length
        · obtain ⟨b, off, ea, hb, _, q0, q1, q2⟩ := HL.out.pn hB k hkn
          subst ea
          have HDG : Hid (_) := difs_at (l := L) hkn
          have hp0 := HPF.out k hkn
          have hp1 := ahP_F HPF.out (k := k) (by omega)
          obtain ⟨dx, hdx⟩ : ∃ z, (L.getD k Pn.none).x - (ahP L k).x = z := ⟨_, rfl⟩
          obtain ⟨dy, hdy⟩ : ∃ z, (L.getD k Pn.none).y - (ahP L k).y = z := ⟨_, rfl⟩
          have HA0 : Hid (k = 0 → (ahP L k).x = 0 ∧ (ahP L k).y = 0) := fun h => by rw [h]; exact ⟨rfl, rfl⟩
          have HA1 : Hid (0 < k → ahP L k = L.getD (k - 1) Pn.none) := fun h => by unfold ahP; rw [if_neg (by omega)]
          rw [hdx, hdy] at HDG
          generalize hpq : L.getD k Pn.none = p at *
          have HPQ : Hid (L.getD k Pn.none = p) := hpq
          clear hpq
          obtain ⟨px, py, on⟩ := p
          generalize ahP L k = q at *
          obtain ⟨qx, qy, qon⟩ := q
          dsimp only at q0 q1 q2 hdx hdy HDG HA0
          have HPA : Hid (px - qx = dx ∧ py - qy = dy) := ⟨hdx, hdy⟩
          have pb : (-32768 ≤ px ∧ px ≤ 32767) ∧ (-32768 ≤ py ∧ py ≤ 32767) := hp0
          have qb : (-32768 ≤ qx ∧ qx ≤ 32767) ∧ (-32768 ≤ qy ∧ qy ≤ 32767) := hp1
          have HST : Hid (gaX L (k + 1) = XK ++ axB dx ∧ gaY L (k + 1) = YK ++ axB dy ∧ (flL L).take (k + 1) = FK ++ [((axF dx 2 16 : Nat) : Int) + (if on then 1 else 0) + ((axF dy 4 32 : Nat) : Int)]) := by
            have := ga_succ (l := L) hkn HDG.out
            rw [HKK.out.1, HKK.out.2.1, HKK.out.2.2] at this
            exact this
          clear HKK
          have HNO : Hid ((fdB dx && fdB dy) = false → D = false ∧ R = []) := fun h => HDF.out.1 (diB_no hkn HDG.out h)
          have HOK : Hid ((fdB dx && fdB dy) = true → ∀ j, j < k + 1 → (fdB ((difs 0 0 L).getD j (0, 0, false)).1 && fdB ((difs 0 0 L).getD j (0, 0, false)).2.1) = true) := fun h j hj => by
            rcases Nat.lt_or_ge j k with h1 | h1
            · exact hok j h1
            · rw [show j = k by omega, HDG.out]; exact h
          have HF : Hid (Gi wC.heap.size wr (.slice af FK.length cf) FK) := hF
          have HXR : Hid (Bo wC.heap.size wr (.slice ax XK.length cx) XK) := hXr
          have HYR : Hid (Bo wC.heap.size wr (.slice ay YK.length cy) YK) := hYr
          have HAP : Hid (Apt (.slice ax XK.length cx) (.slice ay YK.length cy)) := hap
          have HB : Hid (Below wC.heap.size wC wr) := hB
          have i1 : (0 : Int) ≤ (k : Int) := by omega
          have i2 : (k : Int) < (L.length : Int) := by omega
          clear hok hF hXr hYr hap hdx hdy hp0 hp1 HDG
          go_upto_region 13 with fail
          refine wp_region_held_drew (S := fun w9 => w9.cell? ⟨b, off + k * 3, none⟩ = some (.int .i64 px) ∧ w9.cell? ⟨b, off + k * 3 + 1, none⟩ = some (.int .i64 py)) (by kernel_rfl) ?_ (fun hHeld => ?_)
          · (try dsimp only)
            go_keep
          have hdr : Below wr.heap.size wr wr.drew := Below.drew1
          generalize wr.drew = t1 at hdr hHeld ⊢
          refine hT 0 hHeld ?_
          refine hT 1 hHeld ?_
          refine hT 2 hHeld ?_
          refine hT 3 hHeld ?_
          refine hT 4 hHeld ?_
          refine hT 5 hHeld ?_
          refine hT 6 hHeld ?_
          refine hT 7 hHeld ?_
          refine hT 8 hHeld ?_
          refine hT 9 hHeld ?_
          refine hT 10 hHeld ?_
          refine hT 11 hHeld ?_
          refine wpAnyH_done (by kernel_rfl) ?_ _
          have hB1 : Below wC.heap.size wC t1 := HB.out.trans (hdr.mono HB.out.size)
          have HDR : Hid (Below wr.heap.size wr t1) := hdr
          have HB1 : Hid (Below wC.heap.size wC t1) := hB1
          have HBT : Hid (Below w.heap.size w t1) := hbW.trans (hdr.mono hbW.size)
          clear hbW
          clear hHeld hdr q0 q1 q2
          go_upto_if 58 with fail
          go_cut [12, 13] from 41 to 111 (fun s12 s13 wx => s12 = .int .i64 dx ∧ s13 = .int .i64 dy ∧ wx = t1)
          case first =>
            rcases Nat.eq_zero_or_pos k with h0 | h0
            · subst h0
              obtain ⟨e1, e2⟩ := HA0.out rfl
              have hd1 : px = dx := by have := HPA.out.1; omega
              have hd2 : py = dy := by have := HPA.out.2; omega
              clear HST HNO HOK HF HXR HYR HAP HA1
              subst hd1 hd2
              go_wp2_with fail
              go_meet
              exact ⟨rfl, rfl, rfl⟩
            · obtain ⟨b', off', e', _, _, r0, r1, _⟩ := HL.out.pn hB1 (k - 1) (by omega)
              cases e'
              rw [← HA1.out h0] at r0 r1
              dsimp only at r0 r1
              have hk1 : (0 : Int) < (k : Int) := by omega
              have hk2 : ((k : Int) - 1).toNat = k - 1 := by omega
              have hk3 : (0 : Int) ≤ (k : Int) - 1 := by omega
              have hk4 : (k : Int) - 1 < (L.length : Int) := by omega
              have hd1 := HPA.out.1
              have hd2 := HPA.out.2
              clear HST HNO HOK HF HXR HYR HAP HA1 HA0
              subst hd1 hd2
              go_wp2_with fail
              go_meet
              exact ⟨by go_num, by go_num, rfl⟩
          case rest =>
          obtain ⟨rfl, rfl, rfl⟩ := hcut
          clear HA0 HA1 hB1
          go_wp2_with fail
          refine (sField_any dx _).mono ?_
          rintro e wE ⟨rfl, rfl⟩
          cases hf1 : fdB dx with
          | false =>
            have HD : Hid (D = false ∧ R = []) := HNO.out (by rw [hf1]; rfl)
            clear hf1 HNO HOK HST HF HXR HYR HAP
            go_wp2
            go_ret2
            exact ⟨none, 0, by rw [HD.out.1, HD.out.2]; rfl, by rw [HD.out.2]; exact Rb.nil _ _ _ (Nat.zero_le _) (fun _ => rfl), HBT.out⟩
          | true =>
          go_wp2_with fail
          refine (sField_any dy _).mono ?_
          rintro e wE ⟨rfl, rfl⟩
          cases hf2 : fdB dy with
          | false =>
            have HD : Hid (D = false ∧ R = []) := HNO.out (by rw [hf1, hf2]; rfl)
            clear hf1 hf2 HNO HOK HST HF HXR HYR HAP
            go_wp2
            go_ret2
            exact ⟨none, 0, by rw [HD.out.1, HD.out.2]; rfl, by rw [HD.out.2]; exact Rb.nil _ _ _ (Nat.zero_le _) (fun _ => rfl), HBT.out⟩
          | true =>
          have HOK2 : Hid (∀ j, j < k + 1 → (fdB ((difs 0 0 L).getD j (0, 0, false)).1 && fdB ((difs 0 0 L).getD j (0, 0, false)).2.1) = true) := HOK.out (by rw [hf1, hf2]; rfl)
          have hax := fun U => saxisX_any dx U (fdB_iff.1 hf1)
          have hay := fun U => saxisY_any dy U (fdB_iff.1 hf2)
          clear hf1 hf2 HNO HOK HBT
          obtain ⟨s1, s2, s3⟩ := HST.out
          have bf1 := axF_le dx 2 16
          have bf2 := axF_le dy 4 32
          generalize axF dx 2 16 = f1 at *
          generalize axF dy 4 32 = f2 at *
          have HS1 : Hid (gaX L (k + 1) = XK ++ axB dx) := s1
          have HS2 : Hid (gaY L (k + 1) = YK ++ axB dy) := s2
          have HS3 : Hid ((flL L).take (k + 1) = FK ++ [(f1 : Int) + (if on then 1 else 0) + (f2 : Int)]) := s3
          have hlx := axB_len dx
          have hly := axB_len dy
          generalize axB dx = Bx at *
          generalize axB dy = By at *
          clear s1 s2 s3 HST
          go_wp2_with fail
          refine (hax _).mono ?_
          rintro e wE ⟨v5, rfl, hv5, hb5⟩
          obtain ⟨a5, c5, rfl, _⟩ := hv5.slice
          go_wp2_with fail
          refine (hay _).mono ?_
          rintro e wF ⟨v6, rfl, hv6, hb6⟩
          obtain ⟨a6, c6, rfl, _⟩ := hv6.slice
          clear hax hay
          have hB6 : Below wC.heap.size wC wF := (HB1.out.trans (hb5.mono HB1.out.size)).trans (hb6.mono (Nat.le_trans HB1.out.size hb5.size))
          have hW6 : Below wr.heap.size wr wF := (HDR.out.trans (hb5.mono HDR.out.size)).trans (hb6.mono (Nat.le_trans HDR.out.size hb5.size))
          have HV5 : Hid (Bo wC.heap.size wF (.slice a5 Bx.length c5) Bx) := (hv5.below hb6).mono HB1.out.size
          have HV6 : Hid (Bo wC.heap.size wF (.slice a6 By.length c6) By) := hv6.mono (Nat.le_trans HB1.out.size hb5.size)
          have HF6 : Hid (Gi wC.heap.size wF (.slice af FK.length cf) FK) := HF.out.below hW6
          have HX6 : Hid (Bo wC.heap.size wF (.slice ax XK.length cx) XK) := HXR.out.below hW6
          have HY6 : Hid (Bo wC.heap.size wF (.slice ay YK.length cy) YK) := HYR.out.below hW6
          have HP5 : Hid (Apt (.slice ax XK.length cx) (.slice a6 By.length c6)) := apt_base HXR.out hv6 (Nat.le_trans HDR.out.size hb5.size)
          have HB6 : Hid (Below wC.heap.size wC wF) := hB6
          obtain ⟨b', off', e', _, _, _, _, r2⟩ := HL.out.pn hB6 k hkn
          cases e'
          rw [HPQ.out] at r2
          dsimp only at r2
          clear hv5 hv6 hb5 hb6 hW6 HF HXR HYR HDR HB HB1 hB6
          go_upto_if 97 with fail
          go_cut [14] from 41 to 111 (fun s14 wx => s14 = .int .i64 ((f1 : Int) + (if on then 1 else 0)) ∧ wx = wF)
          case first =>
            clear HOK2 HS1 HS2 HS3 HV5 HV6 HF6 HX6 HY6 HP5
            cases on with
            | true =>
              go_wp2_with fail
              go_meet
              exact ⟨by go_num, rfl⟩
            | false =>
              go_wp2_with fail
              go_meet
              exact ⟨by simp, rfl⟩
          case rest =>
          obtain ⟨rfl, rfl⟩ := hcut
          clear r2
          obtain ⟨f3, hf3⟩ : ∃ f3 : Int, (f1 : Int) + (if on then 1 else 0) = f3 := ⟨_, rfl⟩
          have bf3 : 0 ≤ f3 ∧ f3 ≤ 100 := by rw [← hf3]; cases on <;> simp <;> omega
          rw [hf3] at HS3 ⊢
          clear hf3
          obtain ⟨z, hz⟩ : ∃ z : Int, f3 + (f2 : Int) = z := ⟨_, rfl⟩
          have hzi : I64 z := ⟨by omega, by omega⟩
          rw [hz] at HS3
          obtain ⟨V, hV, hN, bp⟩ : ∃ V, V = wc.alloc (.cells #[.int .i64 z] 3) ∧ Bk 3 V wc.heap.size [.int .i64 z] ∧ Below wc.heap.size wc V := ⟨_, rfl, Bk.new _ _ _, bl1 _⟩
          have n0 := hN.cell 0 (by simp)
          have hgl2 := hN.lt
          have hFb := HF6.out.below bp
          have hXb := HX6.out.below bp
          have hYb := HY6.out.below bp
          have h5b := HV5.out.below bp
          have h6b := HV6.out.below bp
          have hBb : Below wC.heap.size wC V := HB6.out.trans (bp.mono HB6.out.size)
          have hbs := hBb.size
          have hll : FK.length + 1 ≤ 1000000 := by omega
          have HFB : Hid (Gi wC.heap.size V (.slice af FK.length cf) FK ∧ Bo wC.heap.size V (.slice ax XK.length cx) XK ∧ Bo wC.heap.size V (.slice ay YK.length cy) YK ∧ Bo wC.heap.size V (.slice a5 Bx.length c5) Bx ∧ Bo wC.heap.size V (.slice a6 By.length c6) By ∧ Below wC.heap.size wC V) := ⟨hFb, hXb, hYb, h5b, h6b, hBb⟩
          clear hN bp hXb hYb h5b h6b hBb HF6 HX6 HY6 HV5 HV6 HB6
          go_upto_region 23 with fail
          go_wp2_with (at_builtin; (rw [← hV]); refine wpList_append_gi rfl _ _ rfl wC.heap.size (.slice af FK.length cf) FK rfl hFb wc.heap.size z rfl hgl2 n0 hzi hll hbs ?_)
          intro v9 w9 hF9 hgrow9 _
          rw [← hV] at hgrow9
          clear hV
          obtain ⟨_, hXb, hYb, h5b, h6b, hBb⟩ := HFB.out
          have hX9 := hXb.grownA hgrow9 (apt_gi hFb hXb)
          have hY9 := hYb.grownA hgrow9 (apt_gi hFb hYb)
          have h59 := h5b.grownA hgrow9 (apt_gi hFb h5b)
          have h69 := h6b.grownA hgrow9 (apt_gi hFb h6b)
          have hB9 : Below wC.heap.size wC w9 := hBb.grown hgrow9 hBb.size (fun k hk => (hFb.lo hk).1)
          rw [← HS3.out] at hF9
          clear hgrow9 hXb hYb h5b h6b hBb hFb n0 hgl2 hbs hll HFB HS3
          obtain ⟨_, _, e5, hr5⟩ := h59.slice
          cases e5
          have hll : XK.length + Bx.length ≤ 1000000 := by omega
          have hbs := hB9.size
          have HY9 : Hid (Bo wC.heap.size w9 (.slice ay YK.length cy) YK) := hY9
          have H69 : Hid (Bo wC.heap.size w9 (.slice a6 By.length c6) By) := h69
          have HF9 : Hid (Gi wC.heap.size w9 v9 ((flL L).take (k + 1))) := hF9
          clear hY9 h69 hF9 h59
          go_wp2_with (at_builtin; refine wpList_append_bs3 rfl _ _ rfl wC.heap.size (.slice ax XK.length cx) XK rfl hX9 _ _ _ Bx rfl rfl hr5 hll hbs ?_)
          intro vX wX hXX hgX hoX
          have hF10 : Gi wC.heap.size wX v9 ((flL L).take (k + 1)) := HF9.out.grown hgX (apt_gi HF9.out hX9)
          have hY10 := HY9.out.grownA hgX HAP.out
          have h610 := H69.out.grownA hgX HP5.out
          have hB10 : Below wC.heap.size wC wX := hB9.grown hgX hB9.size (fun k hk => (hX9.lo hk).1)
          have hap1 : Apt vX (.slice ay YK.length cy) := HAP.out.of HY9.out hoX
          rw [← HS1.out] at hXX
          clear hgX hoX hX9 hr5 hll hbs hB9 HY9 H69 HF9 HS1
          obtain ⟨_, _, e6, hr6⟩ := h610.slice
          cases e6
          have hll : YK.length + By.length ≤ 1000000 := by omega
          have hbs := hB10.size
          have HXX : Hid (Bo wC.heap.size wX vX (gaX L (k + 1))) := hXX
          have HF10 : Hid (Gi wC.heap.size wX v9 ((flL L).take (k + 1))) := hF10
          have HA1 : Hid (Apt vX (.slice ay YK.length cy)) := hap1
          clear hXX hF10 hap1 h610
          go_wp2_with (at_builtin; refine wpList_append_bs3 rfl _ _ rfl wC.heap.size (.slice ay YK.length cy) YK rfl hY10 _ _ _ By rfl rfl hr6 hll hbs ?_)
          intro vY wY hYY hgY hoY
          have HR : Hid (Gi wC.heap.size wY v9 ((flL L).take (k + 1)) ∧ Bo wC.heap.size wY vX (gaX L (k + 1)) ∧ Bo wC.heap.size wY vY (gaY L (k + 1)) ∧ Apt vX vY ∧ Below wC.heap.size wC wY) :=
            ⟨HF10.out.grown hgY (apt_gi HF10.out hY10), HXX.out.grownA hgY HA1.out.symm, by rw [HS2.out]; exact hYY, (HA1.out.symm.of HXX.out hoY).symm, hB10.grown hgY hB10.size (fun k hk => (hY10.lo hk).1)⟩
          clear hgY hoY hYY hY10 hr6 hll hbs hB10 HXX HF10 HA1 HS2 HAP HP5 HPA HPQ
          go_wp2
          go_roundw
          case rel => exact ⟨k + 1, by omega, by go_num, HR.out.1, HR.out.2.1, HR.out.2.2.1, HR.out.2.2.2.1, HOK2.out, HR.out.2.2.2.2⟩
          case measure => simp [intOf]; omega
        · obtain rfl : k = L.length := by omega
          have hd := diB_yes hok
          have eF : flL L = FK := by rw [← HKK.out.1, List.take_of_length_le (by rw [HFN.out]; exact Nat.le_refl _)]
          rw [eF] at HCO HFL hrl HFN
          rw [HKK.out.2.1, HKK.out.2.2] at HCO
          have HRR : Hid (D = true ∧ R = B0 ++ rl FK ++ XK ++ YK) := by
            obtain ⟨h1, h2⟩ := HDF.out.2 hd
            exact ⟨h1, by rw [h2, HCO.out]⟩
          clear eF hd hok HKK HCO HDF HFN
          have hT := HT.out.below hB
          have hap0 : Apt (.slice av B0.length cv) (.slice ax XK.length cx) := apt_base HT.out hXr (Nat.le_refl _)
          have hap1 : Apt (.slice av B0.length cv) (.slice ay YK.length cy) := apt_base HT.out hYr (Nat.le_refl _)
          have hBW : Below W.heap.size W wr := HBW3.out.trans (hB.mono HBW3.out.size)
          have HST : Hid (Ld W wC (.slice af FK.length cf) FK (.slice ax XK.length cx) XK (.slice ay YK.length cy) YK wr (.slice av B0.length cv) B0) := ⟨hT, hF, hXr, hYr, hap0, hap1, hBW⟩
          have g1 : ¬ (L.length : Int) < (L.length : Int) := by omega
          have hrl2 : (rl FK).length ≤ 160 := by omega
          clear hT hF hXr hYr hap0 hap1 hBW hap hB hbW HT HBW3 HL HPF hrl
          go_wp2
          go_loopw [4, 18] (fun v i wr => ∃ (j : Nat) (ys : List Nat), j ≤ FK.length ∧ i = .int .i64 j ∧ ys ++ rl (FK.drop j) = B0 ++ rl FK ∧ Ld W wC (.slice af FK.length cf) FK (.slice ax XK.length cx) XK (.slice ay YK.length cy) YK wr v ys) (fun _ i _ => FK.length - (intOf i).toNat)
          case atStart => exact ⟨0, B0, Nat.zero_le _, rfl, rfl, HST.out⟩
          case round =>
            clear HST
            obtain ⟨j, ys, hj, rfl, htot, hLd⟩ := hrel
            obtain ⟨av, cv, rfl, _⟩ := hLd.1.slice
            have HTO : Hid (ys ++ rl (FK.drop j) = B0 ++ rl FK) := htot
            have hyl2 : ys.length ≤ 182 := by have := congrArg List.length htot; rw [List.length_append, List.length_append] at this; omega
            clear htot
            by_cases hjn : j < FK.length
            · have HSS : Hid (Ld W wC (.slice af FK.length cf) FK (.slice ax XK.length cx) XK (.slice ay YK.length cy) YK wr (.slice av ys.length cv) ys) := hLd
              have HF : Hid (Gi wC.heap.size wr (.slice af FK.length cf) FK) := hLd.2.1
              obtain ⟨wo, rfl⟩ : ∃ wo, wo = wr := ⟨_, rfl⟩
              have g1 : (j : Int) < (FK.length : Int) := by omega
              clear hLd
              go_upto_block 6 with fail
              go_cut [19] from 112 to 170 (fun s19 wx => ∃ m : Nat, s19 = .int .i64 (m : Int) ∧ rn Int.toNat 256 (FK.drop j) = m + 1 ∧ m ≤ 255 ∧ j + m < FK.length ∧ Below wo.heap.size wo wx)
              case first =>
                go_wp2_with fail
                go_loopw [19] (fun s wr => ∃ m : Nat, s = .int .i64 (m : Int) ∧ m ≤ 255 ∧ j + m < FK.length ∧ (∀ t, t ≤ m → FK.getD (j + t) 0 = FK.getD j 0) ∧ Below wo.heap.size wo wr) (fun s _ => FK.length - (intOf s).toNat)
                case atStart => exact ⟨0, rfl, by omega, by omega, (fun t ht => by rw [show t = 0 by omega]; rfl), Below.refl _ _⟩
                case round =>
                  obtain ⟨m, rfl, hm1, hjm, hsm, hbR⟩ := hrel
                  have HSM : Hid (∀ t, t ≤ m → FK.getD (j + t) 0 = FK.getD j 0) := hsm
                  have HSD : Hid (∀ t, t < m + 1 → ((FK.drop j).getD t 0).toNat = ((FK.drop j).getD 0 0).toNat) := fun t ht => by rw [drop_getD, drop_getD, Nat.add_zero, HSM.out t (by omega)]
                  have hdl : (FK.drop j).length = FK.length - j := List.length_drop
                  clear hsm
                  obtain ⟨_, _, ec, hri, _⟩ := Gi.slice (HF.out.below hbR)
                  cases ec
                  obtain ⟨bf, of, ea, hbf, d0⟩ := hri.at (Below.refl _ _) j hjn
                  have ht1 : ((j : Int) + (m : Int) + 1).toNat = j + m + 1 := by omega
                  have i1 : (0 : Int) ≤ (j : Int) := by omega
                  have i3 : (0 : Int) ≤ (j : Int) + (m : Int) + 1 := by omega
                  have hw1 : IntKind.i64.wrap ((j : Int) + (m : Int)) = (j : Int) + (m : Int) := wrapi64q (by omega) (by omega)
                  have hw2 : IntKind.i64.wrap ((j : Int) + (m : Int) + 1) = (j : Int) + (m : Int) + 1 := wrapi64q (by omega) (by omega)
                  by_cases h1 : j + m + 1 < FK.length
                  · obtain ⟨bf', of', ea', _, d1⟩ := hri.at (Below.refl _ _) (j + m + 1) h1
                    rw [ea] at ea'
                    cases ea'
                    subst ea
                    have HNX : Hid (FK.getD (j + m + 1) 0 = FK.getD j 0 → ∀ t, t ≤ m + 1 → FK.getD (j + t) 0 = FK.getD j 0) := fun h t ht => by
                      rcases Nat.lt_or_ge t (m + 1) with h9 | h9
                      · exact HSM.out t (by omega)
                      · rw [show j + t = j + m + 1 by omega]; exact h
                    have b0 := HFL.out j hjn
                    have b1 := HFL.out (j + m + 1) h1
                    have HRX : Hid (FK.getD (j + m + 1) 0 ≠ FK.getD j 0 → rn Int.toNat 256 (FK.drop j) = m + 1) := fun h => rn_eq (c := Int.toNat) (M := 256) (by omega) (by omega) (by omega) HSD.out (.inr (.inr (by rw [show (FK.drop j).getD (m + 1) 0 = FK.getD (j + m + 1) 0 by rw [drop_getD]; rfl, show (FK.drop j).getD 0 0 = FK.getD j 0 by rw [drop_getD]; rfl]; omega)))
                    have HR5 : Hid (m = 255 → rn Int.toNat 256 (FK.drop j) = m + 1) := fun h => rn_eq (c := Int.toNat) (M := 256) (by omega) (by omega) (by omega) HSD.out (.inl (by omega))
                    generalize FK.getD (j + m + 1) 0 = x1 at *
                    generalize FK.getD j 0 = x0 at *
                    have i2 : (j : Int) + (m : Int) + 1 < (FK.length : Int) := by omega
                    have g2 : decide ((j : Int) + (m : Int) + 1 < (FK.length : Int)) = true := decide_eq_true i2
                    clear hdl HSD
                    by_cases h2 : x1 = x0
                    · have HSM2 : Hid (_) := HNX.out h2
                      have g3 : (x1 == x0) = true := by simp [h2]
                      have g4 : (x0 == x0) = true := by simp
                      subst h2
                      by_cases h3 : m < 255
                      · have g5 : decide ((m : Int) < 255) = true := decide_eq_true (by omega)
                        clear HSM HNX HRX HR5
                        go_upto_region 29 with fail
                        refine wp_region_held_drew (S := fun w9 => w9.cell? ⟨bf, of + (j + m + 1), none⟩ = some (.int .i64 x1) ∧ w9.cell? ⟨bf, of + j, none⟩ = some (.int .i64 x1)) (by kernel_rfl) ?_ (fun hHeld => ?_)
                        · (try dsimp only)
                          all_goals go_keep
                        have hdr : Below wr.heap.size wr wr.drew := Below.drew1
                        generalize wr.drew = td1 at hdr hHeld ⊢
                        replace hbR : Below wo.heap.size wo td1 := hbR.trans (hdr.mono hbR.size)
                        clear hdr
                        refine hT 0 hHeld ?_
                        refine hT 1 hHeld ?_
                        refine hT 2 hHeld ?_
                        refine hT 3 hHeld ?_
                        refine hT 4 hHeld ?_
                        refine hT 5 hHeld ?_
                        refine hT 6 hHeld ?_
                        refine hT 7 hHeld ?_
                        refine hT 8 hHeld ?_
                        refine hT 9 hHeld ?_
                        refine hT 10 hHeld ?_
                        refine hT 11 hHeld ?_
                        refine hT 12 hHeld ?_
                        refine hT 13 hHeld ?_
                        refine hT 14 hHeld ?_
                        refine hT 15 hHeld ?_
                        refine hT 16 hHeld ?_
                        refine hT 17 hHeld ?_
                        refine hT 18 hHeld ?_
                        refine hT 19 hHeld ?_
                        refine hT 20 hHeld ?_
                        refine hT 21 hHeld ?_
                        refine hT 22 hHeld ?_
                        refine hT 23 hHeld ?_
                        refine hT 24 hHeld ?_
                        refine wpAnyH_done (by kernel_rfl) ?_ _
                        clear hHeld
                        go_wp2_with fail
                        go_roundw
                        case rel => exact ⟨m + 1, by go_num, by omega, by omega, HSM2.out, hbR⟩
                        case measure => simp [intOf]; omega
                      · have g5 : decide ((m : Int) < 255) = false := decide_eq_false (by omega)
                        have HRN : Hid (rn Int.toNat 256 (FK.drop j) = m + 1) := HR5.out (by omega)
                        clear HSM HNX HRX HR5 HSM2
                        go_upto_region 29 with fail
                        refine wp_region_held_drew (S := fun w9 => w9.cell? ⟨bf, of + (j + m + 1), none⟩ = some (.int .i64 x1) ∧ w9.cell? ⟨bf, of + j, none⟩ = some (.int .i64 x1)) (by kernel_rfl) ?_ (fun hHeld => ?_)
                        · (try dsimp only)
                          all_goals go_keep
                        have hdr : Below wr.heap.size wr wr.drew := Below.drew1
                        generalize wr.drew = td2 at hdr hHeld ⊢
                        replace hbR : Below wo.heap.size wo td2 := hbR.trans (hdr.mono hbR.size)
                        clear hdr
                        refine hT 0 hHeld ?_
                        refine hT 1 hHeld ?_
                        refine hT 2 hHeld ?_
                        refine hT 3 hHeld ?_
                        refine hT 4 hHeld ?_
                        refine hT 5 hHeld ?_
                        refine hT 6 hHeld ?_
                        refine hT 7 hHeld ?_
                        refine hT 8 hHeld ?_
                        refine hT 9 hHeld ?_
                        refine hT 10 hHeld ?_
                        refine hT 11 hHeld ?_
                        refine hT 12 hHeld ?_
                        refine hT 13 hHeld ?_
                        refine hT 14 hHeld ?_
                        refine hT 15 hHeld ?_
                        refine hT 16 hHeld ?_
                        refine hT 17 hHeld ?_
                        refine hT 18 hHeld ?_
                        refine hT 19 hHeld ?_
                        refine hT 20 hHeld ?_
                        refine hT 21 hHeld ?_
                        refine hT 22 hHeld ?_
                        refine hT 23 hHeld ?_
                        refine hT 24 hHeld ?_
                        refine wpAnyH_done (by kernel_rfl) ?_ _
                        clear hHeld
                        go_wp2_with fail
                        go_meet
                        exact ⟨m, rfl, HRN.out, hm1, hjm, hbR⟩
                    · have HRN : Hid (rn Int.toNat 256 (FK.drop j) = m + 1) := HRX.out h2
                      have g3 : (x1 == x0) = false := beq_eq_false_iff_ne.2 h2
                      clear HSM HNX HRX HR5
                      go_upto_region 29 with fail
                      refine wp_region_held_drew (S := fun w9 => w9.cell? ⟨bf, of + (j + m + 1), none⟩ = some (.int .i64 x1) ∧ w9.cell? ⟨bf, of + j, none⟩ = some (.int .i64 x0)) (by kernel_rfl) ?_ (fun hHeld => ?_)
                      · (try dsimp only)
                        all_goals go_keep
                      have hdr : Below wr.heap.size wr wr.drew := Below.drew1
                      generalize wr.drew = td3 at hdr hHeld ⊢
                      replace hbR : Below wo.heap.size wo td3 := hbR.trans (hdr.mono hbR.size)
                      clear hdr
                      refine hT 0 hHeld ?_
                      refine hT 1 hHeld ?_
                      refine hT 2 hHeld ?_
                      refine hT 3 hHeld ?_
                      refine hT 4 hHeld ?_
                      refine hT 5 hHeld ?_
                      refine hT 6 hHeld ?_
                      refine hT 7 hHeld ?_
                      refine hT 8 hHeld ?_
                      refine hT 9 hHeld ?_
                      refine hT 10 hHeld ?_
                      refine hT 11 hHeld ?_
                      refine hT 12 hHeld ?_
                      refine hT 13 hHeld ?_
                      refine hT 14 hHeld ?_
                      refine hT 15 hHeld ?_
                      refine hT 16 hHeld ?_
                      refine hT 17 hHeld ?_
                      refine hT 18 hHeld ?_
                      refine hT 19 hHeld ?_
                      refine hT 20 hHeld ?_
                      refine hT 21 hHeld ?_
                      refine hN 22 hHeld ?_
                      refine hN 23 hHeld ?_
                      refine hT 24 hHeld ?_
                      refine wpAnyH_done (by kernel_rfl) ?_ _
                      clear hHeld
                      go_wp2_with fail
                      go_meet
                      exact ⟨m, rfl, HRN.out, hm1, hjm, hbR⟩
                  · have g2 : decide ((j : Int) + (m : Int) + 1 < (FK.length : Int)) = false := decide_eq_false (by omega)
                    have HRN : Hid (rn Int.toNat 256 (FK.drop j) = m + 1) := rn_eq (c := Int.toNat) (M := 256) (by omega) (by omega) (by omega) HSD.out (.inr (.inl (by omega)))
                    clear HSD hdl HSM d0
                    go_upto_region 29 with fail
                    refine wp_region_held_drew (S := fun w9 => True) (by kernel_rfl) ?_ (fun hHeld => ?_)
                    · (try dsimp only)
                      all_goals go_keep
                    have hdr : Below wr.heap.size wr wr.drew := Below.drew1
                    generalize wr.drew = td4 at hdr hHeld ⊢
                    replace hbR : Below wo.heap.size wo td4 := hbR.trans (hdr.mono hbR.size)
                    clear hdr
                    refine hT 0 hHeld ?_
                    refine hT 1 hHeld ?_
                    refine hT 2 hHeld ?_
                    refine hT 3 hHeld ?_
                    refine hT 4 hHeld ?_
                    refine hT 5 hHeld ?_
                    refine hT 6 hHeld ?_
                    refine hT 7 hHeld ?_
                    refine hN 8 hHeld ?_
                    refine hN 9 hHeld ?_
                    refine hN 10 hHeld ?_
                    refine hN 11 hHeld ?_
                    refine hN 12 hHeld ?_
                    refine hN 13 hHeld ?_
                    refine hN 14 hHeld ?_
                    refine hN 15 hHeld ?_
                    refine hN 16 hHeld ?_
                    refine hN 17 hHeld ?_
                    refine hN 18 hHeld ?_
                    refine hN 19 hHeld ?_
                    refine hT 20 hHeld ?_
                    refine hT 21 hHeld ?_
                    refine hN 22 hHeld ?_
                    refine hN 23 hHeld ?_
                    refine hT 24 hHeld ?_
                    refine wpAnyH_done (by kernel_rfl) ?_ _
                    clear hHeld
                    go_wp2_with fail
                    go_meet
                    exact ⟨m, rfl, HRN.out, hm1, hjm, hbR⟩
              case rest =>
              obtain ⟨m, rfl, hrn, hm1, hjm, hbR⟩ := hcut
              have b0 := HFL.out j hjn
              obtain ⟨xn, hx⟩ : ∃ n : Nat, FK.getD j 0 = (n : Int) := ⟨(FK.getD j 0).toNat, by omega⟩
              have hts := rl_step hjn hrn hx HTO.out
              rw [Int.toNat_natCast] at hts
              have hL := HSS.out.below hbR
              obtain ⟨_, _, ec, hri, _⟩ := Gi.slice hL.2.1
              cases ec
              obtain ⟨bf, of, ea, hbf, d0⟩ := hri.at (Below.refl _ _) j hjn
              subst ea
              rw [hx] at d0 b0
              have hxn : xn < 64 := by omega
              have i1 : (0 : Int) ≤ (j : Int) := by omega
              have HR : Hid (j + (m + 1) ≤ FK.length) := by show _ ≤ _; omega
              clear hrn hx HTO HSS HF hbR hri b0
              have hll : ys.length + 1 ≤ 1000000 := by omega
              rcases Nat.eq_zero_or_pos m with h0 | h0
              · subst h0
                rw [if_pos rfl] at hts
                have HTS : Hid (ys ++ [xn] ++ rl (FK.drop (j + (0 + 1))) = B0 ++ rl FK) := hts
                obtain ⟨V, hV, hN, bp⟩ : ∃ V, V = wc.alloc (.cells #[.int .u8 (xn : Int)] 5) ∧ Bk 5 V wc.heap.size [.int .u8 (xn : Int)] ∧ Below wc.heap.size wc V := ⟨_, rfl, Bk.new _ _ _, bl1 _⟩
                have n0 := hN.cell 0 (by simp)
                have hLV := hL.below bp
                have hTV := hLV.1
                have hbs := hLV.2.2.2.2.2.2.size
                have HLV : Hid (Ld W wC (.slice (some ⟨bf, of, none⟩) FK.length cf) FK (.slice ax XK.length cx) XK (.slice ay YK.length cy) YK V (.slice av ys.length cv) ys) := hLV
                have g3 : (xn : Int) % 256 = (xn : Int) := by omega
                have hxb : xn < 256 := by omega
                clear hts hN bp hL hLV
                go_upto_region 34 with fail
                go_wp2_with (at_builtin; (rw [← hV]); refine wpList_append_b13 rfl _ _ rfl W.heap.size (.slice av ys.length cv) ys rfl hTV wc.heap.size xn rfl n0 hxb hll hbs ?_)
                intro v' w9 hT9 hgrow hown
                (try rw [← hV] at hgrow)
                rw [show wc.heap.size + 1 = V.heap.size by rw [hV]; simp] at hown
                have HL9 : Hid (_) := HLV.out.app hgrow hown hT9
                clear hgrow hown hT9 hTV hV n0 hbs HLV
                go_wp2
                go_roundw
                case rel => exact ⟨j + (0 + 1), ys ++ [xn], HR.out, by go_num, HTS.out, HL9.out⟩
                case measure => simp [intOf]; omega
              · rw [if_neg (by omega)] at hts
                obtain ⟨zn, hzn⟩ : ∃ zn : Nat, (xn : Int) + 8 = (zn : Int) := ⟨xn + 8, by omega⟩
                have hz1 : xn + 8 = zn := by omega
                rw [hz1] at hts
                have hzb : zn < 256 := by omega
                have g3 : (zn : Int) % 256 = (zn : Int) := by omega
                have g4 : (m : Int) % 256 = (m : Int) := by omega
                have g5 : (0 : Int) < (m : Int) := by omega
                have hmb : m < 256 := by omega
                have HTS : Hid (ys ++ [zn] ++ [m] ++ rl (FK.drop (j + (m + 1))) = B0 ++ rl FK) := by show _ = _; rw [← hts]; simp
                obtain ⟨V, hV, hN, bp⟩ : ∃ V, V = wc.alloc (.cells #[.int .u8 (zn : Int)] 5) ∧ Bk 5 V wc.heap.size [.int .u8 (zn : Int)] ∧ Below wc.heap.size wc V := ⟨_, rfl, Bk.new _ _ _, bl1 _⟩
                have n0 := hN.cell 0 (by simp)
                have hLV := hL.below bp
                have hTV := hLV.1
                have hbs := hLV.2.2.2.2.2.2.size
                have HLV : Hid (Ld W wC (.slice (some ⟨bf, of, none⟩) FK.length cf) FK (.slice ax XK.length cx) XK (.slice ay YK.length cy) YK V (.slice av ys.length cv) ys) := hLV
                clear hts hN bp hL hLV hz1
                go_upto_region 32 with fail
                go_wp2_with (at_builtin; (rw [← hV]); refine wpList_append_b13 rfl _ _ rfl W.heap.size (.slice av ys.length cv) ys rfl hTV wc.heap.size zn rfl n0 hzb hll hbs ?_)
                intro v' w9 hT9 hgrow hown
                (try rw [← hV] at hgrow)
                rw [show wc.heap.size + 1 = V.heap.size by rw [hV]; simp] at hown
                have hL9 := HLV.out.app hgrow hown hT9
                have hyl3 : (ys ++ [zn]).length + 1 ≤ 1000000 := by rw [List.length_append, List.length_singleton]; omega
                generalize ys ++ [zn] = ys2 at *
                obtain ⟨a9, c9, rfl, _⟩ := hT9.slice
                obtain ⟨V2, hV2, hN2, bp2⟩ : ∃ V, V = w9.alloc (.cells #[.int .u8 (m : Int)] 5) ∧ Bk 5 V w9.heap.size [.int .u8 (m : Int)] ∧ Below w9.heap.size w9 V := ⟨_, rfl, Bk.new _ _ _, bl1 _⟩
                have n2 := hN2.cell 0 (by simp)
                have hLV2 := hL9.below bp2
                have hTV2 := hLV2.1
                have hbs2 := hLV2.2.2.2.2.2.2.size
                have HLV2 : Hid (Ld W wC (.slice (some ⟨bf, of, none⟩) FK.length cf) FK (.slice ax XK.length cx) XK (.slice ay YK.length cy) YK V2 (.slice a9 ys2.length c9) ys2) := hLV2
                clear hgrow hown hT9 hTV hV n0 hbs HLV hL9 hN2 bp2 hLV2 d0 hll
                go_upto_region 33 with fail
                go_wp2_with (at_builtin; (rw [← hV2]); refine wpList_append_b13 rfl _ _ rfl W.heap.size (.slice a9 ys2.length c9) ys2 rfl hTV2 w9.heap.size m rfl n2 hmb hyl3 hbs2 ?_)
                intro v8 w8 hT8 hgrow hown
                (try rw [← hV2] at hgrow)
                rw [show w9.heap.size + 1 = V2.heap.size by rw [hV2]; simp] at hown
                have HL8 : Hid (_) := HLV2.out.app hgrow hown hT8
                clear hgrow hown hT8 hTV2 hV2 n2 hbs2 HLV2
                go_wp2
                go_roundw
                case rel => exact ⟨j + (m + 1), ys2 ++ [m], HR.out, by go_num, HTS.out, HL8.out⟩
                case measure => simp [intOf]; omega
            · obtain rfl : j = FK.length := by omega
              have HYY : Hid (ys = B0 ++ rl FK) := by
                have h9 := HTO.out
                rw [List.drop_length, rl_nil, List.append_nil] at h9
                exact h9
              have g4 : ¬ (FK.length : Int) < (FK.length : Int) := by omega
              obtain ⟨_, _, e5, hr5⟩ := hLd.2.2.1.slice
              cases e5
              have hll : ys.length + XK.length ≤ 1000000 := by omega
              have hbs := hLd.2.2.2.2.2.2.size
              have hTV := hLd.1
              have HLV : Hid (Ld W wC (.slice af FK.length cf) FK (.slice ax XK.length cx) XK (.slice ay YK.length cy) YK wr (.slice av ys.length cv) ys) := hLd
              clear HTO hLd
              go_wp2_with (at_builtin; refine wpList_append_bs3 rfl _ _ rfl W.heap.size (.slice av ys.length cv) ys rfl hTV _ _ _ XK rfl rfl hr5 hll hbs ?_)
              intro v' w9 hT9 hgrow hown
              have hL9 := HLV.out.app hgrow hown hT9
              obtain ⟨ys2, hys2⟩ : ∃ l, ys ++ XK = l := ⟨_, rfl⟩
              have hyl3 : ys2.length + YK.length ≤ 1000000 := by rw [← hys2, List.length_append]; omega
              rw [hys2] at hT9 hL9
              obtain ⟨a9, c9, rfl, _⟩ := hT9.slice
              obtain ⟨_, _, e6, hr6⟩ := hL9.2.2.2.1.slice
              cases e6
              have hbs2 := hL9.2.2.2.2.2.2.size
              have hTV2 := hL9.1
              have HLV2 : Hid (Ld W wC (.slice af FK.length cf) FK (.slice ax XK.length cx) XK (.slice ay YK.length cy) YK w9 (.slice a9 ys2.length c9) ys2) := hL9
              have HY2 : Hid (B0 ++ rl FK ++ XK = ys2) := by show _ = _; rw [← HYY.out, hys2]
              clear hgrow hown hT9 hTV hbs HLV hL9 hr5 hll hys2 HYY
              go_wp2_with (at_builtin; refine wpList_append_bs3 rfl _ _ rfl W.heap.size (.slice a9 ys2.length c9) ys2 rfl hTV2 _ _ _ YK rfl rfl hr6 hyl3 hbs2 ?_)
              intro v8 w8 hT8 hgrow hown
              have hL8 := HLV2.out.app hgrow hown hT8
              obtain ⟨ys3, hys3⟩ : ∃ l, ys2 ++ YK = l := ⟨_, rfl⟩
              rw [hys3] at hT8
              obtain ⟨a8, c8, rfl, hrb⟩ := hT8.slice
              have hbW : Below w.heap.size w w8 := HB0.out.trans (hL8.2.2.2.2.2.2.mono HB0.out.size)
              have HE : Hid (D = true ∧ R = ys3) := ⟨HRR.out.1, by rw [HRR.out.2, HY2.out, hys3]⟩
              clear hgrow hown hT8 hTV2 hbs2 HLV2 hL8 hr6 hyl3 hys3 HRR
              go_wp2
              go_ret2
              exact ⟨a8, c8, by rw [HE.out.1, HE.out.2]; rfl, by rw [HE.out.2]; exact hrb, hbW⟩

end Go.Proofs.Ytdojgkejpfdaeaa
