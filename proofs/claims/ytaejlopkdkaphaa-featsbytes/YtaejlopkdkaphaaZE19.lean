/-
  foundryref22.list, Write: the walks.
  foundryref22.some: the walk.
-/
import Derived.Test.YtaejlopkdkaphaaZE18
import Derived.Test.YtaejlopkdkaphaaZE15
import Derived.Test.YtaejlopkdkaphaaZE16
import Derived.Test.YtaejlopkdkaphaaZE2
namespace Go.Proofs.Ytaejlopkdkaphaa
open Go.RowKit Go.Maps
set_option linter.unusedSimpArgs false
set_option linter.unusedVariables false

theorem z65F {z : Int} (h : -16384 ≤ z ∧ z ≤ 16384) : ∃ y, (z + 65536).tmod 65536 = y ∧ 0 ≤ y ∧ y ≤ 9223372036854775807 ∧ be2 y = be2 z := by
  refine ⟨(z + 65536) % 65536, Int.tmod_eq_emod_of_nonneg (by omega), by omega, by omega, ?_⟩
  unfold be2
  congr 1
  · congr 1; omega
  · congr 1; congr 1; omega
theorem ownsRow_raiseF {w : World} {base : Nat} {e : TypeId} {size : Nat} {v : Value} {n : Nat} {xs : List Value} (h : w.ownsRow 0 e size v n xs) (hb : ∀ g, v.ownBlock = some g → base ≤ g) : w.ownsRow base e size v n xs := by
  refine ⟨h.1, ?_⟩
  rcases h.2 with h0 | ⟨g, cap, cur, k1, k2, k3, k4⟩
  · exact .inl h0
  · exact .inr ⟨g, cap, cur, k1, hb g (by rw [k1]; rfl), k3, k4⟩
/-- 'append(b, text...)'. -/
theorem wpList_append_bt {w : World} {ops : Array Oper} {rest : List Oper} {o : Oper} {a : Act} {Q : Exit → Act → World → Prop}
    (hgd : o.guard = none) (s x : Operand) (ho : o.op = .call { callee := .builtin .append, args := #[s, x], argTypes := #[34, 9] })
    (base : Nat) (v : Value) (ys : List Nat) (hs : a.eval s = v) (hown : Bo base w v ys) (tx : ByteArray) (hx : a.eval x = .string tx) (hlen : ys.length + tx.size ≤ 1000000) (hbase : base ≤ w.heap.size)
    (h : ∀ v' w', Bo base w' v' (ys ++ sb tx) → w.grownBy w' v.ownBlock → wpList Try.prog ops Q rest (a.put o.dst v') w') : wpList Try.prog ops Q (o :: rest) a w := by
  obtain ⟨i0, hi, hz0, hz1, hz2⟩ := info_parts info_b8
  refine wpList_append_str hgd s x 34 9 ho 5 i0 Try.underlying34 Try.underlying9 hi hz0 hz1 hz2 v ys.length ys hs (ownsRow_monoB hown.2 (Nat.zero_le _)) tx hx (by omega) ?_
  intro v' w' h1 hgrow hat
  have h2 := ownsRow_raiseF (base := base) h1 (by
    intro g hg
    rcases hat with hat | hat
    · exact (hown.lo (by rw [← hat]; exact hg)).1
    · rw [hat] at hg
      cases hg
      exact hbase)
  exact h v' w' ⟨hown.1.append (byt_sb tx), by rw [List.length_append, len_sb]; exact h2⟩ hgrow
theorem Bo.neF {base : Nat} {w : World} {v : Value} {ys : List Nat} {t : TypeId} {g : Nat} {cs : List Value} (h : Bo base w v ys) (hb : Bk t w g cs) (ht : t ≠ 5) : v.ownBlock ≠ some g := by
  intro e
  rcases h.2.2 with ⟨e0, _⟩ | ⟨g', cap', cur, k1, k2, k3, k4⟩
  · rw [e0] at e; cases e
  · rw [k1] at e
    have e : some g' = some g := e
    injection e with e
    rw [e, hb] at k3
    simp at k3
    exact ht k3.2
theorem Bo.rwF {base : Nat} {w : World} {v : Value} {ys : List Nat} (h : Bo base w v ys) : ∃ a c, v = .slice a ys.length c ∧ Rw 5 base w a c ys := Rw.of h.1 h.2

set_option maxHeartbeats 4000000 in
set_option maxRecDepth 100000 in
theorem slist22_any (S : Nat → Prop) (a : Option Addr) (ca : Nat) (l : List Int) (u : World) (hl : Gr El.int S u a ca l) (hp : ∀ x ∈ l, NuP x) (hn : l.length ≤ 10) :
    Calls Try.prog 44 #[.slice a l.length ca] u fun e w' => ∃ a' c', e = .returned (.slice a' (nlE l).length c') ∧ Rb w' a' c' (nlE l) ∧ Below u.heap.size u w' := by
  have kl := hl.lenB
  have HL : Hid (Gr El.int S u a ca l) := hl
  have HPX : Hid (∀ x ∈ l, NuP x) := hp
  have HEL : Hid (∀ k, ((l.take k).flatMap be2).length ≤ 2 * 10) := flatF_take (fun x hx => by rw [be2L]; omega) hn
  have HTE : Hid (nlE l = be2 ((l.length : Nat) : Int) ++ l.flatMap be2) := rfl
  obtain ⟨B, hBB⟩ : ∃ g, u.heap.size = g := ⟨_, rfl⟩
  have HBB : Hid (u.heap.size = B) := hBB
  have HBS : Hid (∀ U, Below B u U → B ≤ U.heap.size) := fun U h => by rw [← HBB.out]; exact h.size
  clear hl hp
  go_enter Try.func44, Try.ntmps44
  go_wp2_with fail
  refine (big2_own (l.length : Int) u (by omega) (by omega)).mono ?_
  rintro e u1 ⟨v0, rfl, hI0, hB1⟩
  obtain ⟨Q, hQ⟩ : ∃ Q, be2 ((l.length : Nat) : Int) = Q := ⟨_, rfl⟩
  have HQL : Hid (Q.length = 2) := by show _ = _; rw [← hQ]; rfl
  rw [hQ] at hI0 HTE
  rw [hBB] at hI0 hB1
  clear hQ hBB
  obtain ⟨a0, c0, rfl, -⟩ := hI0.slice
  go_wp2
  go_loopw [3, 4] (fun v i wr => ∃ (k : Nat) (b : List Nat), k ≤ l.length ∧ i = .int .i64 k ∧ Hid (b = Q ++ (l.take k).flatMap be2) ∧ Bo B wr v b ∧ Below B u wr) (fun _ i _ => l.length - (intOf i).toNat)
  case atStart => exact ⟨0, Q, Nat.zero_le _, rfl, (by show _ = _; rw [List.take_zero, List.flatMap_nil, List.append_nil]), hI0, hB1⟩
  case round =>
    clear hI0 hB1
    obtain ⟨k, b, hk, rfl, Hb, hP, hB⟩ := hrel
    obtain ⟨a5, c5, e5, -⟩ := hP.slice
    subst e5
    by_cases hkn : k < l.length
    · obtain ⟨b1, off, rfl, hb1, hI, d0⟩ := HL.out.in1 (by rw [HBB.out]; exact hB) k hkn
      have hx := HPX.out _ (getF_mem (d := (0 : Int)) hkn)
      have HSJ : Hid (b ++ be2 (l.getD k 0) = Q ++ (l.take (k + 1)).flatMap be2) := by show _ = _; rw [Hb.out]; exact flatF_snoc hkn Q
      have hbl : b.length ≤ 22 := by
        have h1 := HEL.out k
        rw [Hb.out, List.length_append, HQL.out]
        omega
      generalize l.getD k 0 = x at *
      unfold NuP at hx
      obtain ⟨hx0, hx1⟩ := hx
      have i1 : (0 : Int) ≤ (k : Int) := by omega
      have i2 : (k : Int) < (l.length : Int) := by omega
      clear hkn Hb hI
      go_wp2_with fail
      refine (big2_any x _ (by omega) (by omega)).mono ?_
      rintro e v1 ⟨ab1, cb1, rfl, hrb, hb⟩
      replace hP := hP.below hb
      replace hB := hB.trans (hb.mono (HBS.out _ hB))
      clear hb d0
      have hll : b.length + (be2 x).length ≤ 1000000 := by rw [be2L]; omega
      go_wp2_with (at_builtin; refine wpList_append_bs rfl _ _ rfl B _ b rfl hP _ _ _ (be2 x) rfl rfl hrb hll (HBS.out _ hB) ?_)
      intro q2 w2 hT2 hgrow
      have hB2 : Below B u w2 := hB.grown hgrow (HBS.out _ hB) (fun q hq => (hP.lo hq).1)
      clear hgrow hP hB hll hrb
      have hP := hT2
      have hB := hB2
      clear hT2 hB2
      obtain ⟨b2, hb2⟩ : ∃ s, b ++ be2 x = s := ⟨_, rfl⟩
      have Hb2 : Hid (_) := hb2
      rw [hb2] at hP
      obtain ⟨ra2, rc2, re2, -⟩ := hP.slice
      subst re2
      clear hb2
      rw [HSJ.out] at Hb2
      have HS : Hid (b2 = Q ++ (l.take (k + 1)).flatMap be2) := Hb2.out.symm
      clear HSJ
      go_wp2
      go_roundw
      case rel => exact ⟨k + 1, b2, by omega, by go_num, HS, hP, hB⟩
      case measure => simp [intOf]; omega
    · obtain rfl : k = l.length := by omega
      have g4 : ¬ (l.length : Int) < (l.length : Int) := by omega
      have HX : Hid (b = nlE l) := by show _ = _; rw [Hb.out, List.take_length, HTE.out]
      have HR : Hid (∃ a' c', (Ending.returned (.slice a5 b.length c5)) = .returned (.slice a' (nlE l).length c') ∧ Rb wr a' c' (nlE l)) := by
        show ∃ a' c', _ ∧ _
        rw [← HX.out]
        exact ⟨a5, c5, rfl, hP.rb⟩
      clear Hb hP
      go_wp2
      go_ret
      obtain ⟨a', c', h1, h2⟩ := HR.out
      exact ⟨a', c', h1, h2, by rw [HBB.out]; exact hB⟩

set_option maxHeartbeats 8000000 in
set_option maxRecDepth 100000 in
theorem swrite22_any (S : Nat → Prop) (a : Option Addr) (ca : Nat) (l : List Ft) (b : Option Addr) (cb : Nat) (s : List Sw) (n ax : Int) (w : World) (hl : Gr FtE S w a ca l) (hs : Gr SwE S w b cb s) :
    Calls Try.prog 16 #[.slice a l.length ca, .slice b s.length cb, .int .i64 n, .int .i64 ax] w fun e w' => ∃ a' c', e = .returned (.tuple #[.slice a' (wrFB l s n ax).length c', .int .i64 (wrFE l s n ax)]) ∧ Rw 5 w.heap.size w' a' c' (wrFB l s n ax) ∧ Below w.heap.size w w' := by
  have kl := hl.lenB
  have ks := hs.lenB
  have hf1 := sfo22_any S S a ca l b cb s n ax w hl hs
  have HNO : Hid (¬ (foFt l s n ax = true ∧ n ≤ 65536 ∧ ax ≤ 65536) → wrFE l s n ax = 1 ∧ wrFB l s n ax = []) := wr22_no
  by_cases hb1 : 65536 < n
  · have g1 : decide (65536 < n) = true := decide_eq_true hb1
    have HN : Hid (_) := HNO.out (fun h => by omega)
    clear hf1 HNO
    go_enter Try.func16, Try.ntmps16
    go_wp2
    go_ret2
    exact ⟨none, 0, by rw [HN.out.1, HN.out.2]; rfl, by rw [HN.out.2]; exact Rw.nil _ _, Below.refl _ _⟩
  have g1 : decide (65536 < n) = false := decide_eq_false hb1
  by_cases hb2 : 65536 < ax
  · have g2 : decide (65536 < ax) = true := decide_eq_true hb2
    have HN : Hid (_) := HNO.out (fun h => by omega)
    clear hf1 HNO
    go_enter Try.func16, Try.ntmps16
    go_wp2
    go_ret2
    exact ⟨none, 0, by rw [HN.out.1, HN.out.2]; rfl, by rw [HN.out.2]; exact Rw.nil _ _, Below.refl _ _⟩
  have g2 : decide (65536 < ax) = false := decide_eq_false hb2
  cases hfo : foFt l s n ax with
  | false =>
    rw [hfo] at hf1
    have HN : Hid (_) := HNO.out (fun h => by rw [hfo] at h; cases h.1)
    clear hfo HNO
    go_enter Try.func16, Try.ntmps16
    go_wp2_with fail
    refine hf1.mono ?_
    rintro e u ⟨rfl, hbu⟩
    clear hf1
    go_wp2
    go_ret2
    exact ⟨none, 0, by rw [HN.out.1, HN.out.2]; rfl, by rw [HN.out.2]; exact Rw.nil _ _, hbu⟩
  | true =>
  rw [hfo] at hf1
  have HN : Hid (wrFE l s n ax = 0 ∧ wrFB l s n ax = frE22 l s) := wr22_yes ⟨hfo, by omega, by omega⟩
  obtain ⟨⟨hl1, hl2⟩, -⟩ := foFt_iff.1 hfo
  obtain ⟨hm1, hm2⟩ := foFt_mem hfo
  have HP1 : Hid (∀ x ∈ l, FtP x) := fun x hx => ftP_of (by omega) (hm1 x hx)
  have HP2 : Hid (∀ x ∈ s, SwP x) := fun x hx => swP_of (by omega) (by omega) (by omega) (hm2 x hx)
  have HE1 : Hid (∀ k, ((l.take k).flatMap ftE).length ≤ 26 * 10) := flatF_take (fun x hx => ftE_len (HP1.out x hx).1 (HP1.out x hx).2.1) hl1
  have HE2 : Hid (∀ k, ((s.take k).flatMap swE).length ≤ 50 * 6) := flatF_take (fun x hx => swE_len (HP2.out x hx).1 (HP2.out x hx).2.2.2.1) hl2
  have HTE : Hid (frE22 l s = (be2 ((l.length : Nat) : Int) ++ l.flatMap ftE) ++ (be2 ((s.length : Nat) : Int) ++ s.flatMap swE)) := rfl
  clear hfo HNO hm1 hm2
  go_enter Try.func16, Try.ntmps16
  go_wp2_with fail
  refine hf1.mono ?_
  rintro e u ⟨rfl, hbu⟩
  have HL : Hid (Gr FtE S u a ca l) := hl.below hbu
  have HS : Hid (Gr SwE S u b cb s) := hs.below hbu
  have HBW : Hid (Below w.heap.size w u) := hbu
  obtain ⟨B, hBB⟩ : ∃ g, u.heap.size = g := ⟨_, rfl⟩
  have HBB : Hid (u.heap.size = B) := hBB
  have HBS : Hid (∀ U, Below B u U → B ≤ U.heap.size) := fun U h => by rw [← HBB.out]; exact h.size
  clear hl hs hf1 hbu g1 g2
  go_wp2_with fail
  refine (big2_own (l.length : Int) u (by omega) (by omega)).mono ?_
  rintro e u1 ⟨v0, rfl, hI0, hB1⟩
  obtain ⟨Q, hQ⟩ : ∃ Q, be2 ((l.length : Nat) : Int) = Q := ⟨_, rfl⟩
  have HQL : Hid (Q.length = 2) := by show _ = _; rw [← hQ]; rfl
  rw [hQ] at hI0 HTE
  rw [hBB] at hI0 hB1
  clear hQ hBB
  obtain ⟨a0, c0, rfl, -⟩ := hI0.slice
  go_wp2
  go_loopw [10, 11] (fun v i wr => ∃ (k : Nat) (b9 : List Nat), k ≤ l.length ∧ i = .int .i64 k ∧ Hid (b9 = Q ++ (l.take k).flatMap ftE) ∧ Bo B wr v b9 ∧ Below B u wr) (fun _ i _ => l.length - (intOf i).toNat)
  case atStart => exact ⟨0, Q, Nat.zero_le _, rfl, (by show _ = _; rw [List.take_zero, List.flatMap_nil, List.append_nil]), hI0, hB1⟩
  case round =>
    clear hI0 hB1
    obtain ⟨k, b9, hk, rfl, Hb, hP, hB⟩ := hrel
    obtain ⟨a5, c5, e5, -⟩ := hP.slice
    subst e5
    by_cases hkn : k < l.length
    · obtain ⟨b1, off, xa, xc, ea, hb1, hsz, d0, d1, hr⟩ := HL.out.ft (Below.refl _ _) k hkn
      have hx := HP1.out _ (getF_mem (d := Ft.none) hkn)
      have HSJ : Hid (b9 ++ ftE (l.getD k Ft.none) = Q ++ (l.take (k + 1)).flatMap ftE) := by show _ = _; rw [Hb.out]; exact flatF_snoc hkn Q
      have hbl : b9.length ≤ 262 := by
        have h1 := HE1.out k
        rw [Hb.out, List.length_append, HQL.out]
        omega
      generalize l.getD k Ft.none = x at *
      obtain ⟨tg, lk⟩ := x
      dsimp only at *
      obtain ⟨hx1, hx2, hx3⟩ := hx
      dsimp only at hx1 hx2 hx3
      have h4 := gd_len hx1
      have h4s : tg.size = 4 := by rw [← len_sb]; exact h4
      have H4S : Hid (tg.size = 4) := h4s
      have HFE : Hid (ftE ⟨tg, lk⟩ = sb tg ++ nlE lk) := rfl
      have hgr := (rowF_rep hr).1
      have hnl := nlE_len hx2
      have HAT : Hid (∀ U, Below B u U → U.cell? ⟨b1, off + k * 2, none⟩ = some (.string tg) ∧ U.cell? ⟨b1, off + k * 2 + 1, none⟩ = some (.slice xa lk.length xc)) := fun U hU => by
        rw [← HBB.out] at hU
        exact ⟨(hU.cell (p := ⟨b1, off + k * 2, none⟩) hb1).trans d0, (hU.cell (p := ⟨b1, off + k * 2 + 1, none⟩) hb1).trans d1⟩
      have HLI : Hid (∀ U, Below B u U → Calls Try.prog 44 #[.slice xa lk.length xc] U fun e w' => ∃ a' c', e = .returned (.slice a' (nlE lk).length c') ∧ Rb w' a' c' (nlE lk) ∧ Below U.heap.size U w') := fun U hU => slist22_any S xa xc lk U (hgr.below (by rw [HBB.out]; exact hU)) hx3 hx2
      have i1 : (0 : Int) ≤ (k : Int) := by omega
      have i2 : (k : Int) < (l.length : Int) := by omega
      subst ea
      obtain ⟨d0, d1⟩ := HAT.out wr hB
      clear hkn Hb hr hgr hsz hx1 hx2 hx3 h4 h4s
      have hll : b9.length + tg.size ≤ 1000000 := by rw [H4S.out]; omega
      go_wp2_with (at_builtin; refine wpList_append_bt rfl _ _ rfl B _ b9 rfl hP tg rfl hll (HBS.out _ hB) ?_)
      intro q3 w3 hT3 hgrow
      have hB3 : Below B u w3 := hB.grown hgrow (HBS.out _ hB) (fun q hq => (hP.lo hq).1)
      clear hgrow hP hB hll
      have hP := hT3
      have hB := hB3
      clear hT3 hB3
      obtain ⟨b2, hb2⟩ : ∃ s, b9 ++ sb tg = s := ⟨_, rfl⟩
      have Hb2 : Hid (_) := hb2
      rw [hb2] at hP
      obtain ⟨ra3, rc3, re3, -⟩ := hP.slice
      subst re3
      have Lb2 : b2.length ≤ 266 := by rw [← hb2, List.length_append, len_sb, H4S.out]; omega
      clear hb2
      clear d0 d1
      obtain ⟨-, d1⟩ := HAT.out _ hB
      have hli := HLI.out _ hB
      go_wp2_with fail
      refine hli.mono ?_
      rintro e v3 ⟨la, lc, rfl, hrb, hb3⟩
      replace hP := hP.below hb3
      replace hB := hB.trans (hb3.mono (HBS.out _ hB))
      clear hli hb3 d1
      have hll : b2.length + (nlE lk).length ≤ 1000000 := by omega
      go_wp2_with (at_builtin; refine wpList_append_bs rfl _ _ rfl B _ b2 rfl hP _ _ _ (nlE lk) rfl rfl hrb hll (HBS.out _ hB) ?_)
      intro q4 w4 hT4 hgrow
      have hB4 : Below B u w4 := hB.grown hgrow (HBS.out _ hB) (fun q hq => (hP.lo hq).1)
      clear hgrow hP hB hll hrb
      have hP := hT4
      have hB := hB4
      clear hT4 hB4
      obtain ⟨b3, hb3⟩ : ∃ s, b2 ++ nlE lk = s := ⟨_, rfl⟩
      have Hb3 : Hid (_) := hb3
      rw [hb3] at hP
      obtain ⟨ra4, rc4, re4, -⟩ := hP.slice
      subst re4
      clear hb3
      have HS9 : Hid (b3 = Q ++ (l.take (k + 1)).flatMap ftE) := by show _ = _; rw [← HSJ.out, HFE.out, ← Hb3.out, ← Hb2.out, List.append_assoc]
      clear HSJ HFE HAT HLI Hb2 Hb3
      go_wp2
      go_roundw
      case rel => exact ⟨k + 1, b3, by omega, by go_num, HS9, hP, hB⟩
      case measure => simp [intOf]; omega
    · have hkl : k = l.length := by omega
      have g4 : ¬ (k : Int) < (l.length : Int) := by omega
      have HX : Hid (b9 = Q ++ l.flatMap ftE) := by show _ = _; rw [Hb.out, hkl, List.take_length]
      have hbl : b9.length ≤ 262 := by
        have h1 := HE1.out k
        rw [Hb.out, List.length_append, HQL.out]
        omega
      clear Hb hkn hkl
      go_wp2_with fail
      refine (big2_any (s.length : Int) _ (by omega) (by omega)).mono ?_
      rintro e v5 ⟨ab5, cb5, rfl, hrb, hb⟩
      replace hP := hP.below hb
      replace hB := hB.trans (hb.mono (HBS.out _ hB))
      clear hb
      obtain ⟨P0, hP0⟩ : ∃ P, be2 ((s.length : Nat) : Int) = P := ⟨_, rfl⟩
      have HPL : Hid (P0.length = 2) := by show _ = _; rw [← hP0]; rfl
      have HP0 : Hid (_) := hP0
      rw [hP0] at hrb HTE ⊢
      clear hP0
      have hll : b9.length + (P0).length ≤ 1000000 := by rw [HPL.out]; omega
      go_wp2_with (at_builtin; refine wpList_append_bs rfl _ _ rfl B _ b9 rfl hP _ _ _ (P0) rfl rfl hrb hll (HBS.out _ hB) ?_)
      intro q6 w6 hT6 hgrow
      have hB6 : Below B u w6 := hB.grown hgrow (HBS.out _ hB) (fun q hq => (hP.lo hq).1)
      clear hgrow hP hB hll hrb
      have hP := hT6
      have hB := hB6
      clear hT6 hB6
      obtain ⟨b4, hb4⟩ : ∃ s, b9 ++ P0 = s := ⟨_, rfl⟩
      have Hb4 : Hid (_) := hb4
      rw [hb4] at hP
      obtain ⟨ra6, rc6, re6, -⟩ := hP.slice
      subst re6
      have Lb4 : b4.length ≤ 264 := by rw [← hb4, List.length_append, HPL.out]; omega
      clear hb4
      have HTF : Hid (frE22 l s = b4 ++ s.flatMap swE) := by show _ = _; rw [HTE.out, ← Hb4.out, HX.out]; simp only [List.append_assoc]
      have HB4 : Hid (Bo B _ _ b4) := hP
      have HB5 : Hid (Below B u _) := hB
      clear hP hB HTE HX Hb4
      go_wp2
      go_loopw [10, 12] (fun v i wx => ∃ (k : Nat) (b9 : List Nat), k ≤ s.length ∧ i = .int .i64 k ∧ Hid (b9 = b4 ++ (s.take k).flatMap swE) ∧ Bo B wx v b9 ∧ Below B u wx) (fun _ i _ => s.length - (intOf i).toNat)
      case atStart => exact ⟨0, b4, Nat.zero_le _, rfl, (by show _ = _; rw [List.take_zero, List.flatMap_nil, List.append_nil]), HB4.out, HB5.out⟩
      case round =>
        clear HB4 HB5
        rename World => wx
        obtain ⟨k, b9, hk, rfl, Hb, hP, hB⟩ := hrel
        obtain ⟨a5, c5, e5, -⟩ := hP.slice
        subst e5
        by_cases hkn : k < s.length
        rotate_left
        · have hkl : k = s.length := by omega
          have g4 : ¬ (k : Int) < (s.length : Int) := by omega
          have HXX : Hid (b9 = wrFB l s n ax) := by show _ = _; rw [Hb.out, hkl, List.take_length, HN.out.2, HTF.out]
          have HR : Hid (∃ a' c', (Ending.returned (.tuple #[.slice a5 b9.length c5, .int .i64 0])) = .returned (.tuple #[.slice a' (wrFB l s n ax).length c', .int .i64 (wrFE l s n ax)]) ∧ Rw 5 w.heap.size wx a' c' (wrFB l s n ax)) := by
            show ∃ a' c', _ ∧ _
            rw [← HXX.out, HN.out.1]
            obtain ⟨a9, c9, e9, hr9⟩ := hP.rwF
            injection e9 with e1 e2 e3
            subst e1 e3
            exact ⟨a5, c5, rfl, hr9.mono (by rw [← HBB.out]; exact HBW.out.size)⟩
          have hfin := HBW.out.trans (hB.mono (by rw [← HBB.out]; exact HBW.out.size))
          clear Hb hP hkn hkl HXX
          go_wp2
          go_ret2
          obtain ⟨a', c', h1, h2⟩ := HR.out
          exact ⟨a', c', h1, h2, hfin⟩
        obtain ⟨b1, off, xa, xc, ya, yc, ea, hb1, hft, d0, d1, d2, hr1, hr2⟩ := HS.out.sw (Below.refl _ _) k hkn
        have hx := HP2.out _ (getF_mem (d := Sw.none) hkn)
        have HSJ : Hid (b9 ++ swE (s.getD k Sw.none) = b4 ++ (s.take (k + 1)).flatMap swE) := by show _ = _; rw [Hb.out]; exact flatF_snoc hkn b4
        have hbl2 : b9.length ≤ 564 := by
          have h1 := HE2.out k
          rw [Hb.out, List.length_append]
          omega
        generalize s.getD k Sw.none = x at *
        obtain ⟨cn, ft, lk⟩ := x
        dsimp only at *
        obtain ⟨hx1, hx2, hx3, hx4, hx5⟩ := hx
        dsimp only at hx1 hx2 hx3 hx4 hx5
        unfold NuP at hx3
        obtain ⟨hx31, hx32⟩ := hx3
        have HFE : Hid (swE ⟨cn, ft, lk⟩ = (be2 ((cn.length : Nat) : Int) ++ cn.flatMap cnE) ++ (be2 ft ++ nlE lk)) := rfl
        have hgr := (rowF_rep hr2).1
        have hgc := (rowF_rep hr1).1
        have hnl := nlE_len hx4
        have kc := hgc.lenB
        have HEC : Hid (∀ j, ((cn.take j).flatMap cnE).length ≤ 6 * 4) := flatF_take (fun x hx => by rw [cnE_len]; omega) hx1
        have HPC : Hid (∀ y ∈ cn, CnP y) := hx2
        have HGC : Hid (Gr CnE S u xa xc cn) := hgc
        have HAT : Hid (∀ U, Below B u U → U.cell? ⟨b1, off + k * 3, none⟩ = some (.slice xa cn.length xc) ∧ U.cell? ⟨b1, off + k * 3 + 1, none⟩ = some (.int .i64 ft) ∧ U.cell? ⟨b1, off + k * 3 + 2, none⟩ = some (.slice ya lk.length yc)) := fun U hU => by
          rw [← HBB.out] at hU
          exact ⟨(hU.cell (p := ⟨b1, off + k * 3, none⟩) hb1).trans d0, (hU.cell (p := ⟨b1, off + k * 3 + 1, none⟩) hb1).trans d1, (hU.cell (p := ⟨b1, off + k * 3 + 2, none⟩) hb1).trans d2⟩
        have HLI : Hid (∀ U, Below B u U → Calls Try.prog 44 #[.slice ya lk.length yc] U fun e w' => ∃ a' c', e = .returned (.slice a' (nlE lk).length c') ∧ Rb w' a' c' (nlE lk) ∧ Below U.heap.size U w') := fun U hU => slist22_any S ya yc lk U (hgr.below (by rw [HBB.out]; exact hU)) hx5 hx4
        have i1 : (0 : Int) ≤ (k : Int) := by omega
        have i2 : (k : Int) < (s.length : Int) := by omega
        subst ea
        obtain ⟨d0, d1, d2⟩ := HAT.out wx hB
        clear hkn Hb hr1 hr2 hgr hgc hx2 hx4 hx5
        go_wp2_with fail
        refine (big2_any (cn.length : Int) _ (by omega) (by omega)).mono ?_
        rintro e v7 ⟨ab7, cb7, rfl, hrb, hb⟩
        replace hP := hP.below hb
        replace hB := hB.trans (hb.mono (HBS.out _ hB))
        clear hb d0 d1 d2
        obtain ⟨C0, hC0⟩ : ∃ P, be2 ((cn.length : Nat) : Int) = P := ⟨_, rfl⟩
        have HCL : Hid (C0.length = 2) := by show _ = _; rw [← hC0]; rfl
        rw [hC0] at hrb HFE ⊢
        clear hC0
        have hll : b9.length + (C0).length ≤ 1000000 := by rw [HCL.out]; omega
        go_wp2_with (at_builtin; refine wpList_append_bs rfl _ _ rfl B _ b9 rfl hP _ _ _ (C0) rfl rfl hrb hll (HBS.out _ hB) ?_)
        intro q8 w8 hT8 hgrow
        have hB8 : Below B u w8 := hB.grown hgrow (HBS.out _ hB) (fun q hq => (hP.lo hq).1)
        clear hgrow hP hB hll hrb
        have hP := hT8
        have hB := hB8
        clear hT8 hB8
        obtain ⟨c9, hc9⟩ : ∃ s, b9 ++ C0 = s := ⟨_, rfl⟩
        have Hc9 : Hid (_) := hc9
        rw [hc9] at hP
        obtain ⟨ra8, rc8, re8, -⟩ := hP.slice
        subst re8
        have Lc9 : c9.length ≤ 566 := by rw [← hc9, List.length_append, HCL.out]; omega
        clear hc9
        have HB4 : Hid (Bo B _ _ c9) := hP
        have HB5 : Hid (Below B u _) := hB
        clear hP hB
        go_wp2
        go_loopw [10, 13] (fun v i wy => ∃ (j : Nat) (e9 : List Nat), j ≤ cn.length ∧ i = .int .i64 j ∧ Hid (e9 = c9 ++ (cn.take j).flatMap cnE) ∧ Bo B wy v e9 ∧ Below B u wy) (fun _ i _ => cn.length - (intOf i).toNat)
        case atStart => exact ⟨0, c9, Nat.zero_le _, rfl, (by show _ = _; rw [List.take_zero, List.flatMap_nil, List.append_nil]), HB4.out, HB5.out⟩
        case round =>
          clear HB4 HB5
          rename World => wy
          obtain ⟨j, e9, hj, rfl, He, hP, hB⟩ := hrel
          obtain ⟨a6, c6, e6, -⟩ := hP.slice
          subst e6
          obtain ⟨d0, d1, d2⟩ := HAT.out wy hB
          have hel : e9.length ≤ 590 := by
            have h1 := HEC.out j
            rw [He.out, List.length_append]
            omega
          by_cases hjn : j < cn.length
          · obtain ⟨b5, o5, ec, hb5, ⟨m1, m2, m3⟩, y0, y1, y2⟩ := HGC.out.cn (by rw [HBB.out]; exact hB) j hjn
            have hc := HPC.out _ (getF_mem (d := Cn.none) hjn)
            have HSC : Hid (e9 ++ cnE (cn.getD j Cn.none) = c9 ++ (cn.take (j + 1)).flatMap cnE) := by show _ = _; rw [He.out]; exact flatF_snoc hjn c9
            generalize cn.getD j Cn.none = t at *
            obtain ⟨t1, t2, t3⟩ := t
            obtain ⟨q1, q2, q3⟩ := hc
            unfold NuP at q1
            dsimp only at *
            obtain ⟨z2, gz2, z20, z21, hz2⟩ := z65F q2
            obtain ⟨z3, gz3, z30, z31, hz3⟩ := z65F q3
            have HCE : Hid (cnE ⟨t1, t2, t3⟩ = be2 t1 ++ (be2 z2 ++ be2 z3)) := by show _ = _; rw [hz2, hz3]; rfl
            obtain ⟨q11, q12⟩ := q1
            obtain ⟨q21, q22⟩ := q2
            obtain ⟨q31, q32⟩ := q3
            have i5 : (0 : Int) ≤ (j : Int) := by omega
            have i6 : (j : Int) < (cn.length : Int) := by omega
            subst ec
            obtain ⟨U, hU, XG, hbU⟩ : ∃ U, U = wy.alloc (.cells #[.int .i64 t1, .int .i64 t2, .int .i64 t3] 46) ∧ Bk 46 U wy.heap.size [.int .i64 t1, .int .i64 t2, .int .i64 t3] ∧ Below wy.heap.size wy U := ⟨_, rfl, Bk.new _ _ _, bl1 _⟩
            replace hP := hP.below hbU
            replace hB := hB.trans (hbU.mono (HBS.out _ hB))
            obtain ⟨r0, r1, r2, -⟩ := XG.three
            go_upto_region 18 with fail
            rw [← hU]
            clear hU d0 d1 d2 y0 y1 y2 hjn He hz2 hz3 hbU m1 m2 m3
            go_wp2_with fail
            refine (big2_any t1 _ (by omega) (by omega)).mono ?_
            rintro e v9 ⟨ab9, cb9, rfl, hrb, hb⟩
            replace hP := hP.below hb
            replace hB := hB.trans (hb.mono (HBS.out _ hB))
            replace XG := XG.below hb
            clear hb r0 r1 r2
            obtain ⟨r0, r1, r2, -⟩ := XG.three
            have hll : e9.length + (be2 t1).length ≤ 1000000 := by rw [be2L]; omega
            go_wp2_with (at_builtin; refine wpList_append_bs rfl _ _ rfl B _ e9 rfl hP _ _ _ (be2 t1) rfl rfl hrb hll (HBS.out _ hB) ?_)
            intro q10 w10 hT10 hgrow
            have hB10 : Below B u w10 := hB.grown hgrow (HBS.out _ hB) (fun q hq => (hP.lo hq).1)
            have XG10 := XG.grown hgrow (hP.neF XG (by decide))
            clear hgrow hP hB hll hrb XG r0 r1 r2
            have hP := hT10
            have hB := hB10
            have XG := XG10
            clear hT10 hB10 XG10
            obtain ⟨r0, r1, r2, -⟩ := XG.three
            obtain ⟨f1, hf1⟩ : ∃ s, e9 ++ be2 t1 = s := ⟨_, rfl⟩
            have Hf1 : Hid (_) := hf1
            rw [hf1] at hP
            obtain ⟨ra10, rc10, re10, -⟩ := hP.slice
            subst re10
            have Lf1 : f1.length ≤ 592 := by rw [← hf1, List.length_append, be2L]; omega
            clear hf1
            go_wp2_with fail
            refine (big2_any z2 _ z20 z21).mono ?_
            rintro e v11 ⟨ab11, cb11, rfl, hrb, hb⟩
            replace hP := hP.below hb
            replace hB := hB.trans (hb.mono (HBS.out _ hB))
            replace XG := XG.below hb
            clear hb r0 r1 r2
            obtain ⟨r0, r1, r2, -⟩ := XG.three
            have hll : f1.length + (be2 z2).length ≤ 1000000 := by rw [be2L]; omega
            go_wp2_with (at_builtin; refine wpList_append_bs rfl _ _ rfl B _ f1 rfl hP _ _ _ (be2 z2) rfl rfl hrb hll (HBS.out _ hB) ?_)
            intro q12 w12 hT12 hgrow
            have hB12 : Below B u w12 := hB.grown hgrow (HBS.out _ hB) (fun q hq => (hP.lo hq).1)
            have XG12 := XG.grown hgrow (hP.neF XG (by decide))
            clear hgrow hP hB hll hrb XG r0 r1 r2
            have hP := hT12
            have hB := hB12
            have XG := XG12
            clear hT12 hB12 XG12
            obtain ⟨r0, r1, r2, -⟩ := XG.three
            obtain ⟨f2, hf2⟩ : ∃ s, f1 ++ be2 z2 = s := ⟨_, rfl⟩
            have Hf2 : Hid (_) := hf2
            rw [hf2] at hP
            obtain ⟨ra12, rc12, re12, -⟩ := hP.slice
            subst re12
            have Lf2 : f2.length ≤ 594 := by rw [← hf2, List.length_append, be2L]; omega
            clear hf2
            go_wp2_with fail
            refine (big2_any z3 _ z30 z31).mono ?_
            rintro e v13 ⟨ab13, cb13, rfl, hrb, hb⟩
            replace hP := hP.below hb
            replace hB := hB.trans (hb.mono (HBS.out _ hB))
            replace XG := XG.below hb
            clear hb r0 r1 r2
            obtain ⟨r0, r1, r2, -⟩ := XG.three
            have hll : f2.length + (be2 z3).length ≤ 1000000 := by rw [be2L]; omega
            go_wp2_with (at_builtin; refine wpList_append_bs rfl _ _ rfl B _ f2 rfl hP _ _ _ (be2 z3) rfl rfl hrb hll (HBS.out _ hB) ?_)
            intro q14 w14 hT14 hgrow
            have hB14 : Below B u w14 := hB.grown hgrow (HBS.out _ hB) (fun q hq => (hP.lo hq).1)
            have XG14 := XG.grown hgrow (hP.neF XG (by decide))
            clear hgrow hP hB hll hrb XG r0 r1 r2
            have hP := hT14
            have hB := hB14
            have XG := XG14
            clear hT14 hB14 XG14
            obtain ⟨r0, r1, r2, -⟩ := XG.three
            obtain ⟨f3, hf3⟩ : ∃ s, f2 ++ be2 z3 = s := ⟨_, rfl⟩
            have Hf3 : Hid (_) := hf3
            rw [hf3] at hP
            obtain ⟨ra14, rc14, re14, -⟩ := hP.slice
            subst re14
            have Lf3 : f3.length ≤ 596 := by rw [← hf3, List.length_append, be2L]; omega
            clear hf3
            have HS9 : Hid (f3 = c9 ++ (cn.take (j + 1)).flatMap cnE) := by show _ = _; rw [← HSC.out, HCE.out, ← Hf3.out, ← Hf2.out, ← Hf1.out]; simp only [List.append_assoc]
            clear HSC HCE Hf1 Hf2 Hf3 XG r0 r1 r2
            go_wp2
            go_roundw
            case rel => exact ⟨j + 1, f3, by omega, by go_num, HS9, hP, hB⟩
            case measure => simp [intOf]; omega
          · have hkj : j = cn.length := by omega
            have g4 : ¬ (j : Int) < (cn.length : Int) := by omega
            have HX : Hid (e9 = c9 ++ cn.flatMap cnE) := by show _ = _; rw [He.out, hkj, List.take_length]
            clear He hjn hkj
            go_wp2_with fail
            refine (big2_any ft _ (by omega) (by omega)).mono ?_
            rintro e v15 ⟨ab15, cb15, rfl, hrb, hb⟩
            replace hP := hP.below hb
            replace hB := hB.trans (hb.mono (HBS.out _ hB))
            clear hb d0 d1 d2
            have hll : e9.length + (be2 ft).length ≤ 1000000 := by rw [be2L]; omega
            go_wp2_with (at_builtin; refine wpList_append_bs rfl _ _ rfl B _ e9 rfl hP _ _ _ (be2 ft) rfl rfl hrb hll (HBS.out _ hB) ?_)
            intro q16 w16 hT16 hgrow
            have hB16 : Below B u w16 := hB.grown hgrow (HBS.out _ hB) (fun q hq => (hP.lo hq).1)
            clear hgrow hP hB hll hrb
            have hP := hT16
            have hB := hB16
            clear hT16 hB16
            obtain ⟨f4, hf4⟩ : ∃ s, e9 ++ be2 ft = s := ⟨_, rfl⟩
            have Hf4 : Hid (_) := hf4
            rw [hf4] at hP
            obtain ⟨ra16, rc16, re16, -⟩ := hP.slice
            subst re16
            have Lf4 : f4.length ≤ 592 := by rw [← hf4, List.length_append, be2L]; omega
            clear hf4
            obtain ⟨d0, d1, d2⟩ := HAT.out _ hB
            have hli := HLI.out _ hB
            go_wp2_with fail
            refine hli.mono ?_
            rintro e v99 ⟨la, lc, rfl, hrb, hb3⟩
            replace hP := hP.below hb3
            replace hB := hB.trans (hb3.mono (HBS.out _ hB))
            clear hli hb3 d0 d1 d2
            have hll : f4.length + (nlE lk).length ≤ 1000000 := by omega
            go_wp2_with (at_builtin; refine wpList_append_bs rfl _ _ rfl B _ f4 rfl hP _ _ _ (nlE lk) rfl rfl hrb hll (HBS.out _ hB) ?_)
            intro q17 w17 hT17 hgrow
            have hB17 : Below B u w17 := hB.grown hgrow (HBS.out _ hB) (fun q hq => (hP.lo hq).1)
            clear hgrow hP hB hll hrb
            have hP := hT17
            have hB := hB17
            clear hT17 hB17
            obtain ⟨f5, hf5⟩ : ∃ s, f4 ++ nlE lk = s := ⟨_, rfl⟩
            have Hf5 : Hid (_) := hf5
            rw [hf5] at hP
            obtain ⟨ra17, rc17, re17, -⟩ := hP.slice
            subst re17
            clear hf5
            have HS9 : Hid (f5 = b4 ++ (s.take (k + 1)).flatMap swE) := by show _ = _; rw [← HSJ.out, HFE.out, ← Hf5.out, ← Hf4.out, HX.out, ← Hc9.out]; simp only [List.append_assoc]
            clear HSJ HFE HX Hf4 Hf5 HAT HLI HGC HPC HEC Hc9
            go_wp2
            go_roundw
            case rel => exact ⟨k + 1, f5, by omega, by go_num, HS9, hP, hB⟩
            case measure => simp [intOf]; omega

end Go.Proofs.Ytaejlopkdkaphaa

namespace Go.Proofs.Ytaejlopkdkaphaa
open Go.RowKit Go.Maps
set_option linter.unusedSimpArgs false
set_option linter.unusedVariables false

theorem mnU_two (k : Nat) : ∀ b : List Nat, mnU two_ k b = 2 * k := by
  induction k with
  | zero => intro b; rfl
  | succ k ih => intro b; rw [mnU, ih]; unfold two_; omega
theorem mnU_six (k : Nat) : ∀ b : List Nat, mnU six_ k b = 6 * k := by
  induction k with
  | zero => intro b; rfl
  | succ k ih => intro b; rw [mnU, ih]; unfold six_; omega

set_option maxHeartbeats 4000000 in
set_option maxRecDepth 100000 in
theorem ssome22_any (a : Option Addr) (cap : Nat) (xs : List Nat) (p : Nat) (w : World) (hx : Rb w a cap xs) (hp : p ≤ 20000) :
    Calls Try.prog 51 #[.slice a xs.length cap, .int .i64 (p : Int)] w fun e w' => ∃ a' c', e = .returned (.tuple #[.slice a' (nlV (xs.drop p)).length c', .int .i64 ((p + nlU (xs.drop p) : Nat) : Int)]) ∧ El.int.row.rep (fun k => w.heap.size ≤ k) w' [.slice a' (nlV (xs.drop p)).length c'] (nlV (xs.drop p)) ∧ Below w.heap.size w w' := by
  have hpc := hx.le
  have hpm := hx.cap
  unfold maxLen at hpm
  have HX : Hid (Rb w a cap xs) := hx
  have hu := su16_any a cap xs (p : Int) w hx ⟨by omega, by omega⟩
  rw [nmV_hd2] at hu
  have HLV : Hid (nlV (xs.drop p) = mnV nuV two_ (ctV 10 (xs.drop p)) (xs.drop (p + 2))) := by show _ = _; rw [nlV, lsV, List.drop_drop]
  have HLU : Hid (p + nlU (xs.drop p) = p + 2 + 2 * ctV 10 (xs.drop p)) := by show _ = _; rw [nlU, lsU, mnU_two]; omega
  have HST : Hid (∀ k, mnV nuV two_ (k + 1) (xs.drop (p + 2)) = mnV nuV two_ k (xs.drop (p + 2)) ++ [nuV (xs.drop (p + 2 + 2 * k))]) := fun k => by
    have h := (mnV_succ (f := nuV) (u := two_) k (xs.drop (p + 2))).1
    rw [mnU_two, List.drop_drop] at h
    exact h
  have HCT : Hid (ctV 10 (xs.drop p) = min (hd2 (xs.drop p)) 11) := rfl
  have hn6 := hd2_ltF (hx.lim.drop p)
  obtain ⟨n, hn⟩ : ∃ n, hd2 (xs.drop p) = n := ⟨_, rfl⟩
  obtain ⟨N, hN⟩ : ∃ N, ctV 10 (xs.drop p) = N := ⟨_, rfl⟩
  rw [hn] at hu hn6 HCT
  rw [hN] at HLV HLU HCT
  have hNn : N ≤ n ∧ N ≤ 11 := by have := HCT.out; omega
  obtain ⟨hN1, hN2⟩ := hNn
  have HNX : Hid (¬ (N < n ∧ N ≤ 10)) := fun h => by have := HCT.out; omega
  generalize inB xs.length (p : Int) 2 = th0 at hu
  clear hx hn hN
  obtain ⟨g, hgg⟩ : ∃ n, w.heap.size = n := ⟨_, rfl⟩
  have HG : Hid (w.heap.size = g) := hgg
  clear hgg
  go_enter Try.func51, Try.ntmps51
  go_wp2_with fail
  refine hu.mono ?_
  rintro e u0 ⟨rfl, rfl⟩
  clear hu
  go_wp2
  go_loopw [1, 8, 9] (fun pv v i wr => ∃ (k q : Nat), k ≤ N ∧ pv = .int .i64 (q : Int) ∧ i = .int .i64 (k : Int) ∧ Hid (q = p + 2 + 2 * k) ∧ q ≤ 20100 ∧ Gw El.int 3 g (fun k => g ≤ k) wr v (mnV nuV two_ k (xs.drop (p + 2))) ∧ Below w.heap.size w wr) (fun _ _ i _ => N - (intOf i).toNat)
  case atStart => exact ⟨0, p + 2, Nat.zero_le _, by go_num, rfl, (by show _ = _; omega), by omega, Gw.nil _ _ _ _ _, Below.refl _ _⟩
  case round =>
    obtain ⟨k, q, hk, rfl, rfl, HQ, hq, hGw, hB⟩ := hrel
    obtain ⟨a7, c7, e7, -, -⟩ := hGw.slice
    subst e7
    rw [mnV_len] at hGw ⊢
    by_cases hkn : k < N
    rotate_left
    · have hkN : k = N := by omega
      have HLN : Hid ((nlV (xs.drop p)).length = k) := by show _ = _; rw [HLV.out, mnV_len, hkN]
      have HAT : Hid (p + nlU (xs.drop p) = q) := by show _ = _; rw [HLU.out, HQ.out, hkN]
      have HRP : Hid (∃ a' c', (Value.slice a7 k c7) = .slice a' (nlV (xs.drop p)).length c' ∧ El.int.row.rep (fun k => w.heap.size ≤ k) wr [.slice a' (nlV (xs.drop p)).length c'] (nlV (xs.drop p))) := by
        rw [hkN, ← HLV.out] at hGw
        have h2 : (nlV (xs.drop p)).length ≤ 100000 := by rw [HLN.out]; omega
        obtain ⟨a', c', e1, hr⟩ := hGw.repF h2
        show ∃ a' c', _ ∧ _
        rw [HG.out]
        exact ⟨a', c', by rw [hkN]; exact e1, hr⟩
      have HFIN : Hid (Below w.heap.size w wr) := hB
      have hKX := HNX.out
      clear hGw HLV HLU HST HCT HNX hkn hB
      by_cases hkm : k < n
      · have g1 : decide ((k : Int) < (n : Int)) = true := decide_eq_true (by omega)
        have g2 : decide ((k : Int) ≤ 10) = false := decide_eq_false (by omega)
        have g1n : decide (k < n) = true := decide_eq_true hkm
        have g2n : decide (k ≤ 10) = false := decide_eq_false (by omega)
        clear hkN hKX
        go_wp2
        go_ret2
        obtain ⟨a', c', e1, hr⟩ := HRP.out
        exact ⟨a', c', by rw [HAT.out, e1]; rfl, hr, HFIN.out⟩
      · have g1 : decide ((k : Int) < (n : Int)) = false := decide_eq_false (by omega)
        have g1n : decide (k < n) = false := decide_eq_false hkm
        clear hkN hKX
        go_wp2
        go_ret2
        obtain ⟨a', c', e1, hr⟩ := HRP.out
        exact ⟨a', c', by rw [HAT.out, e1]; rfl, hr, HFIN.out⟩
    have g1 : decide ((k : Int) < (n : Int)) = true := decide_eq_true (by omega)
    have g2 : decide ((k : Int) ≤ 10) = true := decide_eq_true (by omega)
    have g1n : decide (k < n) = true := decide_eq_true (by omega)
    have g2n : decide (k ≤ 10) = true := decide_eq_true (by omega)
    have hu := su16_any a cap xs (q : Int) wr (HX.out.below hB) ⟨by omega, by omega⟩
    rw [nmV_hd2] at hu
    have HS1 : Hid (mnV nuV two_ (k + 1) (xs.drop (p + 2)) = mnV nuV two_ k (xs.drop (p + 2)) ++ [nuV (xs.drop q)]) := by show _ = _; rw [HQ.out]; exact HST.out k
    have hvb := nuV_b HX.out.lim q
    have HNV : Hid (((hd2 (xs.drop q) : Nat) : Int) = nuV (xs.drop q)) := rfl
    have HQ2 : Hid (q + 2 = p + 2 + 2 * (k + 1)) := by show _ = _; rw [HQ.out]; omega
    have hq2 : q + 2 ≤ 20100 := by have := HQ.out; omega
    have HLM : Hid ((mnV nuV two_ k (xs.drop (p + 2))).length = k) := mnV_len _ _
    have HOW : Hid (∀ q, (Value.slice a7 k c7).ownBlock = some q → g ≤ q) := fun q e => (hGw.lo e).1
    rw [HNV.out] at hu
    obtain ⟨x, hxx⟩ : ∃ x, nuV (xs.drop q) = x := ⟨_, rfl⟩
    rw [hxx] at hu hvb HS1
    generalize inB xs.length (q : Int) 2 = th at hu
    obtain ⟨M, hM⟩ : ∃ M, mnV nuV two_ k (xs.drop (p + 2)) = M := ⟨_, rfl⟩
    rw [hM] at hGw HS1 HLM
    have hI : I64 x := ⟨by omega, by omega⟩
    clear HNV hxx HQ hM hvb HST
    go_wp2_with fail
    refine hu.mono ?_
    rintro e u4 ⟨rfl, rfl⟩
    clear hu
    obtain ⟨V9, hV9, Y9, hb9⟩ : ∃ W, W = wr.alloc (.cells #[.int .i64 x] 3) ∧ Bk 3 W wr.heap.size [.int .i64 x] ∧ Below wr.heap.size wr W := ⟨_, rfl, Bk.new _ _ _, bl1 _⟩
    have hrep : El.int.rep (fun q => g ≤ q ∧ (Value.slice a7 k c7).ownBlock ≠ some q) V9 [.int .i64 x] x := El.int_rep.2 ⟨rfl, hI⟩
    have hone := Gr.one (E := El.int) hrep Y9.lt (fun j hj => Y9.cell j hj)
    have hGb := hGw.below hb9
    have hBb := hB.trans (hb9.mono hB.size)
    have hbs : g ≤ V9.heap.size := by rw [← HG.out]; exact hBb.size
    have hll : M.length + 1 ≤ 1000000 := by have := HLM.out; omega
    clear hrep hGw hB hI
    go_wp2_with (at_builtin; rw [← hV9]; refine wpList_append_el (E := El.int) 26 3 Try.underlying26 info_i64F rfl (by decide) (by decide) rfl _ _ rfl g (fun k => g ≤ k) _ M rfl hGb (some ⟨wr.heap.size, 0, none⟩) 1 1 [x] rfl rfl hone hll hbs ?_)
    intro v9 w9 hT9 hgrow _
    try rw [← hV9] at hgrow
    rw [← HS1.out] at hT9
    have hB9 : Below w.heap.size w w9 := hBb.grown hgrow hBb.size (fun q hq => by rw [HG.out]; exact HOW.out q hq)
    clear hgrow hGb hone hbs hll hV9 Y9 hb9 hBb HOW HS1 HLM
    go_wp2
    go_roundw
    case rel => exact ⟨k + 1, q + 2, by omega, by go_num, by go_num, HQ2, by omega, hT9, hB9⟩
    case measure => simp [intOf]; omega

end Go.Proofs.Ytaejlopkdkaphaa
