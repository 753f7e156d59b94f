/-
  Rows of bytes that grow; foundryref05.file: the walk.
-/
import Derived.Test.YtijehnfadpoapaaSR3
namespace Go.Proofs.Ytijehnfadpoapaa
open Go.RowKit Go.Maps
set_option linter.unusedSimpArgs false
set_option linter.unusedVariables false

theorem Rw.low {e : TypeId} {base : Nat} {w : World} {a : Option Addr} {cap : Nat} {xs : List Nat} (h : Rw e base w a cap xs) : ∀ k, (Value.slice a xs.length cap).ownBlock = some k → base ≤ k := by
  intro k hk
  rcases h.2.2 with ⟨e0, _⟩ | ⟨g, cap', cur, e0, hbg, _⟩
  · rw [e0] at hk; cases hk
  · rw [e0] at hk; cases hk; exact hbg
theorem ownsRow_raise {w : World} {base : Nat} {e : TypeId} {size : Nat} {v : Value} {n : Nat} {xs : List Value} (h : w.ownsRow 0 e size v n xs) (hb : ∀ g, v.ownBlock = some g → base ≤ g) : w.ownsRow base e size v n xs := by
  refine ⟨h.1, ?_⟩
  rcases h.2 with h0 | ⟨g, cap, cur, h1, h2, h3⟩
  · exact .inl h0
  · exact .inr ⟨g, cap, cur, h1, hb g (by rw [h1]; rfl), h3⟩

section
variable {P : Program} {w : World} {ops : Array Oper} {rest : List Oper} {o : Oper} {a : Act} {Q : Exit → Act → World → Prop}
/-- 'append(out, src...)', where out is a row made since w0. -/
theorem wpList_append_rw (hgd : o.guard = none) (s x : Operand) (t : TypeId) (ho : o.op = .call { callee := .builtin .append, args := #[s, x], argTypes := #[t, t] })
    (w0 : World) (e : TypeId) (i : TypeInfo) (ht : P.underlying t = some (.slice e)) (hi : P.info? e = some i) (hz : i.zero = some (.int .u8 0)) (hsize : i.size = 1) (hby : i.bytes = 1)
    (a1 : Option Addr) (c1 : Nat) (ys : List Nat) (hs : a.eval s = .slice a1 ys.length c1) (hr : Rw e w0.heap.size w a1 c1 ys) (hB : Below w0.heap.size w0 w)
    (ad : Option Addr) (c m : Nat) (zs : List Nat) (hx : a.eval x = .slice ad m c) (hm : m = zs.length) (hrd : Rb w ad c zs) (hlen : ys.length + zs.length ≤ 2000000000)
    (h : ∀ a' c' ts w', Hid (ts = ys ++ zs) → Hid (Rw e w0.heap.size w' a' c' ts) → Hid (Below w0.heap.size w0 w') → wpList P ops Q rest (a.put o.dst (.slice a' ts.length c')) w') : wpList P ops Q (o :: rest) a w := by
  refine wpList_append_rb hgd s x t ho w0.heap.size e i ht hi hz hsize hby _ ys.length ys hs hr.2 ad c m zs hx hm hrd hlen hB.size ?_
  intro v' w' hown hgrow hat
  obtain ⟨a', c', rfl, hr'⟩ := Rw.of (hr.lim.append hrd.lim) hown
  exact h a' c' _ w' rfl hr' (hB.grown hgrow hB.size hr.low)
/-- .. of a text. -/
theorem wpList_append_sw (hgd : o.guard = none) (s x : Operand) (t u : TypeId) (ho : o.op = .call { callee := .builtin .append, args := #[s, x], argTypes := #[t, u] })
    (w0 : World) (e : TypeId) (i : TypeInfo) (ht : P.underlying t = some (.slice e)) (hu : P.underlying u = some .string) (hi : P.info? e = some i) (hz : i.zero = some (.int .u8 0)) (hsize : i.size = 1) (hby : i.bytes = 1)
    (a1 : Option Addr) (c1 : Nat) (ys : List Nat) (hs : a.eval s = .slice a1 ys.length c1) (hr : Rw e w0.heap.size w a1 c1 ys) (hB : Below w0.heap.size w0 w)
    (tx : ByteArray) (hx : a.eval x = .string tx) (hlen : ys.length + tx.size ≤ 2000000000)
    (h : ∀ a' c' ts w', Hid (ts = ys ++ sb tx) → Hid (Rw e w0.heap.size w' a' c' ts) → Hid (Below w0.heap.size w0 w') → wpList P ops Q rest (a.put o.dst (.slice a' ts.length c')) w') : wpList P ops Q (o :: rest) a w := by
  refine wpList_append_str hgd s x t u ho e i ht hu hi hz hsize hby _ ys.length ys hs (ownsRow_monoB hr.2 (Nat.zero_le _)) tx hx hlen ?_
  intro v' w' hown hgrow hat
  have hown' := ownsRow_raise (base := w0.heap.size) hown (by
    intro g hg
    rcases hat with hat | hat
    · exact hr.low g (by rw [← hat]; exact hg)
    · rw [hat] at hg
      cases hg
      exact hB.size)
  obtain ⟨a', c', rfl, hr'⟩ := Rw.of (hr.lim.append (byt_sb tx)) hown'
  exact h a' c' _ w' rfl hr' (hB.grown hgrow hB.size hr.low)
end

theorem pw_lg {n j : Nat} (hj : j ≤ 5) (h1 : 2 ^ j ≤ n) (h2 : n < 2 * 2 ^ j) (hn : n ≤ 32) : pw n = 2 ^ j ∧ lg n = j := by
  unfold pw lg
  match j, hj, h1, h2 with
  | 0, _, h1, h2 | 1, _, h1, h2 | 2, _, h1, h2 | 3, _, h1, h2 | 4, _, h1, h2 | 5, _, h1, h2 =>
    simp at h1 h2 ⊢
    constructor <;> (repeat' split) <;> omega
theorem be4_len (x : Int) : (be4 x).length = 4 := rfl
theorem be2_len (x : Int) : (be2 x).length = 2 := rfl
theorem bods_le {l : List Tb} (h : ∀ t ∈ l, t.bs.length ≤ 1048576) : (bods l).length ≤ l.length * 1048580 := by
  induction l with
  | nil => simp [bods]
  | cons t l ih =>
    have h1 := h t (by simp)
    have h2 := ih (fun s hs => h s (by simp [hs]))
    have h3 := padN4_lt t.bs.length
    rw [bods, List.length_append, fil_len, List.length_cons]
    omega
theorem take_snoc {l : List Tb} {k : Nat} (hk : k < l.length) : l.take (k + 1) = l.take k ++ [l.getD k Tb.none] := by
  rw [List.take_succ_eq_append_getElem hk]
  simp [List.getD, hk]
theorem dirs_snoc {l : List Tb} {k : Nat} (hk : k < l.length) (a : Nat) : dirs (l.take (k + 1)) a = dirs (l.take k) a ++ dirE (l.getD k Tb.none) (a + (bods (l.take k)).length) := by
  rw [take_snoc hk, dirs_append]
  simp [dirs]
theorem bods_snoc {l : List Tb} {k : Nat} (hk : k < l.length) : bods (l.take (k + 1)) = bods (l.take k) ++ fil (l.getD k Tb.none).bs := by
  rw [take_snoc hk, bods_append]
  simp [bods]

set_option maxHeartbeats 4000000 in
set_option maxRecDepth 100000 in
theorem file_any (a : Option Addr) (cap : Nat) (l : List Tb) (w : World) (h : Ts w a cap l) (hf : Frm l) :
    Calls Try.prog 34 #[.slice a l.length cap] w fun e w' => ∃ a' cap', e = .returned (.slice a' (fileS l).length cap') ∧ Rw 5 w.heap.size w' a' cap' (fileS l) ∧ Below w.heap.size w w' := by
  obtain ⟨i0, hi, hz0, hz1, hz2⟩ := info_parts info_byte
  have n1 := hf.1
  have n2 := hf.2.1
  go_enter Try.func34, Try.ntmps34
  go_wp2_with fail
  refine (risen_any a cap l _ h (by omega) hf.2.2.2).mono ?_
  rintro e u ⟨a1, c1, rfl, hts, hBu⟩
  have hfs := hf.srt
  have HFS : Hid (fileS l = fileR (srt l)) := rfl
  rw [← srt_len l] at n1 n2 ⊢
  have HBU : Hid (Below w.heap.size w u) := hBu
  generalize srt l = s at *
  have HTS : Hid (Ts u a1 c1 s) := hts
  have HFR : Hid (Frm s) := hfs
  obtain ⟨n, hn⟩ : ∃ n, s.length = n := ⟨_, rfl⟩
  rw [hn] at n1 n2 ⊢
  have HN : Hid (s.length = n) := hn
  clear hn hts hfs hBu hf h
  go_wp2
  go_loop [5, 6] (fun p j => ∃ k : Nat, k ≤ 5 ∧ j = .int .i64 k ∧ p = .int .i64 ((2 ^ k : Nat) : Int) ∧ 2 ^ k ≤ n) (fun p _ => 64 - (intOf p).toNat)
  case atStart => exact ⟨0, by decide, rfl, rfl, by simpa using n1⟩
  case round =>
    obtain ⟨k, hk, rfl, rfl, hp⟩ := hrel
    obtain ⟨p, hpp⟩ : ∃ p, 2 ^ k = p := ⟨_, rfl⟩
    rw [hpp] at hp ⊢
    have HP : Hid (2 ^ k = p) := hpp
    have hp1 : 1 ≤ p := by rw [← hpp]; exact Nat.one_le_two_pow
    clear hpp
    by_cases hgo : 2 * p ≤ n
    · have g1 : 2 * (p : Int) ≤ n := by omega
      have hk5 : k + 1 ≤ 5 := by
        rcases Nat.lt_or_ge k 5 with h1 | h1
        · omega
        · have : k = 5 := by omega
          subst this
          have := HP.out
          omega
      go_wp2
      go_round
      case rel =>
        refine ⟨k + 1, hk5, by go_num, ?_, ?_⟩
        · have : 2 ^ (k + 1) = 2 * p := by rw [Nat.pow_succ, HP.out]; omega
          rw [this]
          simp
        · rw [Nat.pow_succ, HP.out]; omega
      case measure => simp [intOf]; omega
    · have g1 : ¬ 2 * (p : Int) ≤ n := by omega
      have HPW : Hid (pw n = p ∧ lg n = k) := by
        have := pw_lg hk (n := n) (by rw [HP.out]; exact hp) (by rw [HP.out]; omega) n2
        rw [HP.out] at this
        exact this
      -- the head
      have b0 : Below u.heap.size u u := Below.refl _ _
      go_wp2_with fail
      have LL0 : ([] : List Nat).length + 4 ≤ 2000000000 := by decide
      refine (big4_any 65536 _ (by decide) (by decide)).mono ?_
      rintro e v0 ⟨ax0, cx0, rfl, hrx0, hbx0⟩
      have hB0 : Below u.heap.size u v0 := hbx0
      have hR0 : Rw 5 u.heap.size v0 none 0 [] := Rw.nil _ _
      go_wp2_with (at_builtin; refine wpList_append_rw rfl _ _ 23 rfl u 5 i0 Try.underlying23 hi hz0 hz1 hz2 none 0 [] rfl hR0 hB0 ax0 cx0 _ (be4 65536) rfl rfl hrx0 (by have := LL0; have e4 := be4_len; have e2 := be2_len; simp only [e4, e2]; omega) ?_)
      intro a10 c10 t0 w0 T0 R0 B0
      clear hR0 hB0 hrx0 hbx0
      have LN0 : Hid (t0.length = 4) := by show t0.length = 4; rw [T0.out]; rfl
      have LL1 : Hid (t0.length + 4 ≤ 2000000000) := by show t0.length + 4 ≤ 2000000000; rw [LN0.out]; decide
      go_wp2_with fail
      refine (big2_any (n : Int) _ (by omega) (by omega)).mono ?_
      rintro e v1 ⟨ax1, cx1, rfl, hrx1, hbx1⟩
      have hB1 : Below u.heap.size u v1 := B0.out.trans (hbx1.mono B0.out.size)
      have hR1 : Rw 5 u.heap.size v1 a10 c10 t0 := R0.out.below hbx1
      go_wp2_with (at_builtin; refine wpList_append_rw rfl _ _ 23 rfl u 5 i0 Try.underlying23 hi hz0 hz1 hz2 a10 c10 t0 rfl hR1 hB1 ax1 cx1 _ (be2 (n : Int)) rfl rfl hrx1 (by have := LL1.out; have e4 := be4_len; have e2 := be2_len; simp only [e4, e2]; omega) ?_)
      intro a11 c11 t1 w1 T1 R1 B1
      clear hR1 hB1 hrx1 hbx1
      have LN1 : Hid (t1.length = 6) := by show t1.length = 6; rw [T1.out, List.length_append]; rw [LN0.out]; rfl
      have LL2 : Hid (t1.length + 4 ≤ 2000000000) := by show t1.length + 4 ≤ 2000000000; rw [LN1.out]; decide
      go_wp2_with fail
      refine (big2_any (16 * (p : Int)) _ (by omega) (by omega)).mono ?_
      rintro e v2 ⟨ax2, cx2, rfl, hrx2, hbx2⟩
      have hB2 : Below u.heap.size u v2 := B1.out.trans (hbx2.mono B1.out.size)
      have hR2 : Rw 5 u.heap.size v2 a11 c11 t1 := R1.out.below hbx2
      go_wp2_with (at_builtin; refine wpList_append_rw rfl _ _ 23 rfl u 5 i0 Try.underlying23 hi hz0 hz1 hz2 a11 c11 t1 rfl hR2 hB2 ax2 cx2 _ (be2 (16 * (p : Int))) rfl rfl hrx2 (by have := LL2.out; have e4 := be4_len; have e2 := be2_len; simp only [e4, e2]; omega) ?_)
      intro a12 c12 t2 w2 T2 R2 B2
      clear hR2 hB2 hrx2 hbx2
      have LN2 : Hid (t2.length = 8) := by show t2.length = 8; rw [T2.out, List.length_append]; rw [LN1.out]; rfl
      have LL3 : Hid (t2.length + 4 ≤ 2000000000) := by show t2.length + 4 ≤ 2000000000; rw [LN2.out]; decide
      go_wp2_with fail
      refine (big2_any (k : Int) _ (by omega) (by omega)).mono ?_
      rintro e v3 ⟨ax3, cx3, rfl, hrx3, hbx3⟩
      have hB3 : Below u.heap.size u v3 := B2.out.trans (hbx3.mono B2.out.size)
      have hR3 : Rw 5 u.heap.size v3 a12 c12 t2 := R2.out.below hbx3
      go_wp2_with (at_builtin; refine wpList_append_rw rfl _ _ 23 rfl u 5 i0 Try.underlying23 hi hz0 hz1 hz2 a12 c12 t2 rfl hR3 hB3 ax3 cx3 _ (be2 (k : Int)) rfl rfl hrx3 (by have := LL3.out; have e4 := be4_len; have e2 := be2_len; simp only [e4, e2]; omega) ?_)
      intro a13 c13 t3 w3 T3 R3 B3
      clear hR3 hB3 hrx3 hbx3
      have LN3 : Hid (t3.length = 10) := by show t3.length = 10; rw [T3.out, List.length_append]; rw [LN2.out]; rfl
      have LL4 : Hid (t3.length + 4 ≤ 2000000000) := by show t3.length + 4 ≤ 2000000000; rw [LN3.out]; decide
      go_wp2_with fail
      refine (big2_any (16 * (n : Int) - 16 * (p : Int)) _ (by omega) (by omega)).mono ?_
      rintro e v4 ⟨ax4, cx4, rfl, hrx4, hbx4⟩
      have hB4 : Below u.heap.size u v4 := B3.out.trans (hbx4.mono B3.out.size)
      have hR4 : Rw 5 u.heap.size v4 a13 c13 t3 := R3.out.below hbx4
      go_wp2_with (at_builtin; refine wpList_append_rw rfl _ _ 23 rfl u 5 i0 Try.underlying23 hi hz0 hz1 hz2 a13 c13 t3 rfl hR4 hB4 ax4 cx4 _ (be2 (16 * (n : Int) - 16 * (p : Int))) rfl rfl hrx4 (by have := LL4.out; have e4 := be4_len; have e2 := be2_len; simp only [e4, e2]; omega) ?_)
      intro a14 c14 t4 w4 T4 R4 B4
      clear hR4 hB4 hrx4 hbx4
      have LN4 : Hid (t4.length = 12) := by show t4.length = 12; rw [T4.out, List.length_append]; rw [LN3.out]; rfl
      have LL5 : Hid (t4.length + 4 ≤ 2000000000) := by show t4.length + 4 ≤ 2000000000; rw [LN4.out]; decide
      have HH : Hid (t4 = hdr n) := by
        show t4 = hdr n
        rw [T4.out, T3.out, T2.out, T1.out, T0.out, hdr, HPW.out.1, HPW.out.2]
        have e1 : ((16 * p : Nat) : Int) = 16 * (p : Int) := by omega
        have e2 : ((16 * n - 16 * p : Nat) : Int) = 16 * (n : Int) - 16 * (p : Int) := by omega
        rw [e1, e2]
        simp only [List.append_assoc, List.nil_append]
      clear T0 T1 T2 T3 T4 R0 R1 R2 R3 B0 B1 B2 B3 LN0 LN1 LN2 LN3 LL0 LL1 LL2 LL3 LL4 LL5
      obtain ⟨m0, hm0⟩ : ∃ m0, 12 + 16 * n = m0 := ⟨_, rfl⟩
      have HM0 : Hid (12 + 16 * n = m0) := hm0
      have hm1 : 12 + 16 * (n : Int) = (m0 : Int) := by omega
      have hm2 : m0 ≤ 1000 := by omega
      clear hm0
      have HBO : Hid (∀ j, j ≤ n → (bods (s.take j)).length ≤ 33554560) := by
        intro j hj
        have h1 := bods_le (l := s.take j) (fun t ht => (HFR.out.2.2.1 t (List.mem_of_mem_take ht)).2)
        have h2 : (s.take j).length ≤ 32 := by simp; have := HN.out; omega
        have h3 := Nat.mul_le_mul_right 1048580 h2
        omega
      have HDO : Hid (∀ j, j ≤ n → (dirs (s.take j) m0).length ≤ 512) := by
        intro j hj
        rw [dirs_len _ (fun t ht => HFR.out.tag (List.mem_of_mem_take ht))]
        have h2 : (s.take j).length ≤ 32 := by simp; have := HN.out; omega
        omega
      have HAT : Hid (∀ j, j < n → ∃ b off c0 c, a1 = some ⟨b, off, none⟩ ∧ ∀ wi, Below u.heap.size u wi → wi.cell? ⟨b, off + j * 2, none⟩ = some (.string (s.getD j Tb.none).tx) ∧ wi.cell? ⟨b, off + j * 2 + 1, none⟩ = some (.slice c0 (s.getD j Tb.none).bs.length c) ∧ Rb wi c0 c (s.getD j Tb.none).bs) := by
        intro j hj
        obtain ⟨b, off, c0, c, h1, h2, h3, h4, h5⟩ := HTS.out.2.2.2 j (by rw [HN.out]; exact hj)
        exact ⟨b, off, c0, c, h1, fun wi hb => ⟨(hb.cell (p := ⟨b, off + j * 2, none⟩) h2).trans h3, (hb.cell (p := ⟨b, off + j * 2 + 1, none⟩) h2).trans h4, h5.below hb⟩⟩
      clear b0 hk hp hp1 hgo g1 HPW HP
      go_wp2
      go_loopw [7, 8, 9] (fun b m i wr => ∃ j : Nat, j ≤ n ∧ i = .int .i64 j ∧ m = .int .i64 ((m0 + (bods (s.take j)).length : Nat) : Int) ∧ (∃ a c ts, b = .slice a ts.length c ∧ ts = hdr n ++ dirs (s.take j) m0 ∧ Rw 5 u.heap.size wr a c ts) ∧ Below u.heap.size u wr) (fun _ _ i _ => n - (intOf i).toNat)
      case atStart => exact ⟨0, Nat.zero_le _, rfl, by simp [bods], ⟨_, _, t4, rfl, by rw [HH.out]; simp [dirs], R4.out⟩, B4.out⟩
      case round =>
        obtain ⟨j, hj, rfl, rfl, ⟨ar, cr, ts, rfl, hts, hR⟩, hB⟩ := hrel
        obtain ⟨z, hz⟩ : ∃ z, m0 + (bods (s.take j)).length = z := ⟨_, rfl⟩
        have hzb : z ≤ 33555600 := by have := HBO.out j hj; omega
        rw [hz]
        have HZ : Hid (m0 + (bods (s.take j)).length = z) := hz
        have HTT : Hid (ts = hdr n ++ dirs (s.take j) m0) := hts
        have HTL : Hid (ts.length ≤ 524) := by show ts.length ≤ 524; have := HDO.out j hj; rw [hts, List.length_append, hdr_len]; omega
        have HR : Hid (Rw 5 u.heap.size wr ar cr ts) := hR
        clear hz hts hR
        by_cases hjn : j < n
        · obtain ⟨b, off, c0, c, rfl, haj⟩ := HAT.out j hjn
          have hmem : s.getD j Tb.none ∈ s := getD_mem (by rw [HN.out]; exact hjn)
          have h4 := HFR.out.tag hmem
          have hbl := (HFR.out.2.2.1 _ hmem).2
          have HDS : Hid (dirs (s.take (j + 1)) m0 = dirs (s.take j) m0 ++ dirE (s.getD j Tb.none) (m0 + (bods (s.take j)).length)) := dirs_snoc (by rw [HN.out]; exact hjn) m0
          have HBS : Hid (bods (s.take (j + 1)) = bods (s.take j) ++ fil (s.getD j Tb.none).bs) := bods_snoc (by rw [HN.out]; exact hjn)
          generalize s.getD j Tb.none = tb at *
          obtain ⟨tx, bs⟩ := tb
          dsimp only at *
          rw [len_sb] at h4
          have H4 : Hid (tx.size = 4) := h4
          have HAJ : Hid (∀ wi, Below u.heap.size u wi → wi.cell? ⟨b, off + j * 2, none⟩ = some (.string tx) ∧ wi.cell? ⟨b, off + j * 2 + 1, none⟩ = some (.slice c0 bs.length c) ∧ Rb wi c0 c bs) := haj
          clear h4 haj hmem
          obtain ⟨d1, d2, r1⟩ := HAJ.out wr hB
          go_wp2_with (at_builtin; refine wpList_append_sw rfl _ _ 23 9 rfl u 5 i0 Try.underlying23 Try.underlying9 hi hz0 hz1 hz2 ar cr ts rfl HR.out hB tx rfl (by have := HTL.out; have := H4.out; omega) ?_)
          intro a20 c20 s0 x0 S0 R20 B20
          have L20 : Hid (s0.length ≤ 528) := by show s0.length ≤ 528; have := HTL.out; have := H4.out; rw [S0.out, List.length_append, len_sb]; omega
          clear d1 d2 r1
          obtain ⟨d1, d2, r1⟩ := HAJ.out x0 B20.out
          go_wp2_with fail
          refine (ssum_any c0 c bs _ r1 (by omega)).mono ?_
          rintro e y0 ⟨rfl, hby⟩
          obtain ⟨q, hq⟩ : ∃ q, sm bs = q := ⟨_, rfl⟩
          have hqb := sm_lt bs
          rw [hq] at hqb ⊢
          have HQ : Hid (sm bs = q) := hq
          have hqw : (q : Int) % 18446744073709551616 = q := by omega
          clear hq d1 d2 r1
          go_wp2_with fail
          refine (big4_any (q : Int) _ (by omega) (by omega)).mono ?_
          rintro e y1 ⟨ay1, cy1, rfl, hry1, hbz1⟩
          have hB21 := (B20.out.trans (hby.mono B20.out.size)).trans (hbz1.mono (B20.out.trans (hby.mono B20.out.size)).size)
          have hR21 := (R20.out.below hby).below hbz1
          go_wp2_with (at_builtin; refine wpList_append_rw rfl _ _ 23 rfl u 5 i0 Try.underlying23 hi hz0 hz1 hz2 a20 c20 s0 rfl hR21 hB21 ay1 cy1 _ (be4 (q : Int)) rfl rfl hry1 (by have := L20.out; have e4 := be4_len; simp only [e4]; omega) ?_)
          intro a21 c21 s1 x1 S1 R21 B21
          have L21 : Hid (s1.length ≤ 532) := by show s1.length ≤ 532; have := L20.out; have e4 := be4_len; rw [S1.out, List.length_append, e4]; omega
          clear hB21 hR21 hry1 hbz1
          go_wp2_with fail
          refine (big4_any (z : Int) _ (by omega) (by omega)).mono ?_
          rintro e y2 ⟨ay2, cy2, rfl, hry2, hbz2⟩
          have hB22 := B21.out.trans (hbz2.mono B21.out.size)
          have hR22 := R21.out.below hbz2
          go_wp2_with (at_builtin; refine wpList_append_rw rfl _ _ 23 rfl u 5 i0 Try.underlying23 hi hz0 hz1 hz2 a21 c21 s1 rfl hR22 hB22 ay2 cy2 _ (be4 (z : Int)) rfl rfl hry2 (by have := L21.out; have e4 := be4_len; simp only [e4]; omega) ?_)
          intro a22 c22 s2 x2 S2 R22 B22
          have L22 : Hid (s2.length ≤ 536) := by show s2.length ≤ 536; have := L21.out; have e4 := be4_len; rw [S2.out, List.length_append, e4]; omega
          clear hB22 hR22 hry2 hbz2
          obtain ⟨d1, d2, r1⟩ := HAJ.out x2 B22.out
          go_wp2_with fail
          refine (big4_any (bs.length : Int) _ (by omega) (by omega)).mono ?_
          rintro e y3 ⟨ay3, cy3, rfl, hry3, hbz3⟩
          have hB23 := B22.out.trans (hbz3.mono B22.out.size)
          have hR23 := R22.out.below hbz3
          go_wp2_with (at_builtin; refine wpList_append_rw rfl _ _ 23 rfl u 5 i0 Try.underlying23 hi hz0 hz1 hz2 a22 c22 s2 rfl hR23 hB23 ay3 cy3 _ (be4 (bs.length : Int)) rfl rfl hry3 (by have := L22.out; have e4 := be4_len; simp only [e4]; omega) ?_)
          intro a23 c23 s3 x3 S3 R23 B23
          have L23 : Hid (s3.length ≤ 540) := by show s3.length ≤ 540; have := L22.out; have e4 := be4_len; rw [S3.out, List.length_append, e4]; omega
          clear hB23 hR23 hry3 hbz3
          clear d1 d2 r1
          obtain ⟨d1, d2, r1⟩ := HAJ.out x3 B23.out
          go_wp2_with fail
          refine (filled_any c0 c bs _ r1 (by omega)).mono ?_
          rintro e y9 ⟨af, cf, rfl, hrf, hbf⟩
          obtain ⟨y, hy⟩ : ∃ y, (fil bs).length = y := ⟨_, rfl⟩
          have hyb : y ≤ 1048580 := by have := fil_len bs; have := padN4_lt bs.length; omega
          rw [hy]
          have HY : Hid ((fil bs).length = y) := hy
          clear hy hrf d1 d2 r1
          have hB9 : Below u.heap.size u y9 := B23.out.trans (hbf.mono B23.out.size)
          have hR9 := R23.out.below hbf
          go_wp2
          go_roundw
          case rel =>
            refine ⟨j + 1, by omega, by go_num, ?_, ⟨_, _, s3, rfl, ?_, hR9⟩, hB9⟩
            · rw [HBS.out, List.length_append, HY.out, ← Nat.add_assoc, HZ.out]; simp
            · rw [HDS.out, HZ.out, S3.out, S2.out, S1.out, S0.out, HTT.out, dirE]
              dsimp only
              rw [HQ.out]
              simp only [List.append_assoc]
          case measure => simp [intOf]; omega
        · obtain rfl : j = n := by omega
          have HTT2 : Hid (ts = hdr j ++ dirs s m0) := by
            have := HTT.out
            rw [show s.take j = s by rw [← HN.out, List.take_length]] at this
            exact this
          clear HTT HZ hzb
          go_wp2
          go_loopw [7, 10] (fun b i wr => ∃ k : Nat, k ≤ j ∧ i = .int .i64 k ∧ (∃ a c ts, b = .slice a ts.length c ∧ ts = hdr j ++ (dirs s m0 ++ bods (s.take k)) ∧ Rw 5 u.heap.size wr a c ts) ∧ Below u.heap.size u wr) (fun _ i _ => j - (intOf i).toNat)
          case atStart => exact ⟨0, Nat.zero_le _, rfl, ⟨_, _, ts, rfl, by rw [HTT2.out]; simp [bods], HR.out⟩, hB⟩
          case round =>
            obtain ⟨k, hk, rfl, ⟨ab, cb, tb, rfl, htb, hRb⟩, hBb⟩ := hrel
            have HTB : Hid (tb = hdr j ++ (dirs s m0 ++ bods (s.take k))) := htb
            have HTL2 : Hid (tb.length ≤ 33555600) := by
              show tb.length ≤ 33555600
              have h1 := HBO.out k hk
              have h2 := HDO.out j (Nat.le_refl _)
              rw [show s.take j = s by rw [← HN.out, List.take_length]] at h2
              rw [htb, List.length_append, List.length_append, hdr_len]
              omega
            have HRB : Hid (Rw 5 u.heap.size wr ab cb tb) := hRb
            clear htb hRb
            by_cases hkn : k < j
            · obtain ⟨b, off, c0, c, rfl, haj⟩ := HAT.out k hkn
              have hmem : s.getD k Tb.none ∈ s := getD_mem (by rw [HN.out]; exact hkn)
              have hbl := (HFR.out.2.2.1 _ hmem).2
              have HBS : Hid (bods (s.take (k + 1)) = bods (s.take k) ++ fil (s.getD k Tb.none).bs) := bods_snoc (by rw [HN.out]; exact hkn)
              generalize s.getD k Tb.none = tq at *
              obtain ⟨tx, bs⟩ := tq
              dsimp only at *
              obtain ⟨d1, d2, r1⟩ := haj wr hBb
              clear haj hmem
              go_wp2_with fail
              refine (filled_any c0 c bs _ r1 (by omega)).mono ?_
              rintro e y9 ⟨af, cf, rfl, hrf, hbf⟩
              have hyb : (fil bs).length ≤ 1048580 := by have := fil_len bs; have := padN4_lt bs.length; omega
              have HYB : Hid ((fil bs).length ≤ 1048580) := hyb
              clear hyb d1 d2 r1
              have hB9 : Below u.heap.size u y9 := hBb.trans (hbf.mono hBb.size)
              have hR9 := HRB.out.below hbf
              go_wp2_with (at_builtin; refine wpList_append_rw rfl _ _ 23 rfl u 5 i0 Try.underlying23 hi hz0 hz1 hz2 ab cb tb rfl hR9 hB9 af cf _ (fil bs) rfl rfl hrf.rd (by have := HTL2.out; have := HYB.out; omega) ?_)
              intro a30 c30 s9 x9 S9 R9 B9
              go_wp2
              go_roundw
              case rel =>
                refine ⟨k + 1, by omega, by go_num, ⟨_, _, s9, rfl, ?_, R9.out⟩, B9.out⟩
                rw [HBS.out, S9.out, HTB.out]
                simp only [List.append_assoc]
              case measure => simp [intOf]; omega
            · obtain rfl : k = j := by omega
              go_wp2
              go_ret
              have e1 : fileS l = tb := by
                have h1 := HTB.out
                rw [show s.take k = s by rw [← HN.out, List.take_length]] at h1
                rw [HFS.out, fileR, HN.out, HM0.out, h1]
              refine ⟨ab, cb, by rw [e1]; rfl, ?_, HBU.out.trans (hBb.mono HBU.out.size)⟩
              rw [e1]
              exact HRB.out.mono HBU.out.size

end Go.Proofs.Ytijehnfadpoapaa
