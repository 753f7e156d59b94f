/-
  Pages: what is put, in plain words; new pages.
  strokes.putStep, strokes.Write: the walks.
  Rows of slots, steps and drawings that are made: what the types tell; a row made by 'make'.
  strokes.fixedSlots: the walk.
  Drawings read as the code reads them: it stops where something lacks (plain mathematics).
-/
import Derived.Test.YtkbbdkecillnpaaGreatZY27
import Derived.Test.YtkbbdkecillnpaaGreatZY3
import Derived.Test.YtkbbdkecillnpaaGreatZY24
import Derived.Test.YtkbbdkecillnpaaGreatZY8
import Derived.Test.YtkbbdkecillnpaaGreatZY18
import Derived.Deep.CutBlock
import Derived.Deep.CutRange
import Derived.BigQuiet
import Derived.Deep.QuietTactic
import Derived.WalkSmall
import Derived.Outline
import Derived.Test.YtkbbdkecillnpaaGreatZY5
import Derived.Test.YtkbbdkecillnpaaGreatZY4
namespace Go.Proofs.YtkbbdkecillnpaaGreat
open Go.RowKit Go.Maps
set_option linter.unusedSimpArgs false
set_option linter.unusedVariables false

theorem put32A {bs : List Nat} {ws : List Int} {n : Int} (h1 : -2147483648 ≤ n) (h2 : n ≤ 4294967295) : (St.mk bs ws false).put32 n = ⟨bs ++ be4 n, ws, false⟩ := by simp [St.put32, h1, h2, St.app]
theorem put16A {bs : List Nat} {ws : List Int} {n : Int} (h1 : -32768 ≤ n) (h2 : n ≤ 65535) : (St.mk bs ws false).put16 n = ⟨bs ++ be2 n, ws, false⟩ := by simp [St.put16, h1, h2, St.app]
theorem tagA {bs : List Nat} {ws : List Int} {xs : List Nat} (h : gd xs = true) : (St.mk bs ws false).tag xs = ⟨bs ++ xs, ws, false⟩ := by simp [St.tag, h, St.app]
theorem pc_newA (w : World) (G : Nat → Prop) (hG : ∀ k, G k → k < w.heap.size) : Pc (w.alloc (.cells #[.slice none 0 0, .int .i64 0, .map none, .bool false] 83)) w.heap.size G St.zero := by
  refine ⟨fun k hk => by have := hG k hk; simp; omega, fun h => by have := hG _ h; omega, Wf.zero, .slice none 0 0, .map none, heap_alloc_new w _, (fun h => by cases h), fun _ => ⟨⟨World.ownsRow_nil _ 0 _ 1, fun g hg => by cases hg⟩, .inl ⟨rfl, rfl⟩⟩⟩
theorem Pc.moreA {w : World} {B : Nat} {G : Nat → Prop} {s : St} (h : Pc w B G s) (o : Obj) : Pc (w.alloc o) B (fun k => G k ∨ k = w.heap.size) s := by
  refine h.guard_new (by simp) (fun k hk _ => (bl1 o).block k hk) ?_
  rintro k (hk | rfl)
  · exact ⟨by have := h.1 k hk; simp; omega, fun _ => hk⟩
  · exact ⟨by simp, fun hlt => absurd hlt (Nat.lt_irrefl _)⟩

end Go.Proofs.YtkbbdkecillnpaaGreat

namespace Go.Proofs.YtkbbdkecillnpaaGreat
open Go.RowKit Go.Maps
set_option linter.unusedSimpArgs false
set_option linter.unusedVariables false

theorem put8D {bs : List Nat} {ws : List Int} {n : Int} (h1 : -128 ≤ n) (h2 : n ≤ 255) : (St.mk bs ws false).put8 n = ⟨bs ++ be1 n, ws, false⟩ := by simp [St.put8, h1, h2, St.app]
theorem be2LD (x : Int) : (be2 x).length = 2 := rfl
theorem be1LD (x : Int) : (be1 x).length = 1 := rfl
theorem fiS_16 (s : Sr) : ∀ b r, fiS s b r = true → (-32768 ≤ b ∧ b ≤ 32767) ∧ (-32768 ≤ r ∧ r ≤ 32767) := fun b r h => by
  have := fiS_iff.1 h
  omega
theorem sls_snoc {l : List (Int × Int)} {k : Nat} (hk : k < l.length) (P : List Nat) : P ++ slsE (l.take (k + 1)) = P ++ slsE (l.take k) ++ be2 (l.getD k (0, 0)).1 ++ be2 (l.getD k (0, 0)).2 := by
  rw [take_snoc (d := ((0 : Int), (0 : Int))) hk, slsE_append, slsE_one, slE]
  simp only [List.append_assoc]
theorem sps_snoc {l : List Sp} {k : Nat} (hk : k < l.length) (P : List Nat) : P ++ spsE (l.take (k + 1)) = P ++ spsE (l.take k) ++ spY (l.getD k Sp.none) := by
  rw [take_snoc (d := Sp.none) hk, spsE_append, spsE_one]
  simp only [List.append_assoc]
theorem dws_snoc {l : List (List Sp)} {k : Nat} (hk : k < l.length) (P : List Nat) : P ++ dwsE (l.take (k + 1)) = P ++ dwsE (l.take k) ++ be2 (((l.getD k []).length : Nat) : Int) ++ spsE (l.getD k []) := by
  rw [take_snoc (d := ([] : List Sp)) hk, dwsE_append, dwsE_one, dwE]
  simp only [List.append_assoc]
/-- A step of a row, its slots as a thing. -/
theorem Gr.spR {S : Nat → Prop} {w wr : World} {a : Option Addr} {cap : Nat} {d : List Sp} (h : Gr SpE S w a cap d) (hb : Below w.heap.size w wr) (k : Nat) (hk : k < d.length) :
    ∃ b off a' c', a = some ⟨b, off, none⟩ ∧ b < w.heap.size ∧ I64 (d.getD k Sp.none).d ∧ wr.cell? ⟨b, off + k * 2, none⟩ = some (.int .i64 (d.getD k Sp.none).d) ∧ wr.cell? ⟨b, off + k * 2 + 1, none⟩ = some (.slice a' (d.getD k Sp.none).ar.length c') ∧ SlE.row.rep S wr [.slice a' (d.getD k Sp.none).ar.length c'] (d.getD k Sp.none).ar := by
  obtain ⟨b, off, vs, e, hl, hr, hc⟩ := h.at hb k hk
  obtain ⟨a', c', rfl, h1, h2⟩ := SpE_rep.1 hr
  exact ⟨b, off, a', c', e, hl, h1, hc 0 (by decide), hc 1 (by decide), h2⟩
/-- A slot of such a row. -/
theorem rep_sl {S : Nat → Prop} {w : World} {a : Option Addr} {c : Nat} {l : List (Int × Int)} (h : SlE.row.rep S w [.slice a l.length c] l) {k : Nat} (hk : k < l.length) :
    ∃ b off, a = some ⟨b, off, none⟩ ∧ S b ∧ (I64 (l.getD k (0, 0)).1 ∧ I64 (l.getD k (0, 0)).2) ∧ w.cell? ⟨b, off + k * 2, none⟩ = some (.int .i64 (l.getD k (0, 0)).1) ∧ w.cell? ⟨b, off + k * 2 + 1, none⟩ = some (.int .i64 (l.getD k (0, 0)).2) := by
  have h0 := h
  obtain ⟨a', c', e, hS, -, -⟩ := h
  injection e with e
  injection e with e1 e2 e3
  subst e1 e3
  obtain ⟨b, off, e, hl, hw, h1, h2⟩ := (rowS_rep h0).1.sl (Below.refl _ _) k hk
  exact ⟨b, off, e, hS b off e (fun e => by rw [e] at hk; cases hk), hw, h1, h2⟩

set_option maxHeartbeats 4000000 in
set_option maxRecDepth 100000 in
theorem putStep_any (G : Nat → Prop) (B : Nat) (b : List Nat) (x : Sp) (xa : Option Addr) (xc : Nat) (w : World) (hP : Pc w B G ⟨b, [], false⟩) (hx : SlE.row.rep G w [.slice xa x.ar.length xc] x.ar) (hdI : I64 x.d) (hd1 : 0 ≤ x.d) (hd2 : x.d ≤ 255) (hs : ∀ k, k < x.ar.length → (-32768 ≤ (x.ar.getD k (0, 0)).1 ∧ (x.ar.getD k (0, 0)).1 ≤ 32767) ∧ (-32768 ≤ (x.ar.getD k (0, 0)).2 ∧ (x.ar.getD k (0, 0)).2 ≤ 32767)) (h6 : x.ar.length ≤ 6) (hl : b.length ≤ 100000) :
    Calls Tryz.prog 34 #[pg B, .agg #[.int .i64 x.d, .slice xa x.ar.length xc]] w fun e w' => e = .returned (.tuple #[]) ∧ Pc w' B G ⟨b ++ spY x, [], false⟩ ∧ Keep G w w' := by
  obtain ⟨W, hW, X1, hbW⟩ : ∃ W, W = w.alloc (.cells #[.int .i64 x.d, .slice xa x.ar.length xc] 50) ∧ Bk 50 W w.heap.size [.int .i64 x.d, .slice xa x.ar.length xc] ∧ Below w.heap.size w W := ⟨_, rfl, Bk.new _ _ _, bl1 _⟩
  have HGL : Hid (∀ k, G k → k < w.heap.size) := hP.1
  have hP1 : Pc W B (fun k => G k ∨ k = w.heap.size) ⟨b, [], false⟩ := by rw [hW]; exact hP.moreA _
  have hK0 : Keep G w W := by rw [hW]; exact hP.kal _
  obtain ⟨q0, q1, -⟩ := X1.two
  obtain ⟨gt, hgt⟩ : ∃ g, w.heap.size = g := ⟨_, rfl⟩
  have HX : Hid (SlE.row.rep G w [.slice xa x.ar.length xc] x.ar) := hx
  have HS : Hid (_) := hs
  have HE : Hid (b ++ spY x = b ++ be1 x.d ++ slsE x.ar) := by show _ = _; rw [spY, List.append_assoc]
  go_enter Tryz.func34, Tryz.ntmps34
  go_upto_region 1 with fail
  rw [← hW]
  rw [hgt] at hP1 q0 q1
  try rw [hgt]
  clear hW hP hx hs hbW X1
  go_wp2_with fail
  refine (put8_any B _ _ x.d _ hP1 hdI (by show b.length + 4 ≤ _; omega)).mono ?_
  rintro e v1 ⟨rfl, hP2, hk2⟩
  rw [put8D (by omega) (by omega)] at hP2
  replace q1 := (hk2.cell (p := ⟨gt, 1, none⟩) (.inr rfl)).trans q1
  have hK1 : Keep G w v1 := hK0.trans (hk2.mono (fun k hk => .inl hk))
  have hP3 : Pc v1 B G ⟨b ++ be1 x.d ++ slsE (x.ar.take 0), [], false⟩ := by
    rw [List.take_zero, slsE, List.append_nil]
    exact hP2.guard (fun k hk => ⟨Nat.lt_of_lt_of_le (HGL.out k hk) hK1.size, .inl hk⟩)
  clear q0 hk2 hP2 hP1 hK0 hgt
  obtain ⟨Q, hQ⟩ : ∃ Q, b ++ be1 x.d = Q := ⟨_, rfl⟩
  have HQL : Hid (Q.length ≤ 100001) := by show _ ≤ 100001; rw [← hQ, List.length_append, be1LD]; omega
  rw [hQ] at hP3 HE
  clear hQ
  go_wp2
  clear q1
  go_loopw [13] (fun i wr => ∃ k : Nat, k ≤ x.ar.length ∧ i = .int .i64 k ∧ Pc wr B G ⟨Q ++ slsE (x.ar.take k), [], false⟩ ∧ Keep G w wr) (fun i _ => x.ar.length - (intOf i).toNat)
  case atStart => exact ⟨0, Nat.zero_le _, rfl, hP3, hK1⟩
  case round =>
    clear hP3 hK1
    obtain ⟨k, hk, rfl, hP, hB⟩ := hrel
    by_cases hkn : k < x.ar.length
    rotate_left
    · obtain rfl : k = x.ar.length := by omega
      have g4 : ¬ (x.ar.length : Int) < (x.ar.length : Int) := by omega
      rw [List.take_length, ← HE.out] at hP
      have HPP : Hid (Pc wr B G ⟨b ++ spY x, [], false⟩) := hP
      have HKK : Hid (Keep G w wr) := hB
      clear hP hB
      go_wp2
      (try simp only [Exit.inBlock, Exit.then])
      exact bodyPost_end (results_none rfl _ _ _) rfl ⟨rfl, HPP.out, HKK.out⟩
    obtain ⟨b1, off, ea, hGb, ⟨m1, m2⟩, d0, d1⟩ := rep_sl (SlE.row.stay HX.out hB.size (S' := G) (fun k hk _ => ⟨hk, hB.block k hk⟩)) hkn
    obtain ⟨f1, f2⟩ := HS.out k hkn
    have HSJ : Hid (_) := sls_snoc hkn Q
    have hlk : (Q ++ slsE (x.ar.take k)).length ≤ 100050 := by
      have := HQL.out
      rw [List.length_append, slsE_len, List.length_take]
      omega
    generalize x.ar.getD k (0, 0) = y at *
    obtain ⟨b2, hb2⟩ : ∃ b2, Q ++ slsE (x.ar.take k) = b2 := ⟨_, rfl⟩
    rw [hb2] at hP HSJ hlk
    subst ea
    have i1 : (0 : Int) ≤ (k : Int) := by omega
    have i2 : (k : Int) < (x.ar.length : Int) := by omega
    obtain ⟨V, hV, X0, hb0⟩ : ∃ V, V = wr.alloc (.cells #[.int .i64 y.1, .int .i64 y.2] 79) ∧ Bk 79 V wr.heap.size [.int .i64 y.1, .int .i64 y.2] ∧ Below wr.heap.size wr V := ⟨_, rfl, Bk.new _ _ _, bl1 _⟩
    have hP1 : Pc V B (fun k => G k ∨ k = wr.heap.size) ⟨b2, [], false⟩ := by rw [hV]; exact hP.moreA _
    have hBV : Keep G w V := hB.trans (by rw [hV]; exact hP.kal _)
    obtain ⟨q0, q1, -⟩ := X0.two
    obtain ⟨gs, hgs⟩ : ∃ g, wr.heap.size = g := ⟨_, rfl⟩
    clear hb2 hP hB
    go_upto_region 5 with fail
    rw [← hV]
    rw [hgs] at q0 q1 hP1
    try rw [hgs]
    clear hV d0 d1 hb0 hgs X0
    go_wp2_with fail
    refine (put16_any B _ _ y.1 _ hP1 m1 (by show b2.length + 4 ≤ _; omega)).mono ?_
    rintro e v2 ⟨rfl, hP2, hk2⟩
    rw [put16A (by omega) (by omega)] at hP2
    replace q1 := (hk2.cell (p := ⟨gs, 1, none⟩) (.inr rfl)).trans q1
    replace hBV := hBV.trans (hk2.mono (fun k hk => .inl hk))
    clear q0 hk2 hP1
    go_wp2_with fail
    refine (put16_any B _ _ y.2 _ hP2 m2 (by show (b2 ++ be2 y.1).length + 4 ≤ _; rw [List.length_append, be2LD]; omega)).mono ?_
    rintro e v3 ⟨rfl, hP3, hk3⟩
    rw [put16A (by omega) (by omega), ← HSJ.out] at hP3
    have hB4 := hBV.trans (hk3.mono (fun k hk => .inl hk))
    have hP5 : Pc v3 B G ⟨Q ++ slsE (x.ar.take (k + 1)), [], false⟩ := hP3.guard (fun j hj => ⟨Nat.lt_of_lt_of_le (HGL.out j hj) hB4.size, .inl hj⟩)
    clear q1 hk3 hP2 hP3 hBV HSJ
    go_wp2
    go_roundw
    case rel => exact ⟨k + 1, by omega, by go_num, hP5, hB4⟩
    case measure => simp [intOf]; omega

theorem spE_some {fi : Int → Int → Bool} {n : Nat} {d : List Sp} (h : drF fi n d = true) (j : Nat) : (spsE (d.take j)).length ≤ 1500 := by
  have h1 := (drF_iff.1 h).1
  have h2 : ∀ x ∈ d, spF fi n x = true := by
    unfold drF at h
    rw [Bool.and_eq_true, List.all_eq_true] at h
    exact h.2
  have h3 := spsE_len (d := d.take j) (fun x hx => h2 x (List.mem_of_mem_take hx))
  rw [List.length_take] at h3
  omega
theorem dwE_some {fi : Int → Int → Bool} {l : List (List Sp)} (h : foD fi l = true) (k : Nat) : (dwsE (l.take k)).length ≤ 30040 := by
  have h1 := (foD_iff.1 h).1
  have h3 := dwsE_len (l := l.take k) (fun d hd => foD_el h d (List.mem_of_mem_take hd))
  rw [List.length_take] at h3
  omega

set_option maxHeartbeats 8000000 in
set_option maxRecDepth 100000 in
theorem cwriteD_any (S : Nat → Prop) (a : Option Addr) (ca : Nat) (l : List (List Sp)) (ga : Option Addr) (gc : Nat) (ma : Option Addr) (mc : Nat) (s : Sr) (w : World) (hl : Gr SpE.row S w a ca l) (k2 : s.rw.length ≤ 9223372036854775807) (k3 : s.rg.length ≤ 9223372036854775807) :
    Calls Tryz.prog 16 #[.slice a l.length ca, .agg #[.slice ga s.rg.length gc, .slice ma s.rw.length mc]] w fun e w' => ∃ a' c', e = .returned (.tuple #[.slice a' (wrDB (fiS s) l).length c', .int .i64 (wrDE (fiS s) l)]) ∧ Rw 5 w.heap.size w' a' c' (wrDB (fiS s) l) ∧ Below w.heap.size w w' := by
  have kl := hl.lenB
  obtain ⟨W, hW, X1, hbW⟩ : ∃ W, W = w.alloc (.cells #[.slice ga s.rg.length gc, .slice ma s.rw.length mc] 26) ∧ Bk 26 W w.heap.size [.slice ga s.rg.length gc, .slice ma s.rw.length mc] ∧ Below w.heap.size w W := ⟨_, rfl, Bk.new _ _ _, bl1 _⟩
  obtain ⟨p0, p1, -⟩ := X1.two
  have hfo := formD_any S a ca l ga gc ma mc s W (hl.below hbW) k2
  go_enter Tryz.func16, Tryz.ntmps16
  go_upto_region 1 with fail
  rw [← hW]
  clear hW
  cases hf : foD (fiS s) l with
  | false =>
    rw [hf] at hfo
    have HF : Hid (_) := wrD_no hf
    clear hf
    go_wp2_with fail
    refine hfo.mono ?_
    rintro e u1 ⟨rfl, hb⟩
    have hfin := hbW.trans (hb.mono hbW.size)
    clear hfo hb p0 p1
    go_wp2
    go_ret2
    exact ⟨none, 0, by rw [HF.out.1, HF.out.2]; rfl, by rw [HF.out.1]; exact Rw.nil _ _, hfin⟩
  | true =>
  rw [hf] at hfo
  have HFO : Hid (foD (fiS s) l = true) := hf
  have hl20 := (foD_iff.1 hf).1
  have HDR : Hid (_) := (foD_iff.1 hf).2
  have HTE : Hid (dsE l = be2 ((l.length : Nat) : Int) ++ dwsE l) := rfl
  clear hf
  go_wp2_with fail
  refine hfo.mono ?_
  rintro e u ⟨rfl, hb⟩
  replace hbW := hbW.trans (hb.mono hbW.size)
  have HL : Hid (Gr SpE.row (fun k => k < u.heap.size) u a ca l) := (hl.below hbW).wide (fun k _ h => h)
  have HBW : Hid (Below w.heap.size w u) := hbW
  have hP0 := pc_newA u (· < u.heap.size) (fun _ h => h)
  have hB0 := bl1 (w := u) (.cells #[.slice none 0 0, .int .i64 0, .map none, .bool false] 83)
  clear hl hfo hb hbW X1 p0 p1
  go_wp2_with fail
  refine (put16_any u.heap.size _ _ (l.length : Int) _ hP0 ⟨by omega, by omega⟩ (by decide)).mono ?_
  rintro e u1 ⟨rfl, hP1, hK1⟩
  rw [show St.zero = ⟨[], [], false⟩ from rfl, put16A (by omega) (by omega), List.nil_append] at hP1
  have hB1 : Below u.heap.size u u1 := hB0.trans (hK1.below (fun k hk => hk))
  obtain ⟨Q, hQ⟩ : ∃ Q, be2 ((l.length : Nat) : Int) = Q := ⟨_, rfl⟩
  have HQL : Hid (Q.length = 2) := by show _ = _; rw [← hQ]; rfl
  rw [hQ] at hP1 HTE
  have hI : Pc u1 u.heap.size (· < u.heap.size) ⟨Q ++ dwsE (l.take 0), [], false⟩ := by
    rw [List.take_zero, dwsE, List.append_nil]
    exact hP1
  obtain ⟨B, hBB⟩ : ∃ g, u.heap.size = g := ⟨_, rfl⟩
  have HBB : Hid (u.heap.size = B) := hBB
  rw [hBB] at hI hB1 HL ⊢
  clear hP0 hK1 hB0 hP1 hQ hBB
  go_wp2
  go_loopw [23] (fun i wr => ∃ k : Nat, k ≤ l.length ∧ i = .int .i64 k ∧ Pc wr B (· < B) ⟨Q ++ dwsE (l.take k), [], false⟩ ∧ Below B u wr) (fun i _ => l.length - (intOf i).toNat)
  case atStart => exact ⟨0, Nat.zero_le _, rfl, hI, hB1⟩
  case round =>
    clear hI hB1
    obtain ⟨k, hk, rfl, hP, hB⟩ := hrel
    have hBw : Below w.heap.size w wr := HBW.out.trans (hB.mono (by have := HBW.out.size; rw [HBB.out] at this; exact this))
    by_cases hkn : k < l.length
    rotate_left
    · obtain rfl : k = l.length := by omega
      have g4 : ¬ (l.length : Int) < (l.length : Int) := by omega
      rw [List.take_length, ← HTE.out] at hP
      have hL : (dsE l).length ≤ 1048576 := by have := dsE_len HFO.out; omega
      have hall := all_any B _ _ _ hP hL
      have ea : allB ⟨dsE l, [], false⟩ = dsE l := by simp [allB]
      have eb : allE ⟨dsE l, [], false⟩ = 0 := rfl
      rw [ea, eb] at hall
      have HN : Hid (_) := wrD_yes HFO.out
      have hbz := hBw.size
      clear hP ea eb
      go_wp2_with fail
      refine hall.mono ?_
      rintro e u9 ⟨a9, c9, rfl, hr9, hb9⟩
      have hB9 := hBw.trans (hb9.mono hBw.size)
      clear hall
      go_wp2
      go_ret2
      exact ⟨a9, c9, by rw [HN.out.1, HN.out.2]; rfl, by rw [HN.out.1]; exact hr9.mono hbz, hB9⟩
    obtain ⟨b1, off, a1, c1, ea, hb1, c0, hd, hdl, -⟩ := HL.out.rw (Below.refl _ _) k hkn
    replace c0 := (hB.cell (p := ⟨b1, off + k, none⟩) (by show b1 < B; have := HBB.out; omega)).trans c0
    have HSK : Hid (_) := dws_snoc hkn Q
    have hdf := HDR.out k hkn
    have hd60 := (drF_iff.1 hdf).1
    have HSPF : Hid (_) := (drF_iff.1 hdf).2
    have HSL : Hid (∀ j, (spsE ((l.getD k []).take j)).length ≤ 1500) := spE_some hdf
    have hlk : (Q ++ dwsE (l.take k)).length ≤ 30042 := by
      have := dwE_some HFO.out k
      rw [List.length_append, HQL.out]
      omega
    obtain ⟨d, hdd⟩ : ∃ d, l.getD k [] = d := ⟨_, rfl⟩
    rw [hdd] at c0 hd hdl HSK hd60 HSPF HSL
    obtain ⟨b2, hb2⟩ : ∃ b2, Q ++ dwsE (l.take k) = b2 := ⟨_, rfl⟩
    rw [hb2] at hP HSK hlk
    have HD : Hid (Gr SpE (fun k => k < B) u a1 c1 d) := hd
    subst ea
    have i1 : (0 : Int) ≤ (k : Int) := by omega
    have i2 : (k : Int) < (l.length : Int) := by omega
    clear hdd hb2 hd hdf hBw
    go_wp2_with fail
    refine (put16_any B _ _ (d.length : Int) _ hP ⟨by omega, by omega⟩ (by show b2.length + 4 ≤ _; omega)).mono ?_
    rintro e v1 ⟨rfl, hP1, hk1⟩
    rw [put16A (by omega) (by omega)] at hP1
    replace hB := hB.trans (hk1.below (fun k hk => hk))
    obtain ⟨b3, hb3⟩ : ∃ b3, b2 ++ be2 ((d.length : Nat) : Int) = b3 := ⟨_, rfl⟩
    have hl3 : b3.length ≤ 30044 := by rw [← hb3, List.length_append, be2LD]; omega
    rw [hb3] at hP1 HSK
    have hI : Pc v1 B (· < B) ⟨b3 ++ spsE (d.take 0), [], false⟩ := by
      rw [List.take_zero, spsE, List.append_nil]
      exact hP1
    clear hP hk1 hP1 hb3 c0
    go_wp2
    go_loopw [33] (fun i wr => ∃ j : Nat, j ≤ d.length ∧ i = .int .i64 j ∧ Pc wr B (· < B) ⟨b3 ++ spsE (d.take j), [], false⟩ ∧ Below B u wr) (fun i _ => d.length - (intOf i).toNat)
    case atStart => exact ⟨0, Nat.zero_le _, rfl, hI, hB⟩
    case round =>
      clear hI hB
      obtain ⟨j, hj, rfl, hP, hB⟩ := hrel
      by_cases hjn : j < d.length
      rotate_left
      · obtain rfl : j = d.length := by omega
        have g4 : ¬ (d.length : Int) < (d.length : Int) := by omega
        rw [List.take_length, ← HSK.out] at hP
        go_wp2
        go_roundw
        case rel => exact ⟨k + 1, by omega, by go_num, hP, hB⟩
        case measure => simp [intOf]; omega
      obtain ⟨b4, of4, a4, c4, ea4, hb4, hI, d0, d1, hrep⟩ := HD.out.spR (by rw [HBB.out]; exact hB) j hjn
      have HSJ : Hid (_) := sps_snoc hjn b3
      have hlj : (b3 ++ spsE (d.take j)).length ≤ 31544 := by
        have := HSL.out j
        rw [List.length_append]
        omega
      obtain ⟨s1, s2, s3⟩ := spF_iff.1 (HSPF.out j hjn)
      generalize d.getD j Sp.none = x at *
      have had := arD_in x.d
      have hs16 : ∀ k, k < x.ar.length → (-32768 ≤ (x.ar.getD k (0, 0)).1 ∧ (x.ar.getD k (0, 0)).1 ≤ 32767) ∧ (-32768 ≤ (x.ar.getD k (0, 0)).2 ∧ (x.ar.getD k (0, 0)).2 ≤ 32767) := fun k hk => fiS_16 s _ _ (s2 k hk)
      have h6 : x.ar.length ≤ 6 := by omega
      have hx1 : 0 ≤ x.d := by omega
      have hx2 : x.d ≤ 255 := by omega
      obtain ⟨b5, hb5⟩ : ∃ b5, b3 ++ spsE (d.take j) = b5 := ⟨_, rfl⟩
      rw [hb5] at hP HSJ hlj
      subst ea4
      have i3 : (0 : Int) ≤ (j : Int) := by omega
      have i4 : (j : Int) < (d.length : Int) := by omega
      obtain ⟨V, hV, X0, hb0⟩ : ∃ V, V = wr.alloc (.cells #[.int .i64 x.d, .slice a4 x.ar.length c4] 50) ∧ Bk 50 V wr.heap.size [.int .i64 x.d, .slice a4 x.ar.length c4] ∧ Below wr.heap.size wr V := ⟨_, rfl, Bk.new _ _ _, bl1 _⟩
      have hBs : B ≤ wr.heap.size := by have := hB.size; rw [HBB.out] at this; exact this
      have hP1 : Pc V B (· < B) ⟨b5, [], false⟩ := hP.below hb0
      have hrV := SlE.row.stay hrep hb0.size (S' := fun k => k < B) (fun k hk _ => ⟨hk, hb0.block k (by omega)⟩)
      have hBV : Below B u V := hB.trans (hb0.mono hBs)
      have hps := putStep_any (· < B) B b5 x a4 c4 V hP1 hrV hI hx1 hx2 hs16 h6 (by omega)
      obtain ⟨q0, q1, -⟩ := X0.two
      obtain ⟨gs, hgs⟩ : ∃ g, wr.heap.size = g := ⟨_, rfl⟩
      clear hb5 hP hB s1 s2 s3 had hrep
      go_upto_region 12 with fail
      rw [← hV]
      rw [hgs] at q0 q1
      try rw [hgs]
      clear hV d0 d1 hb0 hgs X0
      go_wp2_with fail
      refine hps.mono ?_
      rintro e v2 ⟨rfl, hP2, hk2⟩
      rw [← HSJ.out] at hP2
      replace hBV := hBV.trans (hk2.below (fun k hk => hk))
      clear q0 q1 hk2 hP1 hps hrV HSJ
      go_wp2
      go_roundw
      case rel => exact ⟨j + 1, by omega, by go_num, hP2, hBV⟩
      case measure => simp [intOf]; omega

end Go.Proofs.YtkbbdkecillnpaaGreat

namespace Go.Proofs.YtkbbdkecillnpaaGreat
open Go.RowKit Go.Maps
set_option linter.unusedSimpArgs false
set_option linter.unusedVariables false

theorem info_slD : (Tryz.prog.info? 79).map (fun i => (i.zero, i.size, i.bytes)) = some (some (.agg #[.int .i64 0, .int .i64 0]), SlE.sz, 16) := by kernel_rfl
theorem info_stD : (Tryz.prog.info? 50).map (fun i => (i.zero, i.size, i.bytes)) = some (some (.agg #[.int .i64 0, .slice none 0 0]), SpE.sz, 32) := by kernel_rfl
theorem info_ssD : (Tryz.prog.info? 52).map (fun i => (i.zero, i.size, i.bytes)) = some (some (.slice none 0 0), SpE.row.sz, 24) := by kernel_rfl
/-- 'make([]T, 0, n)'. -/
theorem makeG {α : Type} (E : El α) (S : Nat → Prop) (t e : TypeId) {z : Value} {by' : Nat} (ht : Tryz.prog.underlying t = some (.slice e)) (hinfo : (Tryz.prog.info? e).map (fun i => (i.zero, i.size, i.bytes)) = some (some z, E.sz, by')) (hby : by' ≤ 1000) (n : Nat) (hn : n ≤ 100) (w : World) :
    ∃ w1, (Instr.makeSlice t (.int .i64 0) (.int .i64 (n : Int))).run Tryz.prog w = .ok (.slice (some ⟨w.heap.size, 0, none⟩) 0 n) w1 ∧ Gw E e w.heap.size S w1 (.slice (some ⟨w.heap.size, 0, none⟩) 0 n) [] ∧ Below w.heap.size w w1 ∧ w1.heap.size = w.heap.size + 1 := by
  obtain ⟨i0, hi0, hz0, hz1, hz2⟩ := info_parts hinfo
  have hmk := run_make (P := Tryz.prog) w t e i0 _ ht hi0 hz0 .i64 .i64 0 (n : Int) (by omega) (by omega) (by
    have h1 := Nat.mul_le_mul hn hby
    have h2 : ((n * by' : Nat) : Int) ≤ 100000 := by omega
    rw [Int.natCast_mul, Int.mul_comm] at h2
    rw [hz2]
    omega) (by omega)
  rw [hz1] at hmk
  simp only [Int.toNat_zero, Int.toNat_natCast] at hmk
  refine ⟨_, hmk, Gw.made ?_, bl1 _, by simp⟩
  have := World.ownsRow_made (base := w.heap.size) (e := e) (size := E.sz) w (madeCells z.cells (n * E.sz)) n (Nat.le_refl _) (by unfold maxLen; omega) (size_madeCells _ _)
  simpa using this

end Go.Proofs.YtkbbdkecillnpaaGreat

namespace Go.Proofs.YtkbbdkecillnpaaGreat
open Go.RowKit Go.Maps
set_option linter.unusedSimpArgs false
set_option linter.unusedVariables false

/-- Slots of numbers, without a row. -/
def fxS (N : List Int) : List (Int × Int) := N.map (fun z => (z, -1))
theorem fxS_len (N : List Int) : (fxS N).length = N.length := by unfold fxS; rw [List.length_map]
theorem fxS_take {N : List Int} {k : Nat} (hk : k < N.length) : fxS (N.take (k + 1)) = fxS (N.take k) ++ [(N.getD k 0, -1)] := by
  rw [take_snoc (d := 0) hk]
  unfold fxS
  rw [List.map_append]
  rfl
theorem fxS_ba (R : Rd18) (x : Sp) : fxS (nuL R x.ar) = (baP R x).ar := by
  unfold fxS nuL baP
  dsimp only
  rw [List.map_map]
  rfl

theorem i64_m1 : I64 (-1) := ⟨by decide, by decide⟩

set_option maxHeartbeats 4000000 in
set_option maxRecDepth 100000 in
theorem fixed_any (a : Option Addr) (c : Nat) (N : List Int) (w : World) (hN : Ri w a c N) (h6 : N.length ≤ 6) :
    Calls Tryz.prog 31 #[.slice a N.length c] w fun e w' => ∃ v, e = .returned v ∧ Gw SlE 79 w.heap.size (fun _ => False) w' v (fxS N) ∧ Below w.heap.size w w' := by
  have kN := hN.lenB
  have HN : Hid (Ri w a c N) := hN
  obtain ⟨w1, hmk, hI0, hb1, hs1⟩ := makeG SlE (fun _ => False) 48 79 Tryz.underlying48 info_slD (by decide) N.length (by omega) w
  obtain ⟨g, hgg⟩ : ∃ g, w.heap.size = g := ⟨_, rfl⟩
  have HG : Hid (w.heap.size = g) := hgg
  rw [hgg] at hI0 hmk
  clear hN
  go_enter Tryz.func31, Tryz.ntmps31
  go_wp2
  clear hmk hgg
  go_loopw [3, 11] (fun v i wr => ∃ (k : Nat), k ≤ N.length ∧ i = .int .i64 (k : Int) ∧ Gw SlE 79 g (fun _ => False) wr v (fxS (N.take k)) ∧ g ≤ wr.heap.size ∧ Below w.heap.size w wr) (fun _ i _ => N.length - (intOf i).toNat)
  case atStart => exact ⟨0, Nat.zero_le _, rfl, hI0, by rw [← HG.out]; exact hb1.size, hb1⟩
  case round =>
    clear hI0 hb1 hs1
    obtain ⟨k, hk, rfl, hGw, hgs, hB⟩ := hrel
    obtain ⟨a6, c6, e6, hgr6, hb6⟩ := hGw.slice
    subst e6
    by_cases hkn : k < N.length
    · have g2 : (k : Int) < (N.length : Int) := by omega
      obtain ⟨b1, off, ea, hb1, d0⟩ := HN.out.at hB k hkn
      have hi : I64 (N.getD k 0) := HN.out.i64 hkn
      have HSC : Hid (_) := fxS_take hkn
      generalize N.getD k 0 = z at *
      subst ea
      have HLL : Hid ((fxS (N.take k)).length ≤ 6) := by show _ ≤ 6; rw [fxS_len, List.length_take]; omega
      obtain ⟨L, hL⟩ : ∃ L, fxS (N.take k) = L := ⟨_, rfl⟩
      rw [hL] at hGw HSC HLL ⊢
      have HOW : Hid (∀ q, (Value.slice a6 L.length c6).ownBlock = some q → g ≤ q ∧ q < wr.heap.size) := fun q e => hGw.lo e
      have i1 : (0 : Int) ≤ (k : Int) := by omega
      obtain ⟨V9, hV9, Y9, hb9⟩ : ∃ V, V = wr.alloc (.cells #[.int .i64 z, .int .i64 (-1)] 79) ∧ Bk 79 V wr.heap.size [.int .i64 z, .int .i64 (-1)] ∧ Below wr.heap.size wr V := ⟨_, rfl, Bk.new _ _ _, bl1 _⟩
      have hGb := hGw.below hb9
      have hrep : SlE.rep (fun q => False ∧ (Value.slice a6 L.length c6).ownBlock ≠ some q) V9 [.int .i64 z, .int .i64 (-1)] (z, -1) := SlE_rep.2 ⟨rfl, hi, i64_m1⟩
      have hone := Gr.one (E := SlE) hrep Y9.lt (fun j hj => Y9.cell j hj)
      have hBb : Below w.heap.size w V9 := hB.trans (hb9.mono hB.size)
      have hs9 := hb9.size
      have hbs : g ≤ V9.heap.size := by omega
      have hll : L.length + 1 ≤ 1000000 := by have := HLL.out; omega
      clear hrep hGw hB hgr6 hb6 hL HLL
      go_wp2_with (at_builtin; rw [← hV9]; refine wpList_append_el (E := SlE) 48 79 Tryz.underlying48 info_slD rfl (by decide) (by decide) rfl _ _ rfl g (fun _ => False) _ L rfl hGb (some ⟨wr.heap.size, 0, none⟩) 1 1 [(z, -1)] rfl rfl hone hll hbs ?_)
      intro v9 w9 hT9 hgrow _
      rw [← hV9] at hgrow
      rw [← HSC.out] at hT9
      have hB9 : Below w.heap.size w w9 := hBb.grown hgrow hBb.size (fun q hq => by have := (HOW.out q hq).1; have := HG.out; omega)
      have hs10 : g ≤ w9.heap.size := Nat.le_trans hbs hgrow.size
      clear hgrow hGb hone hbs hll hBb hV9 Y9 hb9
      go_wp2
      go_roundw
      case rel => exact ⟨k + 1, by omega, by go_num, hT9, hs10, hB9⟩
      case measure => simp [intOf]; omega
    · have hkk : k = N.length := by omega
      subst hkk
      have g4 : ¬ (N.length : Int) < (N.length : Int) := by omega
      rw [List.take_length] at hGw ⊢
      obtain ⟨L, hL⟩ : ∃ L, fxS N = L := ⟨_, rfl⟩
      rw [hL] at hGw ⊢
      have HGR : Hid (Gw SlE 79 g (fun _ => False) wr (.slice a6 L.length c6) L) := hGw
      have HLL : Hid (fxS N = L) := hL
      clear hL
      clear hGw hgr6 hb6 hkn
      go_wp2
      go_ret
      exact ⟨.slice a6 L.length c6, rfl, by rw [HG.out, HLL.out]; exact HGR.out, hB⟩

end Go.Proofs.YtkbbdkecillnpaaGreat

namespace Go.Proofs.YtkbbdkecillnpaaGreat
set_option linter.unusedSimpArgs false
set_option linter.unusedVariables false

/-- What is to be read is there. -/
def okSp (b : List Nat) : Bool := decide (1 ≤ arD ((hd1 b : Nat) : Int)) && decide (usP b ≤ b.length)
def okSps : Nat → List Nat → Bool
  | 0, _ => true
  | n + 1, b => okSp b && okSps n (b.drop (usP b))
def okDw (b : List Nat) : Bool := (decide (2 ≤ b.length) && decide (hd2 b ≤ 60)) && okSps (hd2 b) (b.drop 2)
def okDws : Nat → List Nat → Bool
  | 0, _ => true
  | n + 1, b => okDw b && okDws n (b.drop (usW b))
def okDc (b : List Nat) : Bool := (decide (2 ≤ b.length) && decide (hd2 b ≤ 20)) && okDws (hd2 b) (b.drop 2)
def usD (b : List Nat) : Nat := 2 + usWs (nD b) (b.drop 2)
theorem okSps_succ : ∀ (n : Nat) (b : List Nat), okSps (n + 1) b = (okSps n b && okSp (b.drop (usPs n b))) := by
  intro n
  induction n with
  | zero => intro b; simp [okSps, usPs]
  | succ n ih => intro b; rw [okSps, ih, okSps, usPs, List.drop_drop, Bool.and_assoc]
theorem okDws_succ : ∀ (n : Nat) (b : List Nat), okDws (n + 1) b = (okDws n b && okDw (b.drop (usWs n b))) := by
  intro n
  induction n with
  | zero => intro b; simp [okDws, usWs]
  | succ n ih => intro b; rw [okDws, ih, okDws, usWs, List.drop_drop, Bool.and_assoc]
theorem okSps_no {n m : Nat} {b : List Nat} (hm : n < m) (h : okSp (b.drop (usPs n b)) = false) : okSps m b = false := by
  induction m with
  | zero => omega
  | succ m ih =>
    rw [okSps_succ]
    rcases Nat.lt_or_ge n m with h1 | h1
    · rw [ih h1]; rfl
    · rw [show m = n by omega, h, Bool.and_false]
theorem okDws_no {n m : Nat} {b : List Nat} (hm : n < m) (h : okDw (b.drop (usWs n b)) = false) : okDws m b = false := by
  induction m with
  | zero => omega
  | succ m ih =>
    rw [okDws_succ]
    rcases Nat.lt_or_ge n m with h1 | h1
    · rw [ih h1]; rfl
    · rw [show m = n by omega, h, Bool.and_false]
theorem okSp_iff {b : List Nat} : okSp b = true ↔ 1 ≤ arD ((hd1 b : Nat) : Int) ∧ usP b ≤ b.length := by unfold okSp; rw [Bool.and_eq_true, decide_eq_true_iff, decide_eq_true_iff]
theorem okSp_no1 {b : List Nat} (h : arD ((hd1 b : Nat) : Int) = -1) : okSp b = false := by unfold okSp; rw [decide_eq_false (by omega)]; rfl
theorem okSp_no2 {b : List Nat} (h : b.length < usP b) : okSp b = false := by unfold okSp; rw [decide_eq_false (show ¬ usP b ≤ b.length by omega), Bool.and_false]
theorem okDw_iff {b : List Nat} : okDw b = true ↔ (2 ≤ b.length ∧ hd2 b ≤ 60) ∧ okSps (hd2 b) (b.drop 2) = true := by unfold okDw; rw [Bool.and_eq_true, Bool.and_eq_true, decide_eq_true_iff, decide_eq_true_iff]
theorem okDc_iff {b : List Nat} : okDc b = true ↔ (2 ≤ b.length ∧ hd2 b ≤ 20) ∧ okDws (hd2 b) (b.drop 2) = true := by unfold okDc; rw [Bool.and_eq_true, Bool.and_eq_true, decide_eq_true_iff, decide_eq_true_iff]
theorem mD_of {b : List Nat} (h : hd2 b ≤ 60) : mD b = hd2 b := by unfold mD; rw [if_pos h]
theorem nD_of {b : List Nat} (h : hd2 b ≤ 20) : nD b = hd2 b := by unfold nD; rw [if_pos h]

/-- What is read so has the bytes that were read. -/
theorem be_hd2 {b : List Nat} (hb : Byt b) (h : 2 ≤ b.length) : be2 ((hd2 b : Nat) : Int) = b.take 2 := by
  match b, h with
  | x :: y :: t, _ =>
    have hx := hb x (by simp)
    have hy := hb y (by simp)
    show be2 (((256 * x + y : Nat)) : Int) = [x, y]
    simp only [be2, List.cons.injEq, and_true]
    refine ⟨by omega, by omega⟩
theorem be_sx {b : List Nat} (hb : Byt b) (h : 2 ≤ b.length) : be2 (sx16 (hd2 b)) = b.take 2 := by
  match b, h with
  | x :: y :: t, _ =>
    have e := be_sx2 (xs := [x, y]) (fun z hz => hb z (by
      rcases List.mem_cons.1 hz with rfl | hz
      · simp
      · rw [List.mem_singleton.1 hz]; simp)) rfl
    have e2 : V8 [x, y] = 256 * x + y := by simp only [V8, List.foldl_cons, List.foldl_nil]; omega
    rw [e2] at e
    exact e
theorem be_hd1 {b : List Nat} (hb : Byt b) (h : 1 ≤ b.length) : be1 ((hd1 b : Nat) : Int) = b.take 1 := by
  match b, h with
  | x :: t, _ =>
    have hx := hb x (by simp)
    show [(((x : Nat) : Int) % 256).toNat] = [x]
    congr 1
    omega
theorem slsE_rd : ∀ (n : Nat) {b : List Nat}, Byt b → 4 * n ≤ b.length → slsE (rdSls n b) = b.take (4 * n) := by
  intro n
  induction n with
  | zero => intro b _ _; rfl
  | succ n ih =>
    intro b hb hl
    have h1 := be_sx hb (by omega)
    have h2 := be_sx (hb.drop 2) (by rw [List.length_drop]; omega)
    have h3 := ih (hb.drop 4) (by rw [List.length_drop]; omega)
    rw [rdSls, slsE, slE, h1, h2, h3, show 4 * (n + 1) = 4 + 4 * n by omega, List.take_add, ← List.take_add (i := 2) (j := 2)]
theorem usP_pos (b : List Nat) : 1 ≤ usP b := by unfold usP; omega
theorem spY_rd {b : List Nat} (hb : Byt b) (h : okSp b = true) : spY (rdSp b) = b.take (usP b) := by
  obtain ⟨h1, h2⟩ := okSp_iff.1 h
  have h3 := usP_pos b
  have e : usP b = 1 + 4 * (arD ((hd1 b : Nat) : Int)).toNat := rfl
  have h4 := slsE_rd (arD ((hd1 b : Nat) : Int)).toNat (hb.drop 1) (by rw [List.length_drop]; omega)
  rw [spY]
  show be1 ((hd1 b : Nat) : Int) ++ slsE (rdSls (arD ((hd1 b : Nat) : Int)).toNat (b.drop 1)) = _
  rw [h4, be_hd1 hb (by omega), e, List.take_add]
theorem spsE_rd : ∀ (n : Nat) {b : List Nat}, Byt b → okSps n b = true → spsE (rdSps n b) = b.take (usPs n b) ∧ usPs n b ≤ b.length := by
  intro n
  induction n with
  | zero => intro b _ _; exact ⟨rfl, Nat.zero_le _⟩
  | succ n ih =>
    intro b hb h
    rw [okSps, Bool.and_eq_true] at h
    obtain ⟨h1, h2⟩ := ih (hb.drop (usP b)) h.2
    have h3 := (okSp_iff.1 h.1).2
    rw [List.length_drop] at h2
    rw [rdSps, spsE, usPs, h1, spY_rd hb h.1, List.take_add]
    exact ⟨rfl, by omega⟩
theorem dwE_rd {b : List Nat} (hb : Byt b) (h : okDw b = true) : dwE (rdDw b) = b.take (usW b) ∧ usW b ≤ b.length := by
  obtain ⟨⟨h1, h2⟩, h3⟩ := okDw_iff.1 h
  obtain ⟨h4, h5⟩ := spsE_rd _ (hb.drop 2) h3
  rw [List.length_drop] at h5
  rw [dwE, rdDw, usW, mD_of h2, rdSps_len, h4, be_hd2 hb h1, List.take_add]
  exact ⟨rfl, by omega⟩
theorem dwsE_rd : ∀ (n : Nat) {b : List Nat}, Byt b → okDws n b = true → dwsE (rdDws n b) = b.take (usWs n b) ∧ usWs n b ≤ b.length := by
  intro n
  induction n with
  | zero => intro b _ _; exact ⟨rfl, Nat.zero_le _⟩
  | succ n ih =>
    intro b hb h
    rw [okDws, Bool.and_eq_true] at h
    obtain ⟨h1, h2⟩ := ih (hb.drop (usW b)) h.2
    obtain ⟨h3, h4⟩ := dwE_rd hb h.1
    rw [List.length_drop] at h2
    rw [rdDws, dwsE, usWs, h1, h3, List.take_add]
    exact ⟨rfl, by omega⟩
theorem dsE_rd {b : List Nat} (hb : Byt b) (h : okDc b = true) : dsE (rdDc b) = b.take (usD b) ∧ usD b ≤ b.length := by
  obtain ⟨⟨h1, h2⟩, h3⟩ := okDc_iff.1 h
  obtain ⟨h4, h5⟩ := dwsE_rd _ (hb.drop 2) h3
  rw [List.length_drop] at h5
  rw [dsE, rdDc, usD, nD_of h2, rdDws_len, h4, be_hd2 hb h1, List.take_add]
  exact ⟨rfl, by omega⟩
/-- What is written is there to be read. -/
theorem okSp_back {fi : Int → Int → Bool} (hfi : ∀ b r, fi b r = true → (-32768 ≤ b ∧ b ≤ 32767) ∧ (-32768 ≤ r ∧ r ≤ 32767)) {n : Nat} {x : Sp} (h : spF fi n x = true) (Z : List Nat) : okSp (spY x ++ Z) = true := by
  obtain ⟨e1, e2⟩ := rdSp_back hfi h Z
  have h1 := (spF_iff.1 h).1
  have h2 := arD_in x.d
  have e3 : ((hd1 (spY x ++ Z) : Nat) : Int) = x.d := by
    have := congrArg Sp.d e1
    exact this
  refine okSp_iff.2 ⟨by rw [e3]; omega, ?_⟩
  rw [e2, List.length_append]
  omega
theorem okSps_back {fi : Int → Int → Bool} (hfi : ∀ b r, fi b r = true → (-32768 ≤ b ∧ b ≤ 32767) ∧ (-32768 ≤ r ∧ r ≤ 32767)) {n : Nat} : ∀ (d : List Sp) (Z : List Nat), (∀ x ∈ d, spF fi n x = true) → okSps d.length (spsE d ++ Z) = true := by
  intro d
  induction d with
  | nil => intro Z _; rfl
  | cons x d ih =>
    intro Z h
    have h1 := (rdSp_back hfi (h x (by simp)) (spsE d ++ Z)).2
    have h3 := ih Z (fun y hy => h y (by simp [hy]))
    have e : spsE (x :: d) ++ Z = spY x ++ (spsE d ++ Z) := by rw [spsE, List.append_assoc]
    have e2 : (spY x ++ (spsE d ++ Z)).drop (spY x).length = spsE d ++ Z := List.drop_left
    rw [e, List.length_cons, okSps, h1, e2, h3, okSp_back hfi (h x (by simp))]
    rfl
theorem okDw_back {fi : Int → Int → Bool} (hfi : ∀ b r, fi b r = true → (-32768 ≤ b ∧ b ≤ 32767) ∧ (-32768 ≤ r ∧ r ≤ 32767)) {n : Nat} {d : List Sp} (h : drF fi n d = true) (Z : List Nat) : okDw (dwE d ++ Z) = true := by
  have hl := (drF_iff.1 h).1
  have hel : ∀ x ∈ d, spF fi n x = true := by
    unfold drF at h
    rw [Bool.and_eq_true, List.all_eq_true] at h
    exact h.2
  have e1 : hd2 (dwE d ++ Z) = d.length := by
    rw [dwE, List.append_assoc, hd2_be2, V8_be2i' (by omega) (by omega)]
    omega
  have e2 : (dwE d ++ Z).drop 2 = spsE d ++ Z := by rw [dwE, List.append_assoc]; rfl
  have e : (be2 ((d.length : Nat) : Int)).length = 2 := rfl
  refine okDw_iff.2 ⟨⟨?_, by rw [e1]; exact hl⟩, ?_⟩
  · rw [dwE, List.length_append, List.length_append, e]; omega
  · rw [e1, e2]; exact okSps_back hfi d Z hel
theorem okDws_back {fi : Int → Int → Bool} (hfi : ∀ b r, fi b r = true → (-32768 ≤ b ∧ b ≤ 32767) ∧ (-32768 ≤ r ∧ r ≤ 32767)) {n : Nat} : ∀ (l : List (List Sp)) (Z : List Nat), (∀ d ∈ l, drF fi n d = true) → okDws l.length (dwsE l ++ Z) = true ∧ usWs l.length (dwsE l ++ Z) = (dwsE l).length := by
  intro l
  induction l with
  | nil => intro Z _; exact ⟨rfl, rfl⟩
  | cons d l ih =>
    intro Z h
    obtain ⟨h1, h2⟩ := rdDw_back hfi (h d (by simp)) (dwsE l ++ Z)
    obtain ⟨h3, h4⟩ := ih Z (fun y hy => h y (by simp [hy]))
    have e : dwsE (d :: l) ++ Z = dwE d ++ (dwsE l ++ Z) := by rw [dwsE, List.append_assoc]
    have e2 : (dwE d ++ (dwsE l ++ Z)).drop (dwE d).length = dwsE l ++ Z := List.drop_left
    rw [e, List.length_cons, okDws, usWs, h2, e2, h3, h4, okDw_back hfi (h d (by simp)), dwsE, List.length_append]
    exact ⟨rfl, rfl⟩
theorem okDc_back {fi : Int → Int → Bool} (hfi : ∀ b r, fi b r = true → (-32768 ≤ b ∧ b ≤ 32767) ∧ (-32768 ≤ r ∧ r ≤ 32767)) {l : List (List Sp)} (h : foD fi l = true) : okDc (dsE l) = true ∧ usD (dsE l) = (dsE l).length := by
  have hl := (foD_iff.1 h).1
  have e1 : hd2 (dsE l) = l.length := by
    rw [dsE, hd2_be2, V8_be2i' (by omega) (by omega)]
    omega
  have e2 : (dsE l).drop 2 = dwsE l ++ [] := by rw [dsE, List.append_nil]; rfl
  have e : (be2 ((l.length : Nat) : Int)).length = 2 := rfl
  obtain ⟨h3, h4⟩ := okDws_back hfi l [] (foD_el h)
  have hlen : (dsE l).length = 2 + (dwsE l).length := by rw [dsE, List.length_append, e]
  constructor
  · exact okDc_iff.2 ⟨⟨by omega, by rw [e1]; exact hl⟩, by rw [e1, e2]; exact h3⟩
  · rw [usD, nD_of (by rw [e1]; exact hl), e1, e2, h4, hlen]
/-- What the code finds, and what Read answers. -/
theorem rdD_code {fi : Int → Int → Bool} (hfi : ∀ b r, fi b r = true → (-32768 ≤ b ∧ b ≤ 32767) ∧ (-32768 ≤ r ∧ r ≤ 32767)) {b : List Nat} (hb : Byt b) :
    (okDc b = true → usD b = b.length → foD fi (rdDc b) = true → rdDL fi b = rdDc b ∧ rdDE fi b = 0) ∧ ((okDc b = false ∨ usD b ≠ b.length ∨ foD fi (rdDc b) = false) → rdDL fi b = [] ∧ rdDE fi b = 2) := by
  constructor
  · intro h1 h2 h3
    refine rdD_yes (rdDOk_iff.2 ⟨h3, ?_⟩)
    rw [(dsE_rd hb h1).1, h2, List.take_length]
  · intro h
    refine rdD_no ?_
    cases ho : rdDOk fi b with
    | false => rfl
    | true =>
      obtain ⟨h1, h2⟩ := rdDOk_iff.1 ho
      obtain ⟨h3, h4⟩ := okDc_back hfi h1
      rw [h2] at h3 h4
      rcases h with h | h | h
      · rw [h3] at h; cases h
      · exact absurd h4 h
      · rw [h1] at h; cases h

end Go.Proofs.YtkbbdkecillnpaaGreat
