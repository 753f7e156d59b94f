/-
  outline.putSteps, outline.putParts, outline.putFlags: the walks.
-/
import Derived.Test.YtdojgkejpfdaeaaZ11
import Derived.Test.YtdojgkejpfdaeaaZ9
import Derived.Test.YtdojgkejpfdaeaaZ10
import Derived.Deep.CutRange
import Derived.Deep.CutBlock
import Derived.Lib.MinMax
namespace Go.Proofs.Ytdojgkejpfdaeaa
open Go.RowKit Go.Maps
set_option linter.unusedSimpArgs false
set_option linter.unusedVariables false

theorem Gr.keptP {S G : Nat → Prop} {w w' : World} {a : Option Addr} {cap : Nat} {l : List Pn} (h : Gr PnE S w a cap l) (hk : Keep G w w') (hG : ∀ b o, a = some ⟨b, o, none⟩ → l ≠ [] → G b) : Gr PnE S w' a cap l := by
  refine ⟨h.1, h.2.1, h.2.2.1, fun i hi => ?_⟩
  obtain ⟨b, off, vs, e, hb, hr, hc⟩ := h.2.2.2 i hi
  exact ⟨b, off, vs, e, Nat.lt_of_lt_of_le hb hk.size, PnE_rep.2 (PnE_rep.1 hr), fun j hj => (hk.cell (p := ⟨b, off + i * PnE.sz + j, none⟩) (hG b off e (fun e0 => by rw [e0] at hi; simp at hi))).trans (hc j hj)⟩
theorem Gr.keptA {S G : Nat → Prop} {w w' : World} {a : Option Addr} {cap : Nat} {l : List Pa} (h : Gr PaE S w a cap l) (hk : Keep G w w') (hG : ∀ b o, a = some ⟨b, o, none⟩ → l ≠ [] → G b) : Gr PaE S w' a cap l := by
  refine ⟨h.1, h.2.1, h.2.2.1, fun i hi => ?_⟩
  obtain ⟨b, off, vs, e, hb, hr, hc⟩ := h.2.2.2 i hi
  exact ⟨b, off, vs, e, Nat.lt_of_lt_of_le hb hk.size, PaE_rep.2 (PaE_rep.1 hr), fun j hj => (hk.cell (p := ⟨b, off + i * PaE.sz + j, none⟩) (hG b off e (fun e0 => by rw [e0] at hi; simp at hi))).trans (hc j hj)⟩
theorem axB_z {d : Int} (h : d = 0) : axB d = [] := if_pos h
theorem axB_s {d : Int} (h0 : d ≠ 0) (h1 : -255 ≤ d) (h2 : d ≤ 255) : axB d = be1 (max d (-d)) := by
  unfold axB be1
  rw [if_neg h0]
  by_cases h : 0 < d
  · rw [if_pos (by omega)]; congr 1; omega
  · rw [if_neg (by omega), if_pos (by omega)]; congr 1; omega
theorem axB_l {d : Int} (h : d < -255 ∨ 255 < d) : axB d = be2 d := by
  unfold axB
  rw [if_neg (by omega), if_neg (by omega), if_neg (by omega)]

set_option maxHeartbeats 2000000 in
set_option maxRecDepth 100000 in
theorem cputSteps_any (B : Nat) (G : Nat → Prop) (ys : List Nat) (a : Option Addr) (cap : Nat) (l : List Int) (w : World) (h : Pc w B G ⟨ys, [], false⟩) (hr : Ri w a cap l) (hG : ∀ b o, a = some ⟨b, o, none⟩ → G b) (hx : ∀ x ∈ l, -32768 ≤ x ∧ x ≤ 32767) (hl : ys.length + 2 * l.length + 4 ≤ 1048576) :
    Calls Try.prog 23 #[pg B, .slice a l.length cap] w fun e w' => e = .returned (.tuple #[]) ∧ Pc w' B G ⟨ys ++ l.flatMap axB, [], false⟩ ∧ Keep G w w' := by
  have k2 := hr.lenB
  have HR : Hid (Ri w a cap l) := hr
  have HX : Hid (∀ x ∈ l, -32768 ≤ x ∧ x ≤ 32767) := hx
  have HG : Hid (∀ b o, a = some ⟨b, o, none⟩ → G b) := hG
  clear hr hx hG
  go_enter Try.func23, Try.ntmps23
  go_wp2
  go_loopw [8] (fun i wr => ∃ k : Nat, k ≤ l.length ∧ i = .int .i64 k ∧ Pc wr B G ⟨ys ++ (l.take k).flatMap axB, [], false⟩ ∧ Keep G w wr) (fun i _ => l.length - (intOf i).toNat)
  case atStart => exact ⟨0, Nat.zero_le _, rfl, by simpa using h, Keep.refl _ _⟩
  case round =>
    obtain ⟨k, hk, rfl, hP, hK⟩ := hrel
    by_cases hkn : k < l.length
    rotate_left
    · obtain rfl : k = l.length := by omega
      rw [List.take_length] at hP
      have g1 : ¬ (l.length : Int) < (l.length : Int) := by omega
      go_wp2
      go_end0
      exact ⟨rfl, hP, hK⟩
    obtain ⟨b, off, ea, hb, d0⟩ := (HR.out.kept hK HG.out).get k hkn
    have hx := HX.out _ (getD_mem hkn)
    obtain ⟨x, hx0⟩ : ∃ x, l.getD k 0 = x := ⟨_, rfl⟩
    have HS : Hid (_) := flat_take (f := axB) hkn hx0
    have hle : ((l.take k).flatMap axB).length ≤ 2 * l.length := take_len2 axB_len l k
    rw [hx0] at d0 hx
    subst ea
    clear hx0
    obtain ⟨zs, hzs⟩ : ∃ zs, (l.take k).flatMap axB = zs := ⟨_, rfl⟩
    rw [hzs] at HS hle hP
    have HT : Hid (ys ++ zs ++ axB x = ys ++ (l.take (k + 1)).flatMap axB) := by show _ = _; rw [HS.out, List.append_assoc]
    clear hzs HS
    have i1 : (0 : Int) ≤ (k : Int) := by omega
    have i2 : (k : Int) < (l.length : Int) := by omega
    by_cases h0 : x = 0
    · rw [axB_z h0, List.append_nil] at HT
      rw [HT.out] at hP
      have g1 : (x == 0) = true := by simp [h0]
      clear h0 HT hx
      go_wp2
      go_roundw
      case rel => exact ⟨k + 1, by omega, by go_num, hP, hK⟩
      case measure => simp [intOf]; omega
    have g1 : (x == 0) = false := by simp [h0]
    by_cases h1 : -255 ≤ x ∧ x ≤ 255
    · rw [axB_s h0 h1.1 h1.2] at HT
      obtain ⟨z, hz⟩ : ∃ z, max x (-x) = z := ⟨_, rfl⟩
      have hz1 : 0 ≤ z ∧ z ≤ 255 := by omega
      rw [hz] at HT
      have hp := put8_any B G _ z wr hP ⟨by omega, by omega⟩ (by show (ys ++ zs).length + 4 ≤ _; rw [List.length_append]; omega)
      rw [put8A (by omega) (by omega), HT.out] at hp
      have g2 : decide (-255 ≤ x) = true := decide_eq_true h1.1
      have g3 : decide (x ≤ 255) = true := decide_eq_true h1.2
      clear hP h0 HT
      go_wp2_with fail
      refine hp.mono ?_
      rintro e u1 ⟨rfl, hP, hK1⟩
      replace hK := hK.trans hK1
      clear hp hK1
      go_wp2
      go_roundw
      case rel => exact ⟨k + 1, by omega, by go_num, hP, hK⟩
      case measure => simp [intOf]; omega
    · rw [axB_l (by omega)] at HT
      have hp := put16_any B G _ x wr hP ⟨by omega, by omega⟩ (by show (ys ++ zs).length + 4 ≤ _; rw [List.length_append]; omega)
      rw [put16A (by omega) (by omega), HT.out] at hp
      by_cases h2 : -255 ≤ x
      · have g2 : decide (-255 ≤ x) = true := decide_eq_true h2
        have g3 : decide (x ≤ 255) = false := decide_eq_false (by omega)
        clear hP h0 HT
        go_wp2_with fail
        refine hp.mono ?_
        rintro e u1 ⟨rfl, hP, hK1⟩
        replace hK := hK.trans hK1
        clear hp hK1
        go_wp2
        go_roundw
        case rel => exact ⟨k + 1, by omega, by go_num, hP, hK⟩
        case measure => simp [intOf]; omega
      · have g2 : decide (-255 ≤ x) = false := decide_eq_false h2
        clear hP h0 HT
        go_wp2_with fail
        refine hp.mono ?_
        rintro e u1 ⟨rfl, hP, hK1⟩
        replace hK := hK.trans hK1
        clear hp hK1
        go_wp2
        go_roundw
        case rel => exact ⟨k + 1, by omega, by go_num, hP, hK⟩
        case measure => simp [intOf]; omega

theorem flatA_take {l : List Pa} {k : Nat} {p : Pa} (hk : k < l.length) (hp : l.getD k Pa.none = p) : (l.take (k + 1)).flatMap paE = (l.take k).flatMap paE ++ paE p := by
  rw [take_snoc (d := Pa.none) hk, hp, List.flatMap_append]
  simp
theorem flatA_len (l : List Pa) : (l.flatMap paE).length = 6 * l.length := by
  induction l with
  | nil => rfl
  | cons p t ih =>
    have e : (paE p).length = 6 := rfl
    rw [List.flatMap_cons, List.length_append, ih, e, List.length_cons]
    omega

set_option maxHeartbeats 2000000 in
set_option maxRecDepth 100000 in
theorem cputParts_any (S : Nat → Prop) (B : Nat) (G : Nat → Prop) (a : Option Addr) (cap : Nat) (l : List Pa) (w : World) (h : Pc w B G ⟨[], [], false⟩) (hr : Gr PaE S w a cap l) (hG : ∀ b o, a = some ⟨b, o, none⟩ → l ≠ [] → G b) (hx : ∀ p ∈ l, (0 ≤ p.g ∧ p.g ≤ 65535) ∧ (-32768 ≤ p.dx ∧ p.dx ≤ 32767) ∧ (-32768 ≤ p.dy ∧ p.dy ≤ 32767)) (hl : l.length ≤ 6) :
    Calls Try.prog 14 #[pg B, .slice a l.length cap] w fun e w' => e = .returned (.tuple #[]) ∧ Pc w' B G ⟨paB l, [], false⟩ ∧ Keep G w w' := by
  have HR : Hid (Gr PaE S w a cap l) := hr
  have HX : Hid (∀ p ∈ l, (0 ≤ p.g ∧ p.g ≤ 65535) ∧ (-32768 ≤ p.dx ∧ p.dx ≤ 32767) ∧ (-32768 ≤ p.dy ∧ p.dy ≤ 32767)) := hx
  have HG : Hid (∀ b o, a = some ⟨b, o, none⟩ → l ≠ [] → G b) := hG
  have HE : Hid (paB l = [] ++ be2 (-1) ++ be2 (l.length : Int) ++ l.flatMap paE) := by show _ = _; unfold paB; simp [be2]
  clear hr hx hG
  have hp1 := put16_any B G _ (-1) w h ⟨by decide, by decide⟩ (by decide)
  rw [put16A (by decide) (by decide)] at hp1
  obtain ⟨y1, hy1⟩ : ∃ y, ([] : List Nat) ++ be2 (-1) = y := ⟨_, rfl⟩
  have hyl : y1.length = 2 := by rw [← hy1]; rfl
  rw [hy1] at hp1 HE
  clear hy1 h
  go_enter Try.func14, Try.ntmps14
  go_wp2_with fail
  refine hp1.mono ?_
  rintro e u1 ⟨rfl, hP, hK⟩
  clear hp1
  have hp2 := put16_any B G _ (l.length : Int) u1 hP ⟨by omega, by omega⟩ (by show y1.length + 4 ≤ _; omega)
  rw [put16A (by omega) (by omega)] at hp2
  obtain ⟨y2, hy2⟩ : ∃ y, y1 ++ be2 (l.length : Int) = y := ⟨_, rfl⟩
  have hyl2 : y2.length = 4 := by rw [← hy2, List.length_append, hyl]; rfl
  rw [hy2] at hp2 HE
  clear hy2 hyl hP
  go_wp2_with fail
  refine hp2.mono ?_
  rintro e u2 ⟨rfl, hP, hK2⟩
  have HK0 : Hid (Keep G w u2) := hK.trans hK2
  have HP0 : Hid (Pc u2 B G ⟨y2, [], false⟩) := hP
  clear hp2 hK hK2 hP
  go_wp2
  go_loopw [14] (fun i wr => ∃ k : Nat, k ≤ l.length ∧ i = .int .i64 k ∧ Pc wr B G ⟨y2 ++ (l.take k).flatMap paE, [], false⟩ ∧ Keep G w wr) (fun i _ => l.length - (intOf i).toNat)
  case atStart => exact ⟨0, Nat.zero_le _, rfl, by simpa using HP0.out, HK0.out⟩
  case round =>
    clear HP0 HK0
    obtain ⟨k, hk, rfl, hP, hK⟩ := hrel
    by_cases hkn : k < l.length
    rotate_left
    · obtain rfl : k = l.length := by omega
      rw [List.take_length, ← HE.out] at hP
      have g1 : ¬ (l.length : Int) < (l.length : Int) := by omega
      go_wp2
      go_end0
      exact ⟨rfl, hP, hK⟩
    obtain ⟨b, off, ea, hb, ⟨w0, w1, w2⟩, q0, q1, q2⟩ := (HR.out.keptA hK HG.out).pa (Below.refl _ _) k hkn
    have hx := HX.out _ (get_mem (d := Pa.none) hkn)
    have HS : Hid (_) := flatA_take hkn rfl
    have hle : ((l.take k).flatMap paE).length ≤ 36 := by rw [flatA_len, List.length_take]; omega
    subst ea
    generalize l.getD k Pa.none = p at *
    obtain ⟨g, x, y⟩ := p
    dsimp only at w0 w1 w2 q0 q1 q2 hx
    obtain ⟨zs, hzs⟩ : ∃ zs, y2 ++ (l.take k).flatMap paE = zs := ⟨_, rfl⟩
    have hzl : zs.length ≤ 40 := by rw [← hzs, List.length_append]; omega
    have HT : Hid (zs ++ be2 g ++ be2 x ++ be2 y = y2 ++ (l.take (k + 1)).flatMap paE) := by show _ = _; rw [HS.out, ← hzs]; unfold paE; simp only [List.append_assoc]
    rw [hzs] at hP
    clear hzs HS hle
    have i1 : (0 : Int) ≤ (k : Int) := by omega
    have i2 : (k : Int) < (l.length : Int) := by omega
    obtain ⟨W, hW⟩ : ∃ W, W = wr.alloc (.cells #[.int .i64 g, .int .i64 x, .int .i64 y] 59) := ⟨_, rfl⟩
    have hP1 := hP.moreA (.cells #[.int .i64 g, .int .i64 x, .int .i64 y] 59)
    have hX := Bk.new 59 wr [.int .i64 g, .int .i64 x, .int .i64 y]
    have hX : Bk 59 (wr.alloc (.cells #[.int .i64 g, .int .i64 x, .int .i64 y] 59)) wr.heap.size [.int .i64 g, .int .i64 x, .int .i64 y] := hX
    have hK1 : Keep G w (wr.alloc (.cells #[.int .i64 g, .int .i64 x, .int .i64 y] 59)) := hK.alloc hP.1 _
    rw [← hW] at hP1 hX hK1
    have HGl : Hid (∀ k, G k → k < wr.heap.size) := hP.1
    clear hP hK
    have hp3 := put16_any B _ _ g W hP1 ⟨by omega, by omega⟩ (by show zs.length + 4 ≤ _; omega)
    rw [put16A (by omega) (by omega)] at hp3
    obtain ⟨z3, hz3⟩ : ∃ z, zs ++ be2 g = z := ⟨_, rfl⟩
    have hzl3 : z3.length ≤ 42 := by rw [← hz3, List.length_append]; show zs.length + 2 ≤ 42; omega
    rw [hz3] at hp3 HT
    clear hz3 hP1
    go_wp2_with fail
    rw [← hW]
    clear hW q0 q1 q2
    refine hp3.mono ?_
    rintro e u3 ⟨rfl, hP, hK⟩
    replace hX := hX.kept hK (.inr rfl)
    replace hK1 := hK1.trans (hK.mono (fun k hk => .inl hk))
    clear hp3 hK
    have hp4 := put16_any B _ _ x u3 hP ⟨by omega, by omega⟩ (by show z3.length + 4 ≤ _; omega)
    rw [put16A (by omega) (by omega)] at hp4
    obtain ⟨z4, hz4⟩ : ∃ z, z3 ++ be2 x = z := ⟨_, rfl⟩
    have hzl4 : z4.length ≤ 44 := by rw [← hz4, List.length_append]; show z3.length + 2 ≤ 44; omega
    rw [hz4] at hp4 HT
    clear hz4 hP
    obtain ⟨x0, x1, x2, _⟩ := hX.three
    go_wp2_with fail
    refine hp4.mono ?_
    rintro e u4 ⟨rfl, hP, hK⟩
    replace hX := hX.kept hK (.inr rfl)
    replace hK1 := hK1.trans (hK.mono (fun k hk => .inl hk))
    clear hp4 hK x0 x1 x2
    have hp5 := put16_any B _ _ y u4 hP ⟨by omega, by omega⟩ (by show z4.length + 4 ≤ _; omega)
    rw [put16A (by omega) (by omega), HT.out] at hp5
    clear hP
    obtain ⟨x0, x1, x2, _⟩ := hX.three
    go_wp2_with fail
    refine hp5.mono ?_
    rintro e u5 ⟨rfl, hP, hK⟩
    have HP : Hid (Pc u5 B G ⟨y2 ++ (l.take (k + 1)).flatMap paE, [], false⟩) := hP.guard (fun k hk => ⟨hP.1 k (.inl hk), .inl hk⟩)
    replace hK1 := hK1.trans (hK.mono (fun k hk => .inl hk))
    clear hp5 hK hP x0 x1 x2
    go_wp2
    go_roundw
    case rel => exact ⟨k + 1, by omega, by go_num, HP.out, hK1⟩
    case measure => simp [intOf]; omega

theorem or_8 : ∀ f : Fin 64, f.val / 8 % 2 = 0 → bits BinOp.or IntKind.i64 (f.val : Int) 8 = (f.val : Int) + 8 := by decide +kernel
theorem or_8i {x : Int} (h1 : 0 ≤ x) (h2 : x < 64) (h3 : x.toNat / 8 % 2 = 0) : bits BinOp.or IntKind.i64 x 8 = x + 8 := by
  have := or_8 ⟨x.toNat, by omega⟩ h3
  rw [show ((⟨x.toNat, by omega⟩ : Fin 64).val : Int) = x from Int.toNat_of_nonneg h1] at this
  exact this
def FlO (x : Int) : Prop := 0 ≤ x ∧ x < 64 ∧ x.toNat / 8 % 2 = 0
theorem rl_one {m : List Int} (h : m ≠ []) (hr : rn Int.toNat 256 m = 1) (hx : FlO (m.getD 0 0)) : rl m = be1 (m.getD 0 0) ++ rl (m.drop 1) := by
  rw [rl_cons h, hr, if_pos rfl]
  unfold FlO at hx
  congr 1
  unfold be1
  rw [Int.emod_eq_of_lt hx.1 (by omega)]
theorem rl_many {m : List Int} {k : Nat} (h : m ≠ []) (hr : rn Int.toNat 256 m = k + 1) (hk : 0 < k) (hk2 : k ≤ 255) (hx : FlO (m.getD 0 0)) : rl m = be1 (m.getD 0 0 + 8) ++ (be1 (k : Int) ++ rl (m.drop (k + 1))) := by
  rw [rl_cons h, hr, if_neg (by omega)]
  unfold FlO at hx
  unfold be1
  rw [Int.emod_eq_of_lt (by omega) (by omega), Int.emod_eq_of_lt (by omega) (by omega), show (m.getD 0 0 + 8).toNat = (m.getD 0 0).toNat + 8 by omega]
  simp

set_option maxHeartbeats 4000000 in
set_option maxRecDepth 100000 in
theorem cputFlags_any (B : Nat) (G : Nat → Prop) (ys : List Nat) (a : Option Addr) (cap : Nat) (l : List Int) (w : World) (h : Pc w B G ⟨ys, [], false⟩) (hr : Ri w a cap l) (hG : ∀ b o, a = some ⟨b, o, none⟩ → G b) (hx : ∀ x ∈ l, FlO x) (hl : (ys ++ rl l).length ≤ 20000) (hl2 : l.length ≤ 1000) :
    Calls Try.prog 21 #[pg B, .slice a l.length cap] w fun e w' => e = .returned (.tuple #[]) ∧ Pc w' B G ⟨ys ++ rl l, [], false⟩ ∧ Keep G w w' := by
  obtain ⟨tot, htot⟩ : ∃ t, ys ++ rl l = t := ⟨_, rfl⟩
  rw [htot] at hl ⊢
  have HTOT : Hid (ys ++ rl l = tot) := htot
  clear htot
  go_enter Try.func21, Try.ntmps21
  go_wp2
  go_loopw [1] (fun v wr => ∃ (m : List Int) (a' : Option Addr) (cap' : Nat) (zs : List Nat), v = .slice a' m.length cap' ∧ Ri wr a' cap' m ∧ (∀ b o, a' = some ⟨b, o, none⟩ → G b) ∧ zs ++ rl m = tot ∧ (∀ x ∈ m, FlO x) ∧ m.length ≤ 1000 ∧ Pc wr B G ⟨zs, [], false⟩ ∧ Keep G w wr) (fun v _ => slLen v)
  case atStart => exact ⟨l, a, cap, ys, rfl, hr, hG, HTOT.out, hx, hl2, h, Keep.refl _ _⟩
  case round =>
    clear h hr hG hx hl2 HTOT
    obtain ⟨m, a', cap', zs, rfl, hr, hG, ht, hx, hl2, hP, hK⟩ := hrel
    have HT : Hid (zs ++ rl m = tot) := ht
    have hzl : zs.length ≤ 20000 := by rw [← ht, List.length_append] at hl; omega
    have HX : Hid (∀ x ∈ m, FlO x) := hx
    have HG : Hid (∀ b o, a' = some ⟨b, o, none⟩ → G b) := hG
    have HR : Hid (Ri wr a' cap' m) := hr
    have hcp := hr.2.1
    have hcm := hr.2.2.1
    unfold maxLen at hcm
    clear ht hx hG hr
    by_cases hm0 : 0 < m.length
    rotate_left
    · obtain rfl : m = [] := List.length_eq_zero_iff.1 (by omega)
      have HZ : Hid (zs = tot) := by show _ = _; rw [← HT.out, rl_nil, List.append_nil]
      rw [HZ.out] at hP
      clear HT HX HG HR HZ hzl hm0 hl2 hcp
      go_wp2
      go_end0
      exact ⟨rfl, hP, hK⟩
    have HNE : Hid (m ≠ []) := List.length_pos_iff.1 hm0
    obtain ⟨b, off, ea, hb, d0⟩ := HR.out.get 0 hm0
    have hf := HX.out _ (getD_mem hm0)
    obtain ⟨x0, hx0⟩ : ∃ x, m.getD 0 0 = x := ⟨_, rfl⟩
    have HX0 : Hid (m.getD 0 0 = x0) := hx0
    rw [hx0] at hf
    rw [hx0, Nat.add_zero] at d0
    have HF : Hid (FlO x0) := hf
    have hor := or_8i hf.1 hf.2.1 hf.2.2
    have hf1 := hf.1
    have hf2 := hf.2.1
    have HSAME : Hid (∀ j, j < m.length → (m.getD j 0).toNat = (m.getD 0 0).toNat → m.getD j 0 = x0) := fun j hj e => by
      have := (HX.out _ (getD_mem hj)).1
      rw [hx0] at e
      omega
    subst ea
    clear hx0 hf
    have g0 : (0 : Int) < (m.length : Int) := by omega
    have hadd : ∀ k, (some ⟨b, off, none⟩ : Option Addr).map (fun x => x.add k) = some ⟨b, off + k, none⟩ := fun k => by show some (Addr.add _ k) = _; rw [show (⟨b, off, none⟩ : Addr).add k = ⟨b, off + k, none⟩ by unfold Addr.add; split <;> simp_all]
    have HFROM : Hid (∀ k, k ≤ m.length → ∀ a2 c2, (k < m.length → a2 = some ⟨b, off + k, none⟩) → c2 = cap' - k → Ri wr a2 c2 (m.drop k)) := fun k hk a2 c2 h1 h2 => by
      by_cases hkm : k < m.length
      · rw [h1 hkm, h2]
        exact HR.out.drop k hk
      · rw [List.drop_eq_nil_of_le (by omega)]
        exact Ri.nil _ _ _ (by unfold maxLen; omega)
    clear hadd
    obtain ⟨wo, rfl⟩ : ∃ wo, wo = wr := ⟨_, rfl⟩
    by_cases h2 : 2 ≤ m.length
    · have hc1 : ¬ cap' = 1 := by omega
      obtain ⟨n, hn⟩ : ∃ n, m.length - 1 = n := ⟨_, rfl⟩
      have hn1 : m.length ≤ n + 1 := by omega
      have hn2 : n + 1 ≤ m.length := by omega
      obtain ⟨cp, hcpp⟩ : ∃ c, cap' - 1 = c := ⟨_, rfl⟩
      have hcp1 : cap' ≤ cp + 1 := by omega
      have hcp2 : cp + 1 ≤ cap' := by omega
      have i0 : (1 : Int) ≤ (m.length : Int) := by omega
      go_upto_block 2 with fail
      clear hn hcpp
      go_cut [5] from 14 to 28 (fun s5 wx => ∃ k : Nat, s5 = .int .i64 (k : Int) ∧ rn Int.toNat 256 m = k + 1 ∧ k ≤ n ∧ k ≤ 255 ∧ wo = wx)
      case first =>
        go_wp2_with fail
        go_loopw [5] (fun s5 wr => ∃ k : Nat, k ≤ n ∧ k ≤ 255 ∧ s5 = .int .i64 (k : Int) ∧ (∀ j, j < k + 1 → m.getD j 0 = x0) ∧ wo = wr) (fun s5 _ => n - (intOf s5).toNat)
        case atStart => exact ⟨0, Nat.zero_le _, by omega, rfl, (fun j hj => by rw [show j = 0 by omega]; exact HX0.out), rfl⟩
        case round =>
          obtain ⟨k, hk1, hkM, rfl, hsm, rfl⟩ := hrel
          have HSM : Hid (∀ j, j < k + 1 → m.getD j 0 = x0) := hsm
          have HSM1 : Hid (∀ j, j < k + 1 → (m.getD j 0).toNat = (m.getD 0 0).toNat) := fun j hj => by rw [hsm j hj, HX0.out]
          clear hsm
          obtain ⟨mn, hmn⟩ : ∃ c : Nat, min (n : Int) 255 = (c : Int) := ⟨min n 255, by omega⟩
          have hmn2 : (mn = n ∧ n ≤ 255) ∨ (mn = 255 ∧ 255 ≤ n) := by omega
          by_cases h1 : k < mn
          rotate_left
          · have HRN : Hid (rn Int.toNat 256 m = k + 1) := rn_eq (c := Int.toNat) (M := 256) (by omega) (by omega) (by omega) HSM1.out (by omega)
            have g1 : decide (k < mn) = false := decide_eq_false h1
            clear HSM HSM1 h1 hmn2
            go_wp2
            go_meet
            exact ⟨k, rfl, HRN.out, hk1, hkM, rfl⟩
          obtain ⟨b', off', ea', hb', d1⟩ := HR.out.get (k + 1) (by omega)
          cases ea'
          obtain ⟨x, hxk⟩ : ∃ x, m.getD (k + 1) 0 = x := ⟨_, rfl⟩
          rw [hxk, show off + (k + 1) = off + 1 + k by omega] at d1
          have g1 : decide (k < mn) = true := decide_eq_true h1
          have i1 : (0 : Int) ≤ (k : Int) := by omega
          have i2 : (k : Int) < (n : Int) := by omega
          by_cases h3 : x = x0
          · have HSM2 : Hid (∀ j, j < k + 1 + 1 → m.getD j 0 = x0) := fun j hj => by
              rcases Nat.lt_or_ge j (k + 1) with h4 | h4
              · exact HSM.out j h4
              · rw [show j = k + 1 by omega, hxk]; exact h3
            have g2 : (x == x0) = true := by simp [h3]
            clear HSM HSM1 hxk h3
            go_wp2
            go_roundw
            case rel => exact ⟨k + 1, by omega, by omega, by go_num, HSM2.out, trivial⟩
            case measure => simp [intOf]; omega
          · have HRN : Hid (rn Int.toNat 256 m = k + 1) := rn_eq (c := Int.toNat) (M := 256) (by omega) (by omega) (by omega) HSM1.out (.inr (.inr (fun e => h3 (by rw [← hxk]; exact HSAME.out (k + 1) (by omega) e))))
            have g2 : (x == x0) = false := beq_eq_false_iff_ne.2 h3
            clear HSM HSM1 hxk h3
            go_wp2
            go_meet
            exact ⟨k, rfl, HRN.out, hk1, hkM, rfl⟩
      case rest =>
        obtain ⟨k, rfl, hrn, hk1, hkM, rfl⟩ := hcut
        have i1 : (0 : Int) ≤ (k : Int) := by omega
        have i2 : (k : Int) ≤ (n : Int) := by omega
        have HDL : Hid ((m.drop (k + 1)).length = n - k) := by show _ = _; rw [List.length_drop]; omega
        have HX2 : Hid (∀ x ∈ m.drop (k + 1), FlO x) := fun x hx => HX.out x (List.mem_of_mem_drop hx)
        have HRN : Hid (rn Int.toNat 256 m = k + 1) := hrn
        have hdl2 : (m.drop (k + 1)).length ≤ 1000 := by rw [HDL.out]; omega
        clear hrn d0
        by_cases hck : cp = k
        · have HCK : Hid (cp = k) := hck
          have HRI : Hid (Ri wo (some ⟨b, off + 1, none⟩) 0 (m.drop (k + 1))) := HFROM.out (k + 1) (by omega) _ _ (fun h => absurd h (by have := HCK.out; omega)) (by have := HCK.out; omega)
          have HGF : Hid (∀ b1 o, ((some ⟨b, off + 1, none⟩) : Option Addr) = some ⟨b1, o, none⟩ → G b1) := fun b1 o e => by cases e; exact HG.out b off rfl
          by_cases hk0 : k = 0
          · have HTT : Hid (zs ++ be1 x0 ++ rl (m.drop (k + 1)) = tot) := by show _ = _; rw [List.append_assoc, ← HT.out, rl_one HNE.out (by rw [HRN.out, hk0]) (by rw [HX0.out]; exact HF.out), HX0.out, hk0]
            have g3 : ((k : Int) == 0) = true := by simp [hk0]
            have hp := put8_any B G _ x0 wo hP ⟨by omega, by omega⟩ (by show zs.length + 4 ≤ _; omega)
            rw [put8A (by omega) (by omega)] at hp
            clear hP hk0 HT
            go_wp2_with fail
            refine hp.mono ?_
            rintro e u1 ⟨rfl, hP, hK1⟩
            have HR2 : Hid (Ri u1 (some ⟨b, off + 1, none⟩) 0 (m.drop (k + 1))) := HRI.out.kept hK1 HGF.out
            replace hK := hK.trans hK1
            clear hp hK1
            go_wp2
            go_roundw
            case rel => exact ⟨m.drop (k + 1), _, _, _, by rw [HDL.out], HR2.out, HGF.out, HTT.out, HX2.out, hdl2, hP, hK⟩
            case measure => show n - k < m.length; omega
          · have HTT : Hid (zs ++ be1 (x0 + 8) ++ be1 (k : Int) ++ rl (m.drop (k + 1)) = tot) := by show _ = _; rw [List.append_assoc, List.append_assoc, ← HT.out, rl_many HNE.out HRN.out (by omega) (by omega) (by rw [HX0.out]; exact HF.out), HX0.out]
            have g3 : ((k : Int) == 0) = false := by simp; exact hk0
            have hp := put8_any B G _ (x0 + 8) wo hP ⟨by omega, by omega⟩ (by show zs.length + 4 ≤ _; omega)
            rw [put8A (by omega) (by omega)] at hp
            obtain ⟨z1, hz1⟩ : ∃ z, zs ++ be1 (x0 + 8) = z := ⟨_, rfl⟩
            have hzl1 : z1.length ≤ 20001 := by rw [← hz1, List.length_append]; show zs.length + 1 ≤ 20001; omega
            rw [hz1] at hp HTT
            clear hP hk0 HT hz1
            go_wp2_with fail
            refine hp.mono ?_
            rintro e u1 ⟨rfl, hP, hK1⟩
            clear hp
            have hp := put8_any B G _ (k : Int) u1 hP ⟨by omega, by omega⟩ (by show z1.length + 4 ≤ _; omega)
            rw [put8A (by omega) (by omega)] at hp
            go_wp2_with fail
            refine hp.mono ?_
            rintro e u2 ⟨rfl, hP2, hK2⟩
            have HR2 : Hid (Ri u2 (some ⟨b, off + 1, none⟩) 0 (m.drop (k + 1))) := HRI.out.kept (hK1.trans hK2) HGF.out
            replace hK := (hK.trans hK1).trans hK2
            clear hp hK1 hK2 hP
            go_wp2
            go_roundw
            case rel => exact ⟨m.drop (k + 1), _, _, _, by rw [HDL.out], HR2.out, HGF.out, HTT.out, HX2.out, hdl2, hP2, hK⟩
            case measure => show n - k < m.length; omega
        · have hckn : ¬ cp = k := hck
          have HRI : Hid (Ri wo (some ⟨b, off + 1 + k, none⟩) (cp - k) (m.drop (k + 1))) := HFROM.out (k + 1) (by omega) _ _ (fun h => by rw [show off + 1 + k = off + (k + 1) by omega]) (by omega)
          have HGF : Hid (∀ b1 o, ((some ⟨b, off + 1 + k, none⟩) : Option Addr) = some ⟨b1, o, none⟩ → G b1) := fun b1 o e => by cases e; exact HG.out b off rfl
          by_cases hk0 : k = 0
          · have HTT : Hid (zs ++ be1 x0 ++ rl (m.drop (k + 1)) = tot) := by show _ = _; rw [List.append_assoc, ← HT.out, rl_one HNE.out (by rw [HRN.out, hk0]) (by rw [HX0.out]; exact HF.out), HX0.out, hk0]
            have g3 : ((k : Int) == 0) = true := by simp [hk0]
            have hp := put8_any B G _ x0 wo hP ⟨by omega, by omega⟩ (by show zs.length + 4 ≤ _; omega)
            rw [put8A (by omega) (by omega)] at hp
            clear hP hk0 HT
            go_wp2_with fail
            refine hp.mono ?_
            rintro e u1 ⟨rfl, hP, hK1⟩
            have HR2 : Hid (Ri u1 (some ⟨b, off + 1 + k, none⟩) (cp - k) (m.drop (k + 1))) := HRI.out.kept hK1 HGF.out
            replace hK := hK.trans hK1
            clear hp hK1
            go_wp2
            go_roundw
            case rel => exact ⟨m.drop (k + 1), _, _, _, by rw [HDL.out], HR2.out, HGF.out, HTT.out, HX2.out, hdl2, hP, hK⟩
            case measure => show n - k < m.length; omega
          · have HTT : Hid (zs ++ be1 (x0 + 8) ++ be1 (k : Int) ++ rl (m.drop (k + 1)) = tot) := by show _ = _; rw [List.append_assoc, List.append_assoc, ← HT.out, rl_many HNE.out HRN.out (by omega) (by omega) (by rw [HX0.out]; exact HF.out), HX0.out]
            have g3 : ((k : Int) == 0) = false := by simp; exact hk0
            have hp := put8_any B G _ (x0 + 8) wo hP ⟨by omega, by omega⟩ (by show zs.length + 4 ≤ _; omega)
            rw [put8A (by omega) (by omega)] at hp
            obtain ⟨z1, hz1⟩ : ∃ z, zs ++ be1 (x0 + 8) = z := ⟨_, rfl⟩
            have hzl1 : z1.length ≤ 20001 := by rw [← hz1, List.length_append]; show zs.length + 1 ≤ 20001; omega
            rw [hz1] at hp HTT
            clear hP hk0 HT hz1
            go_wp2_with fail
            refine hp.mono ?_
            rintro e u1 ⟨rfl, hP, hK1⟩
            clear hp
            have hp := put8_any B G _ (k : Int) u1 hP ⟨by omega, by omega⟩ (by show z1.length + 4 ≤ _; omega)
            rw [put8A (by omega) (by omega)] at hp
            go_wp2_with fail
            refine hp.mono ?_
            rintro e u2 ⟨rfl, hP2, hK2⟩
            have HR2 : Hid (Ri u2 (some ⟨b, off + 1 + k, none⟩) (cp - k) (m.drop (k + 1))) := HRI.out.kept (hK1.trans hK2) HGF.out
            replace hK := (hK.trans hK1).trans hK2
            clear hp hK1 hK2 hP
            go_wp2
            go_roundw
            case rel => exact ⟨m.drop (k + 1), _, _, _, by rw [HDL.out], HR2.out, HGF.out, HTT.out, HX2.out, hdl2, hP2, hK⟩
            case measure => show n - k < m.length; omega
    · have hm1 : m.length = 1 := by omega
      have HDL : Hid ((m.drop 1).length = 0) := by show _ = _; rw [List.length_drop]; omega
      have hdl2 : (m.drop 1).length ≤ 1000 := by rw [HDL.out]; omega
      have HX2 : Hid (∀ x ∈ m.drop 1, FlO x) := fun x hx => HX.out x (List.mem_of_mem_drop hx)
      have HRN : Hid (rn Int.toNat 256 m = 1) := rn_eq (c := Int.toNat) (M := 256) (by omega) (by omega) (by omega) (fun j hj => by rw [show j = 0 by omega]) (.inr (.inl hm1.symm))
      rw [hm1]
      have hm2 : m.length ≤ 1 := by omega
      clear hm1 g0
      by_cases hc1 : cap' = 1
      · subst hc1
        have HRI : Hid (Ri wo (some ⟨b, off, none⟩) 0 (m.drop 1)) := HFROM.out 1 (by omega) _ _ (fun h => absurd h (by omega)) (by omega)
        have HGF : Hid (∀ b1 o, ((some ⟨b, off, none⟩) : Option Addr) = some ⟨b1, o, none⟩ → G b1) := fun b1 o e => by cases e; exact HG.out b off rfl
        have HTT : Hid (zs ++ be1 x0 ++ rl (m.drop 1) = tot) := by show _ = _; rw [List.append_assoc, ← HT.out, rl_one HNE.out HRN.out (by rw [HX0.out]; exact HF.out), HX0.out]
        have hp := put8_any B G _ x0 wo hP ⟨by omega, by omega⟩ (by show zs.length + 4 ≤ _; omega)
        rw [put8A (by omega) (by omega)] at hp
        have hmn : min (0 : Int) 255 = 0 := by decide
        clear hP HT
        go_wp2
        go_loopw [5] (fun s5 wr => s5 = .int .i64 0 ∧ wo = wr) (fun s5 _ => 0)
        case atStart => exact ⟨rfl, rfl⟩
        case round =>
          obtain ⟨rfl, rfl⟩ := hrel
          go_wp2_with fail
          refine hp.mono ?_
          rintro e u1 ⟨rfl, hP, hK1⟩
          have HR2 : Hid (Ri u1 (some ⟨b, off, none⟩) 0 (m.drop 1)) := HRI.out.kept hK1 HGF.out
          replace hK := hK.trans hK1
          clear hp hK1
          go_wp2
          go_roundw
          case rel => exact ⟨m.drop 1, _, _, _, by rw [HDL.out], HR2.out, HGF.out, HTT.out, HX2.out, hdl2, hP, hK⟩
          case measure => show 0 < 1; decide
      · have hc2 : ¬ cap' - 1 = 0 := by omega
        have HRI : Hid (Ri wo (some ⟨b, off + 1, none⟩) (cap' - 1) (m.drop 1)) := HFROM.out 1 (by omega) _ _ (fun h => absurd h (by omega)) (by omega)
        have HGF : Hid (∀ b1 o, ((some ⟨b, off + 1, none⟩) : Option Addr) = some ⟨b1, o, none⟩ → G b1) := fun b1 o e => by cases e; exact HG.out b off rfl
        have HTT : Hid (zs ++ be1 x0 ++ rl (m.drop 1) = tot) := by show _ = _; rw [List.append_assoc, ← HT.out, rl_one HNE.out HRN.out (by rw [HX0.out]; exact HF.out), HX0.out]
        have hp := put8_any B G _ x0 wo hP ⟨by omega, by omega⟩ (by show zs.length + 4 ≤ _; omega)
        rw [put8A (by omega) (by omega)] at hp
        have hmn : min (0 : Int) 255 = 0 := by decide
        clear hP HT
        go_wp2
        go_loopw [5] (fun s5 wr => s5 = .int .i64 0 ∧ wo = wr) (fun s5 _ => 0)
        case atStart => exact ⟨rfl, rfl⟩
        case round =>
          obtain ⟨rfl, rfl⟩ := hrel
          go_wp2_with fail
          refine hp.mono ?_
          rintro e u1 ⟨rfl, hP, hK1⟩
          have HR2 : Hid (Ri u1 (some ⟨b, off + 1, none⟩) (cap' - 1) (m.drop 1)) := HRI.out.kept hK1 HGF.out
          replace hK := hK.trans hK1
          clear hp hK1
          go_wp2
          go_roundw
          case rel => exact ⟨m.drop 1, _, _, _, by rw [HDL.out], HR2.out, HGF.out, HTT.out, HX2.out, hdl2, hP, hK⟩
          case measure => show 0 < 1; decide

end Go.Proofs.Ytdojgkejpfdaeaa
