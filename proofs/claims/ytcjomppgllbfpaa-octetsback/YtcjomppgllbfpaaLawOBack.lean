/-
  foundrylaw04.OctetsBack: the walk.
-/
import Derived.Test.YtcjomppgllbfpaaOD
namespace Go.Proofs.Ytcjomppgllbfpaa
open Go.RowKit Go.Maps
set_option linter.unusedSimpArgs false
set_option linter.unusedVariables false

/-- A slice of int32 that is read. -/
def Rn (w : World) (a : Option Addr) (cap : Nat) (zs : List Int) : Prop :=
  (∀ z ∈ zs, -2147483648 ≤ z ∧ z ≤ 2147483647) ∧ zs.length ≤ cap ∧ cap ≤ maxLen ∧
  (zs = [] ∨ ∃ b off, a = some ⟨b, off, none⟩ ∧ b < w.heap.size ∧ ∀ i, i < zs.length → w.cell? ⟨b, off + i, none⟩ = some (.int .i32 (zs.getD i 0)))
theorem Rn.at {w wr : World} {a : Option Addr} {cap : Nat} {zs : List Int} (h : Rn w a cap zs) (hb : Below w.heap.size w wr) (k : Nat) (hk : k < zs.length) :
    ∃ b off, a = some ⟨b, off, none⟩ ∧ b < w.heap.size ∧ wr.cell? ⟨b, off + k, none⟩ = some (.int .i32 (zs.getD k 0)) := by
  rcases h.2.2.2 with rfl | ⟨b, off, h1, h2, h3⟩
  · simp at hk
  · exact ⟨b, off, h1, h2, (hb.cell (p := ⟨b, off + k, none⟩) h2).trans (h3 k hk)⟩

/-- An int32 as an int16. -/
def c16 (z : Int) : Int := (z + 32768) % 65536 - 32768
theorem c16_wrap (z : Int) : IntKind.i16.wrap z = c16 z := by
  unfold IntKind.wrap c16
  simp [IntKind.bits, IntKind.signed]
  omega
theorem c16_lo (z : Int) : -32768 ≤ c16 z := by unfold c16; omega
theorem c16_hi (z : Int) : c16 z ≤ 32767 := by unfold c16; omega

/-- What is put of one number. -/
def rc (z : Int) : List Nat := be4 z ++ (be2 (c16 z) ++ be1 (z % 256))
def flt : List Int → List Nat
  | [] => []
  | z :: zs => rc z ++ flt zs
theorem rc_len (z : Int) : (rc z).length = 7 := rfl
theorem flt_append (xs ys : List Int) : flt (xs ++ ys) = flt xs ++ flt ys := by
  induction xs with
  | nil => rfl
  | cons x xs ih => simp [flt, ih]
theorem flt_len (zs : List Int) : (flt zs).length = 7 * zs.length := by
  induction zs with
  | nil => rfl
  | cons z zs ih => rw [flt, List.length_append, ih, rc_len, List.length_cons]; omega
theorem flt_snoc (zs : List Int) (k : Nat) (hk : k < zs.length) : flt (zs.take (k + 1)) = flt (zs.take k) ++ rc (zs.getD k 0) := by
  rw [List.take_succ_eq_append_getElem hk, flt_append]
  simp [flt, List.getD, hk]
theorem flt_drop (zs : List Int) (k : Nat) (hk : k < zs.length) (tl : List Nat) : ∃ r, (flt zs ++ tl).drop (7 * k) = rc (zs.getD k 0) ++ r := by
  refine ⟨flt (zs.drop (k + 1)) ++ tl, ?_⟩
  have e : zs = zs.take k ++ (zs.getD k 0 :: zs.drop (k + 1)) := by
    rw [List.getD_eq_getElem?_getD, List.getElem?_eq_getElem hk]
    simp
  have e2 : flt zs = flt (zs.take k) ++ (rc (zs.getD k 0) ++ flt (zs.drop (k + 1))) := by
    conv => lhs; rw [e]
    rw [flt_append, flt]
  have hl : (flt (zs.take k)).length = 7 * k := by rw [flt_len, List.length_take, Nat.min_eq_left (by omega)]
  rw [e2, List.append_assoc, ← hl, List.drop_left, List.append_assoc]

theorem v8_be4 {z : Int} (h1 : -2147483648 ≤ z) (h2 : z ≤ 2147483647) : sx32 (V8 (be4 z)) = z := by
  have hv : (V8 (be4 z) : Int) = z % 4294967296 := by
    simp only [be4, V8, List.foldl_cons, List.foldl_nil]
    omega
  generalize V8 (be4 z) = v at hv
  unfold sx32
  by_cases h : 2147483648 ≤ v
  · rw [if_pos h]; omega
  · rw [if_neg h]; omega
theorem v8_be2 {z : Int} (h1 : -32768 ≤ z) (h2 : z ≤ 32767) : sx16 (V8 (be2 z)) = z := by
  have hv : (V8 (be2 z) : Int) = z % 65536 := by
    simp only [be2, V8, List.foldl_cons, List.foldl_nil]
    omega
  generalize V8 (be2 z) = v at hv
  unfold sx16
  by_cases h : 32768 ≤ v
  · rw [if_pos h]; omega
  · rw [if_neg h]; omega
theorem nmV_yes {xs : List Nat} {p : Int} {n : Nat} (h : inB xs.length p (n : Int) = true) : nmV xs p n = V8 ((xs.drop p.toNat).take n) := by simp [nmV, h]
theorem v8_be1 {z : Int} (h1 : 0 ≤ z) (h2 : z ≤ 255) : (V8 (be1 z) : Int) = z := by
  simp only [be1, V8, List.foldl_cons, List.foldl_nil]
  omega

/-- The three fields of number k. -/
theorem back3 (zs : List Int) (k : Nat) (hk : k < zs.length) (tl : List Nat) (hz : ∀ z ∈ zs, -2147483648 ≤ z ∧ z ≤ 2147483647) :
    sx32 (nmV (flt zs ++ tl) ((7 * k : Nat) : Int) 4) = zs.getD k 0 ∧ sx16 (nmV (flt zs ++ tl) ((7 * k : Nat) + 4 : Int) 2) = c16 (zs.getD k 0) ∧ (nmV (flt zs ++ tl) ((7 * k : Nat) + 6 : Int) 1 : Int) = zs.getD k 0 % 256 ∧
    inB (flt zs ++ tl).length ((7 * k : Nat) : Int) 4 = true ∧ inB (flt zs ++ tl).length ((7 * k : Nat) + 4 : Int) 2 = true ∧ inB (flt zs ++ tl).length ((7 * k : Nat) + 6 : Int) 1 = true := by
  obtain ⟨r, hr⟩ := flt_drop zs k hk tl
  have hl : 7 * k + 7 ≤ (flt zs ++ tl).length := by rw [List.length_append, flt_len]; omega
  have hzk : -2147483648 ≤ zs.getD k 0 ∧ zs.getD k 0 ≤ 2147483647 := by
    rw [List.getD_eq_getElem?_getD, List.getElem?_eq_getElem hk]
    exact hz _ (List.getElem_mem hk)
  generalize zs.getD k 0 = z at *
  generalize flt zs ++ tl = bs at *
  have i1 : inB bs.length ((7 * k : Nat) : Int) 4 = true := by simp [inB]; omega
  have i2 : inB bs.length ((7 * k : Nat) + 4 : Int) 2 = true := by simp [inB]; omega
  have i3 : inB bs.length ((7 * k : Nat) + 6 : Int) 1 = true := by simp [inB]; omega
  have d4 : bs.drop (7 * k + 4) = be2 (c16 z) ++ (be1 (z % 256) ++ r) := by
    rw [← List.drop_drop, hr]
    rfl
  have d6 : bs.drop (7 * k + 6) = be1 (z % 256) ++ r := by
    rw [← List.drop_drop, hr]
    rfl
  refine ⟨?_, ?_, ?_, i1, i2, i3⟩
  · have e : nmV bs ((7 * k : Nat) : Int) 4 = V8 (be4 z) := by
      rw [nmV_yes (n := 4) i1, Int.toNat_natCast, hr]
      rfl
    rw [e, v8_be4 hzk.1 hzk.2]
  · have e : nmV bs ((7 * k : Nat) + 4 : Int) 2 = V8 (be2 (c16 z)) := by
      rw [nmV_yes (n := 2) i2, show ((7 * k : Nat) + 4 : Int).toNat = 7 * k + 4 by omega, d4]
      rfl
    rw [e, v8_be2 (c16_lo z) (by have := c16_hi z; omega)]
  · have e : nmV bs ((7 * k : Nat) + 6 : Int) 1 = V8 (be1 (z % 256)) := by
      rw [nmV_yes (n := 1) i3, show ((7 * k : Nat) + 6 : Int).toNat = 7 * k + 6 by omega, d6]
      rfl
    rw [e, v8_be1 (by omega) (by omega)]

theorem back3' (zs : List Int) (k : Nat) (hk : k < zs.length) (tl : List Nat) (hz : ∀ z ∈ zs, -2147483648 ≤ z ∧ z ≤ 2147483647) :
    sx32 (nmV (flt zs ++ tl) (7 * (k : Int)) 4) = zs.getD k 0 ∧ sx16 (nmV (flt zs ++ tl) (7 * (k : Int) + 4) 2) = c16 (zs.getD k 0) ∧ (nmV (flt zs ++ tl) (7 * (k : Int) + 6) 1 : Int) = zs.getD k 0 % 256 ∧
    inB (flt zs ++ tl).length (7 * (k : Int)) 4 = true ∧ inB (flt zs ++ tl).length (7 * (k : Int) + 4) 2 = true ∧ inB (flt zs ++ tl).length (7 * (k : Int) + 6) 1 = true := by
  have h := back3 zs k hk tl hz
  rw [show ((7 * k : Nat) : Int) = 7 * (k : Int) by simp] at h
  exact h
/-- The tag behind the numbers. -/
theorem back_tag (zs : List Int) (t : ByteArray) (hg : gd (sb t) = true) : tgB (flt zs ++ sb t) (7 * (zs.length : Int)) = true ∧ tgV (flt zs ++ sb t) (7 * (zs.length : Int)) = t := by
  have h4 : (sb t).length = 4 := by simp [gd] at hg; exact hg.1
  have hi : inB (flt zs ++ sb t).length (7 * (zs.length : Int)) 4 = true := by simp [inB, flt_len, h4]; omega
  have hc : cutV (flt zs ++ sb t) (7 * (zs.length : Int)) 4 = sb t := by
    rw [cutV_yes hi, show (7 * (zs.length : Int)).toNat = (flt zs).length by rw [flt_len]; omega, List.drop_left]
    exact List.take_of_length_le (by rw [h4]; decide)
  have hb : tgB (flt zs ++ sb t) (7 * (zs.length : Int)) = true := by rw [tgB, hi, hc, hg]; rfl
  exact ⟨hb, by rw [tgV, hb, if_pos rfl, hc, str8_sb]⟩
theorem back_none (zs : List Int) : tgB (flt zs ++ []) (7 * (zs.length : Int)) = false := by
  have hi : inB (flt zs ++ []).length (7 * (zs.length : Int)) 4 = false := by simp [inB, flt_len]; omega
  rw [tgB, hi]; rfl

/-- The places. -/
def plc (k : Nat) : List Int := (List.range k).map (fun i : Nat => ((7 * i : Nat) : Int))
theorem plc_succ (k : Nat) : plc (k + 1) = plc k ++ [((7 * k : Nat) : Int)] := by simp [plc, List.range_succ]
theorem plc_len (k : Nat) : (plc k).length = k := by simp [plc]
theorem plc_get {k i : Nat} (h : i < k) : (plc k).getD i 0 = ((7 * i : Nat) : Int) := by simp [plc, List.getD, h]

/-- The page after three puts. -/
theorem put3 (bs : List Nat) (z : Int) (h1 : -2147483648 ≤ z) (h2 : z ≤ 2147483647) :
    (((⟨bs, [], false⟩ : St).put32 z).put16 (c16 z)).put8 (z % 256) = ⟨bs ++ rc z, [], false⟩ := by
  have a := c16_lo z
  have b := c16_hi z
  rw [St.put32, if_pos ⟨h1, by omega⟩, St.put16, if_pos ⟨a, by omega⟩, St.put8, if_pos ⟨by omega, by omega⟩]
  simp [St.app, rc]

set_option maxHeartbeats 4000000 in
set_option maxRecDepth 100000 in
theorem octetsBack_any (a : Option Addr) (cap : Nat) (zs : List Int) (t : ByteArray) (w : World) (h : Rn w a cap zs) (ht : t.size ≤ maxLen) :
    Calls Try.prog 5 #[.slice a zs.length cap, .string t] w fun e w' => e = .returned (.bool true) ∧ Below w.heap.size w w' := by
  have k1 := h.2.1
  have k2 := h.2.2.1
  unfold maxLen at k2
  by_cases hl : zs.length ≤ 200
  rotate_left
  · have g1 : 200 < (zs.length : Int) := by omega
    go_enter Try.func5, Try.ntmps5
    go_wp2_with fail
    refine (awake4_any _).mono ?_
    rintro e u ⟨rfl, hb⟩
    go_wp2_with fail
    refine (awake4_any _).mono ?_
    rintro e u2 ⟨rfl, hb2⟩
    go_wp2
    go_ret
    exact ⟨rfl, hb.trans (hb2.mono hb.size)⟩
  have g1 : ¬ (200 < (zs.length : Int)) := by omega
  go_enter Try.func5, Try.ntmps5
  go_wp2_with fail
  refine (awake4_any _).mono ?_
  rintro e u0 ⟨rfl, hb0⟩
  have hL0 : LayG w.heap.size w (u0.alloc (.cells #[.slice none 0 0, .int .i64 0, .map none, .bool false] 39)) (fun k => k < u0.heap.size) u0.heap.size St.zero (.slice none 0 0) [] (.slice none 0 0) [] :=
    ⟨fun k hk => Nat.lt_of_lt_of_le hk hb0.size, pc_new u0 _ (fun _ h => h), OwnI.nil _, OwnI.nil _, fun g hg => (by cases hg), fun g hg => (by cases hg), hb0.alloc hb0.size _⟩
  go_wp2
  generalize (u0.alloc (.cells #[.slice none 0 0, .int .i64 0, .map none, .bool false] 39)) = W0 at hL0 ⊢
  generalize u0.heap.size = B at hL0 ⊢
  clear hb0
  go_loopw [6, 7] (fun v i wr => ∃ (k : Nat) (G : Nat → Prop), k ≤ zs.length ∧ i = .int .i64 k ∧ LayG w.heap.size w wr G B ⟨flt (zs.take k), [], false⟩ v (plc k) (.slice none 0 0) []) (fun _ i _ => zs.length - (intOf i).toNat)
  case atStart => exact ⟨0, _, Nat.zero_le _, rfl, hL0⟩
  case round =>
    obtain ⟨k, G, hk, rfl, hL⟩ := hrel
    have hfl : (flt (zs.take k)).length = 7 * k := by rw [flt_len, List.length_take, Nat.min_eq_left hk]
    have hpl := plc_len k
    by_cases hkn : k < zs.length
    · obtain ⟨b, off, rfl, hbb, hcx⟩ := h.at hL.be k hkn
      obtain ⟨z, hz⟩ : ∃ z, zs.getD k 0 = z := ⟨_, rfl⟩
      rw [hz] at hcx
      have hzb : -2147483648 ≤ z ∧ z ≤ 2147483647 := by
        rw [← hz, List.getD_eq_getElem?_getD, List.getElem?_eq_getElem hkn]
        exact h.1 _ (List.getElem_mem hkn)
      obtain ⟨z1, z2⟩ := hzb
      have hc0 : ∀ u, Below w.heap.size w u → u.cell? ⟨b, off + k, none⟩ = some (.int .i32 z) := fun u hb => by
        obtain ⟨b', off', e, _, hc⟩ := h.at hb k hkn
        simp at e
        rw [e.1, e.2, hc, hz]
      clear hcx
      go_wp2_with fail
      refine (here_any _ _ _ _ hL.pc).mono ?_
      rintro e u ⟨rfl, rfl⟩
      dsimp only
      rw [hfl]
      have hL1 := hL.below (bl1 (.cells #[.int .i64 ((7 * k : Nat) : Int)] 3))
      have hcn := cell_one_new wr (.int .i64 ((7 * k : Nat) : Int)) 3 0 _ rfl
      have hps := plc_succ k
      have HPS : Hid (plc (k + 1) = plc k ++ [((7 * k : Nat) : Int)]) := hps
      clear hps
      have hfs := flt_snoc zs k hkn
      rw [hz] at hfs
      have HFS : Hid (flt (zs.take (k + 1)) = flt (zs.take k) ++ rc z) := hfs
      have HFL : Hid ((flt (zs.take k)).length = 7 * k) := hfl
      have h16 := c16_wrap z
      obtain ⟨y, hy⟩ : ∃ y, c16 z = y := ⟨_, rfl⟩
      have HY : Hid (c16 z = y) := hy
      have y1 := c16_lo z
      have y2 := c16_hi z
      rw [hy] at h16 y1 y2
      clear hfs hy hfl
      have hpq : (plc k).length + 1 ≤ 2000000000 := by omega
      generalize flt (zs.take k) = fk at *
      generalize plc k = pk at *
      go_wp2_with (at_builtin; refine wpList_append_i rfl _ _ rfl ((7 * k : Nat) : Int) hL1 rfl wr.heap.size rfl hcn hpq ?_)
      intro v' w2 G2 hL2
      have hcx := hc0 _ hL2.be
      clear hL1 hcn hL
      go_wp2_with fail
      refine (put32_any B G2 _ z _ hL2.pc ⟨by omega, by omega⟩ (by have := HFL.out; dsimp only; omega)).mono ?_
      rintro e u3 ⟨rfl, hP3, hK3⟩
      have hL3 := hL2.next hP3 hK3
      have hcx := hc0 _ hL3.be
      have e3 : St.put32 ⟨fk, [], false⟩ z = ⟨fk ++ be4 z, [], false⟩ := by rw [St.put32, if_pos ⟨z1, by omega⟩]; rfl
      rw [e3] at hL3
      clear hL2 hP3 hK3 e3
      go_wp2_with fail
      refine (put16_any B G2 _ y _ hL3.pc ⟨by omega, by omega⟩ (by have := HFL.out; simp [be4]; omega)).mono ?_
      rintro e u4 ⟨rfl, hP4, hK4⟩
      have hL4 := hL3.next hP4 hK4
      have hcx := hc0 _ hL4.be
      have e4 : St.put16 ⟨fk ++ be4 z, [], false⟩ y = ⟨fk ++ be4 z ++ be2 y, [], false⟩ := by rw [St.put16, if_pos ⟨y1, by omega⟩]; rfl
      rw [e4] at hL4
      clear hL3 hP4 hK4 e4
      go_wp2_with fail
      refine (put8_any B G2 _ (z % 256) _ hL4.pc ⟨by omega, by omega⟩ (by have := HFL.out; simp [be4, be2]; omega)).mono ?_
      rintro e u5 ⟨rfl, hP5, hK5⟩
      have hL5 := hL4.next hP5 hK5
      have e5 : St.put8 ⟨fk ++ be4 z ++ be2 y, [], false⟩ (z % 256) = ⟨flt (zs.take (k + 1)), [], false⟩ := by
        rw [St.put8, if_pos ⟨by omega, by omega⟩, HFS.out, rc, HY.out]
        simp [St.app]
      rw [e5, show pk ++ [7 * (k : Int)] = plc (k + 1) by rw [HPS.out]; simp] at hL5
      clear hL4 hP5 hK5 e5 hc0 hcx
      go_wp2
      go_roundw
      case rel => exact ⟨k + 1, G2, by omega, by go_num, hL5⟩
      case measure => simp [intOf]; omega
    · obtain rfl : k = zs.length := by omega
      rw [List.take_length] at hL hfl
      go_wp2_with fail
      refine (here_any _ _ _ _ hL.pc).mono ?_
      rintro e u ⟨rfl, rfl⟩
      dsimp only
      rw [hfl]
      go_wp2_with fail
      refine (good_any t _ ht).mono ?_
      rintro e u ⟨rfl, rfl⟩
      have hzr := h.1
      have key : ∀ (U : World) (tl : List Nat), LayG w.heap.size w U G B ⟨flt zs ++ tl, [], false⟩ u6 (plc zs.length) (.slice none 0 0) [] → (tl = if gd (sb t) then sb t else []) → True := fun _ _ _ _ => trivial
      obtain ⟨tl, htl⟩ : ∃ tl : List Nat, tl = if gd (sb t) then sb t else [] := ⟨_, rfl⟩
      by_cases hg : gd (sb t) = true
      · rw [hg]
        rw [hg, if_pos rfl] at htl
        subst htl
        have h4 : (sb t).length = 4 := by simp [gd] at hg; exact hg.1
        go_wp2_with fail
        refine (putTag_any B G _ t _ hL.pc ht (by dsimp only; omega)).mono ?_
        rintro e u2 ⟨rfl, hP2, hK2⟩
        have hL2 := hL.next hP2 hK2
        rw [show St.tag ⟨flt zs, [], false⟩ (sb t) = ⟨flt zs ++ sb t, [], false⟩ by simp [St.tag, hg, St.app]] at hL2
        clear hP2 hK2 hL key
        go_wp2_with fail
        refine (all_any B G _ _ hL2.pc (by simp [hfl, h4]; omega)).mono ?_
        rintro e u3 ⟨a3, c3, rfl, hR3, hb3⟩
        rw [show allE ⟨flt zs ++ sb t, [], false⟩ = 0 from rfl, show allB ⟨flt zs ++ sb t, [], false⟩ = flt zs ++ sb t from rfl]
        rw [show allB ⟨flt zs ++ sb t, [], false⟩ = flt zs ++ sb t from rfl] at hR3
        have hL3 := hL2.below hb3
        have hr3 := hR3.rd
        have hb3l : (flt zs ++ sb t).length ≤ 1000000000 := by simp [hfl, h4]; omega
        have bk := fun k hk => back3' zs k hk (sb t) hzr
        obtain ⟨tg1, tg2⟩ := back_tag zs t hg
        generalize flt zs ++ sb t = bs at *
        obtain ⟨ap, cp, rfl, hp1, hp2, hp3, hp4⟩ := hL3.vo.slice
        rw [hpl] at hp1 hp3 hp4 ⊢
        unfold maxLen at hp2
        have hbe := hL3.be
        clear hL2 hR3 hb3 hL3
        go_wp2
        go_loop [11] (fun i => ∃ k : Nat, k ≤ zs.length ∧ i = .int .i64 k) (fun i => zs.length - (intOf i).toNat)
        case atStart => exact ⟨0, Nat.zero_le _, rfl⟩
        case round =>
          obtain ⟨k, hk', rfl⟩ := hrel
          by_cases hkn' : k < zs.length
          · obtain ⟨b, off, rfl, hbb, hcx⟩ := h.at hbe k hkn'
            obtain ⟨gp, rfl⟩ := hp3 (by omega)
            have hcp := hp4 gp rfl k hkn'
            rw [plc_get hkn', show ((7 * k : Nat) : Int) = 7 * (k : Int) by simp] at hcp
            obtain ⟨e1, e2, e3, e4, e5, e6⟩ := bk k hkn'
            have hzb : -2147483648 ≤ zs.getD k 0 ∧ zs.getD k 0 ≤ 2147483647 := by
              rw [List.getD_eq_getElem?_getD, List.getElem?_eq_getElem hkn']
              exact hzr _ (List.getElem_mem hkn')
            generalize zs.getD k 0 = z at *
            obtain ⟨z1, z2⟩ := hzb
            have h16 := c16_wrap z
            obtain ⟨y, hy⟩ : ∃ y, c16 z = y := ⟨_, rfl⟩
            have y1 := c16_lo z
            have y2 := c16_hi z
            rw [hy] at h16 y1 y2 e2
            have hzz : (z != z) = false := by simp
            have hyy : (y != y) = false := by simp
            have hqq : (z % 256 != z % 256) = false := by simp
            clear hy bk hp4
            go_wp2_with fail
            refine (i32_any a3 c3 bs (7 * (k : Int)) _ hr3 ⟨by omega, by omega⟩).mono ?_
            rintro e u ⟨rfl, rfl⟩
            rw [e1, e4]
            go_wp2_with fail
            refine (i16_any a3 c3 bs (7 * (k : Int) + 4) _ hr3 ⟨by omega, by omega⟩).mono ?_
            rintro e u ⟨rfl, rfl⟩
            rw [e2, e5]
            go_wp2_with fail
            refine (u8_any a3 c3 bs (7 * (k : Int) + 6) _ hr3 ⟨by omega, by omega⟩).mono ?_
            rintro e u ⟨rfl, rfl⟩
            rw [e3, e6]
            go_wp2
            go_round
            case rel => exact ⟨k + 1, by omega, by go_num⟩
            case measure => simp [intOf]; omega
          · obtain rfl : k = zs.length := by omega
            go_wp2_with fail
            refine (tag_any a3 c3 bs (7 * (zs.length : Int)) _ hr3 ⟨by omega, by omega⟩ hb3l).mono ?_
            rintro e u4 ⟨rfl, hb4⟩
            have hbz : Below w.heap.size w u4 := hbe.trans (hb4.mono hbe.size)
            rw [tg1, tg2]
            go_wp2_with fail
            refine (good_any t _ ht).mono ?_
            rintro e u ⟨rfl, rfl⟩
            rw [hg]
            have htt : (t.toList == t.toList) = true := by simp
            go_wp2
            go_ret
            exact ⟨rt_bool (by first | rfl | simp), hbz⟩
      · have hg : gd (sb t) = false := by simpa using hg
        rw [hg]
        have hL2 : LayG w.heap.size w wr G B ⟨flt zs ++ [], [], false⟩ u6 (plc zs.length) (.slice none 0 0) [] := by rw [List.append_nil]; exact hL
        clear hL key htl
        go_wp2_with fail
        refine (all_any B G _ _ hL2.pc (by simp [hfl]; omega)).mono ?_
        rintro e u3 ⟨a3, c3, rfl, hR3, hb3⟩
        rw [show allE ⟨flt zs ++ [], [], false⟩ = 0 from rfl, show allB ⟨flt zs ++ [], [], false⟩ = flt zs ++ [] from rfl]
        rw [show allB ⟨flt zs ++ [], [], false⟩ = flt zs ++ [] from rfl] at hR3
        have hL3 := hL2.below hb3
        have hr3 := hR3.rd
        have hb3l : (flt zs ++ []).length ≤ 1000000000 := by simp [hfl]; omega
        have bk := fun k hk => back3' zs k hk [] hzr
        have tg1 := back_none zs
        generalize flt zs ++ [] = bs at *
        obtain ⟨ap, cp, rfl, hp1, hp2, hp3, hp4⟩ := hL3.vo.slice
        rw [hpl] at hp1 hp3 hp4 ⊢
        unfold maxLen at hp2
        have hbe := hL3.be
        clear hL2 hR3 hb3 hL3
        go_wp2
        go_loop [11] (fun i => ∃ k : Nat, k ≤ zs.length ∧ i = .int .i64 k) (fun i => zs.length - (intOf i).toNat)
        case atStart => exact ⟨0, Nat.zero_le _, rfl⟩
        case round =>
          obtain ⟨k, hk', rfl⟩ := hrel
          by_cases hkn' : k < zs.length
          · obtain ⟨b, off, rfl, hbb, hcx⟩ := h.at hbe k hkn'
            obtain ⟨gp, rfl⟩ := hp3 (by omega)
            have hcp := hp4 gp rfl k hkn'
            rw [plc_get hkn', show ((7 * k : Nat) : Int) = 7 * (k : Int) by simp] at hcp
            obtain ⟨e1, e2, e3, e4, e5, e6⟩ := bk k hkn'
            have hzb : -2147483648 ≤ zs.getD k 0 ∧ zs.getD k 0 ≤ 2147483647 := by
              rw [List.getD_eq_getElem?_getD, List.getElem?_eq_getElem hkn']
              exact hzr _ (List.getElem_mem hkn')
            generalize zs.getD k 0 = z at *
            obtain ⟨z1, z2⟩ := hzb
            have h16 := c16_wrap z
            obtain ⟨y, hy⟩ : ∃ y, c16 z = y := ⟨_, rfl⟩
            have y1 := c16_lo z
            have y2 := c16_hi z
            rw [hy] at h16 y1 y2 e2
            have hzz : (z != z) = false := by simp
            have hyy : (y != y) = false := by simp
            have hqq : (z % 256 != z % 256) = false := by simp
            clear hy bk hp4
            go_wp2_with fail
            refine (i32_any a3 c3 bs (7 * (k : Int)) _ hr3 ⟨by omega, by omega⟩).mono ?_
            rintro e u ⟨rfl, rfl⟩
            rw [e1, e4]
            go_wp2_with fail
            refine (i16_any a3 c3 bs (7 * (k : Int) + 4) _ hr3 ⟨by omega, by omega⟩).mono ?_
            rintro e u ⟨rfl, rfl⟩
            rw [e2, e5]
            go_wp2_with fail
            refine (u8_any a3 c3 bs (7 * (k : Int) + 6) _ hr3 ⟨by omega, by omega⟩).mono ?_
            rintro e u ⟨rfl, rfl⟩
            rw [e3, e6]
            go_wp2
            go_round
            case rel => exact ⟨k + 1, by omega, by go_num⟩
            case measure => simp [intOf]; omega
          · obtain rfl : k = zs.length := by omega
            go_wp2_with fail
            refine (tag_any a3 c3 bs (7 * (zs.length : Int)) _ hr3 ⟨by omega, by omega⟩ hb3l).mono ?_
            rintro e u4 ⟨rfl, hb4⟩
            have hbz : Below w.heap.size w u4 := hbe.trans (hb4.mono hbe.size)
            rw [tg1]
            go_wp2_with fail
            refine (good_any t _ ht).mono ?_
            rintro e u ⟨rfl, rfl⟩
            rw [hg]
            skip
            go_wp2
            go_ret
            exact ⟨rt_bool (by first | rfl | simp), hbz⟩

end Go.Proofs.Ytcjomppgllbfpaa
