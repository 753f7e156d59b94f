/-
  octets.Good, PutTag: the walks.
  octets.within, number, U8, U16, I16, U32, I32: the walks.
  octets.U8, U16, I16, U32, I32; foundryref04's: the walks.
  bytes.Clone; octets.Cut, Tag: the walks.
  octets.Tag; foundryref04.Cut, Tag, Same: the walks.
-/
import Derived.Test.YtaejlopkdkaphaaZE1
import Derived.Laws.IdiomStrings
import Derived.Lib.BitFns
import Derived.Lib.SliceRun
import Derived.BigQuiet
import Derived.Deep.QuietTactic
import Derived.WalkSmall
import Derived.Outline
import Derived.Laws.BytesArg
namespace Go.Proofs.Ytaejlopkdkaphaa
open Go.RowKit Go.Maps
set_option linter.unusedSimpArgs false
set_option linter.unusedVariables false

/-- The bytes of a text. -/
def sb (t : ByteArray) : List Nat := t.data.toList.map UInt8.toNat
theorem byt_sb (t : ByteArray) : Byt (sb t) := by
  intro x hx
  obtain ⟨y, _, rfl⟩ := List.mem_map.1 hx
  exact UInt8.toNat_lt y
theorem len_sb (t : ByteArray) : (sb t).length = t.size := by rw [sb, List.length_map, Array.length_toList]; rfl
/-- A byte of a tag. -/
def okb (xs : List Nat) : Bool := xs.all (fun x => decide (32 ≤ x) && decide (x ≤ 126))
/-- A good tag. -/
def gd (xs : List Nat) : Bool := xs.length == 4 && okb xs
theorem sb_drop (t : ByteArray) (k : Nat) (hk : k < t.size) : (sb t).drop k = t[k].toNat :: (sb t).drop (k + 1) := by
  have hl : k < (sb t).length := by rw [len_sb]; exact hk
  rw [List.drop_eq_getElem_cons hl]
  congr 1
  simp only [sb, List.getElem_map, Array.getElem_toList]
  rfl
theorem okb_drop (t : ByteArray) (k : Nat) (hk : k < t.size) : okb ((sb t).drop k) = ((decide (32 ≤ t[k].toNat) && decide (t[k].toNat ≤ 126)) && okb ((sb t).drop (k + 1))) := by
  rw [sb_drop t k hk]; rfl

set_option maxHeartbeats 400000 in
set_option maxRecDepth 100000 in
theorem good_any (t : ByteArray) (w : World) (ht : t.size ≤ maxLen) :
    Calls Try.prog 59 #[.string t] w fun e w' => e = .returned (.bool (gd (sb t))) ∧ w = w' := by
  unfold maxLen at ht
  by_cases h4 : t.size = 4
  · go_enter Try.func59, Try.ntmps59
    go_wp2
    go_loop [7] (fun i => ∃ k : Nat, k ≤ 4 ∧ i = .int .i64 k ∧ okb (sb t) = okb ((sb t).drop k)) (fun i => (4 - intOf i).toNat)
    case atStart => exact ⟨0, by omega, rfl, by rw [List.drop_zero]⟩
    case round =>
      obtain ⟨k, hk, rfl, hst⟩ := hrel
      have HS : Hid (okb (sb t) = okb ((sb t).drop k)) := hst
      clear hst
      by_cases hk4 : k = 4
      · subst hk4
        go_wp2
        go_ret
        refine ⟨rt_bool ?_, rfl⟩
        simp only [gd, HS.out, len_sb, h4]
        rw [List.drop_eq_nil_of_le (by rw [len_sb, h4]; exact Nat.le_refl _)]
        rfl
      · have HD : Hid (okb ((sb t).drop k) = _) := okb_drop t k (by omega)
        by_cases g1 : 32 ≤ t[k].toNat
        · by_cases g2 : t[k].toNat ≤ 126
          · have g1' : ¬ ((t[k].toNat : Int) < 32) := by omega
            have g2' : ¬ (126 < (t[k].toNat : Int)) := by omega
            go_wp2
            go_round
            case rel => exact ⟨k + 1, by omega, by simp, by rw [HS.out, HD.out]; simp [g1, g2]⟩
            case measure => simp [intOf]; omega
          · have g1' : ¬ ((t[k].toNat : Int) < 32) := by omega
            have g2' : (126 < (t[k].toNat : Int)) := by omega
            go_wp2
            go_ret
            exact ⟨rt_bool (by unfold gd; rw [HS.out, HD.out]; simp [g2]), rfl⟩
        · have g1' : ((t[k].toNat : Int) < 32) := by omega
          go_wp2
          go_ret
          exact ⟨rt_bool (by unfold gd; rw [HS.out, HD.out]; simp [g1]), rfl⟩
  · go_enter Try.func59, Try.ntmps59
    go_wp2
    go_ret
    exact ⟨rt_bool (by simp [gd, len_sb, h4]), rfl⟩

set_option maxHeartbeats 400000 in
set_option maxRecDepth 100000 in
theorem sgood_any (t : ByteArray) (w : World) (ht : t.size ≤ maxLen) :
    Calls Try.prog 66 #[.string t] w fun e w' => e = .returned (.bool (gd (sb t))) ∧ w = w' := by
  unfold maxLen at ht
  by_cases h4 : t.size = 4
  · go_enter Try.func66, Try.ntmps66
    go_wp2
    go_loop [3] (fun i => ∃ k : Nat, k ≤ 4 ∧ i = .int .i64 k ∧ okb (sb t) = okb ((sb t).drop k)) (fun i => (4 - intOf i).toNat)
    case atStart => exact ⟨0, by omega, rfl, by rw [List.drop_zero]⟩
    case round =>
      obtain ⟨k, hk, rfl, hst⟩ := hrel
      have HS : Hid (okb (sb t) = okb ((sb t).drop k)) := hst
      clear hst
      by_cases hk4 : k = 4
      · subst hk4
        go_wp2
        go_ret
        refine ⟨rt_bool ?_, rfl⟩
        simp only [gd, HS.out, len_sb, h4]
        rw [List.drop_eq_nil_of_le (by rw [len_sb, h4]; exact Nat.le_refl _)]
        rfl
      · have HD : Hid (okb ((sb t).drop k) = _) := okb_drop t k (by omega)
        by_cases g1 : 32 ≤ t[k].toNat
        · by_cases g2 : t[k].toNat ≤ 126
          · have g1' : ¬ ((t[k].toNat : Int) < 32) := by omega
            have g2' : ¬ (126 < (t[k].toNat : Int)) := by omega
            go_wp2
            go_round
            case rel => exact ⟨k + 1, by omega, by simp, by rw [HS.out, HD.out]; simp [g1, g2]⟩
            case measure => simp [intOf]; omega
          · have g1' : ¬ ((t[k].toNat : Int) < 32) := by omega
            have g2' : (126 < (t[k].toNat : Int)) := by omega
            go_wp2
            go_ret
            exact ⟨rt_bool (by unfold gd; rw [HS.out, HD.out]; simp [g2]), rfl⟩
        · have g1' : ((t[k].toNat : Int) < 32) := by omega
          go_wp2
          go_ret
          exact ⟨rt_bool (by unfold gd; rw [HS.out, HD.out]; simp [g1]), rfl⟩
  · go_enter Try.func66, Try.ntmps66
    go_wp2
    go_ret
    exact ⟨rt_bool (by simp [gd, len_sb, h4]), rfl⟩

/-- A page on which a tag is put. -/
def St.tag (s : St) (xs : List Nat) : St := if gd xs then s.app xs else s.fail

theorem rb_str (w : World) (t : ByteArray) (c : Nat) (f : Nat × Nat) (h1 : t.size ≤ c) (h2 : c ≤ maxLen) : Rb (w.drew.alloc (.cells (bytesRow t c) 5 f)) (some ⟨w.heap.size, 0, none⟩) c (sb t) := by
  refine ⟨byt_sb t, by rw [len_sb]; exact h1, h2, (by simp), .inr ⟨w.heap.size, 0, rfl, by simp, fun i hi => ?_⟩⟩
  rw [len_sb] at hi
  rw [cell_of_row _ w.heap.size (0 + i) _ 5 f (heap_alloc_new w.drew _)]
  have hi' : i < t.data.size := hi
  simp [bytesRow, sb, List.getD, Array.getElem?_append]
  rw [if_pos hi, Array.getElem?_eq_getElem hi']
  simp

theorem bd1 {w : World} (o : Obj) : Below w.heap.size w (w.drew.alloc o) := ((Below.refl w.heap.size w).drew).alloc (Nat.le_refl _) o

set_option maxHeartbeats 400000 in
set_option maxRecDepth 100000 in
theorem putTag_any (B : Nat) (G : Nat → Prop) (s : St) (t : ByteArray) (w : World) (h : Pc w B G s) (ht : t.size ≤ maxLen) (hl : s.bs.length + 4 ≤ 1048576) :
    Calls Try.prog 34 #[pg B, .string t] w fun e w' => e = .returned (.tuple #[]) ∧ Pc w' B G (s.tag (sb t)) ∧ Keep G w w' := by
  have hcv := fun w => run_bytes_of_string (P := Try.prog) w 9 34 5 t Try.underlying9 Try.underlying34 Try.underlying5
  go_enter Try.func34, Try.ntmps34
  go_wp2_with fail
  refine (good_any t _ ht).mono ?_
  rintro e u ⟨rfl, rfl⟩
  by_cases hf : gd (sb t) = true
  · have hs : Hid (s.tag (sb t) = s.app (sb t)) := by show s.tag (sb t) = _; simp [St.tag, hf]
    have h4 : (sb t).length = 4 := by simp [gd] at hf; exact hf.1
    have h4' : t.size = 4 := by rw [← len_sb]; exact h4
    rw [hf]
    have H4 : Hid (t.size = 4) := h4'
    clear h4' 
    go_wp2_with fail
    have hc := grownCap_ge w t.size 0 5
    have hc2 := grownCap_le_maxLen w t.size 0 5 ht
    have hr := rb_str w t (grownCap w t.size 0 5) ((bytesRow t (grownCap w t.size 0 5)).size, (bytesRow t (grownCap w t.size 0 5)).size + 1) hc hc2
    have hput := put_any B G s _ _ (sb t) _ (h.below (bd1 _)) hr (by omega)
    rw [len_sb] at hput
    refine hput.mono ?_
    rintro e u ⟨rfl, hP, hK⟩
    go_wp2
    go_end0
    exact ⟨rfl, hs.out ▸ hP, (Keep.of_below (bd1 _) h.1).trans hK⟩
  · have hf : gd (sb t) = false := by simpa using hf
    have hs : Hid (s.tag (sb t) = s.fail) := by show s.tag (sb t) = _; simp [St.tag, hf]
    rw [hf]
    go_wp2_with fail
    refine (fail_any B G s _ h).mono ?_
    rintro e u ⟨rfl, hP, hK⟩
    go_wp2
    (try simp only [Exit.inBlock, Exit.then]); refine bodyPost_ret (results_none rfl _ _ _) rfl ?_
    exact ⟨rfl, hs.out ▸ hP, hK⟩

end Go.Proofs.Ytaejlopkdkaphaa

namespace Go.Proofs.Ytaejlopkdkaphaa
open Go.RowKit Go.Maps
set_option linter.unusedSimpArgs false
set_option linter.unusedVariables false

/-- Are the n bytes from place p on there? -/
def inB (l : Nat) (p n : Int) : Bool := decide (0 ≤ n ∧ 0 ≤ p ∧ p + n ≤ l)
/-- The number that bytes are, the most significant first. -/
def V8 (xs : List Nat) : Nat := xs.foldl (fun s x => 256 * s + x) 0
theorem V8_snoc (xs : List Nat) (x : Nat) : V8 (xs ++ [x]) = 256 * V8 xs + x := by simp [V8]
theorem V8_lt {xs : List Nat} (h : Byt xs) : V8 xs < 256 ^ xs.length := by
  obtain ⟨n, hn⟩ : ∃ n, xs.length = n := ⟨_, rfl⟩
  induction n generalizing xs with
  | zero => rw [List.length_eq_zero_iff.1 hn]; decide
  | succ n ih =>
    have hne : xs ≠ [] := by intro e; rw [e] at hn; cases hn
    rw [← List.dropLast_concat_getLast hne] at h hn ⊢
    have hl : xs.dropLast.length = n := by simpa using hn
    have h1 := ih (fun y hy => h y (by simp [hy])) hl
    have h2 := h (xs.getLast hne) (by simp)
    rw [V8_snoc, List.length_append, List.length_singleton, Nat.pow_succ]
    omega

theorem i64_or_nat (a b : Nat) (ha : a < 4611686018427387904) (hb : b < 4611686018427387904) : bits .or .i64 (a : Int) (b : Int) = ((a ||| b : Nat) : Int) := by
  have hx : a ||| b < 2 ^ 62 := Nat.or_lt_two_pow (by omega) (by omega)
  show IntKind.i64.wrap ((BitVec.ofInt 64 (a : Int) ||| BitVec.ofInt 64 (b : Int)).toNat : Int) = _
  rw [BitVec.toNat_or, ofInt_u64 a (by omega), ofInt_u64 b (by omega)]
  unfold IntKind.wrap
  simp [IntKind.bits, IntKind.signed]
  omega
/-- A number whose low 8 bits are 0, or'ed with a byte. -/
theorem or_byte (s x : Nat) (hs : s < 4294967296) (hx : x < 256) : bits BinOp.or IntKind.i64 ((s : Int) * 256) (x : Int) = 256 * (s : Int) + (x : Int) := by
  have h := i64_or_nat (s * 256) x (by omega) (by omega)
  have e : s * 256 ||| x = s * 256 + x := by
    have := Nat.shiftLeft_add_eq_or_of_lt (show x < 2 ^ 8 by omega) s
    rw [Nat.shiftLeft_eq] at this
    exact this.symm
  rw [e] at h
  have c1 : ((s * 256 : Nat) : Int) = (s : Int) * 256 := by simp
  rw [c1] at h
  rw [h, Int.natCast_add, c1, Int.mul_comm]
theorem rt_two {a b a' b' : Value} (h1 : a = a') (h2 : b = b') : Ending.returned (.tuple #[a, b]) = .returned (.tuple #[a', b']) := by rw [h1, h2]
theorem take_drop_succ (xs : List Nat) (q k : Nat) (h : q + k < xs.length) : (xs.drop q).take (k + 1) = (xs.drop q).take k ++ [xs.getD (q + k) 0] := by
  rw [List.take_succ_eq_append_getElem (by simp; omega)]
  simp [List.getD, h]
/-- The number of n bytes from place p on; 0, if they aren't there. -/
def nmV (xs : List Nat) (p : Int) (n : Nat) : Nat := if inB xs.length p n then V8 ((xs.drop p.toNat).take n) else 0

set_option maxHeartbeats 400000 in
set_option maxRecDepth 100000 in
theorem within_any (a : Option Addr) (l cap : Nat) (p n : Int) (w : World) (hl : l ≤ 9223372036854775807) (hp : I64 p) (hn : I64 n) :
    Calls Try.prog 83 #[.slice a l cap, .int .i64 p, .int .i64 n] w fun e w' => e = .returned (.bool (inB l p n)) ∧ w = w' := by
  obtain ⟨p1, p2⟩ := hp
  obtain ⟨n1, n2⟩ := hn
  by_cases h1 : 0 ≤ n
  · by_cases h2 : 0 ≤ p
    · go_enter Try.func83, Try.ntmps83
      go_wp2
      go_ret
      exact ⟨rt_bool (by simp [inB, h1, h2]; try omega), rfl⟩
    · go_enter Try.func83, Try.ntmps83
      go_wp2
      go_ret
      exact ⟨rt_bool (by simp [inB, h1, h2]; try omega), rfl⟩
  · go_enter Try.func83, Try.ntmps83
    go_wp2
    go_ret
    exact ⟨rt_bool (by simp [inB, h1]; try omega), rfl⟩

set_option maxHeartbeats 1000000 in
set_option maxRecDepth 100000 in
theorem number_any (a : Option Addr) (cap : Nat) (xs : List Nat) (p : Int) (n : Nat) (w : World) (h : Rb w a cap xs) (hp : I64 p) (hn : 1 ≤ n) (hn4 : n ≤ 4) :
    Calls Try.prog 96 #[.slice a xs.length cap, .int .i64 p, .int .i64 (n : Int)] w fun e w' => e = .returned (.tuple #[.int .i64 (nmV xs p n : Int), .bool (inB xs.length p n)]) ∧ w = w' := by
  have k1 := h.le
  have k2 := h.cap
  unfold maxLen at k2
  have hp' := hp
  obtain ⟨p1, p2⟩ := hp'
  by_cases hi : inB xs.length p n = true
  · have hi' := hi
    simp [inB] at hi'
    obtain ⟨q1, q2⟩ := hi'
    obtain ⟨q, rfl⟩ : ∃ q : Nat, p = (q : Int) := ⟨p.toNat, by omega⟩
    rcases h.fm with rfl | ⟨b, off, rfl, hb, hc⟩
    · simp at q2; omega
    have hV : Hid (nmV xs (q : Int) n = V8 ((xs.drop q).take n)) := by
      show nmV xs (q : Int) n = _
      simp [nmV, hi]
    have hb3 := h.lim
    clear h
    go_enter Try.func96, Try.ntmps96
    go_wp2_with fail
    refine (within_any _ _ _ _ _ _ (by omega) hp ⟨by omega, by omega⟩).mono ?_
    rintro e u ⟨rfl, rfl⟩
    rw [hi]
    have HI : Hid (inB xs.length (q : Int) n = true) := hi
    clear hi
    go_wp2
    go_loop [8, 23] (fun s i => ∃ k : Nat, k ≤ n ∧ i = .int .i64 k ∧ s = .int .i64 (V8 ((xs.drop q).take k) : Int)) (fun _ i => ((n : Int) - intOf i).toNat)
    case atStart => exact ⟨0, by omega, rfl, rfl⟩
    case round =>
      obtain ⟨k, hk, rfl, rfl⟩ := hrel
      by_cases hkn : k = n
      · subst hkn
        go_wp2
        go_ret2
        exact ⟨rt_two (by rw [hV.out]; rfl) (by rw [HI.out]; rfl), rfl⟩
      · have hcx := hc (q + k) (by omega)
        rw [← Nat.add_assoc] at hcx
        have hts := take_drop_succ xs q k (by omega)
        have hx := hb3.getD (q + k)
        generalize xs.getD (q + k) 0 = x at hcx hts hx
        have hv := V8_lt ((hb3.drop q).take k)
        have hvk : 256 ^ ((xs.drop q).take k).length ≤ 256 ^ 3 := Nat.pow_le_pow_right (by decide) (by simp; omega)
        have hts2 : V8 ((xs.drop q).take (k + 1)) = 256 * V8 ((xs.drop q).take k) + x := by rw [hts, V8_snoc]
        generalize V8 ((xs.drop q).take k) = v at hts2 hv ⊢
        have HT : Hid (V8 ((xs.drop q).take (k + 1)) = 256 * v + x) := hts2
        have hv3 : v < 16777216 := by omega
        clear hts hts2 hv hvk hc
        have hor := or_byte v x (by omega) hx
        go_wp2
        go_round
        case rel => exact ⟨k + 1, by omega, by simp, by rw [HT.out]; simp⟩
        case measure => simp [intOf]; omega
  · have hi : inB xs.length p n = false := by simpa using hi
    have hV : Hid (nmV xs p n = 0) := by
      show nmV xs p n = _
      simp [nmV, hi]
    go_enter Try.func96, Try.ntmps96
    go_wp2_with fail
    refine (within_any _ _ _ _ _ _ (by omega) hp ⟨by omega, by omega⟩).mono ?_
    rintro e u ⟨rfl, rfl⟩
    rw [hi]
    have HI : Hid (inB xs.length p n = false) := hi
    clear hi
    go_wp2
    go_ret2
    exact ⟨rt_two (by rw [hV.out]; rfl) (by rw [HI.out]; rfl), rfl⟩

end Go.Proofs.Ytaejlopkdkaphaa

namespace Go.Proofs.Ytaejlopkdkaphaa
open Go.RowKit Go.Maps
set_option linter.unusedSimpArgs false
set_option linter.unusedVariables false

/-- Two's complement. -/
def sx16 (v : Nat) : Int := if 32768 ≤ v then (v : Int) - 65536 else v
def sx32 (v : Nat) : Int := if 2147483648 ≤ v then (v : Int) - 4294967296 else v

theorem w16 {v : Nat} (h : 32768 ≤ v) (h2 : v < 65536) : wrap64 (IntKind.i16.wrap (v : Int)) = (v : Int) - 65536 := by
  have e : IntKind.i16.wrap (v : Int) = (v : Int) - 65536 := by
    unfold IntKind.wrap
    simp [IntKind.bits, IntKind.signed]
    omega
  rw [e]
  unfold wrap64
  omega
theorem w32 {v : Nat} (h : 2147483648 ≤ v) (h2 : v < 4294967296) : wrap64 (wrap32 (v : Int)) = (v : Int) - 4294967296 := by
  have e : wrap32 (v : Int) = (v : Int) - 4294967296 := by
    unfold wrap32
    omega
  rw [e]
  unfold wrap64
  omega

theorem nmV_lt {xs : List Nat} (h : Byt xs) (p : Int) (n : Nat) : nmV xs p n < 256 ^ n := by
  unfold nmV
  split
  · have h1 := V8_lt ((h.drop p.toNat).take n)
    have h2 : 256 ^ ((xs.drop p.toNat).take n).length ≤ 256 ^ n := Nat.pow_le_pow_right (by decide) (by simp; omega)
    omega
  · exact Nat.pow_pos (by decide)

set_option maxHeartbeats 1000000 in
set_option maxRecDepth 100000 in
theorem snumber_any (a : Option Addr) (cap : Nat) (xs : List Nat) (p : Int) (n : Nat) (w : World) (h : Rb w a cap xs) (hp : I64 p) (hn : 1 ≤ n) (hn4 : n ≤ 4) :
    Calls Try.prog 74 #[.slice a xs.length cap, .int .i64 p, .int .i64 (n : Int)] w fun e w' => e = .returned (.tuple #[.int .i64 (nmV xs p n : Int), .bool (inB xs.length p n)]) ∧ w = w' := by
  have k1 := h.le
  have k2 := h.cap
  unfold maxLen at k2
  obtain ⟨p1, p2⟩ := hp
  by_cases hi : inB xs.length p n = true
  · have hi' := hi
    simp [inB] at hi'
    obtain ⟨q1, q2⟩ := hi'
    obtain ⟨q, rfl⟩ : ∃ q : Nat, p = (q : Int) := ⟨p.toNat, by omega⟩
    rcases h.fm with rfl | ⟨b, off, rfl, hb, hc⟩
    · simp at q2; omega
    have hV : Hid (nmV xs (q : Int) n = V8 ((xs.drop q).take n)) := by
      show nmV xs (q : Int) n = _
      simp [nmV, hi]
    have hb3 := h.lim
    clear h
    have HI : Hid (inB xs.length (q : Int) n = true) := hi
    clear hi
    have g1 : ¬ ((xs.length : Int) < (n : Int)) := by omega
    have g2 : ¬ ((xs.length : Int) - (n : Int) < (q : Int)) := by omega
    go_enter Try.func74, Try.ntmps74
    go_wp2
    go_loop [8, 9] (fun s i => ∃ k : Nat, k ≤ n ∧ i = .int .i64 k ∧ s = .int .i64 (V8 ((xs.drop q).take k) : Int)) (fun _ i => ((n : Int) - intOf i).toNat)
    case atStart => exact ⟨0, by omega, rfl, rfl⟩
    case round =>
      obtain ⟨k, hk, rfl, rfl⟩ := hrel
      by_cases hkn : k = n
      · subst hkn
        go_wp2
        go_ret2
        exact ⟨rt_two (by rw [hV.out]; rfl) (by rw [HI.out]; rfl), rfl⟩
      · have hcx := hc (q + k) (by omega)
        have hts := take_drop_succ xs q k (by omega)
        have hx := hb3.getD (q + k)
        generalize xs.getD (q + k) 0 = x at hcx hts hx
        have hv := V8_lt ((hb3.drop q).take k)
        have hvk : 256 ^ ((xs.drop q).take k).length ≤ 256 ^ 3 := Nat.pow_le_pow_right (by decide) (by simp; omega)
        have hts2 : V8 ((xs.drop q).take (k + 1)) = 256 * V8 ((xs.drop q).take k) + x := by rw [hts, V8_snoc]
        generalize V8 ((xs.drop q).take k) = v at hts2 hv ⊢
        have HT : Hid (V8 ((xs.drop q).take (k + 1)) = 256 * v + x) := hts2
        have hv3 : v < 16777216 := by omega
        clear hts hts2 hv hvk hc
        go_wp2
        go_round
        case rel => exact ⟨k + 1, by omega, by simp, by rw [HT.out]; simp⟩
        case measure => simp [intOf]; omega
  · have hi : inB xs.length p n = false := by simpa using hi
    have hV : Hid (nmV xs p n = 0) := by
      show nmV xs p n = _
      simp [nmV, hi]
    have HI : Hid (inB xs.length p n = false) := hi
    have hor : p < 0 ∨ (0 ≤ p ∧ ((xs.length : Int) < (n : Int) ∨ (¬ (xs.length : Int) < (n : Int) ∧ (xs.length : Int) - (n : Int) < p))) := by
      simp [inB] at hi
      omega
    clear hi
    rcases hor with g1 | ⟨g0, g1 | ⟨g1, g2⟩⟩
    all_goals
      go_enter Try.func74, Try.ntmps74
      go_wp2
      go_ret2
      exact ⟨rt_two (by rw [hV.out]; rfl) (by first | (rw [HI.out]; rfl) | rfl), rfl⟩

theorem u16_any (a : Option Addr) (cap : Nat) (xs : List Nat) (p : Int) (w : World) (h : Rb w a cap xs) (hp : I64 p) :
    Calls Try.prog 82 #[.slice a xs.length cap, .int .i64 p] w fun e w' => e = .returned (.tuple #[.int .i64 (nmV xs p 2 : Int), .bool (inB xs.length p 2)]) ∧ w = w' := by
  go_enter Try.func82, Try.ntmps82
  go_wp2_with fail
  refine (number_any a cap xs p 2 _ h hp (by decide) (by decide)).mono ?_
  rintro e u ⟨rfl, rfl⟩
  go_wp2
  go_ret2
  exact ⟨rfl, rfl⟩

set_option maxHeartbeats 400000 in
set_option maxRecDepth 100000 in
theorem i16_any (a : Option Addr) (cap : Nat) (xs : List Nat) (p : Int) (w : World) (h : Rb w a cap xs) (hp : I64 p) :
    Calls Try.prog 97 #[.slice a xs.length cap, .int .i64 p] w fun e w' => e = .returned (.tuple #[.int .i64 (sx16 (nmV xs p 2)), .bool (inB xs.length p 2)]) ∧ w = w' := by
  have hlt := nmV_lt h.lim p 2
  obtain ⟨v, hv⟩ : ∃ v, nmV xs p 2 = v := ⟨_, rfl⟩
  have HV : Hid (nmV xs p 2 = v) := hv
  have hlt' : v < 65536 := by rw [hv] at hlt; simpa using hlt
  clear hlt
  go_enter Try.func97, Try.ntmps97
  go_wp2_with fail
  refine (number_any a cap xs p 2 _ h hp (by decide) (by decide)).mono ?_
  rintro e u ⟨rfl, rfl⟩
  rw [hv]
  clear hv
  by_cases hbig : 32768 ≤ v
  · have hs : Hid (sx16 (nmV xs p 2) = (v : Int) - 65536) := by show sx16 _ = _; rw [HV.out]; simp [sx16, hbig]
    have HB : Hid (32768 ≤ v) := hbig
    have hb' : (32768 : Int) ≤ (v : Int) := by omega
    clear hbig
    go_wp2
    go_ret2
    exact ⟨rt_two (by rw [hs.out]; first | rfl | exact congrArg _ (w16 HB.out hlt')) rfl, rfl⟩
  · have hs : Hid (sx16 (nmV xs p 2) = (v : Int)) := by show sx16 _ = _; rw [HV.out]; simp [sx16, hbig]
    have hb' : ¬ (32768 : Int) ≤ (v : Int) := by omega
    clear hbig hlt'
    go_wp2
    go_ret2
    exact ⟨rt_two (by rw [hs.out]; rfl) rfl, rfl⟩

theorem su16_any (a : Option Addr) (cap : Nat) (xs : List Nat) (p : Int) (w : World) (h : Rb w a cap xs) (hp : I64 p) :
    Calls Try.prog 49 #[.slice a xs.length cap, .int .i64 p] w fun e w' => e = .returned (.tuple #[.int .i64 (nmV xs p 2 : Int), .bool (inB xs.length p 2)]) ∧ w = w' := by
  go_enter Try.func49, Try.ntmps49
  go_wp2_with fail
  refine (snumber_any a cap xs p 2 _ h hp (by decide) (by decide)).mono ?_
  rintro e u ⟨rfl, rfl⟩
  go_wp2
  go_ret2
  exact ⟨rfl, rfl⟩

set_option maxHeartbeats 400000 in
set_option maxRecDepth 100000 in
theorem si16_any (a : Option Addr) (cap : Nat) (xs : List Nat) (p : Int) (w : World) (h : Rb w a cap xs) (hp : I64 p) :
    Calls Try.prog 52 #[.slice a xs.length cap, .int .i64 p] w fun e w' => e = .returned (.tuple #[.int .i64 (sx16 (nmV xs p 2)), .bool (inB xs.length p 2)]) ∧ w = w' := by
  have hlt := nmV_lt h.lim p 2
  obtain ⟨v, hv⟩ : ∃ v, nmV xs p 2 = v := ⟨_, rfl⟩
  have HV : Hid (nmV xs p 2 = v) := hv
  have hlt' : v < 65536 := by rw [hv] at hlt; simpa using hlt
  clear hlt
  go_enter Try.func52, Try.ntmps52
  go_wp2_with fail
  refine (snumber_any a cap xs p 2 _ h hp (by decide) (by decide)).mono ?_
  rintro e u ⟨rfl, rfl⟩
  rw [hv]
  clear hv
  obtain ⟨z, hz⟩ : ∃ z : Int, (v : Int) = z := ⟨_, rfl⟩
  rw [hz]
  have HZ : Hid ((v : Int) = z) := hz
  have z1 : 0 ≤ z := by omega
  have z2 : z < 65536 := by omega
  have HL : Hid (v < 65536) := hlt'
  clear hz hlt'
  go_wp2
  all_goals
    go_ret2
    refine ⟨rt_two ?_ rfl, rfl⟩
    rw [HV.out]
    have hz := HZ.out
    have hl := HL.out
    first
      | (have e : sx16 v = z - 65536 := (by unfold sx16; split <;> omega)
         rw [e]
         rfl)
      | (have e : sx16 v = z := (by unfold sx16; split <;> omega)
         rw [e]
         rfl)

end Go.Proofs.Ytaejlopkdkaphaa

namespace Go.Proofs.Ytaejlopkdkaphaa
open Go.RowKit Go.Maps
set_option linter.unusedSimpArgs false
set_option linter.unusedVariables false

theorem Rw.nil (base : Nat) (w : World) : Rw 5 base w none 0 [] := ⟨Byt.nil, World.ownsRow_nil w base _ 1⟩

set_option maxHeartbeats 400000 in
set_option maxRecDepth 100000 in
theorem clone_any (a : Option Addr) (cap : Nat) (xs : List Nat) (w : World) (h : Rb w a cap xs) (hl : xs.length ≤ 1000000000) :
    Calls Try.prog 65 #[.slice a xs.length cap] w fun e w' => ∃ a' cap', e = .returned (.slice a' xs.length cap') ∧ Rw 5 w.heap.size w' a' cap' xs ∧ Below w.heap.size w w' := by
  obtain ⟨i0, hi, hz0, hz1, hz2⟩ := info_parts info_byte
  have q22 : ∀ (w : World) (a : Option Addr) (n c n' c' : Nat), (binOp .eql 34 (.slice a n c) (.slice none n' c')).run Try.prog w = .ok (.bool a.isNone) w := fun w a n c n' c' => Lib.run_eql_slice_nil w _ _ a n c n' c' Try.underlying34
  cases a with
  | none =>
    have hc : cap = 0 := h.2.2.2.1 rfl
    have hx : xs = [] := by
      rcases h.fm with h0 | ⟨b, off, e, _⟩
      · exact h0
      · cases e
    subst hc
    subst hx
    go_enter Try.func65, Try.ntmps65
    go_wp2
    go_ret
    exact ⟨none, 0, rfl, Rw.nil _ _, Below.refl _ _⟩
  | some ad =>
    go_enter Try.func65, Try.ntmps65
    go_wp2_with (at_builtin; refine wpList_append_rb rfl _ _ 34 rfl w.heap.size 5 i0 Try.underlying34 hi hz0 hz1 hz2 _ 0 [] rfl ?_ (some ad) cap _ xs rfl rfl ?_ ?_ ?_ ?_)
    · exact World.ownsRow_made w #[] 0 (Nat.le_refl _) (Nat.zero_le _) rfl
    · exact h.below (bl1 _)
    · omega
    · simp
    · intro v' w1 hown hgrow hat
      obtain ⟨a', cap', rfl, hres⟩ := Rw.of h.lim hown
      go_wp2
      go_ret
      exact ⟨a', cap', rfl, hres, (bl1 _).grown hgrow (by simp) (fun k hk => by simp [Value.ownBlock] at hk; omega)⟩

/-- The n bytes from place p on, if they are there. -/
def cutV (xs : List Nat) (p n : Int) : List Nat := if inB xs.length p n then (xs.drop p.toNat).take n.toNat else []
theorem cutV_no {xs : List Nat} {p n : Int} (h : inB xs.length p n = false) : cutV xs p n = [] := by simp [cutV, h]
theorem cutV_yes {xs : List Nat} {p n : Int} (h : inB xs.length p n = true) : cutV xs p n = (xs.drop p.toNat).take n.toNat := by simp [cutV, h]

/-- A part of a slice. -/
theorem Rb.cut {w : World} {a : Option Addr} {cap : Nat} {xs : List Nat} (h : Rb w a cap xs) (q n : Nat) (hq : q + n ≤ xs.length) : Rb w (a.map (fun x => x.add q)) (cap - q) ((xs.drop q).take n) := by
  obtain ⟨h1, h2, h3, h5, h4⟩ := h
  refine ⟨(h1.drop q).take n, by simp; omega, by omega, (by simp; intro h; have := h5 h; omega), ?_⟩
  rcases h4 with rfl | ⟨b, off, rfl, hb1, hc⟩
  · exact .inl (by simp)
  · have hadd : (⟨b, off, none⟩ : Addr).add q = ⟨b, off + q, none⟩ := by unfold Addr.add; split <;> simp_all
    refine .inr ⟨b, off + q, by simp [hadd], hb1, fun i hi => ?_⟩
    simp at hi
    rw [Nat.add_assoc, hc (q + i) (by omega)]
    simp [List.getD, show i < n by omega]

end Go.Proofs.Ytaejlopkdkaphaa

namespace Go.Proofs.Ytaejlopkdkaphaa
open Go.RowKit Go.Maps
set_option linter.unusedSimpArgs false
set_option linter.unusedVariables false

set_option maxHeartbeats 800000 in
set_option maxRecDepth 100000 in
/-- Two slices that read alike are told to be the same. -/
theorem same8_any (a b : Option Addr) (ca cb : Nat) (xs : List Nat) (w : World) (ha : Rb w a ca xs) (hb : Rb w b cb xs) :
    Calls Try.prog 19 #[.slice a xs.length ca, .slice b xs.length cb] w fun e w' => e = .returned (.bool true) ∧ Below w.heap.size w w' := by
  have k1 := ha.le
  have k2 := ha.cap
  unfold maxLen at k2
  have fa := ha.fm
  have fb := hb.fm
  clear ha hb
  have hne : ((xs.length : Int) != (xs.length : Int)) = false := by simp
  go_enter Try.func19, Try.ntmps19
  go_wp2
  go_loopw [5] (fun i wr => ∃ k : Nat, k ≤ xs.length ∧ i = .int .i64 k ∧ Below w.heap.size w wr) (fun i _ => xs.length - (intOf i).toNat)
  case atStart => exact ⟨0, Nat.zero_le _, rfl, Below.refl _ _⟩
  case round =>
    obtain ⟨k, hk, rfl, hnx⟩ := hrel
    by_cases hkn : k < xs.length
    · obtain ⟨b1, o1, rfl, _, c1⟩ := fa.at hnx k hkn
      obtain ⟨b2, o2, rfl, _, c2⟩ := fb.at hnx k hkn
      obtain ⟨x, hx⟩ : ∃ x, xs.getD k 0 = x := ⟨_, rfl⟩
      rw [hx] at c1 c2
      have hxx : ((x : Int) != (x : Int)) = false := by simp
      clear hx
      have i1 : (0 : Int) ≤ (k : Int) := by omega
      have i2 : (k : Int) < (xs.length : Int) := by omega
      go_wp2_with fail
      go_quiet (fail)
      go_wp2
      go_roundw
      case rel => exact ⟨k + 1, by omega, by go_num, below_drewN hnx _⟩
      case measure => simp [intOf]; omega
    · go_wp2
      go_ret
      exact ⟨rfl, hnx⟩

set_option maxHeartbeats 1000000 in
set_option maxRecDepth 100000 in
theorem scut_any (a : Option Addr) (cap : Nat) (xs : List Nat) (p n : Int) (w : World) (h : Rb w a cap xs) (hp : I64 p) (hn : I64 n) (hl : xs.length ≤ 1000000000) :
    Calls Try.prog 75 #[.slice a xs.length cap, .int .i64 p, .int .i64 n] w fun e w' => ∃ a' cap', e = .returned (.tuple #[.slice a' (cutV xs p n).length cap', .bool (inB xs.length p n)]) ∧ Rw 5 w.heap.size w' a' cap' (cutV xs p n) ∧ Below w.heap.size w w' := by
  obtain ⟨i0, hi0, hz0, hz1, hz2⟩ := info_parts info_byte
  have hr := h
  have k1 := h.le
  have k2 := h.cap
  unfold maxLen at k2
  obtain ⟨p1, p2⟩ := hp
  obtain ⟨n1, n2⟩ := hn
  by_cases hi : inB xs.length p n = true
  · have HI : Hid (inB xs.length p n = true) := hi
    have hi' := hi
    simp [inB] at hi'
    obtain ⟨q0, q1, q2⟩ := hi'
    obtain ⟨q, rfl⟩ : ∃ q : Nat, p = (q : Int) := ⟨p.toNat, by omega⟩
    obtain ⟨m, rfl⟩ : ∃ m : Nat, n = (m : Int) := ⟨n.toNat, by omega⟩
    have HC : Hid (cutV xs q m = (xs.drop q).take m) := cutV_yes hi
    clear hi
    have g1 : ¬ ((xs.length : Int) < (m : Int)) := by omega
    have g2 : ¬ ((xs.length : Int) - (m : Int) < (q : Int)) := by omega
    have hl2 : ((xs.drop q).take m).length = m := by simp; omega
    have HL2 : Hid (((xs.drop q).take m).length = m) := hl2
    clear hl2
    by_cases hcq : cap = q
    · have hm : m = 0 := by omega
      subst hm
      subst hcq
      have HZ : Hid ((xs.drop cap).take 0 = []) := by show (xs.drop cap).take 0 = []; simp
      clear HL2
      go_enter Try.func75, Try.ntmps75
      go_wp2_with (at_builtin; refine wpList_append_rb rfl _ _ 34 rfl w.heap.size 5 i0 Try.underlying34 hi0 hz0 hz1 hz2 _ 0 [] rfl (World.ownsRow_nil w _ _ 1) a 0 _ [] rfl rfl (Rb.nil w a 0 (Nat.zero_le _) (fun _ => rfl)) (by simp) (Nat.le_refl _) ?_)
      intro v' w1 hown hgrow hat
      obtain ⟨a', cap', rfl, hres⟩ := Rw.of (xs := []) Byt.nil hown
      go_wp2
      go_ret2
      refine ⟨a', cap', rt_two (by rw [HC.out, HZ.out]; rfl) (by first | (rw [HI.out]; rfl) | rfl), ?_, (Below.refl _ _).grown hgrow (Nat.le_refl _) (fun k hk => by simp [Value.ownBlock] at hk)⟩
      rw [HC.out, HZ.out]
      exact hres
    · have hcut := hr.cut q m (by omega)
      obtain ⟨zs, hzs⟩ : ∃ zs, (xs.drop q).take m = zs := ⟨_, rfl⟩
      rw [hzs] at hcut
      have HZ : Hid ((xs.drop q).take m = zs) := hzs
      have HL : Hid (m = zs.length) := by show m = zs.length; rw [← hzs]; exact HL2.out.symm
      clear hzs HL2
      go_enter Try.func75, Try.ntmps75
      go_wp2_with (at_builtin; refine wpList_append_rb rfl _ _ 34 rfl w.heap.size 5 i0 Try.underlying34 hi0 hz0 hz1 hz2 _ 0 [] rfl (World.ownsRow_nil w _ _ 1) (a.map (fun x => x.add q)) (cap - q) _ zs rfl (by have := HL.out; omega) hcut (by rw [← HL.out]; omega) (Nat.le_refl _) ?_)
      intro v' w1 hown hgrow hat
      obtain ⟨a', cap', rfl, hres⟩ := Rw.of hcut.lim hown
      go_wp2
      go_ret2
      refine ⟨a', cap', rt_two (by rw [HC.out, HZ.out]; rfl) (by first | (rw [HI.out]; rfl) | (rw [HI.out]; simp; omega)), ?_, (Below.refl _ _).grown hgrow (Nat.le_refl _) (fun k hk => by simp [Value.ownBlock] at hk)⟩
      rw [HC.out, HZ.out]
      exact hres
  · have hi : inB xs.length p n = false := by simpa using hi
    have HI : Hid (inB xs.length p n = false) := hi
    have HC : Hid (cutV xs p n = []) := cutV_no hi
    have hor : p < 0 ∨ (0 ≤ p ∧ (n < 0 ∨ (0 ≤ n ∧ ((xs.length : Int) < n ∨ (¬ (xs.length : Int) < n ∧ (xs.length : Int) - n < p))))) := by
      simp [inB] at hi
      omega
    clear hi
    rcases hor with g1 | ⟨g0, g1 | ⟨g1, g2 | ⟨g2, g3⟩⟩⟩
    all_goals
      go_enter Try.func75, Try.ntmps75
      go_wp2
      go_ret2
      refine ⟨none, 0, rt_two (by rw [HC.out]; rfl) (by first | (rw [HI.out]; rfl) | rfl), ?_, Below.refl _ _⟩
      rw [HC.out]
      exact Rw.nil _ _

/-- Bytes as a text. -/
def str8 (xs : List Nat) : ByteArray := strOfNums (xs.map (fun x : Nat => (x : Int)))
theorem size_str8 (xs : List Nat) : (str8 xs).size = xs.length := by rw [str8, strOfNums_size, List.length_map]
theorem sb_str8 {xs : List Nat} (h : Byt xs) : sb (str8 xs) = xs := by
  rw [sb, str8, strOfNums_data]
  simp only [List.map_map]
  have : ∀ x ∈ xs, (UInt8.toNat ∘ (fun n : Int => UInt8.ofNat n.toNat) ∘ fun x : Nat => (x : Int)) x = x := by
    intro x hx
    have := h x hx
    simp
    omega
  rw [List.map_congr_left this, List.map_id']
theorem str8_sb (t : ByteArray) : str8 (sb t) = t := by
  cases t with
  | mk d =>
    simp only [str8, strOfNums, sb, List.map_map]
    congr 1
    apply Array.toList_inj.1
    simp
    rw [List.map_congr_left (g := id)]
    · simp
    · intro x hx; simp

theorem Rb.str {w : World} {a : Option Addr} {cap : Nat} {xs : List Nat} (h : Rb w a cap xs) (hx : xs ≠ []) :
    (convert 34 9 (.slice a xs.length cap)).run Try.prog w = .ok (.string (str8 xs)) w := by
  rcases h.fm with h0 | ⟨b, off, rfl, hb, hc⟩
  · exact absurd h0 hx
  · exact run_convert_bytes_arg (P := Try.prog) w 34 5 Try.underlying34 Try.underlying5 b off xs.length cap (xs.map (fun x : Nat => (x : Int))) (by simp) (fun i hi => by
      rw [hc i hi]; simp [List.getD, hi]) 9 Try.underlying9

/-- The tag at place p: is it there? and its text. -/
def tgB (xs : List Nat) (p : Int) : Bool := inB xs.length p 4 && gd (cutV xs p 4)
def tgV (xs : List Nat) (p : Int) : ByteArray := if tgB xs p then str8 (cutV xs p 4) else ⟨#[]⟩

set_option maxHeartbeats 1000000 in
set_option maxRecDepth 100000 in
theorem tag_any (a : Option Addr) (cap : Nat) (xs : List Nat) (p : Int) (w : World) (h : Rb w a cap xs) (hp : I64 p) (hl : xs.length ≤ 1000000000) :
    Calls Try.prog 70 #[.slice a xs.length cap, .int .i64 p] w fun e w' => e = .returned (.tuple #[.string (tgV xs p), .bool (tgB xs p)]) ∧ Below w.heap.size w w' := by
  have k1 := h.le
  have k2 := h.cap
  unfold maxLen at k2
  by_cases hi : inB xs.length p 4 = true
  · have hi' := hi
    simp [inB] at hi'
    obtain ⟨q1, q2⟩ := hi'
    obtain ⟨q, rfl⟩ : ∃ q : Nat, p = (q : Int) := ⟨p.toNat, by omega⟩
    have hcv : cutV xs q 4 = (xs.drop q).take 4 := cutV_yes hi
    have hcut := h.cut q 4 (by omega)
    have hl4 : ((xs.drop q).take 4).length = 4 := by simp; omega
    have hst := hcut.str (by intro e; rw [e] at hl4; cases hl4)
    have hsz : (str8 ((xs.drop q).take 4)).size = 4 := by rw [size_str8, hl4]
    have hsb := sb_str8 hcut.lim
    rw [hl4] at hst
    have HB : Hid (tgB xs q = gd ((xs.drop q).take 4)) := by show tgB xs q = _; rw [tgB, hi, hcv, Bool.true_and]
    have HT : Hid (tgV xs q = if tgB xs q then str8 ((xs.drop q).take 4) else ⟨#[]⟩) := by show tgV xs q = _; rw [tgV, hcv]
    obtain ⟨ts, hts⟩ : ∃ ts, str8 ((xs.drop q).take 4) = ts := ⟨_, rfl⟩
    rw [hts] at hst hsz hsb
    have HS : Hid (sb ts = (xs.drop q).take 4) := hsb
    have HTS : Hid (str8 ((xs.drop q).take 4) = ts) := hts
    have Hsz : Hid (ts.size = 4) := hsz
    clear hsz hsb hts hl4 hcut hcv
    rcases h.fm with rfl | ⟨b, off, rfl, hb, hc⟩
    · simp at q2; omega
    have hadd : (⟨b, off, none⟩ : Addr).add q = ⟨b, off + q, none⟩ := by unfold Addr.add; split <;> simp_all
    simp only [Option.map_some, hadd] at hst
    clear hc h hadd
    go_enter Try.func70, Try.ntmps70
    go_wp2_with fail
    refine (within_any _ _ _ _ _ _ (by omega) hp ⟨by decide, by decide⟩).mono ?_
    rintro e u ⟨rfl, rfl⟩
    rw [hi]
    clear hi
    go_wp2_with fail
    refine (good_any ts _ (by rw [Hsz.out]; decide)).mono ?_
    rintro e u ⟨rfl, rfl⟩
    rw [HS.out]
    by_cases hg : gd ((xs.drop q).take 4) = true
    · have HG : Hid (gd ((xs.drop q).take 4) = true) := hg
      rw [hg]
      clear hg
      go_wp2
      go_ret2
      exact ⟨rt_two (by rw [HT.out, HB.out, HG.out, HTS.out]; rfl) (by rw [HB.out, HG.out]; rfl), Below.refl _ _⟩
    · have hg : gd ((xs.drop q).take 4) = false := by simpa using hg
      have HG : Hid (gd ((xs.drop q).take 4) = false) := hg
      rw [hg]
      clear hg
      go_wp2
      go_ret2
      exact ⟨rt_two (by rw [HT.out, HB.out, HG.out]; rfl) (by rw [HB.out, HG.out]; rfl), Below.refl _ _⟩
  · have hi : inB xs.length p 4 = false := by simpa using hi
    have HB : Hid (tgB xs p = false) := by show tgB xs p = _; rw [tgB, hi, Bool.false_and]
    have HT : Hid (tgV xs p = ⟨#[]⟩) := by show tgV xs p = _; rw [tgV, HB.out]; rfl
    go_enter Try.func70, Try.ntmps70
    go_wp2_with fail
    refine (within_any _ _ _ _ _ _ (by omega) hp ⟨by decide, by decide⟩).mono ?_
    rintro e u ⟨rfl, rfl⟩
    rw [hi]
    clear hi
    go_wp2
    go_ret2
    exact ⟨rt_two (by rw [HT.out]; rfl) (by rw [HB.out]; rfl), Below.refl _ _⟩

set_option maxHeartbeats 1000000 in
set_option maxRecDepth 100000 in
theorem stag_any (a : Option Addr) (cap : Nat) (xs : List Nat) (p : Int) (w : World) (h : Rb w a cap xs) (hp : I64 p) (hl : xs.length ≤ 1000000000) :
    Calls Try.prog 50 #[.slice a xs.length cap, .int .i64 p] w fun e w' => e = .returned (.tuple #[.string (tgV xs p), .bool (tgB xs p)]) ∧ Below w.heap.size w w' := by
  by_cases hi : inB xs.length p 4 = true
  · have hl4 : (cutV xs p 4).length = 4 := by
      rw [cutV_yes hi]
      simp [inB] at hi
      simp
      omega
    have HB : Hid (tgB xs p = gd (cutV xs p 4)) := by show tgB xs p = _; rw [tgB, hi, Bool.true_and]
    have HT : Hid (tgV xs p = if tgB xs p then str8 (cutV xs p 4) else ⟨#[]⟩) := rfl
    go_enter Try.func50, Try.ntmps50
    go_wp2_with fail
    refine (scut_any _ _ _ _ 4 _ h hp ⟨by decide, by decide⟩ hl).mono ?_
    rintro e u ⟨a', cap', rfl, hR, hb⟩
    rw [hi]
    generalize cutV xs p 4 = zs at *
    have hst := hR.rd.str (by intro e; rw [e] at hl4; cases hl4)
    have hsz : (str8 zs).size = 4 := by rw [size_str8, hl4]
    have hsb := sb_str8 hR.lim
    rw [hl4] at hst ⊢
    obtain ⟨ts, hts⟩ : ∃ ts, str8 zs = ts := ⟨_, rfl⟩
    rw [hts] at hst hsz hsb
    have HS : Hid (sb ts = zs) := hsb
    have HTS : Hid (str8 zs = ts) := hts
    have Hsz : Hid (ts.size = 4) := hsz
    clear hsz hsb hts hl4 hi
    go_wp2_with fail
    refine (sgood_any ts _ (by rw [Hsz.out]; decide)).mono ?_
    rintro e u ⟨rfl, rfl⟩
    rw [HS.out]
    by_cases hg : gd zs = true
    · have HG : Hid (gd zs = true) := hg
      rw [hg]
      clear hg
      go_wp2
      go_ret2
      exact ⟨rt_two (by rw [HT.out, HB.out, HG.out, HTS.out]; rfl) (by rw [HB.out, HG.out]; rfl), hb⟩
    · have hg : gd zs = false := by simpa using hg
      have HG : Hid (gd zs = false) := hg
      rw [hg]
      clear hg
      go_wp2
      go_ret2
      exact ⟨rt_two (by rw [HT.out, HB.out, HG.out]; rfl) (by rw [HB.out, HG.out]; rfl), hb⟩
  · have hi : inB xs.length p 4 = false := by simpa using hi
    have HB : Hid (tgB xs p = false) := by show tgB xs p = _; rw [tgB, hi, Bool.false_and]
    have HT : Hid (tgV xs p = ⟨#[]⟩) := by show tgV xs p = _; rw [tgV, HB.out]; rfl
    go_enter Try.func50, Try.ntmps50
    go_wp2_with fail
    refine (scut_any _ _ _ _ 4 _ h hp ⟨by decide, by decide⟩ hl).mono ?_
    rintro e u ⟨a', cap', rfl, hR, hb⟩
    rw [hi]
    clear hi
    go_wp2
    go_ret2
    exact ⟨rt_two (by rw [HT.out]; rfl) (by rw [HB.out]; rfl), hb⟩

end Go.Proofs.Ytaejlopkdkaphaa
