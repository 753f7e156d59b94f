/-
  Pages: the document's states (St) and what is done with them, and how a page of the code lies in a world (Pc).
  octets: closed, fail, put, fits, four: the walks.
  octets: fits, four, Put8, Put16, Put32, PutBytes, Here: the walks.
  octets.Good, PutTag: the walks.
  octets.within, number, U8, U16, I16, U32, I32: the walks.
-/
import Derived.Test.YtdpafdeoepbhaaaGreatZ9
import Derived.Laws.IdiomStrings
import Derived.Lib.BitFns
namespace Go.Proofs.YtdpafdeoepbhaaaGreat
open Go.RowKit Go.Maps
set_option linter.unusedSimpArgs false
set_option linter.unusedVariables false

/-- A page: its bytes, the places that wait, whether it has failed. -/
structure St where
  bs : List Nat
  ws : List Int
  no : Bool

/-- A page of the document: bytes; no place waits twice, and each has its four bytes. -/
def Wf (s : St) : Prop := Byt s.bs ∧ s.ws.Nodup ∧ (∀ x ∈ s.ws, 0 ≤ x ∧ x + 4 ≤ (s.bs.length : Int)) ∧ 4 * s.ws.length ≤ s.bs.length

def St.zero : St := ⟨[], [], false⟩
def St.fail (s : St) : St := { s with no := true }
/-- Bytes are put, unless the page has failed. -/
def St.app (s : St) (xs : List Nat) : St := if s.no then s else { s with bs := s.bs ++ xs }

theorem Wf.zero : Wf St.zero := ⟨Byt.nil, List.nodup_nil, (fun x hx => by cases hx), Nat.le_refl _⟩
theorem Wf.fail {s : St} (h : Wf s) : Wf s.fail := h
theorem Wf.app {s : St} (h : Wf s) {xs : List Nat} (hx : Byt xs) : Wf (s.app xs) := by
  unfold St.app
  split
  · exact h
  · exact ⟨h.1.append hx, h.2.1, fun x hxs => by have := h.2.2.1 x hxs; simp; omega, by have := h.2.2.2; simp; omega⟩
theorem St.app_bad {s : St} (h : s.no = true) (xs : List Nat) : s.app xs = s := by simp [St.app, h]
theorem St.app_ok {s : St} (h : s.no = false) (xs : List Nat) : s.app xs = { s with bs := s.bs ++ xs } := by simp [St.app, h]
theorem St.app_no (s : St) (xs : List Nat) : (s.app xs).no = s.no := by unfold St.app; split <;> rfl
theorem St.app_len (s : St) (xs : List Nat) : (s.app xs).bs.length ≤ s.bs.length + xs.length := by unfold St.app; split <;> simp

/-- A row of bytes, none of whose blocks lies in G. -/
def Row (w : World) (G : Nat → Prop) (v : Value) (xs : List Nat) : Prop :=
  w.ownsRow 0 5 1 v xs.length (xs.map Y) ∧ ∀ g, v.ownBlock = some g → ¬ G g

/-- The map of the places that wait. -/
def Wts (w : World) (G : Nat → Prop) (v : Value) (ws : List Int) : Prop :=
  (v = .map none ∧ ws = []) ∨ ∃ m D, v = .map (some m) ∧ ¬ G m ∧ w.ownsMap Tryz.prog 3 (unitElem (H := Unit)) m ws.length D ∧
    (∀ x : Int, Maps.has D (.int .i64 x) = decide (x ∈ ws)) ∧ Maps.size D = ws.length

/-- What is owned stays owned while the blocks outside G stay. -/
theorem Row.stay {w w' : World} {G : Nat → Prop} {v : Value} {xs : List Nat} (h : Row w G v xs) (hb : ∀ k, k < w.heap.size → ¬ G k → w'.heap[k]? = w.heap[k]?) : Row w' G v xs := by
  obtain ⟨⟨h1, h2⟩, hG⟩ := h
  refine ⟨⟨h1, ?_⟩, hG⟩
  rcases h2 with h2 | ⟨g, cap, cur, e, h3, h4, h5⟩
  · exact .inl h2
  · exact .inr ⟨g, cap, cur, e, h3, (hb g (Array.getElem?_eq_some_iff.1 h4).1 (hG g (by rw [e]; rfl))).trans h4, h5⟩
/-- The row's block holds bytes: it is no page. -/
theorem Row.ne {w : World} {G : Nat → Prop} {v : Value} {xs : List Nat} (h : Row w G v xs) {B : Nat} {cs : Array Value} {t : TypeId} {f : Nat × Nat} (hB : w.heap[B]? = some (.cells cs t f)) (ht : t ≠ 5) : v.ownBlock ≠ some B := by
  obtain ⟨⟨h1, h2⟩, hG⟩ := h
  rcases h2 with ⟨rfl, _⟩ | ⟨g, cap, cur, rfl, h3, h4, h5⟩
  · intro e; cases e
  · intro e
    simp only [Value.ownBlock, Option.some.injEq] at e
    subst e
    rw [h4] at hB
    simp at hB
    exact ht hB.2.1.symm
theorem Row.ne_map {w : World} {G : Nat → Prop} {v : Value} {xs : List Nat} (h : Row w G v xs) {m : Nat} {es : Array MapEntry} {c : Nat} (hB : w.heap[m]? = some (.map es c)) : v.ownBlock ≠ some m := by
  obtain ⟨⟨h1, h2⟩, hG⟩ := h
  rcases h2 with ⟨rfl, _⟩ | ⟨g, cap, cur, rfl, h3, h4, h5⟩
  · intro e; cases e
  · intro e
    simp only [Value.ownBlock, Option.some.injEq] at e
    subst e
    rw [h4] at hB
    simp at hB
/-- .. while all but the page's own cells stays. -/
theorem Row.off {w w' : World} {G : Nat → Prop} {v : Value} {xs : List Nat} (h : Row w G v xs) {B : Nat} {cs : Array Value} {t : TypeId} {f : Nat × Nat} (hB : w.heap[B]? = some (.cells cs t f)) (ht : t ≠ 5)
    (hb : ∀ k, k < w.heap.size → k ≠ B → w'.heap[k]? = w.heap[k]?) : Row w' G v xs := by
  have hne := h.ne hB ht
  obtain ⟨⟨h1, h2⟩, hG⟩ := h
  refine ⟨⟨h1, ?_⟩, hG⟩
  rcases h2 with h2 | ⟨g, cap, cur, e, h3, h4, h5⟩
  · exact .inl h2
  · exact .inr ⟨g, cap, cur, e, h3, (hb g (Array.getElem?_eq_some_iff.1 h4).1 (fun e' => hne (by rw [e, ← e']; rfl))).trans h4, h5⟩
theorem Row.slice {w : World} {G : Nat → Prop} {v : Value} {xs : List Nat} (h : Row w G v xs) : ∃ a c, v = .slice a xs.length c := by
  rcases h.1.2 with ⟨e, h0⟩ | ⟨g, cap, cur, e, _⟩
  · exact ⟨none, 0, by rw [e, h0]⟩
  · exact ⟨_, cap, e⟩
theorem Row.no8 {w : World} {G : Nat → Prop} {v : Value} {xs : List Nat} (h : Row w G v xs) (z : Int) : v ≠ .int .u8 z := by
  obtain ⟨a, c, rfl⟩ := h.slice
  intro e; cases e
theorem Wts.no8 {w : World} {G : Nat → Prop} {v : Value} {ws : List Int} (h : Wts w G v ws) (z : Int) : v ≠ .int .u8 z := by
  rcases h with ⟨rfl, _⟩ | ⟨m, D, rfl, _⟩ <;> (intro e; cases e)
/-- The map stays while a block of cells is written. -/
theorem Wts.off {w w' : World} {G : Nat → Prop} {v : Value} {ws : List Int} (h : Wts w G v ws) {B : Nat} (hB : ∀ es c, w.heap[B]? ≠ some (.map es c))
    (hb : ∀ k, k < w.heap.size → k ≠ B → w'.heap[k]? = w.heap[k]?) : Wts w' G v ws := by
  rcases h with h | ⟨m, D, e, hG, ho, h1, h2⟩
  · exact .inl h
  · have hlt := ho.lt
    obtain ⟨es, clock, hb0, F, hs, hD⟩ := ho
    exact .inr ⟨m, D, e, hG, ⟨es, clock, (hb m hlt (fun e' => hB es clock (e' ▸ hb0))).trans hb0, F, hs, hD⟩, h1, h2⟩
/-- The map stays while the page's row grows. -/
theorem Wts.grown {w w' : World} {G : Nat → Prop} {v : Value} {ws : List Int} (h : Wts w G v ws) {G' : Nat → Prop} {u : Value} {xs : List Nat} (hr : Row w G' u xs) (hg : w.grownBy w' u.ownBlock) : Wts w' G v ws := by
  rcases h with h | ⟨m, D, e, hG, ho, h1, h2⟩
  · exact .inl h
  · have hlt := ho.lt
    obtain ⟨es, clock, hb0, F, hs, hD⟩ := ho
    exact .inr ⟨m, D, e, hG, ⟨es, clock, (hg.block m hlt (Ne.symm (hr.ne_map hb0))).trans hb0, F, hs, hD⟩, h1, h2⟩
theorem Wts.stay {w w' : World} {G : Nat → Prop} {v : Value} {ws : List Int} (h : Wts w G v ws) (hb : ∀ k, k < w.heap.size → ¬ G k → w'.heap[k]? = w.heap[k]?) : Wts w' G v ws := by
  rcases h with h | ⟨m, D, e, hG, ho, h1, h2⟩
  · exact .inl h
  · have hlt := ho.lt
    obtain ⟨es, clock, hb0, F, hs, hD⟩ := ho
    exact .inr ⟨m, D, e, hG, ⟨es, clock, (hb m hlt hG).trans hb0, F, hs, hD⟩, h1, h2⟩
end Go.Proofs.YtdpafdeoepbhaaaGreat

namespace Go.Proofs.YtdpafdeoepbhaaaGreat
open Go.RowKit Go.Maps
set_option linter.unusedSimpArgs false
set_option linter.unusedVariables false

theorem info_byte : (Tryz.prog.info? 5).map (fun i => (i.zero, i.size, i.bytes)) = some (some (.int .u8 0), 1, 1) := by kernel_rfl

/-- A page's pointer. -/
abbrev pg (B : Nat) : Value := .pointer (some ⟨B, 0, none⟩)

end Go.Proofs.YtdpafdeoepbhaaaGreat

namespace Go.Proofs.YtdpafdeoepbhaaaGreat
open Go.RowKit Go.Maps
set_option linter.unusedSimpArgs false
set_option linter.unusedVariables false

def be1 (n : Int) : List Nat := [(n % 256).toNat]
def be2 (n : Int) : List Nat := [(n / 256 % 256).toNat, (n % 256).toNat]
def be4 (n : Int) : List Nat := [(n / 16777216 % 256).toNat, (n / 65536 % 256).toNat, (n / 256 % 256).toNat, (n % 256).toNat]
theorem byt_be1 (n : Int) : Byt (be1 n) := by intro x hx; simp [be1] at hx; omega
theorem byt_be2 (n : Int) : Byt (be2 n) := by intro x hx; simp [be2] at hx; omega
theorem byt_be4 (n : Int) : Byt (be4 n) := by intro x hx; simp [be4] at hx; omega

def St.put8 (s : St) (n : Int) : St := if -128 ≤ n ∧ n ≤ 255 then s.app (be1 n) else s.fail
def St.put16 (s : St) (n : Int) : St := if -32768 ≤ n ∧ n ≤ 65535 then s.app (be2 n) else s.fail
def St.put32 (s : St) (n : Int) : St := if -2147483648 ≤ n ∧ n ≤ 4294967295 then s.app (be4 n) else s.fail

theorem St.fail_bad {s : St} (h : s.no = true) : s.fail = s := by
  obtain ⟨b, c, d⟩ := s
  simp at h
  simp [St.fail, h]

end Go.Proofs.YtdpafdeoepbhaaaGreat

namespace Go.Proofs.YtdpafdeoepbhaaaGreat
open Go.RowKit Go.Maps
set_option linter.unusedSimpArgs false
set_option linter.unusedVariables false

/-- The bytes of a text. -/
def sb (t : ByteArray) : List Nat := t.data.toList.map UInt8.toNat
theorem byt_sb (t : ByteArray) : Byt (sb t) := by
  intro x hx
  obtain ⟨y, _, rfl⟩ := List.mem_map.1 hx
  exact UInt8.toNat_lt y
theorem len_sb (t : ByteArray) : (sb t).length = t.size := by rw [sb, List.length_map, Array.length_toList]; rfl
/-- A byte of a tag. -/
def okb (xs : List Nat) : Bool := xs.all (fun x => decide (32 ≤ x) && decide (x ≤ 126))
/-- A good tag. -/
def gd (xs : List Nat) : Bool := xs.length == 4 && okb xs
theorem sb_drop (t : ByteArray) (k : Nat) (hk : k < t.size) : (sb t).drop k = t[k].toNat :: (sb t).drop (k + 1) := by
  have hl : k < (sb t).length := by rw [len_sb]; exact hk
  rw [List.drop_eq_getElem_cons hl]
  congr 1
  simp only [sb, List.getElem_map, Array.getElem_toList]
  rfl
theorem okb_drop (t : ByteArray) (k : Nat) (hk : k < t.size) : okb ((sb t).drop k) = ((decide (32 ≤ t[k].toNat) && decide (t[k].toNat ≤ 126)) && okb ((sb t).drop (k + 1))) := by
  rw [sb_drop t k hk]; rfl

set_option maxHeartbeats 400000 in
set_option maxRecDepth 100000 in
theorem good_any (t : ByteArray) (w : World) (ht : t.size ≤ maxLen) :
    Calls Tryz.prog 56 #[.string t] w fun e w' => e = .returned (.bool (gd (sb t))) ∧ w = w' := by
  unfold maxLen at ht
  by_cases h4 : t.size = 4
  · go_enter Tryz.func56, Tryz.ntmps56
    go_wp2
    go_loop [7] (fun i => ∃ k : Nat, k ≤ 4 ∧ i = .int .i64 k ∧ okb (sb t) = okb ((sb t).drop k)) (fun i => (4 - intOf i).toNat)
    case atStart => exact ⟨0, by omega, rfl, by rw [List.drop_zero]⟩
    case round =>
      obtain ⟨k, hk, rfl, hst⟩ := hrel
      have HS : Hid (okb (sb t) = okb ((sb t).drop k)) := hst
      clear hst
      by_cases hk4 : k = 4
      · subst hk4
        go_wp2
        go_ret
        refine ⟨rt_bool ?_, rfl⟩
        simp only [gd, HS.out, len_sb, h4]
        rw [List.drop_eq_nil_of_le (by rw [len_sb, h4]; exact Nat.le_refl _)]
        rfl
      · have HD : Hid (okb ((sb t).drop k) = _) := okb_drop t k (by omega)
        by_cases g1 : 32 ≤ t[k].toNat
        · by_cases g2 : t[k].toNat ≤ 126
          · have g1' : ¬ ((t[k].toNat : Int) < 32) := by omega
            have g2' : ¬ (126 < (t[k].toNat : Int)) := by omega
            go_wp2
            go_round
            case rel => exact ⟨k + 1, by omega, by simp, by rw [HS.out, HD.out]; simp [g1, g2]⟩
            case measure => simp [intOf]; omega
          · have g1' : ¬ ((t[k].toNat : Int) < 32) := by omega
            have g2' : (126 < (t[k].toNat : Int)) := by omega
            go_wp2
            go_ret
            exact ⟨rt_bool (by unfold gd; rw [HS.out, HD.out]; simp [g2]), rfl⟩
        · have g1' : ((t[k].toNat : Int) < 32) := by omega
          go_wp2
          go_ret
          exact ⟨rt_bool (by unfold gd; rw [HS.out, HD.out]; simp [g1]), rfl⟩
  · go_enter Tryz.func56, Tryz.ntmps56
    go_wp2
    go_ret
    exact ⟨rt_bool (by simp [gd, len_sb, h4]), rfl⟩

set_option maxHeartbeats 400000 in
set_option maxRecDepth 100000 in
theorem sgood_any (t : ByteArray) (w : World) (ht : t.size ≤ maxLen) :
    Calls Tryz.prog 78 #[.string t] w fun e w' => e = .returned (.bool (gd (sb t))) ∧ w = w' := by
  unfold maxLen at ht
  by_cases h4 : t.size = 4
  · go_enter Tryz.func78, Tryz.ntmps78
    go_wp2
    go_loop [3] (fun i => ∃ k : Nat, k ≤ 4 ∧ i = .int .i64 k ∧ okb (sb t) = okb ((sb t).drop k)) (fun i => (4 - intOf i).toNat)
    case atStart => exact ⟨0, by omega, rfl, by rw [List.drop_zero]⟩
    case round =>
      obtain ⟨k, hk, rfl, hst⟩ := hrel
      have HS : Hid (okb (sb t) = okb ((sb t).drop k)) := hst
      clear hst
      by_cases hk4 : k = 4
      · subst hk4
        go_wp2
        go_ret
        refine ⟨rt_bool ?_, rfl⟩
        simp only [gd, HS.out, len_sb, h4]
        rw [List.drop_eq_nil_of_le (by rw [len_sb, h4]; exact Nat.le_refl _)]
        rfl
      · have HD : Hid (okb ((sb t).drop k) = _) := okb_drop t k (by omega)
        by_cases g1 : 32 ≤ t[k].toNat
        · by_cases g2 : t[k].toNat ≤ 126
          · have g1' : ¬ ((t[k].toNat : Int) < 32) := by omega
            have g2' : ¬ (126 < (t[k].toNat : Int)) := by omega
            go_wp2
            go_round
            case rel => exact ⟨k + 1, by omega, by simp, by rw [HS.out, HD.out]; simp [g1, g2]⟩
            case measure => simp [intOf]; omega
          · have g1' : ¬ ((t[k].toNat : Int) < 32) := by omega
            have g2' : (126 < (t[k].toNat : Int)) := by omega
            go_wp2
            go_ret
            exact ⟨rt_bool (by unfold gd; rw [HS.out, HD.out]; simp [g2]), rfl⟩
        · have g1' : ((t[k].toNat : Int) < 32) := by omega
          go_wp2
          go_ret
          exact ⟨rt_bool (by unfold gd; rw [HS.out, HD.out]; simp [g1]), rfl⟩
  · go_enter Tryz.func78, Tryz.ntmps78
    go_wp2
    go_ret
    exact ⟨rt_bool (by simp [gd, len_sb, h4]), rfl⟩

/-- A page on which a tag is put. -/
def St.tag (s : St) (xs : List Nat) : St := if gd xs then s.app xs else s.fail

theorem rb_str (w : World) (t : ByteArray) (c : Nat) (f : Nat × Nat) (h1 : t.size ≤ c) (h2 : c ≤ maxLen) : Rb (w.drew.alloc (.cells (bytesRow t c) 5 f)) (some ⟨w.heap.size, 0, none⟩) c (sb t) := by
  refine ⟨byt_sb t, by rw [len_sb]; exact h1, h2, (by simp), .inr ⟨w.heap.size, 0, rfl, by simp, fun i hi => ?_⟩⟩
  rw [len_sb] at hi
  rw [cell_of_row _ w.heap.size (0 + i) _ 5 f (heap_alloc_new w.drew _)]
  have hi' : i < t.data.size := hi
  simp [bytesRow, sb, List.getD, Array.getElem?_append]
  rw [if_pos hi, Array.getElem?_eq_getElem hi']
  simp

theorem bd1 {w : World} (o : Obj) : Below w.heap.size w (w.drew.alloc o) := ((Below.refl w.heap.size w).drew).alloc (Nat.le_refl _) o

end Go.Proofs.YtdpafdeoepbhaaaGreat

namespace Go.Proofs.YtdpafdeoepbhaaaGreat
open Go.RowKit Go.Maps
set_option linter.unusedSimpArgs false
set_option linter.unusedVariables false

/-- Are the n bytes from place p on there? -/
def inB (l : Nat) (p n : Int) : Bool := decide (0 ≤ n ∧ 0 ≤ p ∧ p + n ≤ l)
/-- The number that bytes are, the most significant first. -/
def V8 (xs : List Nat) : Nat := xs.foldl (fun s x => 256 * s + x) 0
theorem V8_snoc (xs : List Nat) (x : Nat) : V8 (xs ++ [x]) = 256 * V8 xs + x := by simp [V8]
theorem V8_lt {xs : List Nat} (h : Byt xs) : V8 xs < 256 ^ xs.length := by
  obtain ⟨n, hn⟩ : ∃ n, xs.length = n := ⟨_, rfl⟩
  induction n generalizing xs with
  | zero => rw [List.length_eq_zero_iff.1 hn]; decide
  | succ n ih =>
    have hne : xs ≠ [] := by intro e; rw [e] at hn; cases hn
    rw [← List.dropLast_concat_getLast hne] at h hn ⊢
    have hl : xs.dropLast.length = n := by simpa using hn
    have h1 := ih (fun y hy => h y (by simp [hy])) hl
    have h2 := h (xs.getLast hne) (by simp)
    rw [V8_snoc, List.length_append, List.length_singleton, Nat.pow_succ]
    omega

theorem i64_or_nat (a b : Nat) (ha : a < 4611686018427387904) (hb : b < 4611686018427387904) : bits .or .i64 (a : Int) (b : Int) = ((a ||| b : Nat) : Int) := by
  have hx : a ||| b < 2 ^ 62 := Nat.or_lt_two_pow (by omega) (by omega)
  show IntKind.i64.wrap ((BitVec.ofInt 64 (a : Int) ||| BitVec.ofInt 64 (b : Int)).toNat : Int) = _
  rw [BitVec.toNat_or, ofInt_u64 a (by omega), ofInt_u64 b (by omega)]
  unfold IntKind.wrap
  simp [IntKind.bits, IntKind.signed]
  omega
/-- A number whose low 8 bits are 0, or'ed with a byte. -/
theorem or_byte (s x : Nat) (hs : s < 4294967296) (hx : x < 256) : bits BinOp.or IntKind.i64 ((s : Int) * 256) (x : Int) = 256 * (s : Int) + (x : Int) := by
  have h := i64_or_nat (s * 256) x (by omega) (by omega)
  have e : s * 256 ||| x = s * 256 + x := by
    have := Nat.shiftLeft_add_eq_or_of_lt (show x < 2 ^ 8 by omega) s
    rw [Nat.shiftLeft_eq] at this
    exact this.symm
  rw [e] at h
  have c1 : ((s * 256 : Nat) : Int) = (s : Int) * 256 := by simp
  rw [c1] at h
  rw [h, Int.natCast_add, c1, Int.mul_comm]
theorem rt_two {a b a' b' : Value} (h1 : a = a') (h2 : b = b') : Ending.returned (.tuple #[a, b]) = .returned (.tuple #[a', b']) := by rw [h1, h2]
theorem take_drop_succ (xs : List Nat) (q k : Nat) (h : q + k < xs.length) : (xs.drop q).take (k + 1) = (xs.drop q).take k ++ [xs.getD (q + k) 0] := by
  rw [List.take_succ_eq_append_getElem (by simp; omega)]
  simp [List.getD, h]
/-- The number of n bytes from place p on; 0, if they aren't there. -/
def nmV (xs : List Nat) (p : Int) (n : Nat) : Nat := if inB xs.length p n then V8 ((xs.drop p.toNat).take n) else 0

end Go.Proofs.YtdpafdeoepbhaaaGreat
