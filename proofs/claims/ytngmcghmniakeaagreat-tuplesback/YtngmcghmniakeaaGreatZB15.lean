/-
  octets: closed, fail, put, fits, four: the walks.
  octets: fits, four, Put8, Put16, Put32, PutBytes, Here: the walks.
  octets.Good, PutTag: the walks.
  octets.within, number, U8, U16, I16, U32, I32: the walks.
  octets.U8, U16, I16, U32, I32; foundryref04's: the walks.
-/
import Derived.Test.YtngmcghmniakeaaGreatZB14
import Derived.Laws.IdiomStrings
import Derived.Lib.BitFns
namespace Go.Proofs.YtngmcghmniakeaaGreat
open Go.RowKit Go.Maps
set_option linter.unusedSimpArgs false
set_option linter.unusedVariables false

theorem info_byte : (Tryz.prog.info? 5).map (fun i => (i.zero, i.size, i.bytes)) = some (some (.int .u8 0), 1, 1) := by kernel_rfl

/-- A page's pointer. -/
abbrev pg (B : Nat) : Value := .pointer (some ⟨B, 0, none⟩)

set_option maxHeartbeats 400000 in
set_option maxRecDepth 100000 in
theorem closed_any (B : Nat) (G : Nat → Prop) (s : St) (w : World) (h : Pc w B G s) (hl : s.bs.length ≤ 1048576) :
    Calls Tryz.prog 143 #[pg B] w fun e w' => e = .returned (.bool s.no) ∧ w = w' := by
  obtain ⟨h1, h2, h3, vb, vm, h4, h6, h5⟩ := h
  obtain ⟨c0, c1, c2, c3, f0, f1, f2, f3⟩ := h4.cells
  generalize s.no = n at *
  generalize s.bs.length = l at *
  clear h5 h6 h4 h3 h2 h1
  cases n
  · go_enter Tryz.func143, Tryz.ntmps143
    go_wp2
    go_ret
    exact ⟨rt_bool (by simp; try omega), rfl⟩
  · go_enter Tryz.func143, Tryz.ntmps143
    go_wp2
    go_ret
    exact ⟨rt_bool (by simp; try omega), rfl⟩

set_option maxHeartbeats 400000 in
set_option maxRecDepth 100000 in
theorem fail_any (B : Nat) (G : Nat → Prop) (s : St) (w : World) (h : Pc w B G s) :
    Calls Tryz.prog 91 #[pg B] w fun e w' => e = .returned (.tuple #[]) ∧ Pc w' B G s.fail ∧ Keep G w w' := by
  obtain ⟨h1, h2, h3, vb, vm, h4, h6, h5⟩ := h
  obtain ⟨c0, c1, c2, c3, f0, f1, f2, f3⟩ := h4.cells
  go_enter Tryz.func91, Tryz.ntmps91
  go_wp2
  go_end0
  refine ⟨rfl, ⟨fun k hk => by simpa [World.setCell] using h1 k hk, h2, h3.fail, _, _, ((h4.set3 _).set0 _).set2 _, fun _ => rfl, fun hn => by cases hn⟩, ?_⟩
  exact (((Keep.refl G w).setCell (p := ⟨B, 3, none⟩) h2 _).setCell (p := ⟨B, 0, none⟩) h2 _).setCell (p := ⟨B, 2, none⟩) h2 _

set_option maxHeartbeats 1000000 in
set_option maxRecDepth 100000 in
theorem put_any (B : Nat) (G : Nat → Prop) (s : St) (a : Option Addr) (cap : Nat) (xs : List Nat) (w : World) (h : Pc w B G s) (hr : Rb w a cap xs) (hl : s.bs.length + xs.length ≤ 1048576) :
    Calls Tryz.prog 92 #[pg B, .slice a xs.length cap] w fun e w' => e = .returned (.tuple #[]) ∧ Pc w' B G (s.app xs) ∧ Keep G w w' := by
  obtain ⟨i0, hi, hz0, hz1, hz2⟩ := info_parts info_byte
  have hP := h
  obtain ⟨h1, h2, h3, vb, vm, h4, h6, h5⟩ := h
  go_enter Tryz.func92, Tryz.ntmps92
  go_wp2_with fail
  refine (closed_any B G s _ hP (by omega)).mono ?_
  rintro e u ⟨rfl, rfl⟩
  by_cases hno : s.no = true
  · rw [hno]
    go_wp2
    (try simp only [Exit.inBlock, Exit.then]); refine bodyPost_ret (results_none rfl _ _ _) rfl ?_
    exact ⟨rfl, by rw [St.app_bad hno]; exact hP, Keep.refl _ _⟩
  · have hno : s.no = false := by simpa using hno
    rw [hno]
    obtain ⟨hR, hM⟩ := h5 hno
    obtain ⟨c0, c1, c2, c3, f0, f1, f2, f3⟩ := h4.cells
    obtain ⟨l, hll⟩ : ∃ l, s.bs.length = l := ⟨_, rfl⟩
    rw [hll] at c1 h4
    have HL : Hid (s.bs.length = l) := hll
    have hl' : l + xs.length ≤ 1048576 := by omega
    clear hll hl
    have hoff : ∀ (u : World) (v : Value) (o : Nat), ∀ k, k < u.heap.size → k ≠ B → (u.setCell ⟨B, o, none⟩ v).heap[k]? = u.heap[k]? := fun u v o k _ hk => Below.heap_setCell _ ⟨B, o, none⟩ v k hk
    have h41 := h4.set1 (.int .i64 ((l : Int) + xs.length))
    have hR1 := hR.off h4 (by decide) (hoff w (.int .i64 ((l : Int) + xs.length)) 1)
    have hM1 := hM.off h4.no_map (hoff w (.int .i64 ((l : Int) + xs.length)) 1)
    have hr1 := Rb.off h4 hR.no8 (by simp) hM.no8 (by simp) hr (by simp [World.setCell]) (hoff w (.int .i64 ((l : Int) + xs.length)) 1)
    have hK1 : Keep G w (w.setCell ⟨B, 1, none⟩ (.int .i64 ((l : Int) + xs.length))) := (Keep.refl G w).setCell (p := ⟨B, 1, none⟩) h2 _
    have hsz : (w.setCell ⟨B, 1, none⟩ (.int .i64 ((l : Int) + xs.length))).heap.size = w.heap.size := by simp [World.setCell]
    clear h4 hP hr hM h5 h6
    go_wp2_with (at_builtin; refine wpList_append_rb rfl _ _ 44 rfl 0 5 i0 Tryz.underlying44 hi hz0 hz1 hz2 _ s.bs.length s.bs rfl hR1.1 a cap _ xs rfl rfl hr1 (by rw [HL.out]; omega) (Nat.zero_le _) ?_)
    intro v' w1 hown hgrow hat
    obtain ⟨ts, hts⟩ : ∃ ts, s.bs ++ xs = ts := ⟨_, rfl⟩
    have htl : s.bs.length + xs.length = ts.length := by rw [← hts, List.length_append]
    rw [← List.map_append, hts, htl] at hown
    have HT : Hid (s.bs ++ xs = ts) := hts
    have HT2 : Hid (s.bs.length + xs.length = ts.length) := htl
    have hBt : Byt ts := hts ▸ h3.1.append hr1.lim
    clear hts htl
    have h42 := h41.grown hR1 hgrow
    obtain ⟨a2, cap2, rfl, _⟩ := Rw.of hBt hown
    obtain ⟨d0, d1, d2, d3, g0, g1, g2, g3⟩ := h42.cells
    go_wp2
    go_end0
    have hM2 := hM1.grown hR1 hgrow
    have hnG : ∀ g, (Value.slice a2 ts.length cap2).ownBlock = some g → ¬ G g := by
      intro g hg hGg
      rcases hat with hat | hat
      · exact hR.2 g (by rw [← hat]; exact hg) hGg
      · rw [hat] at hg
        have := h1 g hGg
        simp at hg
        omega
    have hR2 : Row w1 G (.slice a2 ts.length cap2) ts := ⟨hown, hnG⟩
    have hR3 := hR2.off h42 (by decide) (hoff w1 (.slice a2 ts.length cap2) 0)
    have hK2 := (hK1.grown hgrow (fun k hk => by rw [hsz]; exact h1 k hk) (fun k hk => hR.2 k hk)).setCell (p := ⟨B, 0, none⟩) h2 (.slice a2 ts.length cap2)
    refine ⟨rfl, ⟨fun k hk => ?_, h2, h3.app hr1.lim, .slice a2 ts.length cap2, vm, ?_, fun hn => absurd hn (by rw [St.app_no, hno]; decide), fun _ => ?_⟩, hK2⟩
    · exact Nat.lt_of_lt_of_le (h1 k hk) hK2.size
    · have h43 := h42.set0 (.slice a2 ts.length cap2)
      rw [St.app_ok hno]
      simp only [HT.out, ← HT2.out, HL.out]
      simpa [← HT2.out, HL.out] using h43
    · rw [St.app_ok hno, HT.out]
      exact ⟨hR3, hM2.off h42.no_map (hoff w1 (.slice a2 ts.length cap2) 0)⟩

end Go.Proofs.YtngmcghmniakeaaGreat

namespace Go.Proofs.YtngmcghmniakeaaGreat
open Go.RowKit Go.Maps
set_option linter.unusedSimpArgs false
set_option linter.unusedVariables false

def be1 (n : Int) : List Nat := [(n % 256).toNat]
def be2 (n : Int) : List Nat := [(n / 256 % 256).toNat, (n % 256).toNat]
def be4 (n : Int) : List Nat := [(n / 16777216 % 256).toNat, (n / 65536 % 256).toNat, (n / 256 % 256).toNat, (n % 256).toNat]
theorem byt_be1 (n : Int) : Byt (be1 n) := by intro x hx; simp [be1] at hx; omega
theorem byt_be2 (n : Int) : Byt (be2 n) := by intro x hx; simp [be2] at hx; omega
def St.put8 (s : St) (n : Int) : St := if -128 ≤ n ∧ n ≤ 255 then s.app (be1 n) else s.fail
def St.put16 (s : St) (n : Int) : St := if -32768 ≤ n ∧ n ≤ 65535 then s.app (be2 n) else s.fail
set_option maxHeartbeats 400000 in
set_option maxRecDepth 100000 in
theorem fits8_any (n : Int) (w : World) (hn : I64 n) :
    Calls Tryz.prog 90 #[.int .i64 n, .int .i64 8] w fun e w' => e = .returned (.bool (decide (-128 ≤ n ∧ n ≤ 255))) ∧ w = w' := by
  obtain ⟨n1, n2⟩ := hn
  by_cases h : -128 ≤ n
  · go_enter Tryz.func90, Tryz.ntmps90
    go_wp2
    go_ret
    refine ⟨rt_bool ?_, rfl⟩
    by_cases h2 : n ≤ 255
    · simp [h, h2]; try omega
    · simp [h, h2]; try omega
  · go_enter Tryz.func90, Tryz.ntmps90
    go_wp2
    go_ret
    exact ⟨rt_bool (by simp [h]; try omega), rfl⟩

set_option maxHeartbeats 400000 in
set_option maxRecDepth 100000 in
theorem fits16_any (n : Int) (w : World) (hn : I64 n) :
    Calls Tryz.prog 90 #[.int .i64 n, .int .i64 16] w fun e w' => e = .returned (.bool (decide (-32768 ≤ n ∧ n ≤ 65535))) ∧ w = w' := by
  obtain ⟨n1, n2⟩ := hn
  by_cases h : -32768 ≤ n
  · go_enter Tryz.func90, Tryz.ntmps90
    go_wp2
    go_ret
    refine ⟨rt_bool ?_, rfl⟩
    by_cases h2 : n ≤ 65535
    · simp [h, h2]; try omega
    · simp [h, h2]; try omega
  · go_enter Tryz.func90, Tryz.ntmps90
    go_wp2
    go_ret
    exact ⟨rt_bool (by simp [h]; try omega), rfl⟩

theorem Pc.al {w : World} {B : Nat} {G : Nat → Prop} {s : St} (h : Pc w B G s) (o : Obj) : Pc (w.alloc o) B G s := h.below (bl1 o)
theorem Pc.kal {w : World} {B : Nat} {G : Nat → Prop} {s : St} (h : Pc w B G s) (o : Obj) : Keep G w (w.alloc o) := Keep.of_below (bl1 o) h.1
theorem Pc.wf {w : World} {B : Nat} {G : Nat → Prop} {s : St} (h : Pc w B G s) : Wf s := h.2.2.1
set_option maxHeartbeats 400000 in
set_option maxRecDepth 100000 in
theorem put8_any (B : Nat) (G : Nat → Prop) (s : St) (n : Int) (w : World) (h : Pc w B G s) (hn : I64 n) (hl : s.bs.length + 4 ≤ 1048576) :
    Calls Tryz.prog 151 #[pg B, .int .i64 n] w fun e w' => e = .returned (.tuple #[]) ∧ Pc w' B G (s.put8 n) ∧ Keep G w w' := by
  have hn' := hn
  obtain ⟨n1, n2⟩ := hn'
  go_enter Tryz.func151, Tryz.ntmps151
  go_wp2_with fail
  refine (fits8_any n _ hn).mono ?_
  rintro e u ⟨rfl, rfl⟩
  by_cases hf : -128 ≤ n ∧ n ≤ 255
  · rw [decide_eq_true hf]
    have hs : Hid (s.put8 n = s.app (be1 n)) := if_pos hf
    go_wp2_with fail
    refine (put_any B G s (some ⟨w.heap.size, 0, none⟩) 1 (be1 n) _ (h.al _) (rb_new w 5 (be1 n) #[Value.int IntKind.u8 (n % 256)] (by simp [be1, Y]; omega) (byt_be1 n) (by simp [be1, maxLen])) (by simp [be1]; omega)).mono ?_
    rintro e u ⟨rfl, hP, hK⟩
    go_wp2
    go_end0
    exact ⟨rfl, hs.out ▸ hP, (h.kal _).trans hK⟩
  · rw [decide_eq_false hf]
    have hs : Hid (s.put8 n = s.fail) := if_neg hf
    go_wp2_with fail
    refine (fail_any B G s _ h).mono ?_
    rintro e u ⟨rfl, hP, hK⟩
    go_wp2
    (try simp only [Exit.inBlock, Exit.then]); refine bodyPost_ret (results_none rfl _ _ _) rfl ?_
    exact ⟨rfl, hs.out ▸ hP, hK⟩

set_option maxHeartbeats 400000 in
set_option maxRecDepth 100000 in
theorem put16_any (B : Nat) (G : Nat → Prop) (s : St) (n : Int) (w : World) (h : Pc w B G s) (hn : I64 n) (hl : s.bs.length + 4 ≤ 1048576) :
    Calls Tryz.prog 42 #[pg B, .int .i64 n] w fun e w' => e = .returned (.tuple #[]) ∧ Pc w' B G (s.put16 n) ∧ Keep G w w' := by
  have hn' := hn
  obtain ⟨n1, n2⟩ := hn'
  go_enter Tryz.func42, Tryz.ntmps42
  go_wp2_with fail
  refine (fits16_any n _ hn).mono ?_
  rintro e u ⟨rfl, rfl⟩
  by_cases hf : -32768 ≤ n ∧ n ≤ 65535
  · rw [decide_eq_true hf]
    have hs : Hid (s.put16 n = s.app (be2 n)) := if_pos hf
    go_wp2_with fail
    refine (put_any B G s (some ⟨w.heap.size, 0, none⟩) 2 (be2 n) _ (h.al _) (rb_new w 5 (be2 n) #[Value.int IntKind.u8 (n / 256 % 256), Value.int IntKind.u8 (n % 256)] (by simp [be2, Y]; omega) (byt_be2 n) (by simp [be2, maxLen])) (by simp [be2]; omega)).mono ?_
    rintro e u ⟨rfl, hP, hK⟩
    go_wp2
    go_end0
    exact ⟨rfl, hs.out ▸ hP, (h.kal _).trans hK⟩
  · rw [decide_eq_false hf]
    have hs : Hid (s.put16 n = s.fail) := if_neg hf
    go_wp2_with fail
    refine (fail_any B G s _ h).mono ?_
    rintro e u ⟨rfl, hP, hK⟩
    go_wp2
    (try simp only [Exit.inBlock, Exit.then]); refine bodyPost_ret (results_none rfl _ _ _) rfl ?_
    exact ⟨rfl, hs.out ▸ hP, hK⟩

set_option maxHeartbeats 400000 in
set_option maxRecDepth 100000 in
theorem putBytes_any (B : Nat) (G : Nat → Prop) (s : St) (a : Option Addr) (cap : Nat) (xs : List Nat) (w : World) (h : Pc w B G s) (hr : Rb w a cap xs) (hl : s.bs.length + xs.length ≤ 1048576) :
    Calls Tryz.prog 144 #[pg B, .slice a xs.length cap] w fun e w' => e = .returned (.tuple #[]) ∧ Pc w' B G (s.app xs) ∧ Keep G w w' := by
  go_enter Tryz.func144, Tryz.ntmps144
  go_wp2_with fail
  refine (put_any B G s a cap xs _ h hr hl).mono ?_
  rintro e u2 ⟨rfl, hP, hK⟩
  go_wp2
  go_end0
  exact ⟨rfl, hP, hK⟩

end Go.Proofs.YtngmcghmniakeaaGreat

namespace Go.Proofs.YtngmcghmniakeaaGreat
open Go.RowKit Go.Maps
set_option linter.unusedSimpArgs false
set_option linter.unusedVariables false

/-- The bytes of a text. -/
def sb (t : ByteArray) : List Nat := t.data.toList.map UInt8.toNat
/-- A byte of a tag. -/
def okb (xs : List Nat) : Bool := xs.all (fun x => decide (32 ≤ x) && decide (x ≤ 126))
/-- A good tag. -/
def gd (xs : List Nat) : Bool := xs.length == 4 && okb xs
/-- A page on which a tag is put. -/
def St.tag (s : St) (xs : List Nat) : St := if gd xs then s.app xs else s.fail

end Go.Proofs.YtngmcghmniakeaaGreat

namespace Go.Proofs.YtngmcghmniakeaaGreat
open Go.RowKit Go.Maps
set_option linter.unusedSimpArgs false
set_option linter.unusedVariables false

/-- Are the n bytes from place p on there? -/
def inB (l : Nat) (p n : Int) : Bool := decide (0 ≤ n ∧ 0 ≤ p ∧ p + n ≤ l)
/-- The number that bytes are, the most significant first. -/
def V8 (xs : List Nat) : Nat := xs.foldl (fun s x => 256 * s + x) 0
theorem V8_snoc (xs : List Nat) (x : Nat) : V8 (xs ++ [x]) = 256 * V8 xs + x := by simp [V8]
theorem V8_lt {xs : List Nat} (h : Byt xs) : V8 xs < 256 ^ xs.length := by
  obtain ⟨n, hn⟩ : ∃ n, xs.length = n := ⟨_, rfl⟩
  induction n generalizing xs with
  | zero => rw [List.length_eq_zero_iff.1 hn]; decide
  | succ n ih =>
    have hne : xs ≠ [] := by intro e; rw [e] at hn; cases hn
    rw [← List.dropLast_concat_getLast hne] at h hn ⊢
    have hl : xs.dropLast.length = n := by simpa using hn
    have h1 := ih (fun y hy => h y (by simp [hy])) hl
    have h2 := h (xs.getLast hne) (by simp)
    rw [V8_snoc, List.length_append, List.length_singleton, Nat.pow_succ]
    omega

theorem i64_or_nat (a b : Nat) (ha : a < 4611686018427387904) (hb : b < 4611686018427387904) : bits .or .i64 (a : Int) (b : Int) = ((a ||| b : Nat) : Int) := by
  have hx : a ||| b < 2 ^ 62 := Nat.or_lt_two_pow (by omega) (by omega)
  show IntKind.i64.wrap ((BitVec.ofInt 64 (a : Int) ||| BitVec.ofInt 64 (b : Int)).toNat : Int) = _
  rw [BitVec.toNat_or, ofInt_u64 a (by omega), ofInt_u64 b (by omega)]
  unfold IntKind.wrap
  simp [IntKind.bits, IntKind.signed]
  omega
/-- A number whose low 8 bits are 0, or'ed with a byte. -/
theorem or_byte (s x : Nat) (hs : s < 4294967296) (hx : x < 256) : bits BinOp.or IntKind.i64 ((s : Int) * 256) (x : Int) = 256 * (s : Int) + (x : Int) := by
  have h := i64_or_nat (s * 256) x (by omega) (by omega)
  have e : s * 256 ||| x = s * 256 + x := by
    have := Nat.shiftLeft_add_eq_or_of_lt (show x < 2 ^ 8 by omega) s
    rw [Nat.shiftLeft_eq] at this
    exact this.symm
  rw [e] at h
  have c1 : ((s * 256 : Nat) : Int) = (s : Int) * 256 := by simp
  rw [c1] at h
  rw [h, Int.natCast_add, c1, Int.mul_comm]
theorem rt_two {a b a' b' : Value} (h1 : a = a') (h2 : b = b') : Ending.returned (.tuple #[a, b]) = .returned (.tuple #[a', b']) := by rw [h1, h2]
theorem take_drop_succ (xs : List Nat) (q k : Nat) (h : q + k < xs.length) : (xs.drop q).take (k + 1) = (xs.drop q).take k ++ [xs.getD (q + k) 0] := by
  rw [List.take_succ_eq_append_getElem (by simp; omega)]
  simp [List.getD, h]
/-- The number of n bytes from place p on; 0, if they aren't there. -/
def nmV (xs : List Nat) (p : Int) (n : Nat) : Nat := if inB xs.length p n then V8 ((xs.drop p.toNat).take n) else 0

set_option maxHeartbeats 400000 in
set_option maxRecDepth 100000 in
theorem within_any (a : Option Addr) (l cap : Nat) (p n : Int) (w : World) (hl : l ≤ 9223372036854775807) (hp : I64 p) (hn : I64 n) :
    Calls Tryz.prog 156 #[.slice a l cap, .int .i64 p, .int .i64 n] w fun e w' => e = .returned (.bool (inB l p n)) ∧ w = w' := by
  obtain ⟨p1, p2⟩ := hp
  obtain ⟨n1, n2⟩ := hn
  by_cases h1 : 0 ≤ n
  · by_cases h2 : 0 ≤ p
    · go_enter Tryz.func156, Tryz.ntmps156
      go_wp2
      go_ret
      exact ⟨rt_bool (by simp [inB, h1, h2]; try omega), rfl⟩
    · go_enter Tryz.func156, Tryz.ntmps156
      go_wp2
      go_ret
      exact ⟨rt_bool (by simp [inB, h1, h2]; try omega), rfl⟩
  · go_enter Tryz.func156, Tryz.ntmps156
    go_wp2
    go_ret
    exact ⟨rt_bool (by simp [inB, h1]; try omega), rfl⟩

set_option maxHeartbeats 1000000 in
set_option maxRecDepth 100000 in
theorem number_any (a : Option Addr) (cap : Nat) (xs : List Nat) (p : Int) (n : Nat) (w : World) (h : Rb w a cap xs) (hp : I64 p) (hn : 1 ≤ n) (hn4 : n ≤ 4) :
    Calls Tryz.prog 101 #[.slice a xs.length cap, .int .i64 p, .int .i64 (n : Int)] w fun e w' => e = .returned (.tuple #[.int .i64 (nmV xs p n : Int), .bool (inB xs.length p n)]) ∧ w = w' := by
  have k1 := h.le
  have k2 := h.cap
  unfold maxLen at k2
  have hp' := hp
  obtain ⟨p1, p2⟩ := hp'
  by_cases hi : inB xs.length p n = true
  · have hi' := hi
    simp [inB] at hi'
    obtain ⟨q1, q2⟩ := hi'
    obtain ⟨q, rfl⟩ : ∃ q : Nat, p = (q : Int) := ⟨p.toNat, by omega⟩
    rcases h.fm with rfl | ⟨b, off, rfl, hb, hc⟩
    · simp at q2; omega
    have hV : Hid (nmV xs (q : Int) n = V8 ((xs.drop q).take n)) := by
      show nmV xs (q : Int) n = _
      simp [nmV, hi]
    have hb3 := h.lim
    clear h
    go_enter Tryz.func101, Tryz.ntmps101
    go_wp2_with fail
    refine (within_any _ _ _ _ _ _ (by omega) hp ⟨by omega, by omega⟩).mono ?_
    rintro e u ⟨rfl, rfl⟩
    rw [hi]
    have HI : Hid (inB xs.length (q : Int) n = true) := hi
    clear hi
    go_wp2
    go_loop [8, 23] (fun s i => ∃ k : Nat, k ≤ n ∧ i = .int .i64 k ∧ s = .int .i64 (V8 ((xs.drop q).take k) : Int)) (fun _ i => ((n : Int) - intOf i).toNat)
    case atStart => exact ⟨0, by omega, rfl, rfl⟩
    case round =>
      obtain ⟨k, hk, rfl, rfl⟩ := hrel
      by_cases hkn : k = n
      · subst hkn
        go_wp2
        go_ret2
        exact ⟨rt_two (by rw [hV.out]; rfl) (by rw [HI.out]; rfl), rfl⟩
      · have hcx := hc (q + k) (by omega)
        rw [← Nat.add_assoc] at hcx
        have hts := take_drop_succ xs q k (by omega)
        have hx := hb3.getD (q + k)
        generalize xs.getD (q + k) 0 = x at hcx hts hx
        have hv := V8_lt ((hb3.drop q).take k)
        have hvk : 256 ^ ((xs.drop q).take k).length ≤ 256 ^ 3 := Nat.pow_le_pow_right (by decide) (by simp; omega)
        have hts2 : V8 ((xs.drop q).take (k + 1)) = 256 * V8 ((xs.drop q).take k) + x := by rw [hts, V8_snoc]
        generalize V8 ((xs.drop q).take k) = v at hts2 hv ⊢
        have HT : Hid (V8 ((xs.drop q).take (k + 1)) = 256 * v + x) := hts2
        have hv3 : v < 16777216 := by omega
        clear hts hts2 hv hvk hc
        have hor := or_byte v x (by omega) hx
        go_wp2
        go_round
        case rel => exact ⟨k + 1, by omega, by simp, by rw [HT.out]; simp⟩
        case measure => simp [intOf]; omega
  · have hi : inB xs.length p n = false := by simpa using hi
    have hV : Hid (nmV xs p n = 0) := by
      show nmV xs p n = _
      simp [nmV, hi]
    go_enter Tryz.func101, Tryz.ntmps101
    go_wp2_with fail
    refine (within_any _ _ _ _ _ _ (by omega) hp ⟨by omega, by omega⟩).mono ?_
    rintro e u ⟨rfl, rfl⟩
    rw [hi]
    have HI : Hid (inB xs.length p n = false) := hi
    clear hi
    go_wp2
    go_ret2
    exact ⟨rt_two (by rw [hV.out]; rfl) (by rw [HI.out]; rfl), rfl⟩

end Go.Proofs.YtngmcghmniakeaaGreat

namespace Go.Proofs.YtngmcghmniakeaaGreat
open Go.RowKit Go.Maps
set_option linter.unusedSimpArgs false
set_option linter.unusedVariables false

/-- Two's complement. -/
def sx16 (v : Nat) : Int := if 32768 ≤ v then (v : Int) - 65536 else v
theorem w16 {v : Nat} (h : 32768 ≤ v) (h2 : v < 65536) : wrap64 (IntKind.i16.wrap (v : Int)) = (v : Int) - 65536 := by
  have e : IntKind.i16.wrap (v : Int) = (v : Int) - 65536 := by
    unfold IntKind.wrap
    simp [IntKind.bits, IntKind.signed]
    omega
  rw [e]
  unfold wrap64
  omega
theorem nmV_lt {xs : List Nat} (h : Byt xs) (p : Int) (n : Nat) : nmV xs p n < 256 ^ n := by
  unfold nmV
  split
  · have h1 := V8_lt ((h.drop p.toNat).take n)
    have h2 : 256 ^ ((xs.drop p.toNat).take n).length ≤ 256 ^ n := Nat.pow_le_pow_right (by decide) (by simp; omega)
    omega
  · exact Nat.pow_pos (by decide)

theorem u8_any (a : Option Addr) (cap : Nat) (xs : List Nat) (p : Int) (w : World) (h : Rb w a cap xs) (hp : I64 p) :
    Calls Tryz.prog 183 #[.slice a xs.length cap, .int .i64 p] w fun e w' => e = .returned (.tuple #[.int .i64 (nmV xs p 1 : Int), .bool (inB xs.length p 1)]) ∧ w = w' := by
  go_enter Tryz.func183, Tryz.ntmps183
  go_wp2_with fail
  refine (number_any a cap xs p 1 _ h hp (by decide) (by decide)).mono ?_
  rintro e u ⟨rfl, rfl⟩
  go_wp2
  go_ret2
  exact ⟨rfl, rfl⟩

theorem u16_any (a : Option Addr) (cap : Nat) (xs : List Nat) (p : Int) (w : World) (h : Rb w a cap xs) (hp : I64 p) :
    Calls Tryz.prog 48 #[.slice a xs.length cap, .int .i64 p] w fun e w' => e = .returned (.tuple #[.int .i64 (nmV xs p 2 : Int), .bool (inB xs.length p 2)]) ∧ w = w' := by
  go_enter Tryz.func48, Tryz.ntmps48
  go_wp2_with fail
  refine (number_any a cap xs p 2 _ h hp (by decide) (by decide)).mono ?_
  rintro e u ⟨rfl, rfl⟩
  go_wp2
  go_ret2
  exact ⟨rfl, rfl⟩

set_option maxHeartbeats 400000 in
set_option maxRecDepth 100000 in
theorem i16_any (a : Option Addr) (cap : Nat) (xs : List Nat) (p : Int) (w : World) (h : Rb w a cap xs) (hp : I64 p) :
    Calls Tryz.prog 157 #[.slice a xs.length cap, .int .i64 p] w fun e w' => e = .returned (.tuple #[.int .i64 (sx16 (nmV xs p 2)), .bool (inB xs.length p 2)]) ∧ w = w' := by
  have hlt := nmV_lt h.lim p 2
  obtain ⟨v, hv⟩ : ∃ v, nmV xs p 2 = v := ⟨_, rfl⟩
  have HV : Hid (nmV xs p 2 = v) := hv
  have hlt' : v < 65536 := by rw [hv] at hlt; simpa using hlt
  clear hlt
  go_enter Tryz.func157, Tryz.ntmps157
  go_wp2_with fail
  refine (number_any a cap xs p 2 _ h hp (by decide) (by decide)).mono ?_
  rintro e u ⟨rfl, rfl⟩
  rw [hv]
  clear hv
  by_cases hbig : 32768 ≤ v
  · have hs : Hid (sx16 (nmV xs p 2) = (v : Int) - 65536) := by show sx16 _ = _; rw [HV.out]; simp [sx16, hbig]
    have HB : Hid (32768 ≤ v) := hbig
    have hb' : (32768 : Int) ≤ (v : Int) := by omega
    clear hbig
    go_wp2
    go_ret2
    exact ⟨rt_two (by rw [hs.out]; first | rfl | exact congrArg _ (w16 HB.out hlt')) rfl, rfl⟩
  · have hs : Hid (sx16 (nmV xs p 2) = (v : Int)) := by show sx16 _ = _; rw [HV.out]; simp [sx16, hbig]
    have hb' : ¬ (32768 : Int) ≤ (v : Int) := by omega
    clear hbig hlt'
    go_wp2
    go_ret2
    exact ⟨rt_two (by rw [hs.out]; rfl) rfl, rfl⟩

end Go.Proofs.YtngmcghmniakeaaGreat
