/-
  octets.U8, U16, I16, U32, I32; foundryref04's: the walks.
  bytes.Clone; octets.Cut, Tag: the walks.
  octets.Tag; foundryref04.Cut, Tag, Same: the walks.
  octets.Page: All, Pad, Later: the walks.
  octets.Page: Pad, Later: the walks.
  Files of tables, as the document has them: filled bytes, check sums (plain mathematics).
  Files of tables, as the document has them: tables, their order, the file (plain mathematics).
  Files of tables: what is read of a file (plain mathematics).
-/
import Derived.Test.YtngmcghmniakeaaGreatZY10
import Derived.Lib.SliceRun
import Derived.BigQuiet
import Derived.Deep.QuietTactic
import Derived.WalkSmall
import Derived.Outline
import Derived.Laws.BytesArg
set_option maxHeartbeats 1000000
set_option maxRecDepth 100000
set_option linter.unusedSimpArgs false
set_option linter.unusedVariables false
namespace Go.Proofs.YtngmcghmniakeaaGreat
open Go.RowKit Go.Maps
def sx16 (v : Nat) : Int := if 32768 ≤ v then (v : Int) - 65536 else v
theorem w16 {v : Nat} (h : 32768 ≤ v) (h2 : v < 65536) : wrap64 (IntKind.i16.wrap (v : Int)) = (v : Int) - 65536 := by
 have e : IntKind.i16.wrap (v : Int) = (v : Int) - 65536 := by
  unfold IntKind.wrap
  simp [IntKind.bits, IntKind.signed]
  omega
 rw [e]
 unfold wrap64
 omega
theorem nmV_lt {xs : List Nat} (h : Byt xs) (p : Int) (n : Nat) : nmV xs p n < 256 ^ n := by
 unfold nmV
 split
 · have h1 := V8_lt ((h.drop p.toNat).take n)
   have h2 : 256 ^ ((xs.drop p.toNat).take n).length ≤ 256 ^ n := Nat.pow_le_pow_right (by decide) (by simp; omega)
   omega
 · exact Nat.pow_pos (by decide)
theorem snumber_any (a : Option Addr) (cap : Nat) (xs : List Nat) (p : Int) (n : Nat) (w : World) (h : Rb w a cap xs) (hp : I64 p) (hn : 1 ≤ n) (hn4 : n ≤ 4) :
    Calls Tryz.prog 105 #[.slice a xs.length cap, .int .i64 p, .int .i64 (n : Int)] w fun e w' => e = .returned (.tuple #[.int .i64 (nmV xs p n : Int), .bool (inB xs.length p n)]) ∧ w = w' := by
 have k1 := h.le
 have k2 := h.cap
 unfold maxLen at k2
 obtain ⟨p1, p2⟩ := hp
 by_cases hi : inB xs.length p n = true
 · have hi' := hi
   simp [inB] at hi'
   obtain ⟨q1, q2⟩ := hi'
   obtain ⟨q, rfl⟩ : ∃ q : Nat, p = (q : Int) := ⟨p.toNat, by omega⟩
   rcases h.fm with rfl | ⟨b, off, rfl, hb, hc⟩
   · simp at q2; omega
   have hV : Hid (nmV xs (q : Int) n = V8 ((xs.drop q).take n)) := by
    show nmV xs (q : Int) n = _
    simp [nmV, hi]
   have hb3 := h.lim
   clear h
   have HI : Hid (inB xs.length (q : Int) n = true) := hi
   clear hi
   have g1 : ¬ ((xs.length : Int) < (n : Int)) := by omega
   have g2 : ¬ ((xs.length : Int) - (n : Int) < (q : Int)) := by omega
   go_enter Tryz.func105, Tryz.ntmps105
   go_wp2
   go_loop [8, 9] (fun s i => ∃ k : Nat, k ≤ n ∧ i = .int .i64 k ∧ s = .int .i64 (V8 ((xs.drop q).take k) : Int)) (fun _ i => ((n : Int) - intOf i).toNat)
   case atStart => exact ⟨0, by omega, rfl, rfl⟩
   case round =>
    obtain ⟨k, hk, rfl, rfl⟩ := hrel
    by_cases hkn : k = n
    · subst hkn
      go_wp2
      go_ret2
      exact ⟨rt_two (by rw [hV.out]; rfl) (by rw [HI.out]; rfl), rfl⟩
    · have hcx := hc (q + k) (by omega)
      have hts := take_drop_succ xs q k (by omega)
      have hx := hb3.getD (q + k)
      generalize xs.getD (q + k) 0 = x at hcx hts hx
      have hv := V8_lt ((hb3.drop q).take k)
      have hvk : 256 ^ ((xs.drop q).take k).length ≤ 256 ^ 3 := Nat.pow_le_pow_right (by decide) (by simp; omega)
      have hts2 : V8 ((xs.drop q).take (k + 1)) = 256 * V8 ((xs.drop q).take k) + x := by rw [hts, V8_snoc]
      generalize V8 ((xs.drop q).take k) = v at hts2 hv ⊢
      have HT : Hid (V8 ((xs.drop q).take (k + 1)) = 256 * v + x) := hts2
      have hv3 : v < 16777216 := by omega
      clear hts hts2 hv hvk hc; go_wp2
      go_round
      case rel => exact ⟨k + 1, by omega, by simp, by rw [HT.out]; simp⟩
      case measure => simp [intOf]; omega
 · have hi : inB xs.length p n = false := by simpa using hi
   have hV : Hid (nmV xs p n = 0) := by
    show nmV xs p n = _
    simp [nmV, hi]
   have HI : Hid (inB xs.length p n = false) := hi
   have hor : p < 0 ∨ (0 ≤ p ∧ ((xs.length : Int) < (n : Int) ∨ (¬ (xs.length : Int) < (n : Int) ∧ (xs.length : Int) - (n : Int) < p))) := by
    simp [inB] at hi
    omega
   clear hi
   rcases hor with g1 | ⟨g0, g1 | ⟨g1, g2⟩⟩
   all_goals
    go_enter Tryz.func105, Tryz.ntmps105
    go_wp2
    go_ret2
    exact ⟨rt_two (by rw [hV.out]; rfl) (by first | (rw [HI.out]; rfl) | rfl), rfl⟩
theorem u8_any (a : Option Addr) (cap : Nat) (xs : List Nat) (p : Int) (w : World) (h : Rb w a cap xs) (hp : I64 p) :
    Calls Tryz.prog 183 #[.slice a xs.length cap, .int .i64 p] w fun e w' => e = .returned (.tuple #[.int .i64 (nmV xs p 1 : Int), .bool (inB xs.length p 1)]) ∧ w = w' := by
 go_enter Tryz.func183, Tryz.ntmps183
 go_wp2_with fail
 refine (number_any a cap xs p 1 _ h hp (by decide) (by decide)).mono ?_
 rintro e u ⟨rfl, rfl⟩; go_wp2
 go_ret2
 exact ⟨rfl, rfl⟩
theorem u16_any (a : Option Addr) (cap : Nat) (xs : List Nat) (p : Int) (w : World) (h : Rb w a cap xs) (hp : I64 p) :
    Calls Tryz.prog 48 #[.slice a xs.length cap, .int .i64 p] w fun e w' => e = .returned (.tuple #[.int .i64 (nmV xs p 2 : Int), .bool (inB xs.length p 2)]) ∧ w = w' := by
 go_enter Tryz.func48, Tryz.ntmps48
 go_wp2_with fail
 refine (number_any a cap xs p 2 _ h hp (by decide) (by decide)).mono ?_
 rintro e u ⟨rfl, rfl⟩; go_wp2
 go_ret2
 exact ⟨rfl, rfl⟩
theorem i16_any (a : Option Addr) (cap : Nat) (xs : List Nat) (p : Int) (w : World) (h : Rb w a cap xs) (hp : I64 p) :
    Calls Tryz.prog 157 #[.slice a xs.length cap, .int .i64 p] w fun e w' => e = .returned (.tuple #[.int .i64 (sx16 (nmV xs p 2)), .bool (inB xs.length p 2)]) ∧ w = w' := by
 have hlt := nmV_lt h.lim p 2
 obtain ⟨v, hv⟩ : ∃ v, nmV xs p 2 = v := ⟨_, rfl⟩
 have HV : Hid (nmV xs p 2 = v) := hv
 have hlt' : v < 65536 := by rw [hv] at hlt; simpa using hlt
 clear hlt
 go_enter Tryz.func157, Tryz.ntmps157
 go_wp2_with fail
 refine (number_any a cap xs p 2 _ h hp (by decide) (by decide)).mono ?_
 rintro e u ⟨rfl, rfl⟩; rw [hv]; clear hv
 by_cases hbig : 32768 ≤ v
 · have hs : Hid (sx16 (nmV xs p 2) = (v : Int) - 65536) := by show sx16 _ = _; rw [HV.out]; simp [sx16, hbig]
   have HB : Hid (32768 ≤ v) := hbig
   have hb' : (32768 : Int) ≤ (v : Int) := by omega
   clear hbig; go_wp2
   go_ret2
   exact ⟨rt_two (by rw [hs.out]; first | rfl | exact congrArg _ (w16 HB.out hlt')) rfl, rfl⟩
 · have hs : Hid (sx16 (nmV xs p 2) = (v : Int)) := by show sx16 _ = _; rw [HV.out]; simp [sx16, hbig]
   have hb' : ¬ (32768 : Int) ≤ (v : Int) := by omega
   clear hbig hlt'; go_wp2
   go_ret2
   exact ⟨rt_two (by rw [hs.out]; rfl) rfl, rfl⟩
theorem su8_any (a : Option Addr) (cap : Nat) (xs : List Nat) (p : Int) (w : World) (h : Rb w a cap xs) (hp : I64 p) :
    Calls Tryz.prog 163 #[.slice a xs.length cap, .int .i64 p] w fun e w' => e = .returned (.tuple #[.int .i64 (nmV xs p 1 : Int), .bool (inB xs.length p 1)]) ∧ w = w' := by
 go_enter Tryz.func163, Tryz.ntmps163
 go_wp2_with fail
 refine (snumber_any a cap xs p 1 _ h hp (by decide) (by decide)).mono ?_
 rintro e u ⟨rfl, rfl⟩; go_wp2
 go_ret2
 exact ⟨rfl, rfl⟩
theorem su16_any (a : Option Addr) (cap : Nat) (xs : List Nat) (p : Int) (w : World) (h : Rb w a cap xs) (hp : I64 p) :
    Calls Tryz.prog 52 #[.slice a xs.length cap, .int .i64 p] w fun e w' => e = .returned (.tuple #[.int .i64 (nmV xs p 2 : Int), .bool (inB xs.length p 2)]) ∧ w = w' := by
 go_enter Tryz.func52, Tryz.ntmps52
 go_wp2_with fail
 refine (snumber_any a cap xs p 2 _ h hp (by decide) (by decide)).mono ?_
 rintro e u ⟨rfl, rfl⟩; go_wp2
 go_ret2
 exact ⟨rfl, rfl⟩
theorem si16_any (a : Option Addr) (cap : Nat) (xs : List Nat) (p : Int) (w : World) (h : Rb w a cap xs) (hp : I64 p) :
    Calls Tryz.prog 106 #[.slice a xs.length cap, .int .i64 p] w fun e w' => e = .returned (.tuple #[.int .i64 (sx16 (nmV xs p 2)), .bool (inB xs.length p 2)]) ∧ w = w' := by
 have hlt := nmV_lt h.lim p 2
 obtain ⟨v, hv⟩ : ∃ v, nmV xs p 2 = v := ⟨_, rfl⟩
 have HV : Hid (nmV xs p 2 = v) := hv
 have hlt' : v < 65536 := by rw [hv] at hlt; simpa using hlt
 clear hlt
 go_enter Tryz.func106, Tryz.ntmps106
 go_wp2_with fail
 refine (snumber_any a cap xs p 2 _ h hp (by decide) (by decide)).mono ?_
 rintro e u ⟨rfl, rfl⟩; rw [hv]; clear hv
 obtain ⟨z, hz⟩ : ∃ z : Int, (v : Int) = z := ⟨_, rfl⟩
 rw [hz]
 have HZ : Hid ((v : Int) = z) := hz
 have z1 : 0 ≤ z := by omega
 have z2 : z < 65536 := by omega
 have HL : Hid (v < 65536) := hlt'
 clear hz hlt'; go_wp2
 all_goals
  go_ret2
  refine ⟨rt_two ?_ rfl, rfl⟩
  rw [HV.out]
  have hz := HZ.out
  have hl := HL.out
  first
   | (have e : sx16 v = z - 65536 := (by unfold sx16; split <;> omega)
      rw [e]
      rfl)
   | (have e : sx16 v = z := (by unfold sx16; split <;> omega)
      rw [e]
      rfl)
theorem Rw.nil (base : Nat) (w : World) : Rw 5 base w none 0 [] := ⟨Byt.nil, World.ownsRow_nil w base _ 1⟩
theorem clone_any (a : Option Addr) (cap : Nat) (xs : List Nat) (w : World) (h : Rb w a cap xs) (hl : xs.length ≤ 1000000000) :
    Calls Tryz.prog 96 #[.slice a xs.length cap] w fun e w' => ∃ a' cap', e = .returned (.slice a' xs.length cap') ∧ Rw 5 w.heap.size w' a' cap' xs ∧ Below w.heap.size w w' := by
 obtain ⟨i0, hi, hz0, hz1, hz2⟩ := info_parts info_byte
 have q22 : ∀ (w : World) (a : Option Addr) (n c n' c' : Nat), (binOp .eql 44 (.slice a n c) (.slice none n' c')).run Tryz.prog w = .ok (.bool a.isNone) w := fun w a n c n' c' => Lib.run_eql_slice_nil w _ _ a n c n' c' Tryz.underlying44
 cases a with
 | none =>
  have hc : cap = 0 := h.2.2.2.1 rfl
  have hx : xs = [] := by
   rcases h.fm with h0 | ⟨b, off, e, _⟩
   · exact h0
   · cases e
  subst hc; subst hx
  go_enter Tryz.func96, Tryz.ntmps96
  go_wp2
  go_ret
  exact ⟨none, 0, rfl, Rw.nil _ _, Below.refl _ _⟩
 | some ad =>
  go_enter Tryz.func96, Tryz.ntmps96
  go_wp2_with (at_builtin; refine wpList_append_rb rfl _ _ 44 rfl w.heap.size 5 i0 Tryz.underlying44 hi hz0 hz1 hz2 _ 0 [] rfl ?_ (some ad) cap _ xs rfl rfl ?_ ?_ ?_ ?_)
  · exact World.ownsRow_made w #[] 0 (Nat.le_refl _) (Nat.zero_le _) rfl
  · exact h.below (bl1 _)
  · omega
  · simp
  · intro v' w1 hown hgrow hat
    obtain ⟨a', cap', rfl, hres⟩ := Rw.of h.lim hown
    go_wp2
    go_ret
    exact ⟨a', cap', rfl, hres, (bl1 _).grown hgrow (by simp) (fun k hk => by simp [Value.ownBlock] at hk; omega)⟩
theorem Rb.cut {w : World} {a : Option Addr} {cap : Nat} {xs : List Nat} (h : Rb w a cap xs) (q n : Nat) (hq : q + n ≤ xs.length) : Rb w (a.map (fun x => x.add q)) (cap - q) ((xs.drop q).take n) := by
 obtain ⟨h1, h2, h3, h5, h4⟩ := h
 refine ⟨(h1.drop q).take n, by simp; omega, by omega, (by simp; intro h; have := h5 h; omega), ?_⟩
 rcases h4 with rfl | ⟨b, off, rfl, hb1, hc⟩
 · exact .inl (by simp)
 · have hadd : (⟨b, off, none⟩ : Addr).add q = ⟨b, off + q, none⟩ := by unfold Addr.add; split <;> simp_all
   refine .inr ⟨b, off + q, by simp [hadd], hb1, fun i hi => ?_⟩
   simp at hi
   rw [Nat.add_assoc, hc (q + i) (by omega)]
   simp [List.getD, show i < n by omega]
def str8 (xs : List Nat) : ByteArray := strOfNums (xs.map (fun x : Nat => (x : Int)))
theorem sb_str8 {xs : List Nat} (h : Byt xs) : sb (str8 xs) = xs := by
 rw [sb, str8, strOfNums_data]
 simp only [List.map_map]
 have : ∀ x ∈ xs, (UInt8.toNat ∘ (fun n : Int => UInt8.ofNat n.toNat) ∘ fun x : Nat => (x : Int)) x = x := by
  intro x hx
  have := h x hx
  simp
  omega
 rw [List.map_congr_left this, List.map_id']
theorem Rb.str {w : World} {a : Option Addr} {cap : Nat} {xs : List Nat} (h : Rb w a cap xs) (hx : xs ≠ []) :
    (convert 44 9 (.slice a xs.length cap)).run Tryz.prog w = .ok (.string (str8 xs)) w := by
 rcases h.fm with h0 | ⟨b, off, rfl, hb, hc⟩
 · exact absurd h0 hx
 · exact run_convert_bytes_arg (P := Tryz.prog) w 44 5 Tryz.underlying44 Tryz.underlying5 b off xs.length cap (xs.map (fun x : Nat => (x : Int))) (by simp) (fun i hi => by
     rw [hc i hi]; simp [List.getD, hi]) 9 Tryz.underlying9
def allE (s : St) : Int := if s.no then 4 else if s.ws = [] then 0 else 1
def allB (s : St) : List Nat := if s.no then [] else if s.ws = [] then s.bs else []
theorem Row.rb {w : World} {G : Nat → Prop} {a : Option Addr} {c : Nat} {xs : List Nat} (h : Row w G (.slice a xs.length c) xs) (hB : Byt xs) : Rb w a c xs := Rw.rd (e := 5) (base := 0) ⟨hB, h.1⟩
theorem all_any (B : Nat) (G : Nat → Prop) (s : St) (w : World) (h : Pc w B G s) (hl : s.bs.length ≤ 1048576) :
    Calls Tryz.prog 44 #[pg B] w fun e w' => ∃ a' cap', e = .returned (.tuple #[.slice a' (allB s).length cap', .int .i64 (allE s)]) ∧ Rw 5 w.heap.size w' a' cap' (allB s) ∧ Below w.heap.size w w' := by
 obtain ⟨h1, h2, h3, vb, vm, h4, h6, h5⟩ := h; obtain ⟨c0, c1, c2, c3, f0, f1, f2, f3⟩ := h4.cells
 by_cases hno : s.no = true
 · have HE : Hid (allE s = 4) := by show allE s = 4; simp [allE, hno]
   have HB : Hid (allB s = []) := by show allB s = []; simp [allB, hno]
   rw [hno] at c3; clear h1 h2 h3 h4 h5 h6 hno
   go_enter Tryz.func44, Tryz.ntmps44
   go_wp2
   go_ret2
   refine ⟨none, 0, rt_two (by rw [HB.out]; rfl) (by rw [HE.out]; rfl), ?_, Below.refl _ _⟩
   rw [HB.out]
   exact Rw.nil _ _
 · have hno : s.no = false := by simpa using hno
   obtain ⟨hR, hM⟩ := h5 hno
   rw [hno] at c3
   by_cases hws : s.ws = []
   · have HE : Hid (allE s = 0) := by show allE s = 0; simp [allE, hno, hws]
     have HB : Hid (allB s = s.bs) := by show allB s = s.bs; simp [allB, hno, hws]
     obtain ⟨a, c, rfl⟩ := hR.slice
     have hrb := hR.rb h3.1
     have fin : ∀ (W : World), W = w → Calls Tryz.prog 96 #[.slice a s.bs.length c] W fun e w' => ∃ a' cap', e = .returned (.slice a' s.bs.length cap') ∧ Rw 5 w.heap.size w' a' cap' s.bs ∧ Below w.heap.size w w' := by
      rintro W rfl
      exact clone_any a c s.bs _ hrb (by omega)
     obtain ⟨l, hll⟩ : ∃ l, s.bs.length = l := ⟨_, rfl⟩
     rw [hll] at c0 c1 hl fin
     have HL : Hid (s.bs.length = l) := hll
     clear hll
     rcases hM with ⟨rfl, _⟩ | ⟨m, D, rfl, hmG, hown, hhas, hsize⟩
     · clear h1 h2 h3 h4 h5 h6 hno hws hR hrb
       have hlen := fun (w : World) ty => Maps.len_nil (w := w) Tryz.underlying94 ty
       go_enter Tryz.func44, Tryz.ntmps44
       go_wp2_with fail
       refine (fin _ rfl).mono ?_
       rintro e u ⟨a', cap', rfl, hR, hb⟩; go_wp2
       go_ret2
       refine ⟨a', cap', rt_two (by rw [HB.out, HL.out]; rfl) (by rw [HE.out]; rfl), ?_, hb⟩
       rw [HB.out]
       exact hR
     · rw [hws] at hsize
       have hs0 : Maps.size D = 0 := by simpa using hsize
       have hown' := hown
       clear h1 h2 h3 h4 h5 h6 hno hR hrb hhas hsize
       go_enter Tryz.func44, Tryz.ntmps44
       go_wp2_with (first | (at_len; refine wpList_len_own _ rfl _ 94 rfl 3 249 Tryz.underlying94 _ m _ D rfl hown ?_; rw [hs0]) | fail)
       refine (fin _ rfl).mono ?_
       rintro e u ⟨a', cap', rfl, hR, hb⟩; go_wp2
       go_ret2
       refine ⟨a', cap', rt_two (by rw [HB.out, HL.out]; rfl) (by rw [HE.out]; rfl), ?_, hb⟩
       rw [HB.out]
       exact hR
   · have HE : Hid (allE s = 1) := by show allE s = 1; simp [allE, hno, hws]
     have HB : Hid (allB s = []) := by show allB s = []; simp [allB, hno, hws]
     rcases hM with ⟨rfl, h0⟩ | ⟨m, D, rfl, hmG, hown, hhas, hsize⟩
     · exact absurd h0 hws
     · obtain ⟨z, hz⟩ : ∃ z, Maps.size D = z := ⟨_, rfl⟩
       have hz1 : 0 < (z : Int) := by
        have := List.length_pos_iff.2 hws
        omega
       clear h1 h2 h3 h4 h5 h6 hno hR hhas hsize hws
       go_enter Tryz.func44, Tryz.ntmps44
       go_wp2_with (first | (at_len; refine wpList_len_own _ rfl _ 94 rfl 3 249 Tryz.underlying94 _ m _ D rfl hown ?_; rw [hz]) | go_in)
       go_ret2
       refine ⟨none, 0, rt_two (by rw [HB.out]; rfl) (by rw [HE.out]; rfl), ?_, Below.refl _ _⟩
       rw [HB.out]
       exact Rw.nil _ _
def padN (l n : Nat) : Nat := (n - l % n) % n
def fil (bs : List Nat) : List Nat := bs ++ List.replicate (padN bs.length 4) 0
def sum4 : List Nat → Nat
 | a :: b :: c :: d :: r => V8 [a, b, c, d] + sum4 r
 | _ => 0
def sm (bs : List Nat) : Nat := sum4 (fil bs) % 4294967296
theorem toList_inj {a b : ByteArray} (h : a.toList = b.toList) : a = b := by
 rw [ByteArray.toList_eq, ByteArray.toList_eq] at h
 cases a; cases b
 simp only at h
 rw [Array.toList_inj.1 h]
def pw (n : Nat) : Nat := if n < 2 then 1 else if n < 4 then 2 else if n < 8 then 4 else if n < 16 then 8 else if n < 32 then 16 else 32
def lg (n : Nat) : Nat := if n < 2 then 0 else if n < 4 then 1 else if n < 8 then 2 else if n < 16 then 3 else if n < 32 then 4 else 5
def hdr (n : Nat) : List Nat := be4 65536 ++ (be2 n ++ (be2 ((16 * pw n : Nat) : Int) ++ (be2 ((lg n : Nat) : Int) ++ be2 ((16 * n - 16 * pw n : Nat) : Int))))
theorem part_at {b A X Z : List Nat} {q n : Nat} (hb : b = A ++ (X ++ Z)) (hq : A.length = q) (hn : X.length = n) : (b.drop q).take n = X := by
 subst hb; subst hq; subst hn; rw [List.drop_left, List.take_left]
theorem inB_at {b A X Z : List Nat} {q n : Nat} (hb : b = A ++ (X ++ Z)) (hq : A.length = q) (hn : X.length = n) : inB b.length (q : Int) (n : Int) = true := by
 have : b.length = q + n + Z.length := by rw [hb]; simp [hq, hn]; omega
 simp [inB]
 omega
theorem nmV_at {b A X Z : List Nat} {q n : Nat} (hb : b = A ++ (X ++ Z)) (hq : A.length = q) (hn : X.length = n) : nmV b (q : Int) n = V8 X := by
 rw [nmV, inB_at hb hq hn, if_pos rfl, Int.toNat_natCast, part_at hb hq hn]
end Go.Proofs.YtngmcghmniakeaaGreat
