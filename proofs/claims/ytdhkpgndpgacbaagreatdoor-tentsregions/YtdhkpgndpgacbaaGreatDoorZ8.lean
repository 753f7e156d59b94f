/-
  strconv.FormatUint at base 10; (*strings.Builder).WriteString, out of strings.Repeat's own laying.
  nat.digitGroups: the walk.
  nat.Text: the walk.
  ratio.Text: the walk.
  foundryref01.Same, foundryref02.Same, foundrylaw02.plain, same, few, awake: the walks.
-/
import Derived.Test.YtdhkpgndpgacbaaGreatDoorZ7
import Derived.Lib.ItoaMem
import Derived.Lib.AppendIntMem
import Derived.Lib.Walk
import Derived.WalkKit
import Derived.Test.YtdhkpgndpgacbaaGreatDoorZ5
import Derived.Test.YtdhkpgndpgacbaaGreatDoorZ1
import Derived.Deep.LoopGhost
import Derived.Deep.QuietTactic
import Derived.BigQuiet
import Derived.Outline
namespace Go.Proofs.YtdhkpgndpgacbaaGreatDoor
open Go.RowKit Go.Sort Go.Lib
set_option linter.unusedSimpArgs false
set_option linter.unusedVariables false

/-- The library's table of powers of ten reads as it was laid. -/
def Pow (w : World) : Prop := Lib.TabIs Tryz.prog w "internal/strconv.uint64pow10" .u64 Lib.pow10Tab
theorem Pow.below {w w' : World} (h : Pow w) (hb : Below w.heap.size w w') : Pow w' := by
  unfold Pow Lib.TabIs World.var? at *
  cases hg : Tryz.prog.globalNamed "internal/strconv.uint64pow10" with
  | none => simp [hg] at h
  | some g =>
    simp only [hg, Option.bind_some] at h ⊢
    have hlt : g < w.heap.size := by
      rcases Nat.lt_or_ge g w.heap.size with h' | h'
      · exact h'
      · rw [Array.getElem?_eq_none h'] at h; simp at h
    rw [hb.block g hlt]
    exact h

theorem holds_zero0 (w : World) (T : TypeId) (nd : Nat) (hs : nd ≤ 24) : Holds (fun (b : UInt8) => Value.int .u8 (b.toNat : Int)) (w.alloc (.cells Lib.zeros24 T)) w.heap.size 0 (Array.replicate nd (0 : UInt8)) := fun j hj => by
  have hj' : j < nd := by simpa using hj
  refine ⟨?_, World.frozen?_alloc_new _ _ _ _⟩
  rw [World.cell?_alloc_new, zeros24_at _ (by omega), getElem!_pos _ j hj]
  simp

theorem fin_pos0 (w : World) (o : Obj) (dk : Array UInt8) (k : Nat) : Below w.heap.size w ((putRow (fun (b : UInt8) => Value.int .u8 (b.toNat : Int)) (w.alloc o) w.heap.size 0 dk).drewN k) := by
  rw [alloc_eq_grow]
  obtain ⟨os', _, e⟩ := putRow_grow_new (fun (b : UInt8) => Value.int .u8 (b.toNat : Int)) w #[o] w.heap.size 0 dk (Nat.le_refl _)
  rw [e]
  exact Lib.below_grow _ w (Nat.le_refl _) k os'

set_option maxHeartbeats 6400000 in
set_option maxRecDepth 100000 in
theorem fmt0_any (u : Nat) (hu64 : u < 18446744073709551616) (w : World) (htab : Pow w) :
    Calls Tryz.prog 69 #[.int .u64 (u : Int), .int .i64 10] w fun e w' => e = .returned (.string ⟨(Lib.decDigits u).toArray⟩) ∧ Below w.heap.size w w' := by
  by_cases hs : u < 100
  · go_enter Tryz.func69, Tryz.ntmps69
    go_wp2_with fail
    refine (Tryz.internal_strconv_small u hs _).mono ?_
    rintro e w' ⟨rfl, rfl⟩
    go_wp2
    go_ret
    exact ⟨rfl, Below.refl _ _⟩
  · have hu1 : 1 ≤ u := by omega
    have hnd20 : Lib.nDigits u ≤ 20 := by have := Lib.numDigits_eq u hu1 hu64; split at this <;> omega
    have hb3 : Lib.nDigits u ≤ 24 := by omega
    have hal : Tryz.prog.arrayLen 112 = 24 := by simp [Program.arrayLen, Tryz.underlying112]
    have hsl1 : ∀ W, (Instr.sliceAt 112 (.pointer (some ⟨w.heap.size, 0, none⟩)) none (some (.int .i64 (Lib.nDigits u : Int))) none).run Tryz.prog W = .ok (.slice (some ⟨w.heap.size, 0, none⟩) (Lib.nDigits u) 24) W := fun W => by
      rw [run_sliceAt_array_h W 112 ⟨w.heap.size, 0, none⟩ (by simp [Program.arrayLen, Program.elem, Tryz.underlying112]) .i64 (Lib.nDigits u : Int) (by omega) (by rw [hal]; omega)]
      go_simp
      try omega
    have hH0 := holds_zero0 w 112 (Lib.nDigits u) (by omega)
    have hfmt := Tryz.internal_strconv_formatBase10 w.heap.size 0 24 u (Array.replicate (Lib.nDigits u) 0) (w.alloc (.cells Lib.zeros24 112)) hH0 (by rw [Array.size_replicate]; exact Lib.lt_pow_nDigits u) hu64 (by rw [Array.size_replicate]; omega)
    rw [Array.size_replicate] at hfmt
    have HH0 := Lib.hid hH0
    clear hH0 hal
    go_enter Tryz.func69, Tryz.ntmps69
    go_wp2_with fail
    refine (Tryz.internal_strconv_numDigits u hu1 hu64 _ (Lib.tabIs_alloc htab _)).mono ?_
    rintro e w' ⟨rfl, rfl⟩
    go_wp2_with fail
    refine hfmt.mono ?_
    rintro e w' ⟨rfl, k, v', dk, rfl, hF⟩
    have hcv : (convert 74 9 (.slice (some ⟨w.heap.size, 0, none⟩) (Lib.nDigits u) 24)).run Tryz.prog ((putRow (fun (b : UInt8) => Value.int .u8 (b.toNat : Int)) (w.alloc (.cells Lib.zeros24 112)) w.heap.size 0 dk).drewN k) = .ok (.string ⟨(Lib.decDigits u).toArray⟩) ((putRow (fun (b : UInt8) => Value.int .u8 (b.toNat : Int)) (w.alloc (.cells Lib.zeros24 112)) w.heap.size 0 dk).drewN k) := by
      have h := run_convert_bytes_back (P := Tryz.prog) ((putRow (fun (b : UInt8) => Value.int .u8 (b.toNat : Int)) (w.alloc (.cells Lib.zeros24 112)) w.heap.size 0 dk).drewN k) 74 9 5 ⟨w.heap.size, 0, none⟩ 24 (Lib.decDigits u) Tryz.underlying74 Tryz.underlying5 Tryz.underlying9 (fun j hj => by
        rw [Lib.row_is_numeral hF j hj, Lib.add_plain, World.cell?_drewN]
        exact cell?_putRow (fun (b : UInt8) => Value.int .u8 (b.toNat : Int)) _ w.heap.size 0 _ dk HH0.out (by rw [hF.size, Array.size_replicate]) j (by rw [hF.size]; rw [Lib.decDigits_length] at hj; exact hj))
      rw [Lib.decDigits_length] at h
      exact h
    go_wp2
    go_ret
    exact ⟨rfl, fin_pos0 w _ dk k⟩

set_option maxHeartbeats 400000 in
set_option maxRecDepth 100000 in
theorem fmt_any (u : Nat) (hu64 : u < 18446744073709551616) (w : World) (htab : Pow w) :
    Calls Tryz.prog 50 #[.int .u64 (u : Int), .int .i64 10] w fun e w' => e = .returned (.string ⟨(Lib.decDigits u).toArray⟩) ∧ Below w.heap.size w w' := by
  go_enter Tryz.func50, Tryz.ntmps50
  go_wp2_with fail
  refine (fmt0_any u hu64 _ htab).mono ?_
  rintro e w' ⟨rfl, hb⟩
  go_wp2
  go_ret
  exact ⟨rfl, hb⟩

theorem writes_any (B b : Nat) (bs : List Value) (s : ByteArray) (w : World) (h : Lib.IsBuilder 76 5 B b bs w) (hlen : bs.length + s.size ≤ 140737488355328) (hBw : B ≤ w.heap.size) :
    Calls Tryz.prog 51 #[.pointer (some ⟨b, 0, none⟩), .string s] w fun e w' => e = .returned (.tuple #[.int .i64 s.size, .nilIface]) ∧ (Lib.BuilderAt 76 5 B b (.pointer (some ⟨b, 0, none⟩)) (bs ++ Lib.strCells s) w' ∧ Below B w w') :=
  Any.Builder_WriteString { Tryz.lays105 with } Tryz.Builder_Extra_105 B b bs s w h hlen hBw

theorem built_below {T e : TypeId} {B b : Nat} {bs : List Value} {W W' : World} (h : Lib.IsBuilder T e B b bs W) (hb : Below W.heap.size W W') : Lib.IsBuilder T e B b bs W' := by
  have key : ∀ p, Lib.BuilderAt T e B b p bs W → Lib.BuilderAt T e B b p bs W' := by
    intro p h
    have hlt := h.lt
    obtain ⟨hB, v, hv, hown, hne⟩ := h
    exact ⟨hB, v, (hb.block b hlt).trans hv, hown.kept (row := none) ⟨hb.os, hb.tape, hb.output, hb.size, fun k hk _ => hb.block k hk⟩ (Classical.em _), hne⟩
  exact h.elim (fun x => .inl (key _ x)) (fun x => .inr (key _ x))

end Go.Proofs.YtdhkpgndpgacbaaGreatDoor

namespace Go.Proofs.YtdhkpgndpgacbaaGreatDoor
open Go.RowKit
set_option linter.unusedSimpArgs false
set_option linter.unusedVariables false

theorem grp_len {xs gs : List Nat} {v : Nat} (lX : Lim xs) (he : G gs + 1000000000 ^ gs.length * v = V xs) (hv : 1 ≤ v) : gs.length < 32 * xs.length := by
  have h1 := V_lt lX
  have h2 : 2 ^ gs.length ≤ 1000000000 ^ gs.length := Nat.pow_le_pow_left (by decide) _
  have h3 : 1000000000 ^ gs.length * 1 ≤ 1000000000 ^ gs.length * v := Nat.mul_le_mul_left _ hv
  have e : 4294967296 ^ xs.length = 2 ^ (32 * xs.length) := by rw [Nat.pow_mul]
  rw [e] at h1
  have h4 : 2 ^ gs.length < 2 ^ (32 * xs.length) := by omega
  exact (Nat.pow_lt_pow_iff_right (by decide)).1 h4

theorem G_top {gs : List Nat} (hn : gs.getD (gs.length - 1) 0 ≠ 0) (k : Nat) (hk : k < gs.length) : 1 ≤ G (gs.drop k) := by
  obtain ⟨m, hm⟩ : ∃ m, gs.length - 1 - k = m := ⟨_, rfl⟩
  induction m generalizing k with
  | zero =>
    rw [G_drop, show k = gs.length - 1 by omega]
    omega
  | succ m ih =>
    rw [G_drop]
    have := ih (k + 1) (by omega) (by omega)
    omega

theorem Blk.take {e : TypeId} {w : World} {g : Nat} {zs : List Nat} (h : Blk e w g zs) (n : Nat) : Blk e w g (zs.take n) := by
  obtain ⟨cur, h1, h2, h3⟩ := h
  refine ⟨cur, h1, by simp; omega, ?_⟩
  rw [List.map_take, ← h3, List.take_take, List.length_take]

theorem getD_last (gs : List Nat) (r : Nat) : (gs ++ [r]).getD ((gs ++ [r]).length - 1) 0 = r := by simp [List.getD]

/-- One round's reckoning. -/
theorem grp_step {xs gs : List Nat} {l q r : Nat} (he : G gs + 1000000000 ^ gs.length * l = V xs) (hq : q * 1000000000 + r = l) : G (gs ++ [r]) + 1000000000 ^ (gs ++ [r]).length * q = V xs := by
  rw [G_snoc, List.length_append, List.length_singleton, Nat.pow_succ, ← he, ← hq]
  generalize 1000000000 ^ gs.length = p
  generalize G gs = a
  grind

/-- The groups' list: nine digits each; the topmost is not 0, but of 0 itself. -/
def Grps (gs : List Nat) (v : Nat) : Prop := gs ≠ [] ∧ G gs = v ∧ (∀ x ∈ gs, x < 1000000000) ∧ (gs.length = 1 ∨ gs.getD (gs.length - 1) 0 ≠ 0)

theorem sig_n (a : Option Addr) (cap n : Nat) (xs : List Nat) (w : World) (hn : n = xs.length) (h : Rd w a cap xs) :
    Calls Tryz.prog 68 #[.slice a n cap] w fun e w' => e = .returned (.slice a (strip xs).length cap) ∧ w = w' := by
  subst hn; exact sig_any a cap xs w h

set_option maxHeartbeats 1000000 in
set_option maxRecDepth 100000 in
theorem groups_any (a : Option Addr) (cap : Nat) (xs : List Nat) (w : World) (h : Rd w a cap xs) (hl : xs.length ≤ 10000000) :
    Calls Tryz.prog 49 #[.slice a xs.length cap] w fun e w' =>
      ∃ a' cap' gs, e = .returned (.slice a' gs.length cap') ∧ Grps gs (V xs) ∧ gs.length ≤ 32 * xs.length + 1 ∧ Res 60 w.heap.size w' a' cap' gs ∧ Below w.heap.size w w' := by
  obtain ⟨i0, hi, hz0, hz1, hz2⟩ := info_parts info_limb
  have lX := h.lim
  go_enter Tryz.func49, Tryz.ntmps49
  go_wp2_with fail
  refine (trim_any a cap xs _ h (by omega)).mono ?_
  rintro e w1 ⟨a1, c1, rfl, hr1, hb1⟩
  have HV0 : Hid (V (strip xs) = V xs) := V_strip xs
  have tX := tr_strip xs
  have hsl := strip_length_le xs
  generalize strip xs = X0 at *
  have hs1 := hb1.size
  have k1 := hr1.rd.le
  have k2 := hr1.rd.cap
  have k3 : a1 = none → c1 = 0 := hr1.rd.2.2.2.1
  have hbk : X0 = [] ∨ ∃ g, a1 = some ⟨g, 0, none⟩ ∧ w.heap.size ≤ g ∧ g < w1.heap.size ∧ Blk 60 w1 g X0 := by
    rcases hr1.blk with h | ⟨g, h1, h2, h3⟩
    · exact .inl h
    · exact .inr ⟨g, h1, h2, h3.lt, h3⟩
  have lX0 := hr1.lim
  clear hr1 h
  unfold maxLen at *
  go_wp2
  go_loopg [3, 4] (V X0) (fun gk lf gr wr => ∃ (aL : Option Addr) (L gs : List Nat), lf = .slice aL L.length c1 ∧ V L = gk ∧ Tr L ∧ Lim L ∧ L.length ≤ X0.length ∧ (aL = none → c1 = 0) ∧ (∀ x ∈ gs, x < 1000000000) ∧ G gs + 1000000000 ^ gs.length * V L = V xs ∧ (gs = [] ∨ 1 ≤ V L) ∧
    (L = [] ∨ ∃ g, aL = some ⟨g, 0, none⟩ ∧ w.heap.size ≤ g ∧ g < w1.heap.size ∧ Blk 60 wr g L) ∧ wr.ownsRow w1.heap.size 60 1 gr gs.length (gs.map U) ∧ w1.heap.size ≤ wr.heap.size ∧ Below w.heap.size w wr)
  case atStart => exact ⟨a1, X0, [], rfl, rfl, tX, lX0, Nat.le_refl _, k3, by simp, by simp [G]; exact HV0.out, .inl rfl, hbk, World.ownsRow_nil _ _ _ _, Nat.le_refl _, hb1⟩
  case round =>
    obtain ⟨aL, L, gs, rfl, hgk, tL, lL, hLl, hn0, hlt, heq, hpos, hbL, hown, hsw, hnx⟩ := hrel
    have HE : Hid (G gs + 1000000000 ^ gs.length * V L = V xs) := heq
    have HK : Hid (V L = gk) := hgk
    have HP : Hid (gs = [] ∨ 1 ≤ V L) := hpos
    have HL : Hid (∀ x ∈ gs, x < 1000000000) := hlt
    have hgl : gs.length ≤ 32 * xs.length := by
      rcases hpos with h | h
      · rw [h]; exact Nat.zero_le _
      · exact Nat.le_of_lt (grp_len lX heq h)
    clear heq hgk hlt hpos
    rcases hbL with hL0 | ⟨g, rfl, hg1, hg2, hB⟩
    · have HG0 : Hid (gs = []) := by
        rcases HP.out with h | h
        · exact h
        · rw [hL0] at h; exact absurd h (by decide)
      have HX0 : Hid (V xs = 0) := by show _ = _; rw [← HE.out, HG0.out, hL0]; rfl
      subst hL0
      go_wp2_with fail
      refine (divl_nil aL c1 1000000000 _).mono ?_
      rintro e w2 ⟨rfl, rfl⟩
      go_wp2_with (at_builtin; refine wpList_append_one rfl _ _ 26 rfl w1.heap.size 60 i0 Tryz.underlying26 hi hz0 hz1 hz2 _ gs.length gs rfl (hown.alloc _) wr.heap.size 0 rfl (cell_new1 _ _ _ _ (by omega)) (by omega) (by simp; omega) ?_)
      intro v' w2 hown1 hgrow1
      have hb2 : Below w.heap.size w w2 := (hnx.alloc hnx.size _).grown hgrow1 (by simp; omega) (fun k hk => by have := (hown.lt k hk).1; omega)
      obtain ⟨a', cap', rfl, hres⟩ := Res.of ((Lim.nil).snoc (x := 0) (by decide)) (by rw [HG0.out] at hown1; exact hown1)
      clear hown hown1
      go_wp2_with fail
      refine (sig_any aL c1 [] _ (Rd.nil _ _ _ k2 hn0)).mono ?_
      rintro e w3 ⟨rfl, rfl⟩
      go_wp2
      go_ret
      refine ⟨a', cap', [0], rfl, ⟨by simp, ?_, by simp, .inl rfl⟩, by simp, hres.mono hs1, hb2⟩
      rw [HX0.out]; rfl
    · go_wp2_with fail
      refine (divl_any g c1 L 1000000000 _ hB lL (by decide) (by decide) (by omega)).mono ?_
      rintro e w2 ⟨cs, r, rfl, hr, hcl, lc, hdv, hB2, hg2'⟩
      have hb2 : Below w.heap.size w w2 := hnx.grown hg2' hnx.size (fun k hk => by cases hk; omega)
      have hsw2 := hg2'.size
      have hown2 := hown.kept hg2' (.inr (fun h => by have := (hown.lt g h).1; omega))
      have HD : Hid (V cs * 1000000000 + r = V L) := hdv
      have HCL : Hid (cs.length = L.length) := hcl
      clear hown hdv hcl hB hg2'
      go_wp2_with (at_builtin; refine wpList_append_one rfl _ _ 26 rfl w1.heap.size 60 i0 Tryz.underlying26 hi hz0 hz1 hz2 _ gs.length gs rfl (hown2.alloc _) w2.heap.size r rfl (cell_new1 _ _ _ _ (by omega)) (by omega) (by simp; omega) ?_)
      intro v' w3 hown3 hgrow3
      replace hown3 := own_snoc hown3
      have hb3 : Below w.heap.size w w3 := (hb2.alloc hb2.size _).grown hgrow3 (by simp; omega) (fun k hk => by have := (hown2.lt k hk).1; omega)
      have hs3 := hgrow3.size
      have hB3 : Blk 60 w3 g cs := by
        have hBa := hB2.below ((Below.refl w2.heap.size w2).alloc (Nat.le_refl _) (.cells #[.int .u32 (r : Int)] 60))
        have hlg := hBa.lt
        obtain ⟨cur, c1', c2'⟩ := hBa
        exact ⟨cur, (hgrow3.block g hlg (fun h => by have := (hown2.lt g h.symm).1; omega)).trans c1', c2'⟩
      have hrd := hB3.rd lc 0 L.length c1 (by rw [HCL.out]; omega) (by omega) k2
      rw [List.drop_zero, List.take_of_length_le (by rw [HCL.out]; exact Nat.le_refl _)] at hrd
      clear hown2 hgrow3 hB2
      go_wp2_with fail
      refine (sig_n _ _ L.length cs _ HCL.out.symm hrd).mono ?_
      rintro e w4 ⟨rfl, rfl⟩
      have hVs := V_strip cs
      have tS := tr_strip cs
      have lS := lc.strip
      have hSl := strip_length_le cs
      have hBS : Blk 60 w3 g (strip cs) := by rw [strip_take]; exact hB3.take _
      have HE2 := grp_step HE.out HD.out
      rw [← hVs] at HE2
      have HVS : Hid (V (strip cs) = V cs) := hVs
      clear hrd hB3 hVs
      generalize strip cs = S at *
      have hgs : ∀ x ∈ gs ++ [r], x < 1000000000 := by
        intro x hx
        rcases List.mem_append.1 hx with h | h
        · exact HL.out x h
        · rw [List.mem_singleton] at h; omega
      have htop : V S = 0 → (gs ++ [r]).length = 1 ∨ (gs ++ [r]).getD ((gs ++ [r]).length - 1) 0 ≠ 0 := by
        intro h0
        rcases HP.out with h | h
        · left; rw [h]; rfl
        · right
          rw [getD_last]
          have := HD.out
          rw [← HVS.out, h0] at this
          omega
      have hgl2 : (gs ++ [r]).length ≤ 32 * xs.length + 1 := by simp; omega
      obtain ⟨ts, hts⟩ : ∃ ts, gs ++ [r] = ts := ⟨_, rfl⟩
      have hlts : gs.length + 1 = ts.length := by rw [← hts]; simp
      have hne : ts ≠ [] := by rw [← hts]; simp
      have hlim : Lim ts := fun x hx => by rw [← hts] at hx; have := hgs x hx; omega
      rw [hts] at HE2 hgs htop hgl2 hown3
      have HT : Hid (V S = 0 → ts.length = 1 ∨ ts.getD (ts.length - 1) 0 ≠ 0) := htop
      have HE3 : Hid (G ts + 1000000000 ^ ts.length * V S = V xs) := HE2
      have HGS : Hid (∀ x ∈ ts, x < 1000000000) := hgs
      rw [hlts] at hown3
      clear htop HE2 hgs hts hlts
      by_cases hS0 : S.length = 0
      · have HS0 : Hid (V S = 0) := by show _ = _; rw [List.length_eq_zero_iff.1 hS0]; rfl
        have hS1 : ((S.length : Int) == 0) = true := beq_iff_eq.2 (by omega)
        obtain ⟨a', cap', rfl, hres⟩ := Res.of hlim hown3
        clear hown3
        go_wp2
        go_ret
        refine ⟨a', cap', ts, rfl, ⟨hne, ?_, HGS.out, HT.out HS0.out⟩, hgl2, hres.mono hs1, hb3⟩
        have := HE3.out
        rw [HS0.out, Nat.mul_zero, Nat.add_zero] at this
        exact this
      · have hS1 : ((S.length : Int) == 0) = false := beq_eq_false_iff_ne.2 (by omega)
        have HPS : Hid (1 ≤ V S) := by
          show _ ≤ _
          rcases Nat.eq_zero_or_pos (V S) with h | h
          · exact absurd (by rw [eq_nil_of_V tS h]; rfl) hS0
          · exact h
        have HLT : Hid (V S < gk) := by
          show _ < _
          rw [← HK.out, ← HD.out, ← HVS.out]
          have := HPS.out
          omega
        have hSX : S.length ≤ X0.length := by have := HCL.out; omega
        clear hS0
        go_wp2
        go_roundg (V S)
        case measure => exact HLT.out
        case rel => exact ⟨some ⟨g, 0, none⟩, S, ts, rfl, rfl, tS, lS, hSX, by simp, HGS.out, HE3.out, .inr HPS.out, .inr ⟨g, rfl, hg1, hg2, hBS⟩, hown3, by simp at hs3; omega, hb3⟩

end Go.Proofs.YtdhkpgndpgacbaaGreatDoor

namespace Go.Proofs.YtdhkpgndpgacbaaGreatDoor
open Go.RowKit Go.Lib
set_option linter.unusedSimpArgs false
set_option linter.unusedVariables false

/-- What is written when the groups from k on are. -/
def told (gs : List Nat) (k : Nat) : List UInt8 := if k = gs.length then [] else decDigits (G (gs.drop k))
theorem told_end (gs : List Nat) : told gs gs.length = [] := by unfold told; rw [if_pos rfl]
theorem told_top {gs : List Nat} {j g : Nat} (hj : j + 1 = gs.length) (hg : gs.getD j 0 = g) : told gs j = decDigits g := by
  unfold told
  rw [if_neg (by omega), G_drop, hg, show j + 1 = gs.length from hj, List.drop_length]
  rfl
theorem told_step {gs : List Nat} {v j g : Nat} (h : Grps gs v) (hj : j + 1 < gs.length) (hg : gs.getD j 0 = g) :
    told gs j = told gs (j + 1) ++ (List.replicate (9 - nDigits g) 48 ++ decDigits g) := by
  obtain ⟨_, _, hlt, htop⟩ := h
  have hgb : g < 1000000000 := by
    rw [← hg]
    refine hlt _ ?_
    simp [List.getD, show j < gs.length by omega]
  have hq : 1 ≤ G (gs.drop (j + 1)) := G_top (by rcases htop with h | h; omega; exact h) _ hj
  unfold told
  rw [if_neg (by omega), if_neg (by omega), G_drop, hg]
  exact group_step hq hgb
theorem told_zero {gs : List Nat} {v : Nat} (h : Grps gs v) : told gs 0 = decDigits v := by
  obtain ⟨hne, hv, _⟩ := h
  unfold told
  rw [if_neg (fun h => hne (List.length_eq_zero_iff.1 h.symm)), List.drop_zero, hv]

theorem dig_len {g : Nat} (h : g < 1000000000) : nDigits g ≤ 9 := (pad_dec 9 g (by decide) h).2

theorem rep48 (c : Nat) : repeatL [48] c = List.replicate c 48 := by
  have := repeatL_replicate 48 1 c
  rw [Nat.mul_one] at this
  exact this

set_option maxRecDepth 100000 in
theorem rep_any (c : Nat) (hc : c ≤ 9) (w : World) :
    Calls Tryz.prog 52 #[.string ⟨#[48]⟩, .int .i64 (c : Int)] w fun e w' => ∃ z : ByteArray, e = .returned (.string z) ∧ z.size = c ∧ strCells z = byteCells (List.replicate c 48) ∧ Below w.heap.size w w' := by
  have h1 : (⟨#[48]⟩ : ByteArray).size = 1 := rfl
  refine (Tryz.strings_Repeat ⟨#[48]⟩ c w (by omega) (by rw [h1]; omega)).mono ?_
  rintro e w' ⟨rfl, hb⟩
  have e1 : (⟨#[48]⟩ : ByteArray).data.toList = [48] := rfl
  rw [e1, rep48]
  refine ⟨_, rfl, ?_, rfl, hb⟩
  simp [ByteArray.size]

set_option maxHeartbeats 1000000 in
set_option maxRecDepth 100000 in
theorem text_any (a : Option Addr) (cap : Nat) (xs : List Nat) (w : World) (h : Rd w a cap xs) (hl : xs.length ≤ 10000000) (htab : Pow w) :
    Calls Tryz.prog 32 #[.slice a xs.length cap] w fun e w' => e = .returned (.string ⟨(decDigits (V xs)).toArray⟩) ∧ Below w.heap.size w w' := by
  go_enter Tryz.func32, Tryz.ntmps32
  go_wp2_with fail
  refine (groups_any a cap xs _ h hl).mono ?_
  rintro e w1 ⟨a1, c1, gs, rfl, hG, hgl, hr1, hb1⟩
  have fm := hr1.rd.fm
  have hs1 := hb1.size
  have htab1 := htab.below hb1
  have HG : Hid (Grps gs (V xs)) := hG
  have hne : 1 ≤ gs.length := by
    rcases Nat.eq_zero_or_pos gs.length with h | h
    · exact absurd (List.length_eq_zero_iff.1 h) hG.1
    · exact h
  clear hr1 h htab hG
  have hf0 := Lib.fresh_isBuilder 76 5 w1
  have hb0 : Below w1.heap.size w1 (w1.alloc (.cells #[.pointer none, .slice none 0 0] 76)) := (Below.refl _ _).alloc (Nat.le_refl _) _
  go_wp2
  go_loopw [5] (fun i wr => ∃ (k : Nat) (q : Int), k ≤ gs.length ∧ q = (k : Int) - 1 ∧ i = .int .i64 q ∧ (told gs k).length ≤ 9 * (gs.length - k) ∧ Lib.IsBuilder 76 5 w1.heap.size w1.heap.size (byteCells (told gs k)) wr ∧ Below w1.heap.size w1 wr) (fun i _ => (RowKit.intOf i + 1).toNat)
  case atStart => exact ⟨gs.length, _, Nat.le_refl _, rfl, rfl, by rw [told_end]; simp, by rw [told_end]; exact hf0, hb0⟩
  case round =>
    obtain ⟨k, q, hk, hq, rfl, hlen, hB, hnx⟩ := hrel
    have hsz := hnx.size
    by_cases hk0 : k = 0
    · subst hk0
      obtain rfl : q = -1 := by omega
      rw [told_zero HG.out] at hB hlen
      clear hq
      go_wp2_with fail
      refine (Tryz.Builder_String_any _ _ _ _ hB hsz).mono ?_
      rintro e w2 ⟨rfl, hb2⟩
      go_wp2
      go_ret
      exact ⟨rfl, hb1.trans ((hnx.trans hb2).mono hs1)⟩
    · obtain ⟨j, rfl⟩ : ∃ j, k = j + 1 := ⟨k - 1, by omega⟩
      obtain rfl : q = (j : Int) := by omega
      clear hq
      obtain ⟨bl, ol, rfl, hblt, hcx⟩ := fm.at hnx j (by omega)
      obtain ⟨x, hx⟩ : ∃ x, gs.getD j 0 = x := ⟨_, rfl⟩
      rw [hx] at hcx
      have bx : x < 1000000000 := by rw [← hx]; exact HG.out.2.2.1 _ (by simp [List.getD, show j < gs.length by omega])
      have HX : Hid (gs.getD j 0 = x) := hx
      clear hx
      have hd9 := dig_len bx
      go_wp2_with fail
      refine (fmt_any x (by omega) _ (htab1.below hnx)).mono ?_
      rintro e w2 ⟨rfl, hb2⟩
      have hB2 := built_below hB hb2
      have hnx2 : Below w1.heap.size w1 w2 := hnx.trans (hb2.mono hsz)
      have hsz2 := hnx2.size
      obtain ⟨s, hs⟩ : ∃ s : ByteArray, (⟨(decDigits x).toArray⟩ : ByteArray) = s := ⟨_, rfl⟩
      have hss : s.size = nDigits x := by rw [← hs, ← decDigits_length]; simp [ByteArray.size]
      have HSC : Hid (strCells s = byteCells (decDigits x)) := by show _ = _; rw [← hs]; rfl
      rw [hs]
      clear hs hB
      by_cases hjl : j + 1 < gs.length
      · obtain ⟨c, hc⟩ : ∃ c : Nat, c = 9 - nDigits x := ⟨_, rfl⟩
        have hci : (9 : Int) - (nDigits x : Int) = (c : Int) := by omega
        have hjc : (j : Int) < (gs.length : Int) - 1 := by omega
        have hc9 : c ≤ 9 := by omega
        have HC : Hid (c = 9 - nDigits x) := hc
        clear hc
        go_wp2_with fail
        refine (rep_any c hc9 _).mono ?_
        rintro e w3 ⟨z, rfl, hzs, hzc, hb3⟩
        have hB3 := built_below hB2 hb3
        have hnx3 : Below w1.heap.size w1 w3 := hnx2.trans (hb3.mono hsz2)
        have hsz3 := hnx3.size
        have HZC : Hid (strCells z = byteCells (List.replicate c 48)) := hzc
        clear hzc hB2
        go_wp2_with fail
        refine (writes_any _ _ _ z _ hB3 (by rw [byteCells_length, hzs]; omega) hsz3).mono ?_
        rintro e w4 ⟨rfl, hB4, hb4⟩
        have hnx4 : Below w1.heap.size w1 w4 := hnx3.trans hb4
        have hsz4 := hnx4.size
        rw [HZC.out, ← byteCells_append] at hB4
        clear hB3
        go_wp2_with fail
        refine (writes_any _ _ _ s _ (.inr hB4) (by rw [byteCells_length, hss, List.length_append, List.length_replicate]; omega) hsz4).mono ?_
        rintro e w5 ⟨rfl, hB5, hb5⟩
        have hnx5 : Below w1.heap.size w1 w5 := hnx4.trans hb5
        rw [HSC.out, ← byteCells_append, List.append_assoc, HC.out, ← told_step HG.out hjl HX.out] at hB5
        clear hB4
        go_wp2
        go_roundw
        case rel => exact ⟨j, _, by omega, rfl, rfl, by rw [told_step HG.out hjl HX.out]; simp [decDigits_length]; omega, .inr hB5, hnx5⟩
        case measure => simp [RowKit.intOf]
      · have hjc : ¬ (j : Int) < (gs.length : Int) - 1 := by omega
        have hje : j + 1 = gs.length := by omega
        go_wp2_with fail
        refine (writes_any _ _ _ s _ hB2 (by rw [byteCells_length, hss]; omega) hsz2).mono ?_
        rintro e w5 ⟨rfl, hB5, hb5⟩
        have hnx5 : Below w1.heap.size w1 w5 := hnx2.trans hb5
        rw [hje, told_end, HSC.out, ← byteCells_append, List.nil_append, ← told_top hje HX.out] at hB5
        clear hB2
        go_wp2
        go_roundw
        case rel => exact ⟨j, _, by omega, rfl, rfl, by rw [told_top hje HX.out, decDigits_length]; omega, .inr hB5, hnx5⟩
        case measure => simp [RowKit.intOf]

end Go.Proofs.YtdhkpgndpgacbaaGreatDoor

namespace Go.Proofs.YtdhkpgndpgacbaaGreatDoor
open Go.RowKit Go.Lib Classical
set_option linter.unusedSimpArgs false
set_option linter.unusedVariables false

/-- The chapter's text of a number. -/
def txt (q : Rat) : List UInt8 := (if q < 0 then [45] else []) ++ (decDigits q.num.natAbs ++ (if q.den = 1 then [] else 47 :: decDigits q.den))

theorem Fmd.lt_zero {n : Bool} {xs ys : List Nat} (h : Fmd n xs ys) : qv n xs ys < 0 ↔ n = true := by
  have key : 0 ≤ qv n xs ys ↔ 0 ≤ sg n (V xs) := by rw [← Rat.num_nonneg, h.parts.1]
  rw [← Rat.not_le, key]
  cases n with
  | false => simp [sg]
  | true =>
    have := h.neg rfl
    simp [sg]; omega

theorem txt_of {n : Bool} {xs ys : List Nat} (h : Fmd n xs ys) (ly : Lim ys) : txt (qv n xs ys) = (if n = true then [45] else []) ++ (decDigits (V xs) ++ (if ys = [1] then [] else 47 :: decDigits (V ys))) := by
  unfold txt
  rw [h.parts.1, h.parts.2, sg_natAbs]
  have e1 : (qv n xs ys < 0) = (n = true) := propext h.lt_zero
  have e2 : (V ys = 1) = (ys = [1]) := propext (V_eq_one ly h.2.1)
  simp only [e1, e2]

theorem digits_le : ∀ (k v : Nat), v < 2 ^ k → nDigits v ≤ k + 1 := by
  intro k
  induction k with
  | zero => intro v h; rw [nDigits_small (by omega)]; omega
  | succ k ih =>
    intro v h
    by_cases h1 : v < 10
    · rw [nDigits_small h1]; omega
    · rw [nDigits_big h1]
      have := ih (v / 10) (by rw [Nat.pow_succ] at h; omega)
      omega

/-- The digits of a natural, as a string of a size that is known. -/
theorem dec_str {xs : List Nat} (l : Lim xs) (h : xs.length ≤ 10000000) : ∃ s : ByteArray, (⟨(decDigits (V xs)).toArray⟩ : ByteArray) = s ∧ s.size ≤ 320000001 ∧ s.data.toList = decDigits (V xs) := by
  refine ⟨_, rfl, ?_, by simp⟩
  have h1 := V_lt l
  have e : 4294967296 ^ xs.length = 2 ^ (32 * xs.length) := by rw [Nat.pow_mul]
  rw [e] at h1
  have := digits_le _ _ h1
  rw [Lib.size_eq]
  simp [decDigits_length]
  omega

theorem ret_str {s : ByteArray} {l : List UInt8} (h : s.data.toList = l) : Ending.returned (.string s) = .returned (.string ⟨l.toArray⟩) := by
  subst h
  simp

set_option maxHeartbeats 2000000 in
set_option maxRecDepth 100000 in
theorem qtext_any (k : Nat) (q : Rat) (v : Value) (w : World) (h : Ct w v k q) (hk : k ≤ 10000000) (hk2 : 2 ≤ k) (htab : Pow w) :
    Calls Tryz.prog 17 #[v] w fun e w' => e = .returned (.string ⟨(txt q).toArray⟩) ∧ Below w.heap.size w w' := by
  have hX := h
  obtain ⟨n, xs, ys, ⟨a, c, a', c', rfl, hx, hy⟩, lx, ly, hq⟩ := h
  clear hq hx hy lx ly
  go_enter Tryz.func17, Tryz.ntmps17
  go_wp2_with fail
  refine (counted_any k q _ _ (hX.below (al1 _)) (by omega) hk2).mono ?_
  rintro e u1 ⟨v1, rfl, hF1, hb1⟩
  obtain ⟨B1, hbW⟩ := after1 hb1
  clear hb1 hX
  obtain ⟨p4, p5, p6, p7, p8, p9⟩ := B1.cells
  have hs2 := B1.lt
  obtain ⟨n1, x1, y1, ⟨b1, d1, b2, d2, rfl, hx', hy'⟩, hf1, l1, l2, he⟩ := hF1
  have HT : Hid (txt q = (if n1 = true then [45] else []) ++ (decDigits (V x1) ++ (if y1 = [1] then [] else 47 :: decDigits (V y1)))) := by
    show _ = _; rw [← he]; exact txt_of hf1 hy'.lim
  go_wp2_with fail
  obtain ⟨U, hU, B2, hbU, hK, ho⟩ := set3_world B1 (.bool n1) (.slice b1 x1.length d1) (.slice b2 y1.length d2)
  rw [← hU]
  clear hU p4 p5 p6 p7 p8 p9 hs2
  replace hbW := hbU _ _ hbW (by omega)
  replace hx' := hK _ _ _ hx'
  replace hy' := hK _ _ _ hy'
  clear B1 hbU hK ho
  refine (text_any _ _ _ _ hx' (by omega) (htab.below hbW)).mono ?_
  rintro e u2 ⟨rfl, hb2⟩
  replace B2 := B2.below hb2
  replace hy' := hy'.below hb2
  replace hbW : Below w.heap.size w u2 := hbW.trans (hb2.mono hbW.size)
  have lX1 := hx'.lim
  clear hb2 hx'
  obtain ⟨s1, e1, z1, t1⟩ := dec_str lX1 (by omega)
  obtain ⟨s2, e2, z2, t2⟩ := dec_str hy'.lim (by omega)
  rw [e1]
  rw [← t1, ← t2] at HT
  clear e1 t1 t2
  obtain ⟨p4, p5, p6, _⟩ := B2.cells
  cases n1 with
  | false =>
    go_wp2_with fail
    refine (isOne_any _ _ _ _ hy').mono ?_
    rintro e u ⟨rfl, rfl⟩
    by_cases h1 : y1 = [1]
    · have e1 : decide (y1 = [1]) = true := decide_eq_true h1
      rw [e1]
      clear e1
      go_wp2
      go_ret
      exact ⟨ret_str (by rw [HT.out, if_pos h1]; simp [ByteArray.data_append]), hbW⟩
    · have e1 : decide (y1 = [1]) = false := decide_eq_false h1
      rw [e1]
      clear e1
      go_wp2_with fail
      refine (text_any _ _ _ _ hy' (by omega) (htab.below hbW)).mono ?_
      rintro e u3 ⟨rfl, hb3⟩
      rw [e2]
      replace hbW : Below w.heap.size w u3 := hbW.trans (hb3.mono hbW.size)
      clear hb3 p4 p5 p6
      go_wp2
      go_ret
      exact ⟨ret_str (by rw [HT.out, if_neg h1]; simp [ByteArray.data_append]), hbW⟩
  | true =>
    go_wp2_with fail
    refine (isOne_any _ _ _ _ hy').mono ?_
    rintro e u ⟨rfl, rfl⟩
    by_cases h1 : y1 = [1]
    · have e1 : decide (y1 = [1]) = true := decide_eq_true h1
      rw [e1]
      clear e1
      go_wp2
      go_ret
      exact ⟨ret_str (by rw [HT.out, if_pos h1]; simp [ByteArray.data_append]), hbW⟩
    · have e1 : decide (y1 = [1]) = false := decide_eq_false h1
      rw [e1]
      clear e1
      go_wp2_with fail
      refine (text_any _ _ _ _ hy' (by omega) (htab.below hbW)).mono ?_
      rintro e u3 ⟨rfl, hb3⟩
      rw [e2]
      replace hbW : Below w.heap.size w u3 := hbW.trans (hb3.mono hbW.size)
      clear hb3 p4 p5 p6
      go_wp2
      go_ret
      exact ⟨ret_str (by rw [HT.out, if_neg h1]; simp [ByteArray.data_append]), hbW⟩

end Go.Proofs.YtdhkpgndpgacbaaGreatDoor

namespace Go.Proofs.YtdhkpgndpgacbaaGreatDoor
open Go.RowKit
set_option linter.unusedSimpArgs false
set_option linter.unusedVariables false

/-- A fraction lies in block b of U; all else is as it was in u. -/
def Sto (t : TypeId) (u U : World) (b : Nat) (x y z : Value) : Prop :=
  Box t U b x y z ∧ (∀ B w, Below B w u → B ≤ b → Below B w U) ∧ (∀ a c xs, Rd u a c xs → Rd U a c xs) ∧ (∀ t' k x y z, k ≠ b → Box t' u k x y z → Box t' U k x y z)
theorem sto_set {t : TypeId} {u : World} {b : Nat} {n : Bool} {a a' : Option Addr} {l c l' c' : Nat} (B : Box t u b (.bool n) (.slice a l c) (.slice a' l' c')) (x' y' z' : Value) :
    Sto t u (((u.setCell ⟨b, 0, none⟩ x').setCell ⟨b, 1, none⟩ y').setCell ⟨b, 2, none⟩ z') b x' y' z' := by
  obtain ⟨U, rfl, h1, h2, h3, h4⟩ := set3_world B x' y' z'
  exact ⟨h1, h2, h3, fun _ _ _ _ _ hk hB => hB.other h4 hk⟩
theorem sto_new (t : TypeId) (u : World) (x y z : Value) : Sto t u (u.alloc (.cells #[x, y, z] t)) u.heap.size x y z :=
  ⟨Box.new _ _ _ _ _, fun _ _ h hb => h.alloc hb _, fun _ _ _ h => h.below (al1 _), fun _ _ _ _ _ _ hB => hB.alloc _⟩
theorem Ct.sto {t : TypeId} {u U : World} {b : Nat} {x y z v : Value} {k : Nat} {q : Rat} (h : Ct u v k q) (s : Sto t u U b x y z) : Ct U v k q := by
  obtain ⟨n0, x0, y0, ⟨e1, e2, e3, e4, e5, e6, e7⟩, e8⟩ := h
  exact ⟨n0, x0, y0, ⟨e1, e2, e3, e4, e5, s.2.2.1 _ _ _ e6, s.2.2.1 _ _ _ e7⟩, e8⟩
theorem after1d {t : TypeId} {w u : World} {x y z : Value} (hb : Below (w.alloc (.cells #[x, y, z] t)).drew.heap.size (w.alloc (.cells #[x, y, z] t)).drew u) :
    Box t u w.heap.size x y z ∧ Below w.heap.size w u := after1 (Below.drew1.trans hb)
theorem al1d {w : World} (o : Obj) : Below w.heap.size w (w.alloc o).drew := (al1 o).drew
theorem al2d {w : World} (o o' : Obj) : Below w.heap.size w ((w.alloc o).alloc o').drew := (al2 o o').drew

/-- How far a statement has come (a mark for the walk). -/
def Stg (n : Nat) : Prop := n = n

set_option maxHeartbeats 1000000 in
set_option maxRecDepth 100000 in
/-- foundryref01.Same, of whatever two lists. -/
theorem alike_any (a b : Option Addr) (ca cb : Nat) (xs ys : List Nat) (w : World) (ha : Rd w a ca xs) (hb : Rd w b cb ys) :
    Calls Tryz.prog 19 #[.slice a xs.length ca, .slice b ys.length cb] w fun e w' => e = .returned (.bool (decide (xs = ys))) ∧ Below w.heap.size w w' := by
  have fa := ha.fm
  have fb := hb.fm
  have k1 := ha.le
  have k2 := ha.cap
  have k3 := hb.le
  have k4 := hb.cap
  unfold maxLen at k2 k4
  by_cases hl : xs.length = ys.length
  · have HL : Hid (xs.length = ys.length) := hl
    rw [← hl]
    rw [← hl] at k3
    have fb' : ∀ (wr : World), Below w.heap.size w wr → ∀ k, k < xs.length → ∃ bb off, b = some ⟨bb, off, none⟩ ∧ bb < w.heap.size ∧ wr.cell? ⟨bb, off + k, none⟩ = some (.int .u32 (ys.getD k 0 : Nat)) := fun wr hw k hk => fb.at hw k (by omega)
    clear hl ha hb fb
    go_enter Tryz.func19, Tryz.ntmps19
    go_wp2
    go_loopw [5] (fun i wr => ∃ k : Nat, k ≤ xs.length ∧ i = .int .i64 k ∧ (∀ j, j < k → xs.getD j 0 = ys.getD j 0) ∧ Below w.heap.size w wr) (fun i _ => xs.length - (intOf i).toNat)
    case atStart => exact ⟨0, Nat.zero_le _, rfl, fun j hj => by omega, Below.refl _ _⟩
    case round =>
      obtain ⟨k, hk, rfl, hal, hnx⟩ := hrel
      have HA : Hid (∀ j, j < k → xs.getD j 0 = ys.getD j 0) := hal
      clear hal
      by_cases hkn : k < xs.length
      · obtain ⟨b1, o1, rfl, _, c1⟩ := fa.at hnx k hkn
        obtain ⟨b2, o2, rfl, _, c2⟩ := fb' _ hnx k hkn
        obtain ⟨x, hx⟩ : ∃ x, xs.getD k 0 = x := ⟨_, rfl⟩
        obtain ⟨y, hy⟩ : ∃ y, ys.getD k 0 = y := ⟨_, rfl⟩
        rw [hx] at c1
        rw [hy] at c2
        have HX : Hid (xs.getD k 0 = x) := hx
        have HY : Hid (ys.getD k 0 = y) := hy
        clear hx hy
        go_wp2_with fail
        go_quiet (fail)
        by_cases hxy : x = y
        · subst hxy
          go_wp2
          go_roundw
          case rel => exact ⟨k + 1, by omega, by go_num, fun j hj => by
            rcases Nat.lt_or_ge j k with h | h
            · exact HA.out j h
            · have : j = k := by omega
              subst this
              rw [HX.out, HY.out], below_drewN hnx _⟩
          case measure => simp [intOf]; omega
        · have hne : ((x : Int) != (y : Int)) = true := by simp; omega
          go_wp2
          go_ret
          exact ⟨ret_bool (by
            have : xs ≠ ys := by
              intro e
              have h1 := HX.out
              rw [e, HY.out] at h1
              exact hxy h1.symm
            simp [this]), below_drewN hnx _⟩
      · obtain rfl : k = xs.length := by omega
        go_wp2
        go_ret
        exact ⟨ret_bool (by
          have : xs = ys := List.ext_getElem HL.out fun j h1 h2 => by
            have := HA.out j h1
            simpa [List.getD, h1, h2] using this
          simp [this]), hnx⟩
  · have hne : ((xs.length : Int) != (ys.length : Int)) = true := by simp; omega
    have hx : xs ≠ ys := fun e => hl (by rw [e])
    clear ha hb fa fb
    go_enter Tryz.func19, Tryz.ntmps19
    go_wp2
    go_ret
    exact ⟨ret_bool (by simp [hx]), Below.refl _ _⟩

set_option maxHeartbeats 1000000 in
set_option maxRecDepth 100000 in
/-- foundryref02.Same. -/
theorem alike2_any (n m : Bool) (a a' b b' : Option Addr) (c c' d d' : Nat) (xs ys ps qs : List Nat) (w : World) (hx : Rd w a c xs) (hy : Rd w a' c' ys) (hp : Rd w b d ps) (hq : Rd w b' d' qs) :
    Calls Tryz.prog 5 #[.agg #[.bool n, .slice a xs.length c, .slice a' ys.length c'], .agg #[.bool m, .slice b ps.length d, .slice b' qs.length d']] w fun e w' => e = .returned (.bool (decide (n = m ∧ xs = ps ∧ ys = qs))) ∧ Below w.heap.size w w' := by
  by_cases hnm : n = m
  · subst hnm
    have e0 : (n == n) = true := by simp
    go_enter Tryz.func5, Tryz.ntmps5
    go_wp2_with fail
    refine (alike_any _ _ _ _ _ _ _ (hx.below (al2 _ _)) (hp.below (al2 _ _))).mono ?_
    rintro e u1 ⟨rfl, hb1⟩
    replace hy := (hy.below (al2 _ _)).below hb1
    replace hq := (hq.below (al2 _ _)).below hb1
    obtain ⟨B1, B2, hbW⟩ := after2 hb1
    obtain ⟨p1, p2, p3, _⟩ := B1.cells
    obtain ⟨p4, p5, p6, _⟩ := B2.cells
    clear hb1
    by_cases hxp : xs = ps
    · have e1 : decide (xs = ps) = true := decide_eq_true hxp
      have HX : Hid (xs = ps) := hxp
      clear hxp
      rw [e1]
      clear e1
      go_wp2_with fail
      refine (alike_any _ _ _ _ _ _ _ hy hq).mono ?_
      rintro e u2 ⟨rfl, hb2⟩
      replace hbW : Below w.heap.size w u2 := hbW.trans (hb2.mono hbW.size)
      go_wp2
      go_ret
      exact ⟨ret_bool (by simp [HX.out]), hbW⟩
    · have e1 : decide (xs = ps) = false := decide_eq_false hxp
      have HX : Hid (¬ xs = ps) := hxp
      clear hxp
      rw [e1]
      clear e1
      go_wp2
      go_ret
      exact ⟨ret_bool (by simp [HX.out]), hbW⟩
  · have e0 : (n == m) = false := by simpa using hnm
    go_enter Tryz.func5, Tryz.ntmps5
    go_wp2
    go_ret
    exact ⟨ret_bool (by simp [hnm]), al2 _ _⟩

theorem awake_round : ((5 : Rat) / 2 + 1 / 2).floor = 3 := by decide +kernel
theorem awake_text : txt ((6 : Rat) / ((-4 : Int) : Rat)) = [45, 51, 47, 50] := by decide +kernel
end Go.Proofs.YtdhkpgndpgacbaaGreatDoor
