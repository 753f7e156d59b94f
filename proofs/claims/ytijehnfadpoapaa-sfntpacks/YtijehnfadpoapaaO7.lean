/-
  octets.Tag; foundryref04.Cut, Tag, Same: the walks.
-/
import Derived.Test.YtijehnfadpoapaaO6
import Derived.BigQuiet
import Derived.Deep.QuietTactic
import Derived.WalkSmall
import Derived.Outline
import Derived.Laws.BytesArg
namespace Go.Proofs.Ytijehnfadpoapaa
open Go.RowKit Go.Maps
set_option linter.unusedSimpArgs false
set_option linter.unusedVariables false

set_option maxHeartbeats 800000 in
set_option maxRecDepth 100000 in
/-- Two slices that read alike are told to be the same. -/
theorem same8_any (a b : Option Addr) (ca cb : Nat) (xs : List Nat) (w : World) (ha : Rb w a ca xs) (hb : Rb w b cb xs) :
    Calls Try.prog 16 #[.slice a xs.length ca, .slice b xs.length cb] w fun e w' => e = .returned (.bool true) ∧ Below w.heap.size w w' := by
  have k1 := ha.le
  have k2 := ha.cap
  unfold maxLen at k2
  have fa := ha.fm
  have fb := hb.fm
  clear ha hb
  have hne : ((xs.length : Int) != (xs.length : Int)) = false := by simp
  go_enter Try.func16, Try.ntmps16
  go_wp2
  go_loopw [5] (fun i wr => ∃ k : Nat, k ≤ xs.length ∧ i = .int .i64 k ∧ Below w.heap.size w wr) (fun i _ => xs.length - (intOf i).toNat)
  case atStart => exact ⟨0, Nat.zero_le _, rfl, Below.refl _ _⟩
  case round =>
    obtain ⟨k, hk, rfl, hnx⟩ := hrel
    by_cases hkn : k < xs.length
    · obtain ⟨b1, o1, rfl, _, c1⟩ := fa.at hnx k hkn
      obtain ⟨b2, o2, rfl, _, c2⟩ := fb.at hnx k hkn
      obtain ⟨x, hx⟩ : ∃ x, xs.getD k 0 = x := ⟨_, rfl⟩
      rw [hx] at c1 c2
      have hxx : ((x : Int) != (x : Int)) = false := by simp
      clear hx
      have i1 : (0 : Int) ≤ (k : Int) := by omega
      have i2 : (k : Int) < (xs.length : Int) := by omega
      go_wp2_with fail
      go_quiet (fail)
      go_wp2
      go_roundw
      case rel => exact ⟨k + 1, by omega, by go_num, below_drewN hnx _⟩
      case measure => simp [intOf]; omega
    · go_wp2
      go_ret
      exact ⟨rfl, hnx⟩

set_option maxHeartbeats 1000000 in
set_option maxRecDepth 100000 in
theorem scut_any (a : Option Addr) (cap : Nat) (xs : List Nat) (p n : Int) (w : World) (h : Rb w a cap xs) (hp : I64 p) (hn : I64 n) (hl : xs.length ≤ 1000000000) :
    Calls Try.prog 44 #[.slice a xs.length cap, .int .i64 p, .int .i64 n] w fun e w' => ∃ a' cap', e = .returned (.tuple #[.slice a' (cutV xs p n).length cap', .bool (inB xs.length p n)]) ∧ Rw 5 w.heap.size w' a' cap' (cutV xs p n) ∧ Below w.heap.size w w' := by
  obtain ⟨i0, hi0, hz0, hz1, hz2⟩ := info_parts info_byte
  have hr := h
  have k1 := h.le
  have k2 := h.cap
  unfold maxLen at k2
  obtain ⟨p1, p2⟩ := hp
  obtain ⟨n1, n2⟩ := hn
  by_cases hi : inB xs.length p n = true
  · have HI : Hid (inB xs.length p n = true) := hi
    have hi' := hi
    simp [inB] at hi'
    obtain ⟨q0, q1, q2⟩ := hi'
    obtain ⟨q, rfl⟩ : ∃ q : Nat, p = (q : Int) := ⟨p.toNat, by omega⟩
    obtain ⟨m, rfl⟩ : ∃ m : Nat, n = (m : Int) := ⟨n.toNat, by omega⟩
    have HC : Hid (cutV xs q m = (xs.drop q).take m) := cutV_yes hi
    clear hi
    have g1 : ¬ ((xs.length : Int) < (m : Int)) := by omega
    have g2 : ¬ ((xs.length : Int) - (m : Int) < (q : Int)) := by omega
    have hl2 : ((xs.drop q).take m).length = m := by simp; omega
    have HL2 : Hid (((xs.drop q).take m).length = m) := hl2
    clear hl2
    by_cases hcq : cap = q
    · have hm : m = 0 := by omega
      subst hm
      subst hcq
      have HZ : Hid ((xs.drop cap).take 0 = []) := by show (xs.drop cap).take 0 = []; simp
      clear HL2
      go_enter Try.func44, Try.ntmps44
      go_wp2_with (at_builtin; refine wpList_append_rb rfl _ _ 23 rfl w.heap.size 5 i0 Try.underlying23 hi0 hz0 hz1 hz2 _ 0 [] rfl (World.ownsRow_nil w _ _ 1) a 0 _ [] rfl rfl (Rb.nil w a 0 (Nat.zero_le _) (fun _ => rfl)) (by simp) (Nat.le_refl _) ?_)
      intro v' w1 hown hgrow hat
      obtain ⟨a', cap', rfl, hres⟩ := Rw.of (xs := []) Byt.nil hown
      go_wp2
      go_ret2
      refine ⟨a', cap', rt_two (by rw [HC.out, HZ.out]; rfl) (by first | (rw [HI.out]; rfl) | rfl), ?_, (Below.refl _ _).grown hgrow (Nat.le_refl _) (fun k hk => by simp [Value.ownBlock] at hk)⟩
      rw [HC.out, HZ.out]
      exact hres
    · have hcut := hr.cut q m (by omega)
      obtain ⟨zs, hzs⟩ : ∃ zs, (xs.drop q).take m = zs := ⟨_, rfl⟩
      rw [hzs] at hcut
      have HZ : Hid ((xs.drop q).take m = zs) := hzs
      have HL : Hid (m = zs.length) := by show m = zs.length; rw [← hzs]; exact HL2.out.symm
      clear hzs HL2
      go_enter Try.func44, Try.ntmps44
      go_wp2_with (at_builtin; refine wpList_append_rb rfl _ _ 23 rfl w.heap.size 5 i0 Try.underlying23 hi0 hz0 hz1 hz2 _ 0 [] rfl (World.ownsRow_nil w _ _ 1) (a.map (fun x => x.add q)) (cap - q) _ zs rfl (by have := HL.out; omega) hcut (by rw [← HL.out]; omega) (Nat.le_refl _) ?_)
      intro v' w1 hown hgrow hat
      obtain ⟨a', cap', rfl, hres⟩ := Rw.of hcut.lim hown
      go_wp2
      go_ret2
      refine ⟨a', cap', rt_two (by rw [HC.out, HZ.out]; rfl) (by first | (rw [HI.out]; rfl) | (rw [HI.out]; simp; omega)), ?_, (Below.refl _ _).grown hgrow (Nat.le_refl _) (fun k hk => by simp [Value.ownBlock] at hk)⟩
      rw [HC.out, HZ.out]
      exact hres
  · have hi : inB xs.length p n = false := by simpa using hi
    have HI : Hid (inB xs.length p n = false) := hi
    have HC : Hid (cutV xs p n = []) := cutV_no hi
    have hor : p < 0 ∨ (0 ≤ p ∧ (n < 0 ∨ (0 ≤ n ∧ ((xs.length : Int) < n ∨ (¬ (xs.length : Int) < n ∧ (xs.length : Int) - n < p))))) := by
      simp [inB] at hi
      omega
    clear hi
    rcases hor with g1 | ⟨g0, g1 | ⟨g1, g2 | ⟨g2, g3⟩⟩⟩
    all_goals
      go_enter Try.func44, Try.ntmps44
      go_wp2
      go_ret2
      refine ⟨none, 0, rt_two (by rw [HC.out]; rfl) (by first | (rw [HI.out]; rfl) | rfl), ?_, Below.refl _ _⟩
      rw [HC.out]
      exact Rw.nil _ _

/-- Bytes as a text. -/
def str8 (xs : List Nat) : ByteArray := strOfNums (xs.map (fun x : Nat => (x : Int)))
theorem size_str8 (xs : List Nat) : (str8 xs).size = xs.length := by rw [str8, strOfNums_size, List.length_map]
theorem sb_str8 {xs : List Nat} (h : Byt xs) : sb (str8 xs) = xs := by
  rw [sb, str8, strOfNums_data]
  simp only [List.map_map]
  have : ∀ x ∈ xs, (UInt8.toNat ∘ (fun n : Int => UInt8.ofNat n.toNat) ∘ fun x : Nat => (x : Int)) x = x := by
    intro x hx
    have := h x hx
    simp
    omega
  rw [List.map_congr_left this, List.map_id']
theorem str8_sb (t : ByteArray) : str8 (sb t) = t := by
  cases t with
  | mk d =>
    simp only [str8, strOfNums, sb, List.map_map]
    congr 1
    apply Array.toList_inj.1
    simp
    rw [List.map_congr_left (g := id)]
    · simp
    · intro x hx; simp

theorem Rb.str {w : World} {a : Option Addr} {cap : Nat} {xs : List Nat} (h : Rb w a cap xs) (hx : xs ≠ []) :
    (convert 23 9 (.slice a xs.length cap)).run Try.prog w = .ok (.string (str8 xs)) w := by
  rcases h.fm with h0 | ⟨b, off, rfl, hb, hc⟩
  · exact absurd h0 hx
  · exact run_convert_bytes_arg (P := Try.prog) w 23 5 Try.underlying23 Try.underlying5 b off xs.length cap (xs.map (fun x : Nat => (x : Int))) (by simp) (fun i hi => by
      rw [hc i hi]; simp [List.getD, hi]) 9 Try.underlying9

/-- The tag at place p: is it there? and its text. -/
def tgB (xs : List Nat) (p : Int) : Bool := inB xs.length p 4 && gd (cutV xs p 4)
def tgV (xs : List Nat) (p : Int) : ByteArray := if tgB xs p then str8 (cutV xs p 4) else ⟨#[]⟩

set_option maxHeartbeats 1000000 in
set_option maxRecDepth 100000 in
theorem tag_any (a : Option Addr) (cap : Nat) (xs : List Nat) (p : Int) (w : World) (h : Rb w a cap xs) (hp : I64 p) (hl : xs.length ≤ 1000000000) :
    Calls Try.prog 60 #[.slice a xs.length cap, .int .i64 p] w fun e w' => e = .returned (.tuple #[.string (tgV xs p), .bool (tgB xs p)]) ∧ Below w.heap.size w w' := by
  have k1 := h.le
  have k2 := h.cap
  unfold maxLen at k2
  by_cases hi : inB xs.length p 4 = true
  · have hi' := hi
    simp [inB] at hi'
    obtain ⟨q1, q2⟩ := hi'
    obtain ⟨q, rfl⟩ : ∃ q : Nat, p = (q : Int) := ⟨p.toNat, by omega⟩
    have hcv : cutV xs q 4 = (xs.drop q).take 4 := cutV_yes hi
    have hcut := h.cut q 4 (by omega)
    have hl4 : ((xs.drop q).take 4).length = 4 := by simp; omega
    have hst := hcut.str (by intro e; rw [e] at hl4; cases hl4)
    have hsz : (str8 ((xs.drop q).take 4)).size = 4 := by rw [size_str8, hl4]
    have hsb := sb_str8 hcut.lim
    rw [hl4] at hst
    have HB : Hid (tgB xs q = gd ((xs.drop q).take 4)) := by show tgB xs q = _; rw [tgB, hi, hcv, Bool.true_and]
    have HT : Hid (tgV xs q = if tgB xs q then str8 ((xs.drop q).take 4) else ⟨#[]⟩) := by show tgV xs q = _; rw [tgV, hcv]
    obtain ⟨ts, hts⟩ : ∃ ts, str8 ((xs.drop q).take 4) = ts := ⟨_, rfl⟩
    rw [hts] at hst hsz hsb
    have HS : Hid (sb ts = (xs.drop q).take 4) := hsb
    have HTS : Hid (str8 ((xs.drop q).take 4) = ts) := hts
    have Hsz : Hid (ts.size = 4) := hsz
    clear hsz hsb hts hl4 hcut hcv
    rcases h.fm with rfl | ⟨b, off, rfl, hb, hc⟩
    · simp at q2; omega
    have hadd : (⟨b, off, none⟩ : Addr).add q = ⟨b, off + q, none⟩ := by unfold Addr.add; split <;> simp_all
    simp only [Option.map_some, hadd] at hst
    clear hc h hadd
    go_enter Try.func60, Try.ntmps60
    go_wp2_with fail
    refine (within_any _ _ _ _ _ _ (by omega) hp ⟨by decide, by decide⟩).mono ?_
    rintro e u ⟨rfl, rfl⟩
    rw [hi]
    clear hi
    go_wp2_with fail
    refine (good_any ts _ (by rw [Hsz.out]; decide)).mono ?_
    rintro e u ⟨rfl, rfl⟩
    rw [HS.out]
    by_cases hg : gd ((xs.drop q).take 4) = true
    · have HG : Hid (gd ((xs.drop q).take 4) = true) := hg
      rw [hg]
      clear hg
      go_wp2
      go_ret2
      exact ⟨rt_two (by rw [HT.out, HB.out, HG.out, HTS.out]; rfl) (by rw [HB.out, HG.out]; rfl), Below.refl _ _⟩
    · have hg : gd ((xs.drop q).take 4) = false := by simpa using hg
      have HG : Hid (gd ((xs.drop q).take 4) = false) := hg
      rw [hg]
      clear hg
      go_wp2
      go_ret2
      exact ⟨rt_two (by rw [HT.out, HB.out, HG.out]; rfl) (by rw [HB.out, HG.out]; rfl), Below.refl _ _⟩
  · have hi : inB xs.length p 4 = false := by simpa using hi
    have HB : Hid (tgB xs p = false) := by show tgB xs p = _; rw [tgB, hi, Bool.false_and]
    have HT : Hid (tgV xs p = ⟨#[]⟩) := by show tgV xs p = _; rw [tgV, HB.out]; rfl
    go_enter Try.func60, Try.ntmps60
    go_wp2_with fail
    refine (within_any _ _ _ _ _ _ (by omega) hp ⟨by decide, by decide⟩).mono ?_
    rintro e u ⟨rfl, rfl⟩
    rw [hi]
    clear hi
    go_wp2
    go_ret2
    exact ⟨rt_two (by rw [HT.out]; rfl) (by rw [HB.out]; rfl), Below.refl _ _⟩

set_option maxHeartbeats 1000000 in
set_option maxRecDepth 100000 in
theorem stag_any (a : Option Addr) (cap : Nat) (xs : List Nat) (p : Int) (w : World) (h : Rb w a cap xs) (hp : I64 p) (hl : xs.length ≤ 1000000000) :
    Calls Try.prog 43 #[.slice a xs.length cap, .int .i64 p] w fun e w' => e = .returned (.tuple #[.string (tgV xs p), .bool (tgB xs p)]) ∧ Below w.heap.size w w' := by
  by_cases hi : inB xs.length p 4 = true
  · have hl4 : (cutV xs p 4).length = 4 := by
      rw [cutV_yes hi]
      simp [inB] at hi
      simp
      omega
    have HB : Hid (tgB xs p = gd (cutV xs p 4)) := by show tgB xs p = _; rw [tgB, hi, Bool.true_and]
    have HT : Hid (tgV xs p = if tgB xs p then str8 (cutV xs p 4) else ⟨#[]⟩) := rfl
    go_enter Try.func43, Try.ntmps43
    go_wp2_with fail
    refine (scut_any _ _ _ _ 4 _ h hp ⟨by decide, by decide⟩ hl).mono ?_
    rintro e u ⟨a', cap', rfl, hR, hb⟩
    rw [hi]
    generalize cutV xs p 4 = zs at *
    have hst := hR.rd.str (by intro e; rw [e] at hl4; cases hl4)
    have hsz : (str8 zs).size = 4 := by rw [size_str8, hl4]
    have hsb := sb_str8 hR.lim
    rw [hl4] at hst ⊢
    obtain ⟨ts, hts⟩ : ∃ ts, str8 zs = ts := ⟨_, rfl⟩
    rw [hts] at hst hsz hsb
    have HS : Hid (sb ts = zs) := hsb
    have HTS : Hid (str8 zs = ts) := hts
    have Hsz : Hid (ts.size = 4) := hsz
    clear hsz hsb hts hl4 hi
    go_wp2_with fail
    refine (sgood_any ts _ (by rw [Hsz.out]; decide)).mono ?_
    rintro e u ⟨rfl, rfl⟩
    rw [HS.out]
    by_cases hg : gd zs = true
    · have HG : Hid (gd zs = true) := hg
      rw [hg]
      clear hg
      go_wp2
      go_ret2
      exact ⟨rt_two (by rw [HT.out, HB.out, HG.out, HTS.out]; rfl) (by rw [HB.out, HG.out]; rfl), hb⟩
    · have hg : gd zs = false := by simpa using hg
      have HG : Hid (gd zs = false) := hg
      rw [hg]
      clear hg
      go_wp2
      go_ret2
      exact ⟨rt_two (by rw [HT.out, HB.out, HG.out]; rfl) (by rw [HB.out, HG.out]; rfl), hb⟩
  · have hi : inB xs.length p 4 = false := by simpa using hi
    have HB : Hid (tgB xs p = false) := by show tgB xs p = _; rw [tgB, hi, Bool.false_and]
    have HT : Hid (tgV xs p = ⟨#[]⟩) := by show tgV xs p = _; rw [tgV, HB.out]; rfl
    go_enter Try.func43, Try.ntmps43
    go_wp2_with fail
    refine (scut_any _ _ _ _ 4 _ h hp ⟨by decide, by decide⟩ hl).mono ?_
    rintro e u ⟨a', cap', rfl, hR, hb⟩
    rw [hi]
    clear hi
    go_wp2
    go_ret2
    exact ⟨rt_two (by rw [HT.out]; rfl) (by rw [HB.out]; rfl), hb⟩

end Go.Proofs.Ytijehnfadpoapaa
