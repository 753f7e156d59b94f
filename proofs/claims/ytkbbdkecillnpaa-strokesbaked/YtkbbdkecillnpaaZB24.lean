/-
  strokes.Formed: the walk.
  Pens: what stays within bounds while they draw (plain mathematics).
  (*strokes.pen).do: the walk, all cases at once.
  foundryref12.Same, of two alike: the walk.
-/
import Derived.Test.YtkbbdkecillnpaaZB18
import Derived.Test.YtkbbdkecillnpaaZB6
import Derived.Test.YtkbbdkecillnpaaZB23
import Derived.Test.YtkbbdkecillnpaaZB8
import Derived.BigQuiet
import Derived.Deep.QuietTactic
import Derived.WalkSmall
import Derived.Outline
namespace Go.Proofs.Ytkbbdkecillnpaa
open Go.RowKit Go.Maps
set_option linter.unusedSimpArgs false
set_option linter.unusedVariables false

set_option maxHeartbeats 4000000 in
set_option maxRecDepth 100000 in
theorem formD_any (S : Nat → Prop) (a : Option Addr) (ca : Nat) (l : List (List Sp)) (ga : Option Addr) (gc : Nat) (ma : Option Addr) (mc : Nat) (s : Sr) (w : World) (hl : Gr SpE.row S w a ca l) (k2 : s.rw.length ≤ 9223372036854775807) :
    Calls Try.prog 15 #[.slice a l.length ca, .agg #[.slice ga s.rg.length gc, .slice ma s.rw.length mc]] w fun e w' => e = .returned (.bool (foD (fiS s) l)) ∧ Below w.heap.size w w' := by
  have kl := hl.lenB
  obtain ⟨W, hW, X1, hbW⟩ : ∃ W, W = w.alloc (.cells #[.slice ga s.rg.length gc, .slice ma s.rw.length mc] 26) ∧ Bk 26 W w.heap.size [.slice ga s.rg.length gc, .slice ma s.rw.length mc] ∧ Below w.heap.size w W := ⟨_, rfl, Bk.new _ _ _, bl1 _⟩
  by_cases hn1 : 20 < l.length
  · have HF : Hid (foD (fiS s) l = false) := foD_no1 hn1
    have g2 : (20 : Int) < (l.length : Int) := by omega
    go_enter Try.func15, Try.ntmps15
    go_upto_region 1 with fail
    rw [← hW]
    clear hW
    go_wp2
    go_ret
    exact ⟨rt_bool HF.out.symm, hbW⟩
  have g2 : ¬ (20 : Int) < (l.length : Int) := by omega
  have HL : Hid (Gr SpE.row S W a ca l) := hl.below hbW
  have HX1 : Hid (Bk 26 W w.heap.size [.slice ga s.rg.length gc, .slice ma s.rw.length mc]) := X1
  have HBW : Hid (Below w.heap.size w W) := hbW
  go_enter Try.func15, Try.ntmps15
  go_upto_region 1 with fail
  rw [← hW]
  clear hW hl X1 hbW
  go_wp2
  clear g2
  go_loopw [14] (fun i wr => ∃ k : Nat, k ≤ l.length ∧ i = .int .i64 k ∧ Hid (∀ j, j < k → drF (fiS s) l.length (l.getD j []) = true) ∧ Below W.heap.size W wr) (fun i _ => l.length - (intOf i).toNat)
  case atStart => exact ⟨0, Nat.zero_le _, rfl, (fun j hj => by omega), Below.refl _ _⟩
  case round =>
    obtain ⟨k, hk, rfl, HOK, hB⟩ := hrel
    have hBw : Below w.heap.size w wr := HBW.out.trans (hB.mono HBW.out.size)
    by_cases hkn : k < l.length
    · obtain ⟨b1, off, a1, c1, ea, hb1, c0, hd, hdl, -⟩ := HL.out.rw hB k hkn
      have HBad : Hid (drF (fiS s) l.length (l.getD k []) = false → foD (fiS s) l = false) := foD_no2 hkn
      obtain ⟨d, hdd⟩ : ∃ d, l.getD k [] = d := ⟨_, rfl⟩
      have HDD : Hid (l.getD k [] = d) := hdd
      rw [hdd] at c0 hd hdl HBad
      subst ea
      clear hdd
      have i1 : (0 : Int) ≤ (k : Int) := by omega
      have i2 : (k : Int) < (l.length : Int) := by omega
      by_cases hd6 : 60 < d.length
      · have g3 : (60 : Int) < (d.length : Int) := by omega
        have HF : Hid (foD (fiS s) l = false) := HBad.out (drF_no1 hd6)
        clear HBad HOK
        go_wp2
        go_ret
        exact ⟨rt_bool HF.out.symm, hBw⟩
      have g3 : ¬ (60 : Int) < (d.length : Int) := by omega
      have HD : Hid (Gr SpE S wr a1 c1 d) := hd
      have HB : Hid (Below W.heap.size W wr) := hB
      obtain ⟨wq, hwq⟩ : ∃ u, u = wr := ⟨_, rfl⟩
      rw [← hwq] at HD HB
      rw [← hwq] at c0 ⊢
      clear hd hB hBw hwq
      go_wp2
      clear c0 g3
      go_loopw [23] (fun i wr => ∃ j : Nat, j ≤ d.length ∧ i = .int .i64 j ∧ Hid (∀ i, i < j → spF (fiS s) l.length (d.getD i Sp.none) = true) ∧ Below wq.heap.size wq wr) (fun i _ => d.length - (intOf i).toNat)
      case atStart => exact ⟨0, Nat.zero_le _, rfl, (fun j hj => by omega), Below.refl _ _⟩
      case round =>
        obtain ⟨j, hj, rfl, HOJ, hC⟩ := hrel
        have hB : Below W.heap.size W wr := HB.out.trans (hC.mono HB.out.size)
        have hBw : Below w.heap.size w wr := HBW.out.trans (hB.mono HBW.out.size)
        by_cases hjn : j < d.length
        · obtain ⟨b2, of2, a2, c2, ea2, hb2, hI, d0, d1, hsl, hsl2⟩ := HD.out.sp hC j hjn
          have HBad2 : Hid (spF (fiS s) l.length (d.getD j Sp.none) = false → foD (fiS s) l = false) := fun h => HBad.out (drF_no2 hjn h)
          obtain ⟨x, hx⟩ : ∃ x, d.getD j Sp.none = x := ⟨_, rfl⟩
          have HXX : Hid (d.getD j Sp.none = x) := hx
          rw [hx] at hI d0 d1 hsl hsl2 HBad2
          subst ea2
          clear hx
          have i3 : (0 : Int) ≤ (j : Int) := by omega
          have i4 : (j : Int) < (d.length : Int) := by omega
          obtain ⟨U, hU, XG, hbU⟩ : ∃ U, U = wr.alloc (.cells #[.int .i64 x.d, .slice a2 x.ar.length c2] 53) ∧ Bk 53 U wr.heap.size [.int .i64 x.d, .slice a2 x.ar.length c2] ∧ Below wr.heap.size wr U := ⟨_, rfl, Bk.new _ _ _, bl1 _⟩
          replace hsl := hsl.below hbU
          replace hC := hC.trans (hbU.mono hC.size)
          replace hB := hB.trans (hbU.mono hB.size)
          replace hBw := hBw.trans (hbU.mono hBw.size)
          obtain ⟨y0, y1, -⟩ := XG.two
          have hX1 := HX1.out.below hB
          obtain ⟨x0, x1, -⟩ := hX1.two
          have hst := stepFits_any S (some ⟨b1, off, none⟩) l.length ca ga gc ma mc s a2 c2 x U kl k2 hI hsl
          go_upto_region 11 with fail
          rw [← hU]
          clear hU d0 d1 hbU
          cases hf3 : spF (fiS s) l.length x with
          | false =>
            rw [hf3] at hst
            have HF : Hid (foD (fiS s) l = false) := HBad2.out hf3
            clear hf3 HBad2 HBad HOJ
            go_wp2_with fail
            refine hst.mono ?_
            rintro e u4 ⟨rfl, hb⟩
            replace hBw := hBw.trans (hb.mono hBw.size)
            clear hst hb
            go_wp2
            go_ret
            exact ⟨rt_bool HF.out.symm, hBw⟩
          | true =>
          rw [hf3] at hst
          have HOJ2 : Hid (∀ i, i < j + 1 → spF (fiS s) l.length (d.getD i Sp.none) = true) := fun i hi => by
            rcases Nat.lt_or_ge i j with h1 | h1
            · exact HOJ.out i h1
            · rw [show i = j by omega, HXX.out, hf3]
          clear hf3 HBad2 HOJ HXX
          go_wp2_with fail
          refine hst.mono ?_
          rintro e u4 ⟨rfl, hb⟩
          replace hC := hC.trans (hb.mono hC.size)
          clear hst hb y0 y1 x0 x1 hX1 XG hBw hB hsl
          go_wp2
          go_roundw
          case rel => exact ⟨j + 1, by omega, by go_num, HOJ2, hC⟩
          case measure => simp [intOf]; omega
        · have g4 : ¬ (j : Int) < (d.length : Int) := by omega
          have HOK2 : Hid (∀ i, i < k + 1 → drF (fiS s) l.length (l.getD i []) = true) := fun i hi => by
            rcases Nat.lt_or_ge i k with h1 | h1
            · exact HOK.out i h1
            · rw [show i = k by omega, HDD.out]
              exact drF_iff.2 ⟨by omega, fun i hi => HOJ.out i (by omega)⟩
          clear HOK HOJ HBad HDD hC hBw
          go_wp2
          go_roundw
          case rel => exact ⟨k + 1, by omega, by go_num, HOK2, hB⟩
          case measure => simp [intOf]; omega
    · have HF : Hid (foD (fiS s) l = true) := foD_iff.2 ⟨by omega, fun j hj => HOK.out j (by omega)⟩
      have g4 : ¬ (k : Int) < (l.length : Int) := by omega
      clear HOK
      go_wp2
      go_ret
      exact ⟨rt_bool HF.out.symm, hBw⟩

end Go.Proofs.Ytkbbdkecillnpaa

namespace Go.Proofs.Ytkbbdkecillnpaa
set_option linter.unusedSimpArgs false
set_option linter.unusedVariables false

/-- Behind n points. -/
def okP (n : Nat) (p : Pe) : Prop := (-(32768 * (n : Int)) ≤ p.x ∧ p.x ≤ 32768 * (n : Int)) ∧ (-(32768 * (n : Int)) ≤ p.y ∧ p.y ≤ 32768 * (n : Int)) ∧ ∀ c ∈ p.out, c.length ≤ n
theorem okP.mono {n m : Nat} {p : Pe} (h : okP n p) (hm : n ≤ m) : okP m p := by
  obtain ⟨⟨h1, h2⟩, ⟨h3, h4⟩, h5⟩ := h
  have : (n : Int) ≤ (m : Int) := by omega
  exact ⟨⟨by omega, by omega⟩, ⟨by omega, by omega⟩, fun c hc => Nat.le_trans (h5 c hc) hm⟩
theorem okP.last {n : Nat} {p : Pe} (h : okP n p) : (p.out.getD (p.out.length - 1) []).length ≤ n := by
  by_cases hk : p.out.length - 1 < p.out.length
  · exact h.2.2 _ (getD_memS hk)
  · rw [List.getD_eq_getElem?_getD, List.getElem?_eq_none (by omega)]
    exact Nat.zero_le _
theorem okP.to {n : Nat} {p : Pe} (h : okP n p) {dx dy : Int} {on : Bool} (hx : -32768 ≤ dx ∧ dx ≤ 32767) (hy : -32768 ≤ dy ∧ dy ≤ 32767) : okP (n + 1) (toP p dx dy on) := by
  have hl := h.last
  obtain ⟨⟨h1, h2⟩, ⟨h3, h4⟩, h5⟩ := h
  refine ⟨⟨?_, ?_⟩, ⟨?_, ?_⟩, fun c hc => ?_⟩
  · show _ ≤ p.x + dx; omega
  · show p.x + dx ≤ _; omega
  · show _ ≤ p.y + dy; omega
  · show p.y + dy ≤ _; omega
  · have hc2 : c ∈ putL p.out ⟨p.x + dx, p.y + dy, on⟩ := hc
    unfold putL at hc2
    rcases List.mem_or_eq_of_mem_set hc2 with h6 | h6
    · exact Nat.le_succ_of_le (h5 c h6)
    · rw [h6, List.length_append, List.length_singleton]
      omega
/-- A pen at rest; a pen whose step has begun. -/
structure OkP (p : Pe) : Prop where
  st : p.st ≤ 400
  ok : okP (3 * p.st) p
  ol : p.out.length ≤ p.st
  er : p.er = 0
structure OkS (p : Pe) : Prop where
  s1 : 1 ≤ p.st
  st : p.st ≤ 400
  ok : okP (3 * (p.st - 1)) p
  ol : p.out.length ≤ p.st - 1
  er : p.er = 0
theorem OkP.new : OkP Pe.new := ⟨by decide, ⟨⟨by decide, by decide⟩, ⟨by decide, by decide⟩, fun c hc => by cases hc⟩, by decide, rfl⟩
theorem OkP.begin {p : Pe} (h : OkP p) (hs : p.st < 400) : OkS { p with st := p.st + 1 } :=
  ⟨Nat.le_add_left _ _, hs, by have := h.ok; exact this, h.ol, h.er⟩
/-- A step, once its numbers are there. -/
def drT (R : Rd18) (l : List (List Sp)) (n : Nat) (sub : List Sp → Pe → Pe) (x : Sp) (p : Pe) : Pe :=
  if x.d = 4 then (if n = 0 then { p with er := 6 } else sub (l.getD ((nuL R x.ar).getD 0 0).toNat []) p)
  else if (goP x.d p).out = [] then { goP x.d p with er := 1 }
  else mvPe x.d (nuL R x.ar) (goP x.d p)
theorem drS_long {R : Rd18} {l : List (List Sp)} {n : Nat} {sub : List Sp → Pe → Pe} {x : Sp} {p : Pe} (h : 400 ≤ p.st) : drS R l n sub x p = { p with er := 3 } := by unfold drS; rw [if_pos h]
theorem drS_err {R : Rd18} {l : List (List Sp)} {n : Nat} {sub : List Sp → Pe → Pe} {x : Sp} {p : Pe} (h : ¬ 400 ≤ p.st) (he : nuE R x.ar ≠ 0) : drS R l n sub x p = { p with st := p.st + 1, er := nuE R x.ar } := by unfold drS; rw [if_neg h, if_pos he]
theorem drS_on {R : Rd18} {l : List (List Sp)} {n : Nat} {sub : List Sp → Pe → Pe} {x : Sp} {p : Pe} (h : ¬ 400 ≤ p.st) (he : nuE R x.ar = 0) : drS R l n sub x p = drT R l n sub x { p with st := p.st + 1 } := by
  unfold drS drT
  rw [if_neg h, if_neg (by rw [he]; exact fun h => h rfl)]
theorem drT_deep {R : Rd18} {l : List (List Sp)} {sub : List Sp → Pe → Pe} {x : Sp} {p : Pe} (h : x.d = 4) : drT R l 0 sub x p = { p with er := 6 } := by unfold drT; rw [if_pos h, if_pos rfl]
theorem drT_sub {R : Rd18} {l : List (List Sp)} {n : Nat} {sub : List Sp → Pe → Pe} {x : Sp} {p : Pe} (h : x.d = 4) (hn : n ≠ 0) : drT R l n sub x p = sub (l.getD ((nuL R x.ar).getD 0 0).toNat []) p := by unfold drT; rw [if_pos h, if_neg hn]
theorem drT_go {R : Rd18} {l : List (List Sp)} {n : Nat} {sub : List Sp → Pe → Pe} {x : Sp} {p : Pe} (h : x.d = 1) : drT R l n sub x p = toP { p with out := p.out ++ [[]] } ((nuL R x.ar).getD 0 0) ((nuL R x.ar).getD 1 0) true := by
  unfold drT goP mvPe
  rw [h, if_neg (by decide), if_pos rfl, if_neg (by simp), if_neg (by decide)]
theorem drT_none {R : Rd18} {l : List (List Sp)} {n : Nat} {sub : List Sp → Pe → Pe} {x : Sp} {p : Pe} (h : x.d = 2 ∨ x.d = 3) (ho : p.out = []) : drT R l n sub x p = { p with er := 1 } := by
  have h1 : ¬ x.d = 4 := by omega
  have h2 : ¬ x.d = 1 := by omega
  unfold drT goP
  rw [if_neg h1, if_neg h2, if_pos ho]
theorem drT_line {R : Rd18} {l : List (List Sp)} {n : Nat} {sub : List Sp → Pe → Pe} {x : Sp} {p : Pe} (h : x.d = 2) (ho : p.out ≠ []) : drT R l n sub x p = toP p ((nuL R x.ar).getD 0 0) ((nuL R x.ar).getD 1 0) true := by
  have e : goP x.d p = p := by unfold goP; rw [h, if_neg (by decide)]
  unfold drT
  rw [e, h, if_neg (by decide), if_neg ho]
  unfold mvPe
  rw [if_neg (by decide)]
theorem drT_curve {R : Rd18} {l : List (List Sp)} {n : Nat} {sub : List Sp → Pe → Pe} {x : Sp} {p : Pe} (h : x.d = 3) (ho : p.out ≠ []) : drT R l n sub x p = toP (toP (toP p ((nuL R x.ar).getD 0 0) ((nuL R x.ar).getD 1 0) false) ((nuL R x.ar).getD 2 0) ((nuL R x.ar).getD 3 0) false) ((nuL R x.ar).getD 4 0) ((nuL R x.ar).getD 5 0) true := by
  have e : goP x.d p = p := by unfold goP; rw [h, if_neg (by decide)]
  unfold drT
  rw [e, h, if_neg (by decide), if_neg ho]
  unfold mvPe
  rw [if_pos rfl]
theorem OkS.go {p : Pe} (h : OkS p) {a b : Int} (ha : -32768 ≤ a ∧ a ≤ 32767) (hb : -32768 ≤ b ∧ b ≤ 32767) : OkP (toP { p with out := p.out ++ [[]] } a b true) := by
  have hs1 := h.s1
  have ho := h.ol
  have h1 : okP (3 * (p.st - 1)) { p with out := p.out ++ [[]] } := ⟨h.ok.1, h.ok.2.1, fun c hc => by
    rcases List.mem_append.1 hc with h2 | h2
    · exact h.ok.2.2 c h2
    · rw [List.mem_singleton.1 h2]; exact Nat.zero_le _⟩
  refine ⟨h.st, (h1.to ha hb).mono (by show _ ≤ 3 * p.st; omega), ?_, h.er⟩
  show (putL (p.out ++ [[]]) _).length ≤ p.st
  rw [putL_len, List.length_append, List.length_singleton]
  omega
theorem OkS.line {p : Pe} (h : OkS p) {a b : Int} (ha : -32768 ≤ a ∧ a ≤ 32767) (hb : -32768 ≤ b ∧ b ≤ 32767) : OkP (toP p a b true) := by
  have hs1 := h.s1
  have ho := h.ol
  refine ⟨h.st, (h.ok.to ha hb).mono (by show _ ≤ 3 * p.st; omega), ?_, h.er⟩
  show (putL p.out _).length ≤ p.st
  rw [putL_len]
  omega
theorem OkS.curve {p : Pe} (h : OkS p) {a b c d e f : Int} (ha : -32768 ≤ a ∧ a ≤ 32767) (hb : -32768 ≤ b ∧ b ≤ 32767) (hc : -32768 ≤ c ∧ c ≤ 32767) (hd : -32768 ≤ d ∧ d ≤ 32767) (he : -32768 ≤ e ∧ e ≤ 32767) (hf : -32768 ≤ f ∧ f ≤ 32767) : OkP (toP (toP (toP p a b false) c d false) e f true) := by
  have hs1 := h.s1
  have ho := h.ol
  refine ⟨h.st, (((h.ok.to ha hb).to hc hd).to he hf).mono (by show _ ≤ 3 * p.st; omega), ?_, h.er⟩
  show (putL (putL (putL p.out _) _) _).length ≤ p.st
  rw [putL_len, putL_len, putL_len]
  omega
/-- What draws within. -/
def sbN (R : Rd18) (l : List (List Sp)) : Nat → List Sp → Pe → Pe
  | 0 => fun _ p => p
  | n + 1 => drN R l n
theorem drN_sb (R : Rd18) (l : List (List Sp)) (n : Nat) (d : List Sp) (p : Pe) : drN R l n d p = drA (drS R l n (sbN R l n)) d p := by cases n <;> rfl

end Go.Proofs.Ytkbbdkecillnpaa

namespace Go.Proofs.Ytkbbdkecillnpaa
open Go.RowKit Go.Maps
set_option linter.unusedSimpArgs false
set_option linter.unusedVariables false

theorem ro_none18 {s : Sr} {x : Int} {cs : List Int} (h : fiS s x (-1) = true) : roN s x (-1) cs = x ∧ roE s x (-1) cs = 0 := by
  have hb := (fiS_iff.1 h).1
  have hr : rwB s (-1) = false := by unfold rwB; simp
  have e : vaQ s x (-1) cs = ((x : Int) : Rat) := by rw [vaQ, chQ_no hr, Rat.add_zero]
  unfold roN roE
  rw [h, if_pos rfl, if_pos rfl, e]
  exact fld_int hb.1 hb.2
theorem F6_nuL (s : Sr) (cs : List Int) (l : List (Int × Int)) : F6 (nuL (RS s cs) l) := by
  intro k _
  by_cases hk : k < l.length
  · have e : (nuL (RS s cs) l).getD k 0 = roN s (l.getD k (0, 0)).1 (l.getD k (0, 0)).2 cs := getD_mapS (fun a : Int × Int => (RS s cs).ro a.1 a.2) (e := (0, 0)) (e' := 0) hk
    rw [e]
    exact roN_in _ _ _ _
  · rw [List.getD_eq_getElem?_getD, List.getElem?_eq_none (by rw [nuL_len]; omega)]
    exact ⟨by decide, by decide⟩
/-- All that a pen reads. -/
structure Cx where
  a : Option Addr
  ca : Nat
  l : List (List Sp)
  ga : Option Addr
  gc : Nat
  ma : Option Addr
  mc : Nat
  s : Sr
  pa : Option Addr
  pc : Nat
  cs : List Int
/-- A pen's block. -/
def PenB (c : Cx) (B : Nat) (w : World) (p : Pe) (N : List Int) (v : Value) : Prop :=
  Bk 83 w B (pC (.slice c.a c.l.length c.ca) (.slice c.ga c.s.rg.length c.gc) (.slice c.ma c.s.rw.length c.mc) (.slice c.pa c.cs.length c.pc) p.x p.y (p.st : Int) N v)
/-- What drawing comes to. -/
structure DrP (c : Cx) (B : Nat) (p : Pe) (e : Ending) (w w' : World) : Prop where
  e : e = .returned (.int .i64 p.er)
  ok : p.er = 0 → OkP p ∧ ∃ N v, PenB c B w' p N v ∧ Co (B + 1) w' v p.out
  be : Below B w w'
def DrawC (c : Cx) (B : Nat) (w0 : World) (n : Nat) : Prop :=
  ∀ (k : Nat) (p : Pe) (N : List Int) (v : Value) (w : World), k < c.l.length → OkP p → PenB c B w p N v → Co (B + 1) w v p.out → Below B w0 w →
    Calls Try.prog 27 #[.pointer (some ⟨B, 0, none⟩), .int .i64 (k : Int), .int .i64 (10 - (n : Int))] w fun e w' => DrP c B (drN (RS c.s c.cs) c.l n (c.l.getD k []) p) e w w'
theorem do_any (c : Cx) (B : Nat) (w0 : World) (n : Nat) (hn : n ≤ 10) (hsub : n ≠ 0 → DrawC c B w0 (n - 1)) (x : Sp) (p : Pe) (v : Value) (xa : Option Addr) (xc : Nat) (w : World) (hx : spF (fiS c.s) c.l.length x = true) (ho : OkS p) (hP : PenB c B w p (nuL (RS c.s c.cs) x.ar) v) (hC : Co (B + 1) w v p.out) (hB : Below B w0 w) :
    Calls Try.prog 38 #[.pointer (some ⟨B, 0, none⟩), .agg #[.int .i64 x.d, .slice xa x.ar.length xc], .int .i64 (10 - (n : Int))] w fun e w' => DrP c B (drT (RS c.s c.cs) c.l n (sbN (RS c.s c.cs) c.l n) x p) e w w' := by
  obtain ⟨s1, s2, s3⟩ := spF_iff.1 hx
  have hN := F6_nuL c.s c.cs x.ar
  have hBl : B < w.heap.size := Bk.lt hP
  have hst := ho.st
  have hs1 := ho.s1
  have hol := ho.ol
  have hlast := ho.ok.last
  have hx1 : -50000000 ≤ p.x := by have := ho.ok.1.1; omega
  have hx2 : p.x ≤ 50000000 := by have := ho.ok.1.2; omega
  have hy1 : -50000000 ≤ p.y := by have := ho.ok.2.1.1; omega
  have hy2 : p.y ≤ 50000000 := by have := ho.ok.2.1.2; omega
  have f0 := hN 0 (by omega)
  have f1 := hN 1 (by omega)
  have f2 := hN 2 (by omega)
  have f3 := hN 3 (by omega)
  have f4 := hN 4 (by omega)
  have f5 := hN 5 (by omega)
  have hd := arD_in x.d
  by_cases h4 : x.d = 4
  · rw [h4]
    have hl1 : x.ar.length = 1 := by rw [h4] at s1; have : arD 4 = 1 := rfl; omega
    rcases Nat.eq_zero_or_pos n with h0 | h0
    · subst h0
      refine (do4_deep B xa x.ar.length xc w (Nat.le_of_lt hBl)).mono ?_
      rintro e w' ⟨rfl, hb⟩
      rw [drT_deep h4]
      exact ⟨rfl, fun h => absurd h (by show ¬ (6 : Int) = 0; decide), hb⟩
    · obtain ⟨t1, t2, t3⟩ := s3 h4
      have t4 := s2 0 (by omega)
      rw [t1] at t4
      have e0 : (nuL (RS c.s c.cs) x.ar).getD 0 0 = (x.ar.getD 0 (0, 0)).1 := by
        have e : (nuL (RS c.s c.cs) x.ar).getD 0 0 = roN c.s (x.ar.getD 0 (0, 0)).1 (x.ar.getD 0 (0, 0)).2 c.cs := getD_mapS (fun a : Int × Int => (RS c.s c.cs).ro a.1 a.2) (e := (0, 0)) (e' := 0) (by omega)
        rw [e, t1]
        exact (ro_none18 t4).1
      obtain ⟨k, hk⟩ : ∃ k : Nat, (x.ar.getD 0 (0, 0)).1 = (k : Int) := ⟨(x.ar.getD 0 (0, 0)).1.toNat, by omega⟩
      obtain ⟨m, rfl⟩ : ∃ m, n = m + 1 := ⟨n - 1, by omega⟩
      have hokp : OkP p := ⟨ho.st, ho.ok.mono (by omega), by omega, ho.er⟩
      have hD := hsub (by omega)
      rw [Nat.add_sub_cancel] at hD
      rw [drT_sub h4 (by omega), e0, hk, Int.toNat_natCast]
      refine do4_any B _ _ _ _ _ _ _ _ v xa x.ar.length xc _ w hP (by omega) (by omega) _ (fun U hU => ?_)
      rw [e0, hk, show (10 : Int) - ((m + 1 : Nat) : Int) + 1 = 10 - (m : Int) by omega]
      refine (hD k p _ v U (by omega) hokp (Bk.below hP hU) (hC.below hU) (hB.trans (hU.mono (Nat.le_of_lt hBl)))).mono ?_
      rintro e w' ⟨rfl, h1, h2⟩
      exact ⟨⟨_, rfl⟩, rfl, h1, (hU.mono (Nat.le_of_lt hBl)).trans h2⟩
  by_cases h1 : x.d = 1
  · have hl1 : x.ar.length = 2 := by rw [h1] at s1; have : arD 1 = 2 := rfl; omega
    rw [h1, hl1, drT_go h1]
    refine (do1_any B _ _ _ _ p.x p.y (p.st : Int) _ v p.out xa xc _ w hP hC hN hx1 hx2 hy1 hy2 (by omega)).mono ?_
    rintro e w' ⟨rfl, ⟨v', g1, g2⟩, hb⟩
    refine ⟨by show _ = Ending.returned (.int .i64 p.er); rw [ho.er], fun _ => ⟨ho.go f0 f1, _, v', g1, g2⟩, hb⟩
  by_cases hout : p.out = []
  · have hd23 : x.d = 2 ∨ x.d = 3 := by omega
    rw [drT_none hd23 hout]
    rw [hout] at hC
    refine (do_none B _ _ _ _ p.x p.y (p.st : Int) _ v x.d xa x.ar.length xc _ w hP hC hd23).mono ?_
    rintro e w' ⟨rfl, hb⟩
    exact ⟨rfl, fun h => absurd h (by show ¬ (1 : Int) = 0; decide), hb⟩
  by_cases h2 : x.d = 2
  · have hl1 : x.ar.length = 2 := by rw [h2] at s1; have : arD 2 = 2 := rfl; omega
    rw [h2, hl1, drT_line h2 hout]
    refine (do2_any B _ _ _ _ p.x p.y (p.st : Int) _ v p.out xa xc _ w hP hC hN hx1 hx2 hy1 hy2 hout (by omega)).mono ?_
    rintro e w' ⟨rfl, ⟨v', g1, g2⟩, hb⟩
    refine ⟨by show _ = Ending.returned (.int .i64 p.er); rw [ho.er], fun _ => ⟨ho.line f0 f1, _, v', g1, g2⟩, hb⟩
  · have h3 : x.d = 3 := by omega
    have hl1 : x.ar.length = 6 := by rw [h3] at s1; have : arD 3 = 6 := rfl; omega
    rw [h3, hl1, drT_curve h3 hout]
    refine (do3_any B _ _ _ _ p.x p.y (p.st : Int) _ v p.out xa xc _ w hP hC hN hx1 hx2 hy1 hy2 hout (by omega)).mono ?_
    rintro e w' ⟨rfl, ⟨v', g1, g2⟩, hb⟩
    refine ⟨by show _ = Ending.returned (.int .i64 p.er); rw [ho.er], fun _ => ⟨ho.curve f0 f1 f2 f3 f4 f5, _, v', g1, g2⟩, hb⟩

end Go.Proofs.Ytkbbdkecillnpaa

namespace Go.Proofs.Ytkbbdkecillnpaa
open Go.RowKit Go.Maps
set_option linter.unusedSimpArgs false
set_option linter.unusedVariables false

theorem Gr.rwAt {α : Type} {E : El α} {S : Nat → Prop} {w : World} {a : Option Addr} {cap : Nat} {m : List (List α)} (h : Gr E.row S w a cap m) (k : Nat) (hk : k < m.length) :
    ∃ b off a' cap', a = some ⟨b, off, none⟩ ∧ b < w.heap.size ∧ (∀ wr, Below w.heap.size w wr → wr.cell? ⟨b, off + k, none⟩ = some (.slice a' (m.getD k []).length cap')) ∧ Gr E S w a' cap' (m.getD k []) := by
  obtain ⟨b, off, a', cap', e, hb, hc, hr, _⟩ := h.rw (Below.refl _ _) k hk
  exact ⟨b, off, a', cap', e, hb, fun wr hB => (hB.cell (p := ⟨b, off + k, none⟩) hb).trans hc, hr⟩

set_option maxHeartbeats 4000000 in
set_option maxRecDepth 100000 in
theorem ssameO_any (S S2 : Nat → Prop) (a : Option Addr) (ca : Nat) (b : Option Addr) (cb : Nat) (a' : Option Addr) (ca' : Nat) (b' : Option Addr) (cb' : Nat) (o : Ol) (w : World) (hg : Gr PnE.row S w a ca o.cs) (hm : Gr PaE S w b cb o.ps) (hg' : Gr PnE.row S2 w a' ca' o.cs) (hm' : Gr PaE S2 w b' cb' o.ps) :
    Calls Try.prog 28 #[.agg #[.slice a o.cs.length ca, .slice b o.ps.length cb], .agg #[.slice a' o.cs.length ca', .slice b' o.ps.length cb']] w fun e w' => e = .returned (.bool true) ∧ Below w.heap.size w w' := by
  have k1 := hg.lenB
  have k2 := hm.lenB
  have g1 : ((o.cs.length : Int) != (o.cs.length : Int)) = false := by simp
  have g2 : ((o.ps.length : Int) != (o.ps.length : Int)) = false := by simp
  obtain ⟨W, hW, X1, X2, hbW⟩ : ∃ W, W = (w.alloc (.cells #[.slice a o.cs.length ca, .slice b o.ps.length cb] 88)).alloc (.cells #[.slice a' o.cs.length ca', .slice b' o.ps.length cb'] 88) ∧
      Bk 88 W w.heap.size [.slice a o.cs.length ca, .slice b o.ps.length cb] ∧ Bk 88 W (w.heap.size + 1) [.slice a' o.cs.length ca', .slice b' o.ps.length cb'] ∧ Below w.heap.size w W := ⟨_, rfl, (Bk.new _ _ _).below (bl1 _), Bk.new1 _ _ _ _, bl2 _ _⟩
  have HA : Hid (Gr PnE.row S W a ca o.cs) := hg.below hbW
  have HB : Hid (Gr PnE.row S2 W a' ca' o.cs) := hg'.below hbW
  have HC : Hid (Gr PaE S W b cb o.ps) := hm.below hbW
  have HD : Hid (Gr PaE S2 W b' cb' o.ps) := hm'.below hbW
  have HX1 : Hid (Bk 88 W w.heap.size [.slice a o.cs.length ca, .slice b o.ps.length cb]) := X1
  have HX2 : Hid (Bk 88 W (w.heap.size + 1) [.slice a' o.cs.length ca', .slice b' o.ps.length cb']) := X2
  have HBW : Hid (Below w.heap.size w W) := hbW
  clear hg hm hg' hm' X1 X2 hbW
  go_enter Try.func28, Try.ntmps28
  go_wp2
  rw [← hW]
  clear hW g1 g2
  go_loopw [5] (fun i wr => ∃ k : Nat, k ≤ o.cs.length ∧ i = .int .i64 k ∧ Below W.heap.size W wr) (fun i _ => o.cs.length - (intOf i).toNat)
  case atStart => exact ⟨0, Nat.zero_le _, rfl, Below.refl _ _⟩
  case round =>
    obtain ⟨k, hk, rfl, hnx⟩ := hrel
    obtain ⟨x0, x1, _⟩ := (HX1.out.below hnx).two
    obtain ⟨y0, y1, _⟩ := (HX2.out.below hnx).two
    by_cases hkn : k < o.cs.length
    · obtain ⟨b1, o1, a1, c1, ea, l1, d1, p1⟩ := HA.out.rwAt k hkn
      obtain ⟨b2, o2, a2, c2, eb, l2, d2, p2⟩ := HB.out.rwAt k hkn
      obtain ⟨l, hl⟩ : ∃ l, o.cs.getD k [] = l := ⟨_, rfl⟩
      rw [hl] at d1 p1 d2 p2
      have e2 := p1.lenB
      have HD1 : Hid (∀ V, Below W.heap.size W V → V.cell? ⟨b1, o1 + k, none⟩ = some (.slice a1 l.length c1) ∧ V.cell? ⟨b2, o2 + k, none⟩ = some (.slice a2 l.length c2)) := fun V hV => ⟨d1 V hV, d2 V hV⟩
      have HP1 : Hid (Gr PnE S W a1 c1 l) := p1
      have HP2 : Hid (Gr PnE S2 W a2 c2 l) := p2
      have hll : ((l.length : Int) != (l.length : Int)) = false := by simp
      obtain ⟨q1, q2⟩ := HD1.out wr hnx
      have i1 : (0 : Int) ≤ (k : Int) := by omega
      have i2 : (k : Int) < (o.cs.length : Int) := by omega
      subst ea eb
      clear hl d1 d2 p1 p2
      go_wp2_with fail
      go_quiet (fail)
      have HNX : Hid (Below W.heap.size W wr) := hnx
      clear q1 q2 hnx x0 x1 y0 y1
      go_wp2
      go_loopw [6] (fun i wr2 => ∃ j : Nat, j ≤ l.length ∧ i = .int .i64 j ∧ Below W.heap.size W wr2) (fun i _ => l.length - (intOf i).toNat)
      case atStart => exact ⟨0, Nat.zero_le _, rfl, below_drewN HNX.out _⟩
      case round =>
        obtain ⟨j, hj, rfl, hny⟩ := hrel
        obtain ⟨q1, q2⟩ := HD1.out wr hny
        obtain ⟨x0, x1, _⟩ := (HX1.out.below hny).two
        obtain ⟨y0, y1, _⟩ := (HX2.out.below hny).two
        by_cases hjn : j < l.length
        · obtain ⟨b3, o3, ec, _, _, c0, c1', c2'⟩ := HP1.out.pn hny j hjn
          obtain ⟨b4, o4, ed, _, _, d0, d1, d2⟩ := HP2.out.pn hny j hjn
          generalize l.getD j Pn.none = t at *
          obtain ⟨x, y, z⟩ := t
          dsimp only at c0 c1' c2' d0 d1 d2
          subst ec ed
          have i3 : (0 : Int) ≤ (j : Int) := by omega
          have i4 : (j : Int) < (l.length : Int) := by omega
          go_wp2_with fail
          go_quiet (fail)
          go_wp2
          go_roundw
          case rel => exact ⟨j + 1, by omega, by go_num, below_drewN hny _⟩
          case measure => simp [intOf]; omega
        · have g1 : ¬ (j : Int) < (l.length : Int) := by omega
          go_wp2
          go_roundw
          case rel => exact ⟨k + 1, by omega, by go_num, hny⟩
          case measure => simp [intOf]; omega
    · have g1 : ¬ (k : Int) < (o.cs.length : Int) := by omega
      go_wp2
      clear x0 x1 y0 y1 hkn hk g1
      go_loopw [7] (fun i wr => ∃ k : Nat, k ≤ o.ps.length ∧ i = .int .i64 k ∧ Below W.heap.size W wr) (fun i _ => o.ps.length - (intOf i).toNat)
      case atStart => exact ⟨0, Nat.zero_le _, rfl, hnx⟩
      case round =>
        clear hnx
        obtain ⟨k, hk, rfl, hnx⟩ := hrel
        obtain ⟨x0, x1, _⟩ := (HX1.out.below hnx).two
        obtain ⟨y0, y1, _⟩ := (HX2.out.below hnx).two
        by_cases hkn : k < o.ps.length
        · obtain ⟨b3, o3, ec, _, _, c0, c1', c2'⟩ := HC.out.pa hnx k hkn
          obtain ⟨b4, o4, ed, _, _, d0, d1, d2⟩ := HD.out.pa hnx k hkn
          generalize o.ps.getD k Pa.none = t at *
          obtain ⟨x, y, z⟩ := t
          dsimp only at c0 c1' c2' d0 d1 d2
          subst ec ed
          have i3 : (0 : Int) ≤ (k : Int) := by omega
          have i4 : (k : Int) < (o.ps.length : Int) := by omega
          go_wp2_with fail
          go_quiet (fail)
          go_wp2
          go_roundw
          case rel => exact ⟨k + 1, by omega, by go_num, below_drewN hnx _⟩
          case measure => simp [intOf]; omega
        · have g1 : ¬ (k : Int) < (o.ps.length : Int) := by omega
          have hbW := HBW.out.trans (hnx.mono HBW.out.size)
          go_wp2
          go_ret
          exact ⟨rfl, hbW⟩

end Go.Proofs.Ytkbbdkecillnpaa
