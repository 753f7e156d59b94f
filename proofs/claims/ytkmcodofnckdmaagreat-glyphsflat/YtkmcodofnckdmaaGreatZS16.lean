/-
  infer.Fill: the walk.
  Rows of the call's own, side by side.
  infer.Count, infer.rising, infer.laidOut, infer.wholes, infer.numbersOf: the walks.
  glyphs.isGlyph, pointsOf, newSurvey: the walks.
  Glyphs: a glyph more, of one part; chains and rings (plain mathematics).
  Glyphs: depths and sizes round by round, part by part (plain mathematics).
-/
import Derived.Test.YtkmcodofnckdmaaGreatZS15
import Derived.Test.YtkmcodofnckdmaaGreatZS13
import Derived.Test.YtkmcodofnckdmaaGreatZS10
import Derived.Test.YtkmcodofnckdmaaGreatZS11
import Derived.Test.YtkmcodofnckdmaaGreatZS14
import Derived.Lib.MinMax
set_option maxHeartbeats 2000000
set_option maxRecDepth 100000
set_option linter.unusedSimpArgs false
set_option linter.unusedVariables false
namespace Go.Proofs.YtkmcodofnckdmaaGreat
open Go.RowKit Go.Maps
theorem Fr.cells3' {w : World} {v : Value} {k : Nat} {q : Rat} (h : Fr w v k q) : ∃ n a l c a' l' c', v = .agg #[.bool n, .slice a l c, .slice a' l' c'] := by
 obtain ⟨n, xs, ys, ⟨a, c, a', c', rfl, h1, h2⟩, h3⟩ := h
 exact ⟨_, _, _, _, _, _, _, rfl⟩
theorem rg_succ {α : Type} (f : Nat → α) (k : Nat) : (List.range (k + 1)).map f = (List.range k).map f ++ [f k] := by rw [List.range_succ, List.map_append]; rfl
theorem cfill_any (a : Option Addr) (ca : Nat) (ns : List Int) (ta : Option Addr) (tc : Nat) (ts : List Bool) (da : Option Addr) (dc : Nat) (cs : List Int) (w : World) (hn : Ri w a ca ns) (ht : Rl w ta tc ts) (hc : Ri w da dc cs) :
    Calls Tryz.prog 267 #[.slice a ns.length ca, .slice ta ts.length tc, .slice da cs.length dc] w fun e w' => ∃ a' c', e = .returned (.slice a' (fillQ ns ts cs).length c') ∧ Rf w' a' c' 7 (fillQ ns ts cs) ∧ Below w.heap.size w w' := by
 have b1 := hn.lenB
 have b2 := ht.lenB
 have b3 := hc.lenB
 cases hF : fitB ns ts cs with
 | false =>
  rw [fillQ_no hF]
  by_cases l1 : ts.length = ns.length
  · by_cases l2 : cs.length = ns.length
    · by_cases l3 : ns.length ≤ 80
      · have hf1 := ifields_any a ca ns w hn
        have hf2 := ifields_any da dc cs w hc
        cases hq : ns.all fdB with
        | false =>
         rw [hq] at hf1
         rw [l1, l2] at *
         generalize ns.length = n at *
         clear hF hq hn ht hc l1 l2 hf2
         have g1 : ¬ (n : Int) > 80 := by omega
         go_enter Tryz.func267, Tryz.ntmps267
         go_wp2_with fail
         refine hf1.mono ?_
         rintro e u0 ⟨rfl, rfl⟩; go_wp2
         go_ret
         exact ⟨none, 0, rfl, Rf.nil _ _, Below.refl _ _⟩
        | true =>
         have hq2 : cs.all fdB = false := by
          cases h9 : cs.all fdB with
          | false => rfl
          | true => rw [fitB, hq, h9, decide_eq_true ⟨l1, l2, l3⟩] at hF; cases hF
         rw [hq] at hf1; rw [hq2] at hf2
         rw [l1, l2] at *
         generalize ns.length = n at *
         clear hF hq hq2 hn ht hc l1 l2
         have g1 : ¬ (n : Int) > 80 := by omega
         go_enter Tryz.func267, Tryz.ntmps267
         go_wp2_with fail
         refine hf1.mono ?_
         rintro e u0 ⟨rfl, rfl⟩
         go_wp2_with fail
         refine hf2.mono ?_
         rintro e u0 ⟨rfl, rfl⟩; go_wp2
         go_ret
         exact ⟨none, 0, rfl, Rf.nil _ _, Below.refl _ _⟩
      · rw [l1, l2] at *
        generalize ns.length = n at *
        have g1 : (n : Int) > 80 := by omega
        clear hF hn ht hc l1 l2
        go_enter Tryz.func267, Tryz.ntmps267
        go_wp2
        go_ret
        exact ⟨none, 0, rfl, Rf.nil _ _, Below.refl _ _⟩
    · rw [l1]
      generalize ns.length = n at *
      generalize cs.length = m at *
      have g1 : ¬ ((m : Int) = (n : Int)) := by omega
      clear hF hn ht hc l1
      go_enter Tryz.func267, Tryz.ntmps267
      go_wp2
      go_ret
      exact ⟨none, 0, rfl, Rf.nil _ _, Below.refl _ _⟩
  · generalize ns.length = n at *
    generalize ts.length = m at *
    generalize cs.length = m2 at *
    have g1 : ¬ ((m : Int) = (n : Int)) := by omega
    clear hF hn ht hc
    go_enter Tryz.func267, Tryz.ntmps267
    go_wp2
    go_ret
    exact ⟨none, 0, rfl, Rf.nil _ _, Below.refl _ _⟩
 | true =>
  obtain ⟨⟨l1, l2, l3⟩, f1, f2⟩ := fitB_iff.1 hF
  have hf1 := ifields_any a ca ns w hn
  have hf2 := ifields_any da dc cs w hc
  rw [show ns.all fdB = true from List.all_eq_true.2 (fun z hz => fdB_iff.2 (f1 z hz))] at hf1
  rw [show cs.all fdB = true from List.all_eq_true.2 (fun z hz => fdB_iff.2 (f2 z hz))] at hf2
  have HR : Hid (fillQ ns ts cs = (List.range ns.length).map (fiQ ns ts cs)) := fillQ_yes hF
  have hch := fun U (h1 : Ri U a ca ns) (h2 : Rl U ta tc ts) (h3 : Ri U da dc cs) i hi => changeAt_any i a ca ns ta tc ts da dc cs U h1 h2 h3 hF hi
  have HFL : Hid ((fillQ ns ts cs).length = ns.length) := fillQ_len hF
  rw [HFL.out]
  rw [l1, l2] at *
  obtain ⟨n, hnn⟩ : ∃ n, ns.length = n := ⟨_, rfl⟩
  have HN : Hid (Ri w a ca ns) := hn
  have HT : Hid (Rl w ta tc ts) := ht
  have HC : Hid (Ri w da dc cs) := hc
  rw [hnn] at HR HFL hf1 hf2 hch b1 l3 ⊢; clear b2 b3
  have HL : Hid (ns.length = n) := hnn
  have HCH : Hid (∀ U, Ri U a ca ns → Rl U ta tc ts → Ri U da dc cs → ∀ i : Nat, i < n → Calls Tryz.prog 278 #[.int .i64 (i : Int), .slice a n ca, .slice ta n tc, .slice da n dc] U fun e w' => ∃ v', e = .returned v' ∧ Fr w' v' 7 (fiQ ns ts cs i) ∧ Below U.heap.size U w') := hch
  clear hF f1 f2 hn ht hc l1 l2 hnn hch
  have g1 : ¬ (n : Int) > 80 := by omega
  obtain ⟨i0, hi0, hz0, hz1, hz2⟩ := info_parts info_rt
  have hmk := run_make (P := Tryz.prog) w 173 125 i0 rtZ Tryz.underlying173 hi0 hz0 .i64 .i64 0 (n : Int) (by omega) (by omega) (by rw [hz2]; omega) (by omega)
  rw [hz1] at hmk
  simp only [Int.toNat_zero, Int.toNat_natCast] at hmk
  obtain ⟨w1, hw1⟩ : ∃ w1, w.alloc (.cells (madeCells rtZ.cells (n * 3)) 125) = w1 := ⟨_, rfl⟩
  have hI0 : Ro 125 w.heap.size w1 (.slice (some ⟨w.heap.size, 0, none⟩) 0 n) 7 ((List.range 0).map (fiQ ns ts cs)) := by
   refine ⟨[], ?_, fun g hg => ?_, fun i hi => by simp at hi⟩
   · rw [← hw1]
     have := World.ownsRow_made (base := w.heap.size) (e := 125) (size := 3) w (madeCells rtZ.cells (n * 3)) n (Nat.le_refl _) (by unfold maxLen; omega) (size_madeCells _ _)
     simpa using this
   · simp [Value.ownBlock] at hg
     subst hg; rw [← hw1]
     exact NoI.of (heap_alloc_new w _) (rtZ_made _)
  have hB1u : Below w.heap.size w w1 := by rw [← hw1]; exact bl1 _
  rw [hw1] at hmk; clear hw1 hi0 hz0 hz1 hz2
  go_enter Tryz.func267, Tryz.ntmps267
  go_wp2_with fail
  refine hf1.mono ?_
  rintro e u0 ⟨rfl, rfl⟩
  go_wp2_with fail
  refine hf2.mono ?_
  rintro e u0 ⟨rfl, rfl⟩; clear hf1 hf2; go_wp2
  go_loopw [8, 37] (fun v i wr => ∃ k : Nat, k ≤ n ∧ i = .int .i64 k ∧ Ro 125 w.heap.size wr v 7 ((List.range k).map (fiQ ns ts cs)) ∧ Below w.heap.size w wr) (fun _ i _ => n - (intOf i).toNat)
  case atStart => exact ⟨0, Nat.zero_le _, rfl, hI0, hB1u⟩
  case round =>
   obtain ⟨k, hk, rfl, hT, hB⟩ := hrel; obtain ⟨a2, c2, rfl, hts⟩ := hT.rf
   have hlen : ((List.range k).map (fiQ ns ts cs)).length = k := by simp
   rw [hlen] at hT ⊢
   have HT2 : Hid (Ro 125 w.heap.size wr (.slice a2 k c2) 7 ((List.range k).map (fiQ ns ts cs))) := hT
   have HTS : Hid (Rf wr a2 c2 7 ((List.range k).map (fiQ ns ts cs))) := hts
   clear hT hts hmk hI0 hB1u
   have hsz := hB.size
   by_cases hkn : k < n
   · have hc1 := HCH.out wr (HN.out.below hB) (HT.out.below hB) (HC.out.below hB) k hkn
     have HS : Hid (_) := rg_succ (fiQ ns ts cs) k
     go_wp2_with fail
     refine hc1.mono ?_
     rintro e u1 ⟨v1, rfl, hF1, hb1⟩; obtain ⟨z1, x1, x2, x3, x4, x5, x6, rfl⟩ := hF1.cells3'
     obtain ⟨V, hV, B4, hb4⟩ : ∃ V, V = u1.alloc (.cells #[.bool z1, .slice x1 x2 x3, .slice x4 x5 x6] 125) ∧ Box 125 V u1.heap.size (.bool z1) (.slice x1 x2 x3) (.slice x4 x5 x6) ∧ Below u1.heap.size u1 V := ⟨_, rfl, Box.new _ _ _ _ _, bl1 _⟩
     have hbv : Below wr.heap.size wr V := hb1.trans (hb4.mono hb1.size)
     obtain ⟨r0, r1, r2, _⟩ := B4.cells
     have hone := Rz.one B4.lt r0 r1 r2 (hF1.below hb4)
     have hown := HT2.out.below hbv
     have hll : ((List.range k).map (fiQ ns ts cs)).length + [fiQ ns ts cs k].length ≤ 1000000 := by rw [hlen]; simp; omega
     have hbs : w.heap.size ≤ V.heap.size := Nat.le_trans hsz hbv.size
     have hBV : Below w.heap.size w V := hB.trans (hbv.mono hsz)
     have hloV : ∀ g, (Value.slice a2 k c2).ownBlock = some g → w.heap.size ≤ g := fun g hg => (HT2.out.lo hg).1
     clear hc1 hF1 hb1 hb4 hbv B4 r0 r1 r2
     go_wp2_with (at_builtin; rw [← hV]; refine wpList_append_rts 173 125 Tryz.underlying173 info_rt rfl _ _ rfl w.heap.size (.slice a2 k c2) 7 _ _ rfl hown _ 1 1 rfl rfl hone (fun e => by cases e) (fun ad e => by cases e; exact ⟨_, _, rfl⟩) hll hbs ?_)
     intro v9 w9 hT9 hgrow _
     rw [← hV] at hgrow
     have hB9 : Below w.heap.size w w9 := hBV.grown hgrow hbs hloV
     rw [← HS.out] at hT9; clear hgrow hbs hll HS hone hown hV; go_wp2
     go_roundw
     case rel => exact ⟨k + 1, by omega, by go_num, hT9, hB9⟩
     case measure => simp [intOf]; omega
   · obtain rfl : k = n := by omega
     have g4 : ¬ (k : Int) < (k : Int) := by omega
     go_wp2
     go_ret
     exact ⟨a2, c2, rfl, by rw [HR.out]; exact HTS.out, hB⟩
def nilV : Value := .slice none 0 0
def Fam {α : Type} (E : El α) (t : TypeId) (base : Nat) (w : World) (vs : List Value) (ls : List (List α)) : Prop :=
 vs.length = ls.length ∧ (∀ i, i < vs.length → Gw E t base (fun _ => False) w (vs.getD i nilV) (ls.getD i [])) ∧
  ∀ i j g, i < vs.length → j < vs.length → i ≠ j → (vs.getD i nilV).ownBlock = some g → (vs.getD j nilV).ownBlock ≠ some g
theorem Fam.row {α : Type} {E : El α} {t : TypeId} {base : Nat} {w : World} {vs : List Value} {ls : List (List α)} (h : Fam E t base w vs ls) (k : Nat) (hk : k < vs.length) : Gw E t base (fun _ => False) w (vs.getD k nilV) (ls.getD k []) := h.2.1 k hk
theorem Fam.below {α : Type} {E : El α} {t : TypeId} {base : Nat} {w w' : World} {vs : List Value} {ls : List (List α)} (h : Fam E t base w vs ls) (hb : Below w.heap.size w w') : Fam E t base w' vs ls := ⟨h.1, fun i hi => (h.2.1 i hi).below hb, h.2.2⟩
theorem Fam.grow {α : Type} {E : El α} {t : TypeId} {base : Nat} {w w' : World} {vs : List Value} {ls : List (List α)} (h : Fam E t base w vs ls) (k : Nat) (hk : k < vs.length) {v' : Value} {l' : List α} (h1 : Gw E t base (fun _ => False) w' v' l') (hg : w.grownBy w' (vs.getD k nilV).ownBlock) (ho : v'.ownBlock = (vs.getD k nilV).ownBlock ∨ v'.ownBlock = some w.heap.size) : Fam E t base w' (vs.set k v') (ls.set k l') := by
 have e1 : ∀ i, i ≠ k → (vs.set k v').getD i nilV = vs.getD i nilV := fun i hi => by simp [List.getD, List.getElem?_set_ne (fun e => hi e.symm)]
 have e2 : (vs.set k v').getD k nilV = v' := by simp [List.getD, hk]
 have e3 : ∀ i, i ≠ k → (ls.set k l').getD i [] = ls.getD i [] := fun i hi => by simp [List.getD, List.getElem?_set_ne (fun e => hi e.symm)]
 have e4 : (ls.set k l').getD k [] = l' := by have := h.1; simp [List.getD, show k < ls.length by omega]
 have hlt : ∀ i g, i < vs.length → (vs.getD i nilV).ownBlock = some g → g < w.heap.size := fun i g hi e => ((h.2.1 i hi).lo e).2
 have hnew : ∀ j g, j < vs.length → j ≠ k → (vs.getD j nilV).ownBlock = some g → v'.ownBlock ≠ some g := fun j g hj hjk e e5 => by
  rcases ho with ho | ho
  · rw [ho] at e5
    exact h.2.2 j k g hj hk hjk e e5
  · rw [ho] at e5
    injection e5 with e5
    have := hlt j g hj e
    omega
 refine ⟨by rw [List.length_set, List.length_set]; exact h.1, fun i hi => ?_, fun i j g hi hj hij e => ?_⟩
 · rw [List.length_set] at hi
   by_cases hik : i = k
   · subst hik
     rw [e2, e4]
     exact h1
   · rw [e1 i hik, e3 i hik]
     exact (h.2.1 i hi).stay hg.size (fun k hk => hk.elim) (fun g eg => hg.block g (hlt i g hi eg) (fun e => h.2.2 i k g hi hk hik eg e.symm))
 · rw [List.length_set] at hi hj
   by_cases hik : i = k
   · subst hik
     rw [e2] at e
     rw [e1 j (fun x => hij x.symm)]
     intro e5
     exact hnew j g hj (fun x => hij x.symm) e5 e
   · rw [e1 i hik] at e
     by_cases hjk : j = k
     · subst hjk
       rw [e2]
       exact hnew i g hi hik e
     · rw [e1 j hjk]
       exact h.2.2 i j g hi hj hij e
theorem Fam.two {α : Type} (E : El α) (t : TypeId) (base : Nat) (w : World) : Fam E t base w [nilV, nilV] [[], []] :=
 ⟨rfl, fun i hi => by
  have : i = 0 ∨ i = 1 := by simp at hi; omega
  rcases this with rfl | rfl <;> exact Gw.nil _ _ _ _ _, fun i j g hi hj hij e => by
  have : i = 0 ∨ i = 1 := by simp at hi; omega
  rcases this with rfl | rfl <;> cases e⟩
theorem infoA_bool : (Tryz.prog.info? 4).map (fun i => (i.zero, i.size, i.bytes)) = some (some (.bool false), 1, 1) := by kernel_rfl
theorem Gw.mk1 {α : Type} {E : El α} {t : TypeId} (w : World) (n : Nat) (z : α) (zc : Value) (hsz : E.sz = 1) (hd : E.dfl = z) (hrep : ∀ S w, E.rep S w [zc] z) (hn : n ≤ 1000000) : Gw E t w.heap.size (fun _ => False) (w.alloc (.cells (madeCells #[zc] n) t)) (.slice (some ⟨w.heap.size, 0, none⟩) n n) (List.replicate n z) := by
 have hm : (madeCells #[zc] n).toList = List.replicate n zc := by
  refine List.ext_getElem (by simp [madeCells]) (fun i h1 h2 => ?_)
  simp [madeCells, Nat.mod_one]
 have hfl : (List.replicate n [zc]).flatten = List.replicate n zc := by
  clear hm
  induction n with
  | zero => rfl
  | succ n ih => rw [List.replicate_succ, List.flatten_cons, ih (by omega), List.replicate_succ]; rfl
 refine ⟨List.replicate n [zc], by simp, ⟨?_, .inr ⟨w.heap.size, n, madeCells #[zc] n, by rw [List.length_replicate], Nat.le_refl _, heap_alloc_new w _, by simp, by unfold maxLen; omega, ?_, ?_⟩⟩, fun i hi => ?_⟩
 · rw [hfl, List.length_replicate, List.length_replicate, hsz, Nat.mul_one]
 · rw [hsz, Nat.mul_one, size_madeCells]
 · rw [hfl, hm, List.length_replicate, hsz, Nat.mul_one]
   simp
 · rw [List.length_replicate] at hi
   have e1 : (List.replicate n [zc]).getD i [] = [zc] := by simp [List.getD, hi]
   have e2 : (List.replicate n z).getD i E.dfl = z := by simp [List.getD, hi]
   rw [e1, e2]
   exact hrep _ _
theorem ccount_any (S : Nat → Prop) (a : Option Addr) (ca : Nat) (b : Option Addr) (cb : Nat) (o : Ol) (w : World) (hc : Gr PnE.row S w a ca o.cs) (hp : Gr PaE S w b cb o.ps) (hl : o.cs.flatten.length ≤ 100000) (hl2 : o.ps.length ≤ 100000) :
    Calls Tryz.prog 102 #[.agg #[.slice a o.cs.length ca, .slice b o.ps.length cb]] w fun e w' => e = .returned (.int .i64 (cntO o : Int)) ∧ Below w.heap.size w w' := by
 have k2 := hc.lenB
 obtain ⟨W, hW, X1, hbW⟩ : ∃ W, W = w.alloc (.cells #[.slice a o.cs.length ca, .slice b o.ps.length cb] 57) ∧ Bk 57 W w.heap.size [.slice a o.cs.length ca, .slice b o.ps.length cb] ∧ Below w.heap.size w W := ⟨_, rfl, Bk.new _ _ _, bl1 _⟩
 obtain ⟨x0, x1, _⟩ := X1.two
 have HH : Hid (Gr PnE.row S W a ca o.cs) := hc.below hbW
 have HC : Hid (cntO o = o.ps.length + ofC o.cs o.cs.length) := by show _ = _; rw [ofC_all]; rfl
 clear hc hp X1; obtain ⟨cs, ps⟩ := o
 dsimp only at *
 go_enter Tryz.func102, Tryz.ntmps102
 go_upto_region 1 with fail
 rw [← hW]; clear hW; go_wp2; clear x0 x1
 go_loopw [3, 12] (fun c i wr => ∃ k : Nat, k ≤ cs.length ∧ i = .int .i64 k ∧ c = .int .i64 ((ps.length + ofC cs k : Nat) : Int) ∧ W = wr) (fun _ i _ => cs.length - (intOf i).toNat)
 case atStart => exact ⟨0, Nat.zero_le _, rfl, rfl, rfl⟩
 case round =>
  obtain ⟨k, hk, rfl, rfl, rfl⟩ := hrel
  by_cases hkn : k < cs.length
  · obtain ⟨b0, off, a1, c1, ea, hb, d0, hrow, hlb, _⟩ := HH.out.rw (Below.refl _ _) k hkn
    subst ea
    have hst := ofC_succ hkn
    have hle := ofC_le cs (k + 1)
    obtain ⟨m, hm⟩ : ∃ m, (cs.getD k []).length = m := ⟨_, rfl⟩
    rw [hm] at d0 hst
    obtain ⟨x, hx⟩ : ∃ x, ofC cs k = x := ⟨_, rfl⟩
    obtain ⟨y, hy⟩ : ∃ x, ofC cs (k + 1) = x := ⟨_, rfl⟩
    have HY : Hid (ofC cs (k + 1) = y) := hy
    rw [hx, hy] at hst; rw [hy] at hle; rw [hx]
    have i1 : (0 : Int) ≤ (k : Int) := by omega
    have i2 : (k : Int) < (cs.length : Int) := by omega
    have hs : ((ps.length + x : Nat) : Int) + (m : Int) = ((ps.length + y : Nat) : Int) := by omega
    clear hm hx hy hrow hlb; go_wp2
    go_roundw
    case rel => exact ⟨k + 1, by omega, by go_num, by rw [HY.out]; exact congrArg (Value.int .i64) (by omega), trivial⟩
    case measure => simp [intOf]; omega
  · obtain rfl : k = cs.length := by omega
    have g4 : ¬ (cs.length : Int) < (cs.length : Int) := by omega
    rw [← HC.out]; go_wp2
    go_ret
    exact ⟨rfl, hbW⟩
theorem rising_any (a : Option Addr) (ca : Nat) (pts : List Int) (n : Nat) (w : World) (h : Ri w a ca pts) (hn : n ≤ 1000000) :
    Calls Tryz.prog 226 #[.slice a pts.length ca, .int .i64 (n : Int)] w fun e w' => e = .returned (.bool (risB pts n)) ∧ w = w' := by
 have k2 := h.lenB
 have HH : Hid (Ri w a ca pts) := h
 clear h
 go_enter Tryz.func226, Tryz.ntmps226
 go_wp2
 go_loopw [5, 10] (fun l i wr => ∃ k : Nat, k ≤ pts.length ∧ i = .int .i64 k ∧ l = .int .i64 (lastI pts k) ∧ (∀ j, j < k → risP pts n j) ∧ w = wr) (fun _ i _ => pts.length - (intOf i).toNat)
 case atStart => exact ⟨0, Nat.zero_le _, rfl, rfl, (fun j hj => by omega), rfl⟩
 case round =>
  obtain ⟨k, hk, rfl, rfl, hok, rfl⟩ := hrel
  have HOK : Hid (∀ j, j < k → risP pts n j) := hok
  clear hok
  by_cases hkn : k < pts.length
  · obtain ⟨b, off, ea, hb, d0⟩ := HH.out.at (Below.refl _ _) k hkn
    have hzi := HH.out.i64 hkn
    subst ea
    have HL : Hid (lastI pts (k + 1) = pts.getD k 0) := by show _ = _; unfold lastI; rw [if_neg (by omega), Nat.add_sub_cancel]
    obtain ⟨z, hzz⟩ : ∃ z, pts.getD k 0 = z := ⟨_, rfl⟩
    obtain ⟨l, hll⟩ : ∃ z, lastI pts k = z := ⟨_, rfl⟩
    have HP : Hid (risP pts n k ↔ l < z ∧ z < (n : Int)) := by show _ ↔ _; unfold risP; rw [hzz, hll]
    rw [hzz] at d0 HL hzi; rw [hll]
    have i1 : (0 : Int) ≤ (k : Int) := by omega
    have i2 : (k : Int) < (pts.length : Int) := by omega
    clear hzz hll
    by_cases h1 : l < z
    · have g1 : ¬ z ≤ l := by omega
      have g1b : decide (z ≤ l) = false := decide_eq_false g1
      by_cases h2 : z < (n : Int)
      · have g2 : decide (z ≥ (n : Int)) = false := decide_eq_false (by omega)
        have HOK2 : Hid (∀ j, j < k + 1 → risP pts n j) := upto_succ HOK.out (HP.out.2 ⟨h1, h2⟩)
        clear HOK HP; go_wp2
        go_roundw
        case rel => exact ⟨k + 1, by omega, by go_num, by rw [HL.out], HOK2.out, trivial⟩
        case measure => simp [intOf]; omega
      · have g2 : decide (z ≥ (n : Int)) = true := decide_eq_true (by omega)
        have HF : Hid (risB pts n = false) := risB_no hkn (fun h => h2 (HP.out.1 h).2)
        clear HOK HP; go_wp2
        go_ret
        exact ⟨rt_bool HF.out.symm, rfl⟩
    · have g1 : z ≤ l := by omega
      have g1b : decide (z ≤ l) = true := decide_eq_true g1
      have HF : Hid (risB pts n = false) := risB_no hkn (fun h => h1 (HP.out.1 h).1)
      clear HOK HP; go_wp2
      go_ret
      exact ⟨rt_bool HF.out.symm, rfl⟩
  · obtain rfl : k = pts.length := by omega
    have HF : Hid (risB pts n = true) := risB_yes HOK.out
    have g1 : ¬ (pts.length : Int) < (pts.length : Int) := by omega
    clear HOK; go_wp2
    go_ret
    exact ⟨rt_bool HF.out.symm, rfl⟩
theorem laidOut_any (a : Option Addr) (ca : Nat) (pts : List Int) (b : Option Addr) (cb : Nat) (told : List Int) (n : Nat) (w : World) (h : Ri w a ca pts) (h2 : Ri w b cb told) (hl : told.length = pts.length) (hr : risB pts n = true) (hn : n ≤ 1000) :
    Calls Tryz.prog 228 #[.slice a pts.length ca, .slice b told.length cb, .int .i64 (n : Int)] w fun e w' => ∃ a' c', e = .returned (.slice a' (layI pts told n pts.length).length c') ∧ Ri w' a' c' (layI pts told n pts.length) ∧ Below w.heap.size w w' := by
 have k2 := h.lenB
 have HH : Hid (Ri w a ca pts) := h
 have H2 : Hid (Ri w b cb told) := h2
 have HR : Hid (∀ k, k < pts.length → risP pts n k) := risB_iff.1 hr
 have HL : Hid (told.length = pts.length) := hl
 rw [hl]; clear h h2 hr hl
 obtain ⟨i0, hi0, hz0, hz1, hz2⟩ := info_parts infoA_i64
 have hmk := run_make (P := Tryz.prog) w 29 3 i0 (.int .i64 0) Tryz.underlying29 hi0 hz0 .i64 .i64 (n : Int) (n : Int) (by omega) (by omega) (by rw [hz2]; omega) (by omega)
 rw [hz1] at hmk
 simp only [Int.toNat_natCast, Nat.mul_one] at hmk
 have hI0 : Gw El.int 3 w.heap.size (fun _ => False) (w.alloc (.cells (madeCells #[.int .i64 0] n) 3)) (.slice (some ⟨w.heap.size, 0, none⟩) n n) (layI pts told n 0) := Gw.mk1 w n 0 (.int .i64 0) rfl rfl (fun S w => ⟨rfl, by decide, by decide⟩) (by omega)
 have hB0 : Below w.heap.size w (w.alloc (.cells (madeCells #[.int .i64 0] n) 3)) := bl1 _
 replace hmk : (Instr.makeSlice 29 (.int .i64 (n : Int)) (.int .i64 (n : Int))).run Tryz.prog w = .ok (.slice (some ⟨w.heap.size, 0, none⟩) n n) (w.alloc (.cells (madeCells #[.int .i64 0] n) 3)) := hmk
 generalize w.alloc (.cells (madeCells #[.int .i64 0] n) 3) = w1 at *
 clear hi0 hz0 hz1 hz2
 go_enter Tryz.func228, Tryz.ntmps228
 go_wp2
 go_loopw [14] (fun i wr => ∃ k : Nat, k ≤ pts.length ∧ i = .int .i64 k ∧ Gw El.int 3 w.heap.size (fun _ => False) wr (.slice (some ⟨w.heap.size, 0, none⟩) n n) (layI pts told n k) ∧ Below w.heap.size w wr) (fun i _ => pts.length - (intOf i).toNat)
 case atStart => exact ⟨0, Nat.zero_le _, rfl, hI0, hB0⟩
 case round =>
  clear hI0 hB0 hmk; obtain ⟨k, hk, rfl, hG, hB⟩ := hrel
  by_cases hkn : k < pts.length
  · obtain ⟨b0, off, ea, hb, d0⟩ := HH.out.at hB k hkn
    subst ea
    obtain ⟨b1, off1, ea, hb1, d1⟩ := H2.out.at hB k (by rw [HL.out]; exact hkn)
    subst ea
    have hzi := H2.out.i64 (k := k) (by rw [HL.out]; exact hkn)
    have hp := risP_nonneg k (fun j hj => HR.out j (by omega))
    have HS : Hid (layI pts told n (k + 1) = (layI pts told n k).set (pts.getD k 0).toNat (told.getD k 0)) := rfl
    obtain ⟨p, hpp⟩ : ∃ p : Nat, pts.getD k 0 = (p : Int) := ⟨(pts.getD k 0).toNat, by omega⟩
    rw [hpp] at d0 hp HS; rw [Int.toNat_natCast] at HS
    obtain ⟨z, hzz⟩ : ∃ z, told.getD k 0 = z := ⟨_, rfl⟩
    rw [hzz] at d1 hzi HS
    have hne : layI pts told n k ≠ [] := fun e => by have := layI_len pts told n k; rw [e] at this; simp at this; omega
    obtain ⟨g, cap, e5, h5, h6, h7, hfz, hrd, hset⟩ := hG.own hne
    injection e5 with e5 e6 e7; injection e5 with e5; injection e5 with e5; subst e5
    have hfp := hfz p
    have hsw := hset p 0 (.int .i64 z) z (by rw [layI_len]; omega) Nat.one_pos (fun S' vs hv => by rw [hv.1]; exact ⟨rfl, hzi⟩)
    rw [show p * El.int.sz + 0 = p from Nat.mul_one p, ← HS.out] at hsw
    obtain ⟨vs, hrx, hcx⟩ := hrd p (by rw [layI_len]; omega)
    have hc0 := hcx 0 Nat.one_pos
    rw [hrx.1, show p * El.int.sz + 0 = p from Nat.mul_one p] at hc0
    have hBs : Below w.heap.size w (wr.setCell ⟨w.heap.size, p, none⟩ (.int .i64 z)) := hB.setCell (p := ⟨w.heap.size, p, none⟩) (Nat.le_refl _) _
    have i1 : (0 : Int) ≤ (k : Int) := by omega
    have i2 : (k : Int) < (pts.length : Int) := by omega
    have i3 : (0 : Int) ≤ (p : Int) := by omega
    have i4 : (p : Int) < (n : Int) := by omega
    have HSW : Hid (Gw El.int 3 w.heap.size (fun _ => False) (wr.setCell ⟨w.heap.size, p, none⟩ (.int .i64 z)) (.slice (some ⟨w.heap.size, 0, none⟩) n n) (layI pts told n (k + 1))) := hsw
    have HBS : Hid (Below w.heap.size w (wr.setCell ⟨w.heap.size, p, none⟩ (.int .i64 z))) := hBs
    clear hset hfz hrd hsw hBs hpp hzz hcx hrx hG hne e6 e7 h7; go_wp2
    go_roundw
    case rel => exact ⟨k + 1, by omega, by go_num, HSW.out, HBS.out⟩
    case measure => simp [intOf]; omega
  · obtain rfl : k = pts.length := by omega
    have g1 : ¬ (pts.length : Int) < (pts.length : Int) := by omega
    obtain ⟨a9, c9, e9, hg9, _⟩ := hG.slice
    have hri := hg9.ri
    have HLL : Hid ((layI pts told n pts.length).length = n) := layI_len _ _ _ _
    rw [HLL.out] at e9; injection e9 with e1 e2 e3; subst e1 e3
    have HRI : Hid (Ri wr (some ⟨w.heap.size, 0, none⟩) n (layI pts told n pts.length)) := hri
    clear hri hg9 hG; go_wp2
    go_ret
    exact ⟨_, n, by rw [HLL.out]; rfl, HRI.out, hB⟩
def isG (n : Nat) (g : Int) : Bool := decide (0 ≤ g) && decide (g < (n : Int))
theorem isG_none {l : List Gl} {g : Int} (h : isG l.length g = false) : gAt l g = none := by
 unfold isG at h
 by_cases h0 : 0 ≤ g
 · rw [decide_eq_true h0, Bool.true_and, decide_eq_false_iff_not] at h
   exact gAt_big (by omega)
 · exact gAt_neg (by omega)
theorem isG_some {n : Nat} {g : Int} (h : isG n g = true) : 0 ≤ g ∧ g < (n : Int) := by
 unfold isG at h
 rw [Bool.and_eq_true, decide_eq_true_iff, decide_eq_true_iff] at h
 exact h
theorem isG_at {l : List Gl} {g : Int} (h : isG l.length g = true) : gAt l g = some (l.getD g.toNat Gl.none) := by
 obtain ⟨h1, h2⟩ := isG_some h
 have := gAt_get (l := l) (k := g.toNat) (by omega)
 rw [show ((g.toNat : Nat) : Int) = g by omega] at this
 exact this
theorem isg_any (a : Option Addr) (n c : Nat) (g : Int) (w : World) (hn : n ≤ 9223372036854775807) (hg : I64 g) :
    Calls Tryz.prog 35 #[.slice a n c, .int .i64 g] w fun e w' => e = .returned (.bool (isG n g)) ∧ w = w' := by
 by_cases h0 : 0 ≤ g
 · have HE : Hid (isG n g = decide (g < (n : Int))) := by show _ = _; unfold isG; rw [decide_eq_true h0, Bool.true_and]
   have g1 : decide ((0 : Int) ≤ g) = true := decide_eq_true h0
   go_enter Tryz.func35, Tryz.ntmps35
   go_wp2
   go_ret
   exact ⟨rt_bool HE.out.symm, rfl⟩
 · have HE : Hid (isG n g = false) := by show _ = _; unfold isG; rw [decide_eq_false h0, Bool.false_and]
   have g1 : decide ((0 : Int) ≤ g) = false := decide_eq_false h0
   go_enter Tryz.func35, Tryz.ntmps35
   go_wp2
   go_ret
   exact ⟨rt_bool HE.out.symm, rfl⟩
theorem cap_min (n m : Nat) : min (((cap n : Nat) : Int) + (m : Int)) 2001 = ((cap (n + m) : Nat) : Int) := by unfold cap; omega
theorem cap_min2 (n m : Nat) : min (((cap n : Nat) : Int) + ((cap m : Nat) : Int)) 2001 = ((cap (n + m) : Nat) : Int) := by unfold cap; omega
theorem cap_bd (n : Nat) : cap n ≤ 2001 := by unfold cap; omega
theorem gpoints_any (S : Nat → Prop) (a : Option Addr) (ca : Nat) (b : Option Addr) (nb cb : Nat) (cs : List (List Pn)) (w : World) (h : Gr PnE.row S w a ca cs) :
    Calls Tryz.prog 66 #[.agg #[.slice a cs.length ca, .slice b nb cb]] w fun e w' => e = .returned (.int .i64 ((cap cs.flatten.length : Nat) : Int)) ∧ Below w.heap.size w w' := by
 have k2 := h.lenB
 obtain ⟨W, hW, X1, hbW⟩ : ∃ W, W = w.alloc (.cells #[.slice a cs.length ca, .slice b nb cb] 57) ∧ Bk 57 W w.heap.size [.slice a cs.length ca, .slice b nb cb] ∧ Below w.heap.size w W := ⟨_, rfl, Bk.new _ _ _, bl1 _⟩
 obtain ⟨x0, x1, _⟩ := X1.two
 have HH : Hid (Gr PnE.row S W a ca cs) := h.below hbW
 clear h X1
 go_enter Tryz.func66, Tryz.ntmps66
 go_upto_region 1 with fail
 rw [← hW]; clear hW; go_wp2; clear x0 x1
 go_loopw [3, 9] (fun c i wr => ∃ k : Nat, k ≤ cs.length ∧ i = .int .i64 k ∧ c = .int .i64 ((cap (cs.take k).flatten.length : Nat) : Int) ∧ W = wr) (fun _ i _ => cs.length - (intOf i).toNat)
 case atStart => exact ⟨0, Nat.zero_le _, rfl, rfl, rfl⟩
 case round =>
  obtain ⟨k, hk, rfl, rfl, rfl⟩ := hrel
  by_cases hkn : k < cs.length
  · obtain ⟨b0, off, a1, c1, ea, hb, d0, hrow, hlb, _⟩ := HH.out.rw (Below.refl _ _) k hkn
    subst ea
    have HST : Hid (_) := flat_take_succ hkn
    have hmn := cap_min (cs.take k).flatten.length (cs.getD k []).length
    rw [← HST.out] at hmn
    have hcb := cap_bd (cs.take k).flatten.length
    obtain ⟨m, hm⟩ : ∃ m, (cs.getD k []).length = m := ⟨_, rfl⟩
    rw [hm] at d0 hmn hlb
    obtain ⟨y, hy⟩ : ∃ x, cap (cs.take (k + 1)).flatten.length = x := ⟨_, rfl⟩
    have HY : Hid (cap (cs.take (k + 1)).flatten.length = y) := hy
    rw [hy] at hmn
    generalize cap (cs.take k).flatten.length = x at *
    have i1 : (0 : Int) ≤ (k : Int) := by omega
    have i2 : (k : Int) < (cs.length : Int) := by omega
    clear hm hy hrow HST; go_wp2
    go_roundw
    case rel => exact ⟨k + 1, by omega, by go_num, by rw [HY.out], trivial⟩
    case measure => simp [intOf]; omega
  · obtain rfl : k = cs.length := by omega
    have g4 : ¬ (cs.length : Int) < (cs.length : Int) := by omega
    rw [List.take_length]; go_wp2
    go_ret
    exact ⟨rfl, hbW⟩
theorem zeroX (w : World) : (zeroValue 71).run Tryz.prog w = .ok (.agg #[.int .i64 0, .int .i64 0]) w := by kernel_rfl
theorem gsurvey_any (a : Option Addr) (n c : Nat) (w : World) :
    Calls Tryz.prog 31 #[.slice a n c] w fun e w' => e = .returned (.pointer (some ⟨w.heap.size + 1, 0, none⟩)) ∧ Bk 119 w' (w.heap.size + 1) [.slice a n c, .map (some w.heap.size)] ∧ Mp w' w.heap.size 0 (fun _ => none) ∧ Below w.heap.size w w' := by
 have hmm := @run_makeMap Tryz.prog
 have M := Mp.made w
 obtain ⟨W, hW⟩ : ∃ W, W = w.alloc (.map #[] 0) := ⟨_, rfl⟩
 have hb : Below w.heap.size w W := by rw [hW]; exact bl1 _
 have hs : W.heap.size = w.heap.size + 1 := by rw [hW]; simp
 rw [← hW] at M
 have X := Bk.new 119 W [.slice a n c, .map (some w.heap.size)]
 rw [hs] at X
 have hfin : Bk 119 (W.alloc (.cells #[.slice a n c, .map (some w.heap.size)] 119)) (w.heap.size + 1) [.slice a n c, .map (some w.heap.size)] ∧ Mp (W.alloc (.cells #[.slice a n c, .map (some w.heap.size)] 119)) w.heap.size 0 (fun _ => none) ∧ Below w.heap.size w (W.alloc (.cells #[.slice a n c, .map (some w.heap.size)] 119)) := ⟨X, M.below (bl1 _), hb.trans ((bl1 _).mono hb.size)⟩
 have HF : Hid (_) := hfin
 clear hfin X M hb
 go_enter Tryz.func31, Tryz.ntmps31
 go_wp2
 go_ret
 subst hW
 exact ⟨rfl, HF.out⟩
theorem dq_out {l : List Gl} {n : Nat} {g : Int} (h : g < 0 ∨ (l.length : Int) ≤ g) : dq l n g = none := by
 rw [dq_eq]
 rcases h with h | h
 · rw [gAt_neg h]; rfl
 · rw [gAt_big h]; rfl
theorem dq_zero {l : List Gl} {i : Nat} (hi : i < l.length) : dI (dq l 0 (i : Int)) = if (l.getD i Gl.none).o.ps.length = 0 then 0 else -1 := by
 rw [dq_eq, gAt_get hi, Option.bind_some]
 cases h : (l.getD i Gl.none).o.ps with
 | nil => rfl
 | cons p ps =>
  rw [dqs, if_neg (by simp)]
  rfl
theorem dq_next {l : List Gl} {n i : Nat} (hi : i < l.length) : dq l (n + 1) (i : Int) = dqs (dq l n) (l.getD i Gl.none).o.ps := by rw [dq_eq, gAt_get hi, Option.bind_some]; rfl
theorem dqs_step {f : Int → Option Nat} {ps : List Pa} {k : Nat} (hk : k < ps.length) : dqs f (ps.take (k + 1)) = (dqs f (ps.take k)).bind fun e => (f (ps.getD k Pa.none).g).bind fun d => some (max e (d + 1)) := by
 rw [← dqs_snoc]
 congr 1
 rw [List.take_add_one, List.getElem?_eq_getElem hk]
 simp [List.getD, hk]
theorem dqs_stop {f : Int → Option Nat} {ps : List Pa} {k : Nat} (h : dqs f (ps.take k) = none) : dqs f ps = none := by
 cases hd : dqs f ps with
 | none => rfl
 | some d =>
  exfalso
  have key : ∀ (a b : List Pa) (d : Nat), dqs f (a ++ b) = some d → dqs f a ≠ none := by
   intro a
   induction a with
   | nil => intro b d _ h2; cases h2
   | cons p a ih =>
    intro b d h1 h2
    rw [List.cons_append] at h1
    obtain ⟨x, y, h3, h4, _⟩ := dqs_cons.1 h1
    cases h5 : dqs f a with
    | none => exact ih b y h4 h5
    | some z => rw [dqs, h3, h5] at h2; cases h2
  rw [← List.take_append_drop k ps] at hd
  exact key _ _ _ hd h
theorem dI_step {f : Int → Option Nat} {ps : List Pa} {k : Nat} {e : Nat} (hk : k < ps.length) (he : dqs f (ps.take k) = some e) : dI (dqs f (ps.take (k + 1))) = if dI (f (ps.getD k Pa.none).g) < 0 then -1 else max (e : Int) (dI (f (ps.getD k Pa.none).g) + 1) := by
 rw [dqs_step hk, he, Option.bind_some]
 cases h : f (ps.getD k Pa.none).g with
 | none => rfl
 | some d =>
  show ((max e (d + 1) : Nat) : Int) = if (d : Int) < 0 then -1 else max (e : Int) ((d : Int) + 1)
  rw [if_neg (by omega)]
  omega
def szK (l : List Gl) (x : Gl) (k : Nat) : Nat := ptn x + sqs (sq l 6) (x.o.ps.take k)
theorem szK_zero (l : List Gl) (x : Gl) : szK l x 0 = ptn x := by unfold szK; rw [List.take_zero]; rfl
theorem szK_succ {l : List Gl} {x : Gl} {k : Nat} (hk : k < x.o.ps.length) : szK l x (k + 1) = szK l x k + sq l 6 (x.o.ps.getD k Pa.none).g := by
 unfold szK
 have e : x.o.ps.take (k + 1) = x.o.ps.take k ++ [x.o.ps.getD k Pa.none] := by
  rw [List.take_add_one, List.getElem?_eq_getElem hk]
  simp [List.getD, hk]
 rw [e, sqs_snoc]
 omega
theorem szK_all {l : List Gl} {g : Int} {d : Nat} {x : Gl} (hx : gAt l g = some x) (h : dq l 6 g = some d) : szK l x x.o.ps.length = sq l 6 g := by
 unfold szK
 rw [List.take_length, sq_at hx]
 congr 1
 refine sqs_congr (fun p hp => ?_)
 obtain ⟨e, h1, h2⟩ := dq_part h hx p hp
 have := dq_le h
 show sq l 6 p.g = sq l 5 p.g
 exact (sq_more h1 (by omega)).trans (sq_more h1 (by omega)).symm
theorem szG_cap {l : List Gl} {g : Int} {d : Nat} (h : dq l 6 g = some d) : szG l g = cap (sq l 6 g) := szG_some h
theorem cap_step {l : List Gl} {x : Gl} {k n : Nat} (hk : k < x.o.ps.length) (hn : cap n = cap (szK l x k)) : cap (n + cap (sq l 6 (x.o.ps.getD k Pa.none).g)) = cap (szK l x (k + 1)) := by
 rw [szK_succ hk]
 unfold cap at *
 omega
def szD (l : List Gl) (k : Nat) (i : Nat) : Nat := match dq l 6 (i : Int) with | none => 0 | some d => if d < k then cap (sq l 6 (i : Int)) else 0
theorem szD_zero (l : List Gl) (i : Nat) : szD l 0 i = 0 := by
 unfold szD
 cases dq l 6 (i : Int) with
 | none => rfl
 | some d => exact if_neg (Nat.not_lt_zero d)
theorem szD_all (l : List Gl) (i : Nat) : szD l 7 i = szG l (i : Int) := by
 cases h : dq l 6 (i : Int) with
 | none => rw [szG_none h]; unfold szD; rw [h]
 | some d =>
  rw [szG_cap h]
  unfold szD
  rw [h]
  exact if_pos (by have := dq_le h; omega)
theorem szD_part {l : List Gl} {i : Nat} {d : Nat} {x : Gl} (hx : gAt l (i : Int) = some x) (h : dq l 6 (i : Int) = some d) {p : Pa} (hp : p ∈ x.o.ps) : ∃ j : Nat, p.g = (j : Int) ∧ j < l.length ∧ szD l d j = cap (sq l 6 p.g) := by
 obtain ⟨e, h1, h2⟩ := dq_part h hx p hp
 obtain ⟨y, h3, _⟩ := dq_some.1 h1
 obtain ⟨h4, h5, _⟩ := gAt_some h3
 refine ⟨p.g.toNat, by omega, by omega, ?_⟩
 have hd := dq_le h
 have h6 : dq l 6 ((p.g.toNat : Nat) : Int) = some e := by rw [show ((p.g.toNat : Nat) : Int) = p.g by omega]; exact dq_more h1 (by omega)
 unfold szD
 rw [h6]
 show (if e < d then _ else 0) = _
 rw [if_pos h2, show ((p.g.toNat : Nat) : Int) = p.g by omega]
end Go.Proofs.YtkmcodofnckdmaaGreat
