/-
  outline.partsOf, outline.outlineOf: the walks.
  outline.Read: the walk.
  foundryref12.Same, of two alike: the walk.
  foundryref10.Field: the walk.
-/
import Derived.Test.YtdojgkejpfdaeaaZ13
import Derived.Test.YtdojgkejpfdaeaaZ17
import Derived.Test.YtdojgkejpfdaeaaZ11
import Derived.BigQuiet
import Derived.Deep.QuietTactic
import Derived.WalkSmall
import Derived.Outline
import Derived.Test.YtdojgkejpfdaeaaZ2
import Derived.Test.YtdojgkejpfdaeaaZ1
namespace Go.Proofs.Ytdojgkejpfdaeaa
open Go.RowKit Go.Maps
set_option linter.unusedSimpArgs false
set_option linter.unusedVariables false

theorem psR_succ (s : List Nat) (k : Nat) : psR s (k + 1) = psR s k ++ [paR (s.drop (6 * k))] := by unfold psR; rw [List.range_succ, List.map_append]; rfl
theorem psR_len (s : List Nat) (k : Nat) : (psR s k).length = k := by unfold psR; rw [List.length_map, List.length_range]
theorem Gw.neBk {α : Type} {E : El α} {t u : TypeId} {base g : Nat} {S : Nat → Prop} {w : World} {v : Value} {l : List α} {cs : List Value} (h : Gw E t base S w v l) (hb : Bk u w g cs) (ht : u ≠ t) : v.ownBlock ≠ some g := by
  intro e
  obtain ⟨cur, k1⟩ := h.ty e
  rw [hb] at k1
  simp at k1
  exact ht k1.2
theorem sx16_le {v : Nat} (h : v < 65536) : -32768 ≤ sx16 v ∧ sx16 v ≤ 32767 := by unfold sx16; split <;> omega

set_option maxHeartbeats 4000000 in
set_option maxRecDepth 100000 in
theorem cpartsOf_any (g : Nat) (pa : Option Addr) (pc : Nat) (xs : List Nat) (p m : Nat) (w : World) (h : Sc 63 w g pa pc xs p) (hp : p ≤ 1000) (hm : min (hd2 (xs.drop p)) 6 = m) (hpb : ∀ b o, pa = some ⟨b, o, none⟩ → xs ≠ [] → b < w.heap.size) :
    Calls Try.prog 45 #[pg g] w fun e w' => ∃ a' c', e = .returned (.slice a' (psR (xs.drop (p + 2)) m).length c') ∧ Gr PaE (fun _ => False) w' a' c' (psR (xs.drop (p + 2)) m) ∧ (∀ b o, a' = some ⟨b, o, none⟩ → w.heap.size ≤ b) ∧ Kp g w w' := by
  have hu := cSu16_any g pa pc xs p w h (by omega)
  have hlt := hd2_lt (h.rb.lim.drop p)
  have HPB : Hid (∀ b o, pa = some ⟨b, o, none⟩ → xs ≠ [] → b < w.heap.size) := hpb
  generalize hd2 (xs.drop p) = z at *
  have hmz : min (z : Int) 6 = (m : Int) := by omega
  have hm6 : m ≤ 6 := by omega
  clear h hm hpb
  go_enter Try.func45, Try.ntmps45
  go_wp2_with fail
  refine hu.mono ?_
  rintro e u1 ⟨rfl, hS0, hK0⟩
  have HS0 : Hid (Sc 63 u1 g pa pc xs (p + 2)) := hS0
  have HK0 : Hid (Kp g w u1) := hK0
  clear hu hS0 hK0
  go_wp2
  clear hmz
  go_loopw [3, 10] (fun v i wr => ∃ k : Nat, k ≤ m ∧ i = .int .i64 k ∧ Gw PaE 59 w.heap.size (fun _ => False) wr v (psR (xs.drop (p + 2)) k) ∧ Sc 63 wr g pa pc xs (p + 2 + 6 * k) ∧ Kp g w wr) (fun _ i _ => m - (intOf i).toNat)
  case atStart => exact ⟨0, Nat.zero_le _, rfl, Gw.nil _ _ _ _ _, HS0.out, HK0.out⟩
  case round =>
    clear HS0 HK0
    obtain ⟨k, hk, rfl, hG, hS, hK⟩ := hrel
    obtain ⟨a3, c3, rfl, hgr, hbk⟩ := hG.slice
    by_cases hkm : k < m
    · have g1 : (k : Int) < (m : Int) := by omega
      have HPS : Hid (psR (xs.drop (p + 2)) (k + 1) = psR (xs.drop (p + 2)) k ++ [⟨(hd2 (xs.drop (p + 2 + 6 * k)) : Int), sx16 (hd2 (xs.drop (p + 2 + 6 * k + 2))), sx16 (hd2 (xs.drop (p + 2 + 6 * k + 2 + 2)))⟩]) := by
        show _ = _
        rw [psR_succ, List.drop_drop]
        unfold paR
        rw [List.drop_drop, List.drop_drop]
      have hll : (psR (xs.drop (p + 2)) k).length + 1 ≤ 1000000 := by rw [psR_len]; omega
      have hy1 := hd2_lt (hS.rb.lim.drop (p + 2 + 6 * k))
      have hy2 := sx16_le (hd2_lt (hS.rb.lim.drop (p + 2 + 6 * k + 2)))
      have hy3 := sx16_le (hd2_lt (hS.rb.lim.drop (p + 2 + 6 * k + 2 + 2)))
      have hu1 := cSu16_any g pa pc xs (p + 2 + 6 * k) wr hS (by omega)
      obtain ⟨gl, hgl⟩ : ∃ z, hd2 (xs.drop (p + 2 + 6 * k)) = z := ⟨_, rfl⟩
      rw [hgl] at hu1 HPS hy1
      clear hgl hgr hbk
      generalize psR (xs.drop (p + 2)) k = L at *
      go_wp2_with fail
      refine hu1.mono ?_
      rintro e v1 ⟨rfl, hS1, hK1⟩
      have hG1 := hG.kp hS.bk (by decide) hK1
      have hKa := hK.trans hK1
      clear hu1 hS hK hK1 hG
      have hu2 := cSi16_any g pa pc xs (p + 2 + 6 * k + 2) v1 hS1 (by omega)
      obtain ⟨dx, hdx⟩ : ∃ z, sx16 (hd2 (xs.drop (p + 2 + 6 * k + 2))) = z := ⟨_, rfl⟩
      rw [hdx] at hu2 HPS hy2
      clear hdx
      go_wp2_with fail
      refine hu2.mono ?_
      rintro e v2 ⟨rfl, hS2, hK2⟩
      have hG2 := hG1.kp hS1.bk (by decide) hK2
      replace hKa := hKa.trans hK2
      clear hu2 hS1 hK2 hG1
      have hu3 := cSi16_any g pa pc xs (p + 2 + 6 * k + 2 + 2) v2 hS2 (by omega)
      obtain ⟨dy, hdy⟩ : ∃ z, sx16 (hd2 (xs.drop (p + 2 + 6 * k + 2 + 2))) = z := ⟨_, rfl⟩
      rw [hdy] at hu3 HPS hy3
      clear hdy
      go_wp2_with fail
      refine hu3.mono ?_
      rintro e v3 ⟨rfl, hS3, hK3⟩
      have hG3 := hG2.kp hS2.bk (by decide) hK3
      replace hKa := hKa.trans hK3
      clear hu3 hS2 hK3 hG2
      have hI1 : I64 (gl : Int) := ⟨by omega, by omega⟩
      have hI2 : I64 dx := ⟨by omega, by omega⟩
      have hI3 : I64 dy := ⟨by omega, by omega⟩
      have bp := bl1 (w := v3) (.cells #[.int .i64 (gl : Int), .int .i64 dx, .int .i64 dy] 59)
      have hGb := hG3.below bp
      have hSb := hS3.below bp
      have hone : Gr PaE (fun k => False ∧ (Value.slice a3 L.length c3).ownBlock ≠ some k) (v3.alloc (.cells #[.int .i64 (gl : Int), .int .i64 dx, .int .i64 dy] 59)) (some ⟨v3.heap.size, 0, none⟩) 1 [⟨(gl : Int), dx, dy⟩] := Gr.one_new (E := PaE) (paC ⟨(gl : Int), dx, dy⟩) 59 (PaE_rep.2 ⟨rfl, hI1, hI2, hI3⟩)
      have hKb : Kp g w (v3.alloc (.cells #[.int .i64 (gl : Int), .int .i64 dx, .int .i64 dy] 59)) := hKa.alloc _
      have hbs := hKb.size
      have hvg := hGb.neBk hSb.bk (by decide)
      clear bp hG3 hS3 hKa
      go_wp2_with (at_builtin; refine wpList_append_el 23 59 Try.underlying23 info_pa rfl (by decide) (by decide) rfl _ _ rfl w.heap.size (fun _ => False) _ L rfl hGb (some ⟨v3.heap.size, 0, none⟩) 1 1 [⟨(gl : Int), dx, dy⟩] rfl rfl hone hll hbs ?_)
      intro v9 w9 hT9 hgrow _
      have hS9 := hSb.grown hgrow hvg (fun b o e hne e2 => by
        have := (hGb.lo e2).1
        have := HPB.out b o e hne
        omega)
      have hK9 : Kp g w w9 := hKb.grown hgrow (fun k hk => (hGb.lo hk).1)
      rw [← HPS.out] at hT9
      clear hgrow hGb hSb hone hKb hbs hvg hll HPS
      go_wp2
      go_roundw
      case rel => exact ⟨k + 1, by omega, by go_num, hT9, by rw [show p + 2 + 6 * (k + 1) = p + 2 + 6 * k + 2 + 2 + 2 by omega]; exact hS9, hK9⟩
      case measure => simp [intOf]; omega
    · obtain rfl : k = m := by omega
      have g1 : ¬ (k : Int) < (k : Int) := by omega
      have HB3 : Hid (∀ b o, a3 = some ⟨b, o, none⟩ → w.heap.size ≤ b) := fun b o e => (hbk b o e).1
      clear hG hbk hS
      go_wp2
      go_ret
      exact ⟨a3, c3, rfl, hgr, HB3.out, hK⟩

theorem Gr.keptS {α : Type} {E : El α} {S : Nat → Prop} {w w' : World} {a : Option Addr} {cap n : Nat} {l : List α} (h : Gr E S w a cap l) (hs : w.heap.size ≤ w'.heap.size) (hk : ∀ k, n ≤ k → w'.heap[k]? = w.heap[k]?) (hS : ∀ k, S k → n ≤ k) (ha : ∀ b o, a = some ⟨b, o, none⟩ → n ≤ b) : Gr E (fun _ => True) w' a cap l :=
  h.stay hs (fun k h1 _ => ⟨trivial, hk k (hS k h1)⟩) (fun b o e _ _ => hk b (ha b o e))
theorem Bk.set2 {t : TypeId} {w : World} {g : Nat} {x y : Value} (h : Bk t w g [x, y]) (x' y' : Value) : Bk t ((w.setCell ⟨g, 0, none⟩ x').setCell ⟨g, 1, none⟩ y') g [x', y'] := (h.set 0 x').set 1 y'
theorem set2_other {w : World} {g b : Nat} (x' y' : Value) (hb : b ≠ g) : ((w.setCell ⟨g, 0, none⟩ x').setCell ⟨g, 1, none⟩ y').heap[b]? = w.heap[b]? := by
  rw [Below.heap_setCell _ _ _ _ (fun e => hb e), Below.heap_setCell _ _ _ _ (fun e => hb e)]
theorem set2_size {w : World} {g : Nat} (x' y' : Value) : ((w.setCell ⟨g, 0, none⟩ x').setCell ⟨g, 1, none⟩ y').heap.size = w.heap.size := by simp [World.setCell]

set_option maxHeartbeats 4000000 in
set_option maxRecDepth 100000 in
theorem coutlineOf_any (g : Nat) (pa : Option Addr) (pc : Nat) (xs : List Nat) (w : World) (h : Sc 63 w g pa pc xs 0) (hpb : ∀ b o, pa = some ⟨b, o, none⟩ → xs ≠ [] → b < w.heap.size) :
    Calls Try.prog 26 #[pg g] w fun e w' => ∃ a ca b cb, e = .returned (.agg #[.slice a (candK xs).cs.length ca, .slice b (candK xs).ps.length cb]) ∧ Gr PnE.row (fun k => w.heap.size < k) w' a ca (candK xs).cs ∧ Gr PaE (fun _ => False) w' b cb (candK xs).ps ∧ (∀ c o, a = some ⟨c, o, none⟩ → w.heap.size < c) ∧ (∀ c o, b = some ⟨c, o, none⟩ → w.heap.size < c) ∧ Kp g w w' := by
  obtain ⟨W, hW, X1, hbW⟩ : ∃ W, W = w.alloc (.cells #[.slice none 0 0, .slice none 0 0] 25) ∧ Bk 25 W w.heap.size [.slice none 0 0, .slice none 0 0] ∧ Below w.heap.size w W := ⟨_, rfl, Bk.new _ _ _, bl1 _⟩
  have hWs : W.heap.size = w.heap.size + 1 := by rw [hW]; simp
  have hgl : g < w.heap.size := h.bk.lt
  replace h := h.below hbW
  have hKW : Kp g w W := Kp.of hbW
  have hu := cSi16_any g pa pc xs 0 W h (by omega)
  have hn := sx16_le (hd2_lt (h.rb.lim.drop 0))
  rw [List.drop_zero] at hu hn
  have HCK : Hid (candK xs = if sx16 (hd2 xs) = -1 then ⟨[], psR ((xs.drop 2).drop 2) (min (hd2 (xs.drop 2)) 6)⟩ else ⟨conK (min (sx16 (hd2 xs)) 10).toNat (xs.drop 2), []⟩) := rfl
  obtain ⟨n, hn0⟩ : ∃ n, sx16 (hd2 xs) = n := ⟨_, rfl⟩
  rw [hn0] at hu hn HCK
  clear hn0 h
  go_enter Try.func26, Try.ntmps26
  go_wp2_with fail
  rw [← hW]
  clear hW
  refine hu.mono ?_
  rintro e u1 ⟨rfl, hS, hK1⟩
  have hK := hKW.trans hK1
  replace X1 := X1.kp hK1 (by omega)
  have hsz := hK1.size
  clear hu hK1 hKW hbW
  have HPB : Hid (∀ b o, pa = some ⟨b, o, none⟩ → xs ≠ [] → b < u1.heap.size) := fun b o e hne => Nat.lt_of_lt_of_le (hpb b o e hne) hK.size
  by_cases h1 : n = -1
  · have HC : Hid (candK xs = ⟨[], psR ((xs.drop 2).drop 2) (min (hd2 (xs.drop 2)) 6)⟩) := by show _ = _; rw [HCK.out, if_pos h1]
    have g1 : (n == -1) = true := by simp [h1]
    have hpo := cpartsOf_any g pa pc xs 2 (min (hd2 (xs.drop 2)) 6) u1 hS (by omega) rfl HPB.out
    rw [show 2 + 2 = 4 from rfl] at hpo
    rw [List.drop_drop, show 2 + 2 = 4 from rfl] at HC
    generalize psR (xs.drop 4) (min (hd2 (xs.drop 2)) 6) = P at *
    clear h1 HCK hpb
    go_wp2_with fail
    refine hpo.mono ?_
    rintro e u2 ⟨a2, c2, rfl, hgr, hbk, hK2⟩
    replace X1 := X1.kp hK2 (by omega)
    replace hK := hK.trans hK2
    clear hpo hS
    obtain ⟨U, hU⟩ : ∃ U, U = (u2.setCell ⟨w.heap.size, 0, none⟩ (.slice none 0 0)).setCell ⟨w.heap.size, 1, none⟩ (.slice a2 P.length c2) := ⟨_, rfl⟩
    have A := X1.set2 (.slice none 0 0) (.slice a2 P.length c2)
    have hKU := (hK.other (b := w.heap.size) 0 (.slice none 0 0) (Nat.le_refl _)).other (b := w.heap.size) 1 (.slice a2 P.length c2) (Nat.le_refl _)
    have hgU : Gr PaE (fun _ => False) ((u2.setCell ⟨w.heap.size, 0, none⟩ (.slice none 0 0)).setCell ⟨w.heap.size, 1, none⟩ (.slice a2 P.length c2)) a2 c2 P := hgr.stay (by rw [set2_size]; exact Nat.le_refl _) (fun k hk => hk.elim) (fun b o e _ _ => set2_other _ _ (by have := hbk b o e; omega))
    rw [← hU] at A hKU hgU
    obtain ⟨x0, x1, f0, f1⟩ := X1.two
    have HBK : Hid (∀ c o, a2 = some ⟨c, o, none⟩ → w.heap.size < c) := fun c o e => by have := hbk c o e; omega
    clear hK hgr hbk hK2
    go_wp2
    rw [← hU]
    clear hU
    (try simp only [Exit.inBlock, Exit.then])
    refine bodyPost_ret (v := .agg #[.slice none 0 0, .slice a2 P.length c2]) (by obtain ⟨r0, r1, _⟩ := A.two; simp [results, Try.results26, go_sem, r0, r1]) rfl ⟨none, 0, a2, c2, by rw [HC.out]; rfl, by rw [HC.out]; exact Gr.nil _ _ _ _ _ (Nat.zero_le _) (fun _ => rfl), by rw [HC.out]; exact hgU, (fun c o e => by cases e), HBK.out, hKU⟩
  · have HC : Hid (candK xs = ⟨conK (min n 10).toNat (xs.drop 2), []⟩) := by show _ = _; rw [HCK.out, if_neg h1]
    have g1 : (n == -1) = false := by simp [h1]
    have hco := ccontoursOf_any n (min n 10).toNat g pa pc xs 2 u1 hS (by omega) rfl HPB.out ⟨by omega, by omega⟩
    generalize conK (min n 10).toNat (xs.drop 2) = C at *
    clear h1 HCK hpb
    go_wp2_with fail
    refine hco.mono ?_
    rintro e u2 ⟨a2, c2, rfl, hgr, hbk, hK2⟩
    replace X1 := X1.kp hK2 (by omega)
    replace hK := hK.trans hK2
    clear hco hS
    obtain ⟨U, hU⟩ : ∃ U, U = (u2.setCell ⟨w.heap.size, 0, none⟩ (.slice a2 C.length c2)).setCell ⟨w.heap.size, 1, none⟩ (.slice none 0 0) := ⟨_, rfl⟩
    have A := X1.set2 (.slice a2 C.length c2) (.slice none 0 0)
    have hKU := (hK.other (b := w.heap.size) 0 (.slice a2 C.length c2) (Nat.le_refl _)).other (b := w.heap.size) 1 (.slice none 0 0) (Nat.le_refl _)
    have hgU : Gr PnE.row (fun k => w.heap.size < k) ((u2.setCell ⟨w.heap.size, 0, none⟩ (.slice a2 C.length c2)).setCell ⟨w.heap.size, 1, none⟩ (.slice none 0 0)) a2 c2 C := hgr.stay (by rw [set2_size]; exact Nat.le_refl _) (fun k hk _ => ⟨by omega, set2_other _ _ (by omega)⟩) (fun b o e _ _ => set2_other _ _ (by have := hbk b o e; omega))
    rw [← hU] at A hKU hgU
    obtain ⟨x0, x1, f0, f1⟩ := X1.two
    have HBK : Hid (∀ c o, a2 = some ⟨c, o, none⟩ → w.heap.size < c) := fun c o e => by have := hbk c o e; omega
    clear hK hgr hbk hK2
    go_wp2
    rw [← hU]
    clear hU
    (try simp only [Exit.inBlock, Exit.then])
    refine bodyPost_ret (v := .agg #[.slice a2 C.length c2, .slice none 0 0]) (by obtain ⟨r0, r1, _⟩ := A.two; simp [results, Try.results26, go_sem, r0, r1]) rfl ⟨a2, c2, none, 0, by rw [HC.out]; rfl, by rw [HC.out]; exact hgU, by rw [HC.out]; exact Gr.nil _ _ _ _ _ (Nat.zero_le _) (fun _ => rfl), HBK.out, (fun c o e => by cases e), hKU⟩

end Go.Proofs.Ytdojgkejpfdaeaa

namespace Go.Proofs.Ytdojgkejpfdaeaa
open Go.RowKit Go.Maps
set_option linter.unusedSimpArgs false
set_option linter.unusedVariables false

theorem rdO_K (b : List Nat) : rdOE b = (if (decide (wrOE (candK b) = 0) && decide (wrOB (candK b) = b)) = true then 0 else 2) ∧ rdOL b = (if (decide (wrOE (candK b) = 0) && decide (wrOB (candK b) = b)) = true then candK b else Ol.none) := by
  obtain ⟨h1, h2⟩ := candK_ok b
  rw [h1]
  unfold rdOE rdOL
  cases h : rdOk b with
  | false => exact ⟨rfl, rfl⟩
  | true => exact ⟨rfl, by rw [h2 h]⟩

set_option maxHeartbeats 4000000 in
set_option maxRecDepth 100000 in
theorem creadO_any (pa : Option Addr) (pc : Nat) (xs : List Nat) (w : World) (h : Rb w pa pc xs) :
    Calls Try.prog 8 #[.slice pa xs.length pc] w fun e w' => ∃ a ca b cb, e = .returned (.tuple #[.agg #[.slice a (rdOL xs).cs.length ca, .slice b (rdOL xs).ps.length cb], .int .i64 (rdOE xs)]) ∧ Gr PnE.row (fun _ => True) w' a ca (rdOL xs).cs ∧ Gr PaE (fun _ => True) w' b cb (rdOL xs).ps ∧ Below w.heap.size w w' := by
  have hle := h.le
  have hcm := h.cap
  unfold maxLen at hcm
  have HB : Hid (∀ b o, pa = some ⟨b, o, none⟩ → xs ≠ [] → b < w.heap.size) := fun b o e hne => by
    rcases h.2.2.2.2 with h0 | ⟨b', o', e', hb', _⟩
    · exact absurd h0 hne
    · rw [e] at e'
      cases e'
      exact hb'
  obtain ⟨W, hW, X1, X2, hbW⟩ : ∃ W, W = (w.alloc (.cells #[.slice none 0 0, .slice none 0 0] 25)).alloc (.cells #[.slice pa xs.length pc, .int .i64 0] 63) ∧ Bk 25 W w.heap.size [.slice none 0 0, .slice none 0 0] ∧ Bk 63 W (w.heap.size + 1) [.slice pa xs.length pc, .int .i64 0] ∧ Below w.heap.size w W := ⟨_, rfl, (Bk.new _ _ _).below (bl1 _), Bk.new1 _ _ _ _, bl2 _ _⟩
  have hWs : W.heap.size = w.heap.size + 2 := by rw [hW]; simp
  have hrb := h.below hbW
  have hS : Sc 63 W (w.heap.size + 1) pa pc xs 0 := ⟨X2, hrb, fun b o e hne => by have := HB.out b o e hne; omega⟩
  have hou := coutlineOf_any (w.heap.size + 1) pa pc xs W hS (fun b o e hne => Nat.lt_of_lt_of_le (HB.out b o e hne) hbW.size)
  have HRE : Hid (_) := (rdO_K xs).1
  have HRL : Hid (_) := (rdO_K xs).2
  generalize rdOE xs = re at *
  generalize rdOL xs = rl at *
  generalize candK xs = o at *
  have HRB : Hid (Rb w pa pc xs) := h
  have HWS : Hid (W.heap.size = w.heap.size + 2) := hWs
  clear h hrb hS X2 hWs
  go_enter Try.func8, Try.ntmps8
  go_wp2_with fail
  rw [← hW]
  clear hW
  refine hou.mono ?_
  rintro e u1 ⟨a1, c1, b1, d1, rfl, hgc, hgp, hba, hbb, hKp⟩
  have hWs := HWS.out
  have hB1 : Below w.heap.size w u1 := hbW.trans (hKp.below (by omega) (by omega))
  replace X1 := X1.kp hKp (by omega)
  have HBA : Hid (∀ c o, a1 = some ⟨c, o, none⟩ → w.heap.size < c) := fun c o e => by have := hba c o e; omega
  have HBB : Hid (∀ c o, b1 = some ⟨c, o, none⟩ → w.heap.size < c) := fun c o e => by have := hbb c o e; omega
  clear hou
  obtain ⟨V, hV, Y1, hbV⟩ : ∃ V, V = u1.alloc (.cells #[.slice a1 o.cs.length c1, .slice b1 o.ps.length d1] 25) ∧ Bk 25 V u1.heap.size [.slice a1 o.cs.length c1, .slice b1 o.ps.length d1] ∧ Below u1.heap.size u1 V := ⟨_, rfl, Bk.new _ _ _, bl1 _⟩
  have hgl : w.heap.size < u1.heap.size := X1.lt
  replace X1 := X1.below hbV
  replace hgc := (hgc.below hbV).wide (S' := fun k => w.heap.size < k) (fun k h1 _ => by omega)
  replace hgp := hgp.below hbV
  replace hB1 : Below w.heap.size w V := hB1.trans (hbV.mono hB1.size)
  have hwr := cwriteO_any _ a1 c1 b1 d1 o V hgc hgp.anyA
  have kc := hgc.lenB
  have kp := hgp.lenB
  clear hbV hKp hbW hba hbb hWs
  go_wp2_with fail
  rw [← hV]
  clear hV
  refine hwr.mono ?_
  rintro e u2 ⟨a2, c2, rfl, hr2, hb2⟩
  replace X1 := X1.below hb2
  replace Y1 := Y1.below hb2
  replace hgc := hgc.below hb2
  replace hgp := hgp.below hb2
  replace hB1 : Below w.heap.size w u2 := hB1.trans (hb2.mono hB1.size)
  clear hwr hb2
  have heq := equal_any a2 pa c2 pc (wrOB o) xs u2 hr2 (HRB.out.below hB1)
  obtain ⟨x0, x1, f0, f1⟩ := X1.two
  have hba := HBA.out
  have hbb := HBB.out
  have hOK : wrOE o = 0 ∨ wrOE o ≠ 0 := by omega
  rcases hOK with h0 | h0
  rotate_left
  · have HE : Hid (re = 2 ∧ rl = Ol.none) := by rw [decide_eq_false h0, Bool.false_and] at HRE HRL; exact ⟨HRE.out, HRL.out⟩
    have g1 : (wrOE o != 0) = true := bne_iff_ne.2 h0
    clear h0 heq HRE HRL
    generalize wrOB o = ob at *
    generalize wrOE o = oe at *
    obtain ⟨U, hU⟩ : ∃ U, U = (u2.setCell ⟨w.heap.size, 0, none⟩ (.slice none 0 0)).setCell ⟨w.heap.size, 1, none⟩ (.slice none 0 0) := ⟨_, rfl⟩
    have A := X1.set2 (.slice none 0 0) (.slice none 0 0)
    have hbU : Below w.heap.size w ((u2.setCell ⟨w.heap.size, 0, none⟩ (.slice none 0 0)).setCell ⟨w.heap.size, 1, none⟩ (.slice none 0 0)) := (hB1.setCell (p := ⟨w.heap.size, 0, none⟩) (Nat.le_refl _) _).setCell (p := ⟨w.heap.size, 1, none⟩) (Nat.le_refl _) _
    rw [← hU] at A hbU
    clear hgc hgp hba hbb hB1
    go_wp2
    rw [← hU]
    clear hU
    (try simp only [Exit.inBlock, Exit.then])
    refine bodyPost_ret (v := .tuple #[.agg #[.slice none 0 0, .slice none 0 0], .int .i64 2]) (by obtain ⟨r0, r1, _⟩ := A.two; simp [results, Try.results8, go_sem, r0, r1]) rfl ⟨none, 0, none, 0, by rw [HE.out.1, HE.out.2]; rfl, by rw [HE.out.2]; exact Gr.nil _ _ _ _ _ (Nat.zero_le _) (fun _ => rfl), by rw [HE.out.2]; exact Gr.nil _ _ _ _ _ (Nat.zero_le _) (fun _ => rfl), hbU⟩
  have g1 : (wrOE o != 0) = false := by rw [h0]; rfl
  by_cases h1 : wrOB o = xs
  rotate_left
  · have HE : Hid (re = 2 ∧ rl = Ol.none) := by rw [decide_eq_false h1, Bool.and_false] at HRE HRL; exact ⟨HRE.out, HRL.out⟩
    rw [decide_eq_false h1] at heq
    clear h0 h1 HRE HRL
    generalize wrOB o = ob at *
    generalize wrOE o = oe at *
    go_wp2_with fail
    refine heq.mono ?_
    rintro e v ⟨rfl, rfl⟩
    clear heq
    obtain ⟨U, hU⟩ : ∃ U, U = (u2.setCell ⟨w.heap.size, 0, none⟩ (.slice none 0 0)).setCell ⟨w.heap.size, 1, none⟩ (.slice none 0 0) := ⟨_, rfl⟩
    have A := X1.set2 (.slice none 0 0) (.slice none 0 0)
    have hbU : Below w.heap.size w ((u2.setCell ⟨w.heap.size, 0, none⟩ (.slice none 0 0)).setCell ⟨w.heap.size, 1, none⟩ (.slice none 0 0)) := (hB1.setCell (p := ⟨w.heap.size, 0, none⟩) (Nat.le_refl _) _).setCell (p := ⟨w.heap.size, 1, none⟩) (Nat.le_refl _) _
    rw [← hU] at A hbU
    clear hgc hgp hba hbb hB1
    go_wp2
    rw [← hU]
    clear hU
    (try simp only [Exit.inBlock, Exit.then])
    refine bodyPost_ret (v := .tuple #[.agg #[.slice none 0 0, .slice none 0 0], .int .i64 2]) (by obtain ⟨r0, r1, _⟩ := A.two; simp [results, Try.results8, go_sem, r0, r1]) rfl ⟨none, 0, none, 0, by rw [HE.out.1, HE.out.2]; rfl, by rw [HE.out.2]; exact Gr.nil _ _ _ _ _ (Nat.zero_le _) (fun _ => rfl), by rw [HE.out.2]; exact Gr.nil _ _ _ _ _ (Nat.zero_le _) (fun _ => rfl), hbU⟩
  have HE : Hid (re = 0 ∧ rl = o) := by rw [decide_eq_true h0, decide_eq_true h1, Bool.and_self] at HRE HRL; exact ⟨HRE.out, HRL.out⟩
  rw [decide_eq_true h1] at heq
  clear h0 h1 HRE HRL
  generalize wrOB o = ob at *
  generalize wrOE o = oe at *
  go_wp2_with fail
  refine heq.mono ?_
  rintro e v ⟨rfl, rfl⟩
  clear heq
  obtain ⟨y0, y1, _⟩ := Y1.two
  obtain ⟨U, hU⟩ : ∃ U, U = (u2.setCell ⟨w.heap.size, 0, none⟩ (.slice a1 o.cs.length c1)).setCell ⟨w.heap.size, 1, none⟩ (.slice b1 o.ps.length d1) := ⟨_, rfl⟩
  have A := X1.set2 (.slice a1 o.cs.length c1) (.slice b1 o.ps.length d1)
  have hbU : Below w.heap.size w ((u2.setCell ⟨w.heap.size, 0, none⟩ (.slice a1 o.cs.length c1)).setCell ⟨w.heap.size, 1, none⟩ (.slice b1 o.ps.length d1)) := (hB1.setCell (p := ⟨w.heap.size, 0, none⟩) (Nat.le_refl _) _).setCell (p := ⟨w.heap.size, 1, none⟩) (Nat.le_refl _) _
  have hgcU : Gr PnE.row (fun _ => True) ((u2.setCell ⟨w.heap.size, 0, none⟩ (.slice a1 o.cs.length c1)).setCell ⟨w.heap.size, 1, none⟩ (.slice b1 o.ps.length d1)) a1 c1 o.cs := hgc.stay (by rw [set2_size]; exact Nat.le_refl _) (fun k hk _ => ⟨trivial, set2_other _ _ (by omega)⟩) (fun b o e _ _ => set2_other _ _ (by have := hba b o e; omega))
  have hgpU : Gr PaE (fun _ => True) ((u2.setCell ⟨w.heap.size, 0, none⟩ (.slice a1 o.cs.length c1)).setCell ⟨w.heap.size, 1, none⟩ (.slice b1 o.ps.length d1)) b1 d1 o.ps := hgp.stay (by rw [set2_size]; exact Nat.le_refl _) (fun k hk => hk.elim) (fun b o e _ _ => set2_other _ _ (by have := hbb b o e; omega))
  rw [← hU] at A hbU hgcU hgpU
  clear hgc hgp hba hbb hB1
  go_wp2
  rw [← hU]
  clear hU
  (try simp only [Exit.inBlock, Exit.then])
  refine bodyPost_ret (v := .tuple #[.agg #[.slice a1 o.cs.length c1, .slice b1 o.ps.length d1], .int .i64 0]) (by obtain ⟨r0, r1, _⟩ := A.two; simp [results, Try.results8, go_sem, r0, r1]) rfl ⟨a1, c1, b1, d1, by rw [HE.out.1, HE.out.2], by rw [HE.out.2]; exact hgcU, by rw [HE.out.2]; exact hgpU, hbU⟩

end Go.Proofs.Ytdojgkejpfdaeaa

namespace Go.Proofs.Ytdojgkejpfdaeaa
open Go.RowKit Go.Maps
set_option linter.unusedSimpArgs false
set_option linter.unusedVariables false

theorem Gr.rwAt {α : Type} {E : El α} {S : Nat → Prop} {w : World} {a : Option Addr} {cap : Nat} {m : List (List α)} (h : Gr E.row S w a cap m) (k : Nat) (hk : k < m.length) :
    ∃ b off a' cap', a = some ⟨b, off, none⟩ ∧ b < w.heap.size ∧ (∀ wr, Below w.heap.size w wr → wr.cell? ⟨b, off + k, none⟩ = some (.slice a' (m.getD k []).length cap')) ∧ Gr E S w a' cap' (m.getD k []) := by
  obtain ⟨b, off, a', cap', e, hb, hc, hr, _⟩ := h.rw (Below.refl _ _) k hk
  exact ⟨b, off, a', cap', e, hb, fun wr hB => (hB.cell (p := ⟨b, off + k, none⟩) hb).trans hc, hr⟩

set_option maxHeartbeats 4000000 in
set_option maxRecDepth 100000 in
theorem ssameO_any (S S2 : Nat → Prop) (a : Option Addr) (ca : Nat) (b : Option Addr) (cb : Nat) (a' : Option Addr) (ca' : Nat) (b' : Option Addr) (cb' : Nat) (o : Ol) (w : World) (hg : Gr PnE.row S w a ca o.cs) (hm : Gr PaE S w b cb o.ps) (hg' : Gr PnE.row S2 w a' ca' o.cs) (hm' : Gr PaE S2 w b' cb' o.ps) :
    Calls Try.prog 11 #[.agg #[.slice a o.cs.length ca, .slice b o.ps.length cb], .agg #[.slice a' o.cs.length ca', .slice b' o.ps.length cb']] w fun e w' => e = .returned (.bool true) ∧ Below w.heap.size w w' := by
  have k1 := hg.lenB
  have k2 := hm.lenB
  have g1 : ((o.cs.length : Int) != (o.cs.length : Int)) = false := by simp
  have g2 : ((o.ps.length : Int) != (o.ps.length : Int)) = false := by simp
  obtain ⟨W, hW, X1, X2, hbW⟩ : ∃ W, W = (w.alloc (.cells #[.slice a o.cs.length ca, .slice b o.ps.length cb] 25)).alloc (.cells #[.slice a' o.cs.length ca', .slice b' o.ps.length cb'] 25) ∧
      Bk 25 W w.heap.size [.slice a o.cs.length ca, .slice b o.ps.length cb] ∧ Bk 25 W (w.heap.size + 1) [.slice a' o.cs.length ca', .slice b' o.ps.length cb'] ∧ Below w.heap.size w W := ⟨_, rfl, (Bk.new _ _ _).below (bl1 _), Bk.new1 _ _ _ _, bl2 _ _⟩
  have HA : Hid (Gr PnE.row S W a ca o.cs) := hg.below hbW
  have HB : Hid (Gr PnE.row S2 W a' ca' o.cs) := hg'.below hbW
  have HC : Hid (Gr PaE S W b cb o.ps) := hm.below hbW
  have HD : Hid (Gr PaE S2 W b' cb' o.ps) := hm'.below hbW
  have HX1 : Hid (Bk 25 W w.heap.size [.slice a o.cs.length ca, .slice b o.ps.length cb]) := X1
  have HX2 : Hid (Bk 25 W (w.heap.size + 1) [.slice a' o.cs.length ca', .slice b' o.ps.length cb']) := X2
  have HBW : Hid (Below w.heap.size w W) := hbW
  clear hg hm hg' hm' X1 X2 hbW
  go_enter Try.func11, Try.ntmps11
  go_wp2
  rw [← hW]
  clear hW g1 g2
  go_loopw [5] (fun i wr => ∃ k : Nat, k ≤ o.cs.length ∧ i = .int .i64 k ∧ Below W.heap.size W wr) (fun i _ => o.cs.length - (intOf i).toNat)
  case atStart => exact ⟨0, Nat.zero_le _, rfl, Below.refl _ _⟩
  case round =>
    obtain ⟨k, hk, rfl, hnx⟩ := hrel
    obtain ⟨x0, x1, _⟩ := (HX1.out.below hnx).two
    obtain ⟨y0, y1, _⟩ := (HX2.out.below hnx).two
    by_cases hkn : k < o.cs.length
    · obtain ⟨b1, o1, a1, c1, ea, l1, d1, p1⟩ := HA.out.rwAt k hkn
      obtain ⟨b2, o2, a2, c2, eb, l2, d2, p2⟩ := HB.out.rwAt k hkn
      obtain ⟨l, hl⟩ : ∃ l, o.cs.getD k [] = l := ⟨_, rfl⟩
      rw [hl] at d1 p1 d2 p2
      have e2 := p1.lenB
      have HD1 : Hid (∀ V, Below W.heap.size W V → V.cell? ⟨b1, o1 + k, none⟩ = some (.slice a1 l.length c1) ∧ V.cell? ⟨b2, o2 + k, none⟩ = some (.slice a2 l.length c2)) := fun V hV => ⟨d1 V hV, d2 V hV⟩
      have HP1 : Hid (Gr PnE S W a1 c1 l) := p1
      have HP2 : Hid (Gr PnE S2 W a2 c2 l) := p2
      have hll : ((l.length : Int) != (l.length : Int)) = false := by simp
      obtain ⟨q1, q2⟩ := HD1.out wr hnx
      have i1 : (0 : Int) ≤ (k : Int) := by omega
      have i2 : (k : Int) < (o.cs.length : Int) := by omega
      subst ea eb
      clear hl d1 d2 p1 p2
      go_wp2_with fail
      go_quiet (fail)
      have HNX : Hid (Below W.heap.size W wr) := hnx
      clear q1 q2 hnx x0 x1 y0 y1
      go_wp2
      go_loopw [6] (fun i wr2 => ∃ j : Nat, j ≤ l.length ∧ i = .int .i64 j ∧ Below W.heap.size W wr2) (fun i _ => l.length - (intOf i).toNat)
      case atStart => exact ⟨0, Nat.zero_le _, rfl, below_drewN HNX.out _⟩
      case round =>
        obtain ⟨j, hj, rfl, hny⟩ := hrel
        obtain ⟨q1, q2⟩ := HD1.out wr hny
        obtain ⟨x0, x1, _⟩ := (HX1.out.below hny).two
        obtain ⟨y0, y1, _⟩ := (HX2.out.below hny).two
        by_cases hjn : j < l.length
        · obtain ⟨b3, o3, ec, _, _, c0, c1', c2'⟩ := HP1.out.pn hny j hjn
          obtain ⟨b4, o4, ed, _, _, d0, d1, d2⟩ := HP2.out.pn hny j hjn
          generalize l.getD j Pn.none = t at *
          obtain ⟨x, y, z⟩ := t
          dsimp only at c0 c1' c2' d0 d1 d2
          subst ec ed
          have i3 : (0 : Int) ≤ (j : Int) := by omega
          have i4 : (j : Int) < (l.length : Int) := by omega
          go_wp2_with fail
          go_quiet (fail)
          go_wp2
          go_roundw
          case rel => exact ⟨j + 1, by omega, by go_num, below_drewN hny _⟩
          case measure => simp [intOf]; omega
        · have g1 : ¬ (j : Int) < (l.length : Int) := by omega
          go_wp2
          go_roundw
          case rel => exact ⟨k + 1, by omega, by go_num, hny⟩
          case measure => simp [intOf]; omega
    · have g1 : ¬ (k : Int) < (o.cs.length : Int) := by omega
      go_wp2
      clear x0 x1 y0 y1 hkn hk g1
      go_loopw [7] (fun i wr => ∃ k : Nat, k ≤ o.ps.length ∧ i = .int .i64 k ∧ Below W.heap.size W wr) (fun i _ => o.ps.length - (intOf i).toNat)
      case atStart => exact ⟨0, Nat.zero_le _, rfl, hnx⟩
      case round =>
        clear hnx
        obtain ⟨k, hk, rfl, hnx⟩ := hrel
        obtain ⟨x0, x1, _⟩ := (HX1.out.below hnx).two
        obtain ⟨y0, y1, _⟩ := (HX2.out.below hnx).two
        by_cases hkn : k < o.ps.length
        · obtain ⟨b3, o3, ec, _, _, c0, c1', c2'⟩ := HC.out.pa hnx k hkn
          obtain ⟨b4, o4, ed, _, _, d0, d1, d2⟩ := HD.out.pa hnx k hkn
          generalize o.ps.getD k Pa.none = t at *
          obtain ⟨x, y, z⟩ := t
          dsimp only at c0 c1' c2' d0 d1 d2
          subst ec ed
          have i3 : (0 : Int) ≤ (k : Int) := by omega
          have i4 : (k : Int) < (o.ps.length : Int) := by omega
          go_wp2_with fail
          go_quiet (fail)
          go_wp2
          go_roundw
          case rel => exact ⟨k + 1, by omega, by go_num, below_drewN hnx _⟩
          case measure => simp [intOf]; omega
        · have g1 : ¬ (k : Int) < (o.ps.length : Int) := by omega
          have hbW := HBW.out.trans (hnx.mono HBW.out.size)
          go_wp2
          go_ret
          exact ⟨rfl, hbW⟩

end Go.Proofs.Ytdojgkejpfdaeaa

namespace Go.Proofs.Ytdojgkejpfdaeaa
open Go.RowKit Go.Maps
set_option linter.unusedSimpArgs false
set_option linter.unusedVariables false

set_option maxHeartbeats 400000 in
set_option maxRecDepth 100000 in
theorem sField_any (z : Int) (w : World) :
    Calls Try.prog 34 #[.int .i64 z] w fun e w' => e = .returned (.bool (fdB z)) ∧ w = w' := by
  by_cases h1 : -32768 ≤ z
  · have g1 : decide (-32768 ≤ z) = true := decide_eq_true h1
    have HE : Hid (decide (z ≤ 32767) = fdB z) := by show _ = _; rw [fdB]; exact decide_eq_decide.2 ⟨fun h => ⟨h1, h⟩, fun h => h.2⟩
    go_enter Try.func34, Try.ntmps34
    go_wp2
    go_ret
    exact ⟨rt_bool HE.out, rfl⟩
  · have g1 : decide (-32768 ≤ z) = false := decide_eq_false h1
    have HE : Hid (false = fdB z) := by show _ = _; rw [fdB]; exact (decide_eq_false (fun h => h1 h.1)).symm
    go_enter Try.func34, Try.ntmps34
    go_wp2
    go_ret
    exact ⟨rt_bool HE.out, rfl⟩
theorem sFieldB_any (z : Int) (w : World) :
    Calls Try.prog 34 #[.int .i64 z] w fun e w' => e = .returned (.bool (fdB z)) ∧ Below w.heap.size w w' :=
  (sField_any z w).mono fun e w' h => ⟨h.1, h.2 ▸ Below.refl _ _⟩

end Go.Proofs.Ytdojgkejpfdaeaa
