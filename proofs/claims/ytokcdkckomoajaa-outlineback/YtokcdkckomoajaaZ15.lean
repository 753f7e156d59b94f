/-
  outline.partsOf, outline.outlineOf: the walks.
  outline.Read: the walk.
  foundryref12.Same, of two alike: the walk.
  What a law is told of a slice of bytes, or of int32, that came in.
  What a law is told of things that came in, one for all (Opens).
-/
import Derived.Test.YtokcdkckomoajaaZ14
import Derived.Test.YtokcdkckomoajaaZ12
import Derived.Test.YtokcdkckomoajaaZ7
import Derived.BigQuiet
import Derived.Deep.QuietTactic
import Derived.WalkSmall
import Derived.Outline
import Derived.Test.YtokcdkckomoajaaZ1
import Derived.ProofKit
import Derived.Test.YtokcdkckomoajaaZ6
import Derived.Deep.Strs
import Derived.OpenShut
import Derived.SizedLaws
import Derived.Lib.SmallJoins
namespace Go.Proofs.Ytokcdkckomoajaa
open Go.RowKit Go.Maps
set_option linter.unusedSimpArgs false
set_option linter.unusedVariables false

theorem psR_succ (s : List Nat) (k : Nat) : psR s (k + 1) = psR s k ++ [paR (s.drop (6 * k))] := by unfold psR; rw [List.range_succ, List.map_append]; rfl
theorem psR_len (s : List Nat) (k : Nat) : (psR s k).length = k := by unfold psR; rw [List.length_map, List.length_range]
theorem Gw.neBk {α : Type} {E : El α} {t u : TypeId} {base g : Nat} {S : Nat → Prop} {w : World} {v : Value} {l : List α} {cs : List Value} (h : Gw E t base S w v l) (hb : Bk u w g cs) (ht : u ≠ t) : v.ownBlock ≠ some g := by
  intro e
  obtain ⟨cur, k1⟩ := h.ty e
  rw [hb] at k1
  simp at k1
  exact ht k1.2
theorem sx16_le {v : Nat} (h : v < 65536) : -32768 ≤ sx16 v ∧ sx16 v ≤ 32767 := by unfold sx16; split <;> omega

set_option maxHeartbeats 4000000 in
set_option maxRecDepth 100000 in
theorem cpartsOf_any (g : Nat) (pa : Option Addr) (pc : Nat) (xs : List Nat) (p m : Nat) (w : World) (h : Sc 73 w g pa pc xs p) (hp : p ≤ 1000) (hm : min (hd2 (xs.drop p)) 6 = m) (hpb : ∀ b o, pa = some ⟨b, o, none⟩ → xs ≠ [] → b < w.heap.size) :
    Calls Try.prog 53 #[pg g] w fun e w' => ∃ a' c', e = .returned (.slice a' (psR (xs.drop (p + 2)) m).length c') ∧ Gr PaE (fun _ => False) w' a' c' (psR (xs.drop (p + 2)) m) ∧ (∀ b o, a' = some ⟨b, o, none⟩ → w.heap.size ≤ b) ∧ Kp g w w' := by
  have hu := cSu16_any g pa pc xs p w h (by omega)
  have hlt := hd2_lt (h.rb.lim.drop p)
  have HPB : Hid (∀ b o, pa = some ⟨b, o, none⟩ → xs ≠ [] → b < w.heap.size) := hpb
  generalize hd2 (xs.drop p) = z at *
  have hmz : min (z : Int) 6 = (m : Int) := by omega
  have hm6 : m ≤ 6 := by omega
  clear h hm hpb
  go_enter Try.func53, Try.ntmps53
  go_wp2_with fail
  refine hu.mono ?_
  rintro e u1 ⟨rfl, hS0, hK0⟩
  have HS0 : Hid (Sc 73 u1 g pa pc xs (p + 2)) := hS0
  have HK0 : Hid (Kp g w u1) := hK0
  clear hu hS0 hK0
  go_wp2
  clear hmz
  go_loopw [3, 10] (fun v i wr => ∃ k : Nat, k ≤ m ∧ i = .int .i64 k ∧ Gw PaE 69 w.heap.size (fun _ => False) wr v (psR (xs.drop (p + 2)) k) ∧ Sc 73 wr g pa pc xs (p + 2 + 6 * k) ∧ Kp g w wr) (fun _ i _ => m - (intOf i).toNat)
  case atStart => exact ⟨0, Nat.zero_le _, rfl, Gw.nil _ _ _ _ _, HS0.out, HK0.out⟩
  case round =>
    clear HS0 HK0
    obtain ⟨k, hk, rfl, hG, hS, hK⟩ := hrel
    obtain ⟨a3, c3, rfl, hgr, hbk⟩ := hG.slice
    by_cases hkm : k < m
    · have g1 : (k : Int) < (m : Int) := by omega
      have HPS : Hid (psR (xs.drop (p + 2)) (k + 1) = psR (xs.drop (p + 2)) k ++ [⟨(hd2 (xs.drop (p + 2 + 6 * k)) : Int), sx16 (hd2 (xs.drop (p + 2 + 6 * k + 2))), sx16 (hd2 (xs.drop (p + 2 + 6 * k + 2 + 2)))⟩]) := by
        show _ = _
        rw [psR_succ, List.drop_drop]
        unfold paR
        rw [List.drop_drop, List.drop_drop]
      have hll : (psR (xs.drop (p + 2)) k).length + 1 ≤ 1000000 := by rw [psR_len]; omega
      have hy1 := hd2_lt (hS.rb.lim.drop (p + 2 + 6 * k))
      have hy2 := sx16_le (hd2_lt (hS.rb.lim.drop (p + 2 + 6 * k + 2)))
      have hy3 := sx16_le (hd2_lt (hS.rb.lim.drop (p + 2 + 6 * k + 2 + 2)))
      have hu1 := cSu16_any g pa pc xs (p + 2 + 6 * k) wr hS (by omega)
      obtain ⟨gl, hgl⟩ : ∃ z, hd2 (xs.drop (p + 2 + 6 * k)) = z := ⟨_, rfl⟩
      rw [hgl] at hu1 HPS hy1
      clear hgl hgr hbk
      generalize psR (xs.drop (p + 2)) k = L at *
      go_wp2_with fail
      refine hu1.mono ?_
      rintro e v1 ⟨rfl, hS1, hK1⟩
      have hG1 := hG.kp hS.bk (by decide) hK1
      have hKa := hK.trans hK1
      clear hu1 hS hK hK1 hG
      have hu2 := cSi16_any g pa pc xs (p + 2 + 6 * k + 2) v1 hS1 (by omega)
      obtain ⟨dx, hdx⟩ : ∃ z, sx16 (hd2 (xs.drop (p + 2 + 6 * k + 2))) = z := ⟨_, rfl⟩
      rw [hdx] at hu2 HPS hy2
      clear hdx
      go_wp2_with fail
      refine hu2.mono ?_
      rintro e v2 ⟨rfl, hS2, hK2⟩
      have hG2 := hG1.kp hS1.bk (by decide) hK2
      replace hKa := hKa.trans hK2
      clear hu2 hS1 hK2 hG1
      have hu3 := cSi16_any g pa pc xs (p + 2 + 6 * k + 2 + 2) v2 hS2 (by omega)
      obtain ⟨dy, hdy⟩ : ∃ z, sx16 (hd2 (xs.drop (p + 2 + 6 * k + 2 + 2))) = z := ⟨_, rfl⟩
      rw [hdy] at hu3 HPS hy3
      clear hdy
      go_wp2_with fail
      refine hu3.mono ?_
      rintro e v3 ⟨rfl, hS3, hK3⟩
      have hG3 := hG2.kp hS2.bk (by decide) hK3
      replace hKa := hKa.trans hK3
      clear hu3 hS2 hK3 hG2
      have hI1 : I64 (gl : Int) := ⟨by omega, by omega⟩
      have hI2 : I64 dx := ⟨by omega, by omega⟩
      have hI3 : I64 dy := ⟨by omega, by omega⟩
      have bp := bl1 (w := v3) (.cells #[.int .i64 (gl : Int), .int .i64 dx, .int .i64 dy] 69)
      have hGb := hG3.below bp
      have hSb := hS3.below bp
      have hone : Gr PaE (fun k => False ∧ (Value.slice a3 L.length c3).ownBlock ≠ some k) (v3.alloc (.cells #[.int .i64 (gl : Int), .int .i64 dx, .int .i64 dy] 69)) (some ⟨v3.heap.size, 0, none⟩) 1 [⟨(gl : Int), dx, dy⟩] := Gr.one_new (E := PaE) (paC ⟨(gl : Int), dx, dy⟩) 69 (PaE_rep.2 ⟨rfl, hI1, hI2, hI3⟩)
      have hKb : Kp g w (v3.alloc (.cells #[.int .i64 (gl : Int), .int .i64 dx, .int .i64 dy] 69)) := hKa.alloc _
      have hbs := hKb.size
      have hvg := hGb.neBk hSb.bk (by decide)
      clear bp hG3 hS3 hKa
      go_wp2_with (at_builtin; refine wpList_append_el 23 69 Try.underlying23 info_pa rfl (by decide) (by decide) rfl _ _ rfl w.heap.size (fun _ => False) _ L rfl hGb (some ⟨v3.heap.size, 0, none⟩) 1 1 [⟨(gl : Int), dx, dy⟩] rfl rfl hone hll hbs ?_)
      intro v9 w9 hT9 hgrow _
      have hS9 := hSb.grown hgrow hvg (fun b o e hne e2 => by
        have := (hGb.lo e2).1
        have := HPB.out b o e hne
        omega)
      have hK9 : Kp g w w9 := hKb.grown hgrow (fun k hk => (hGb.lo hk).1)
      rw [← HPS.out] at hT9
      clear hgrow hGb hSb hone hKb hbs hvg hll HPS
      go_wp2
      go_roundw
      case rel => exact ⟨k + 1, by omega, by go_num, hT9, by rw [show p + 2 + 6 * (k + 1) = p + 2 + 6 * k + 2 + 2 + 2 by omega]; exact hS9, hK9⟩
      case measure => simp [intOf]; omega
    · obtain rfl : k = m := by omega
      have g1 : ¬ (k : Int) < (k : Int) := by omega
      have HB3 : Hid (∀ b o, a3 = some ⟨b, o, none⟩ → w.heap.size ≤ b) := fun b o e => (hbk b o e).1
      clear hG hbk hS
      go_wp2
      go_ret
      exact ⟨a3, c3, rfl, hgr, HB3.out, hK⟩

theorem Gr.keptS {α : Type} {E : El α} {S : Nat → Prop} {w w' : World} {a : Option Addr} {cap n : Nat} {l : List α} (h : Gr E S w a cap l) (hs : w.heap.size ≤ w'.heap.size) (hk : ∀ k, n ≤ k → w'.heap[k]? = w.heap[k]?) (hS : ∀ k, S k → n ≤ k) (ha : ∀ b o, a = some ⟨b, o, none⟩ → n ≤ b) : Gr E (fun _ => True) w' a cap l :=
  h.stay hs (fun k h1 _ => ⟨trivial, hk k (hS k h1)⟩) (fun b o e _ _ => hk b (ha b o e))
theorem Bk.set2 {t : TypeId} {w : World} {g : Nat} {x y : Value} (h : Bk t w g [x, y]) (x' y' : Value) : Bk t ((w.setCell ⟨g, 0, none⟩ x').setCell ⟨g, 1, none⟩ y') g [x', y'] := (h.set 0 x').set 1 y'
theorem set2_other {w : World} {g b : Nat} (x' y' : Value) (hb : b ≠ g) : ((w.setCell ⟨g, 0, none⟩ x').setCell ⟨g, 1, none⟩ y').heap[b]? = w.heap[b]? := by
  rw [Below.heap_setCell _ _ _ _ (fun e => hb e), Below.heap_setCell _ _ _ _ (fun e => hb e)]
theorem set2_size {w : World} {g : Nat} (x' y' : Value) : ((w.setCell ⟨g, 0, none⟩ x').setCell ⟨g, 1, none⟩ y').heap.size = w.heap.size := by simp [World.setCell]

set_option maxHeartbeats 4000000 in
set_option maxRecDepth 100000 in
theorem coutlineOf_any (g : Nat) (pa : Option Addr) (pc : Nat) (xs : List Nat) (w : World) (h : Sc 73 w g pa pc xs 0) (hpb : ∀ b o, pa = some ⟨b, o, none⟩ → xs ≠ [] → b < w.heap.size) :
    Calls Try.prog 36 #[pg g] w fun e w' => ∃ a ca b cb, e = .returned (.agg #[.slice a (candK xs).cs.length ca, .slice b (candK xs).ps.length cb]) ∧ Gr PnE.row (fun k => w.heap.size < k) w' a ca (candK xs).cs ∧ Gr PaE (fun _ => False) w' b cb (candK xs).ps ∧ (∀ c o, a = some ⟨c, o, none⟩ → w.heap.size < c) ∧ (∀ c o, b = some ⟨c, o, none⟩ → w.heap.size < c) ∧ Kp g w w' := by
  obtain ⟨W, hW, X1, hbW⟩ : ∃ W, W = w.alloc (.cells #[.slice none 0 0, .slice none 0 0] 25) ∧ Bk 25 W w.heap.size [.slice none 0 0, .slice none 0 0] ∧ Below w.heap.size w W := ⟨_, rfl, Bk.new _ _ _, bl1 _⟩
  have hWs : W.heap.size = w.heap.size + 1 := by rw [hW]; simp
  have hgl : g < w.heap.size := h.bk.lt
  replace h := h.below hbW
  have hKW : Kp g w W := Kp.of hbW
  have hu := cSi16_any g pa pc xs 0 W h (by omega)
  have hn := sx16_le (hd2_lt (h.rb.lim.drop 0))
  rw [List.drop_zero] at hu hn
  have HCK : Hid (candK xs = if sx16 (hd2 xs) = -1 then ⟨[], psR ((xs.drop 2).drop 2) (min (hd2 (xs.drop 2)) 6)⟩ else ⟨conK (min (sx16 (hd2 xs)) 10).toNat (xs.drop 2), []⟩) := rfl
  obtain ⟨n, hn0⟩ : ∃ n, sx16 (hd2 xs) = n := ⟨_, rfl⟩
  rw [hn0] at hu hn HCK
  clear hn0 h
  go_enter Try.func36, Try.ntmps36
  go_wp2_with fail
  rw [← hW]
  clear hW
  refine hu.mono ?_
  rintro e u1 ⟨rfl, hS, hK1⟩
  have hK := hKW.trans hK1
  replace X1 := X1.kp hK1 (by omega)
  have hsz := hK1.size
  clear hu hK1 hKW hbW
  have HPB : Hid (∀ b o, pa = some ⟨b, o, none⟩ → xs ≠ [] → b < u1.heap.size) := fun b o e hne => Nat.lt_of_lt_of_le (hpb b o e hne) hK.size
  by_cases h1 : n = -1
  · have HC : Hid (candK xs = ⟨[], psR ((xs.drop 2).drop 2) (min (hd2 (xs.drop 2)) 6)⟩) := by show _ = _; rw [HCK.out, if_pos h1]
    have g1 : (n == -1) = true := by simp [h1]
    have hpo := cpartsOf_any g pa pc xs 2 (min (hd2 (xs.drop 2)) 6) u1 hS (by omega) rfl HPB.out
    rw [show 2 + 2 = 4 from rfl] at hpo
    rw [List.drop_drop, show 2 + 2 = 4 from rfl] at HC
    generalize psR (xs.drop 4) (min (hd2 (xs.drop 2)) 6) = P at *
    clear h1 HCK hpb
    go_wp2_with fail
    refine hpo.mono ?_
    rintro e u2 ⟨a2, c2, rfl, hgr, hbk, hK2⟩
    replace X1 := X1.kp hK2 (by omega)
    replace hK := hK.trans hK2
    clear hpo hS
    obtain ⟨U, hU⟩ : ∃ U, U = (u2.setCell ⟨w.heap.size, 0, none⟩ (.slice none 0 0)).setCell ⟨w.heap.size, 1, none⟩ (.slice a2 P.length c2) := ⟨_, rfl⟩
    have A := X1.set2 (.slice none 0 0) (.slice a2 P.length c2)
    have hKU := (hK.other (b := w.heap.size) 0 (.slice none 0 0) (Nat.le_refl _)).other (b := w.heap.size) 1 (.slice a2 P.length c2) (Nat.le_refl _)
    have hgU : Gr PaE (fun _ => False) ((u2.setCell ⟨w.heap.size, 0, none⟩ (.slice none 0 0)).setCell ⟨w.heap.size, 1, none⟩ (.slice a2 P.length c2)) a2 c2 P := hgr.stay (by rw [set2_size]; exact Nat.le_refl _) (fun k hk => hk.elim) (fun b o e _ _ => set2_other _ _ (by have := hbk b o e; omega))
    rw [← hU] at A hKU hgU
    obtain ⟨x0, x1, f0, f1⟩ := X1.two
    have HBK : Hid (∀ c o, a2 = some ⟨c, o, none⟩ → w.heap.size < c) := fun c o e => by have := hbk c o e; omega
    clear hK hgr hbk hK2
    go_wp2
    rw [← hU]
    clear hU
    (try simp only [Exit.inBlock, Exit.then])
    refine bodyPost_ret (v := .agg #[.slice none 0 0, .slice a2 P.length c2]) (by obtain ⟨r0, r1, _⟩ := A.two; simp [results, Try.results36, go_sem, r0, r1]) rfl ⟨none, 0, a2, c2, by rw [HC.out]; rfl, by rw [HC.out]; exact Gr.nil _ _ _ _ _ (Nat.zero_le _) (fun _ => rfl), by rw [HC.out]; exact hgU, (fun c o e => by cases e), HBK.out, hKU⟩
  · have HC : Hid (candK xs = ⟨conK (min n 10).toNat (xs.drop 2), []⟩) := by show _ = _; rw [HCK.out, if_neg h1]
    have g1 : (n == -1) = false := by simp [h1]
    have hco := ccontoursOf_any n (min n 10).toNat g pa pc xs 2 u1 hS (by omega) rfl HPB.out ⟨by omega, by omega⟩
    generalize conK (min n 10).toNat (xs.drop 2) = C at *
    clear h1 HCK hpb
    go_wp2_with fail
    refine hco.mono ?_
    rintro e u2 ⟨a2, c2, rfl, hgr, hbk, hK2⟩
    replace X1 := X1.kp hK2 (by omega)
    replace hK := hK.trans hK2
    clear hco hS
    obtain ⟨U, hU⟩ : ∃ U, U = (u2.setCell ⟨w.heap.size, 0, none⟩ (.slice a2 C.length c2)).setCell ⟨w.heap.size, 1, none⟩ (.slice none 0 0) := ⟨_, rfl⟩
    have A := X1.set2 (.slice a2 C.length c2) (.slice none 0 0)
    have hKU := (hK.other (b := w.heap.size) 0 (.slice a2 C.length c2) (Nat.le_refl _)).other (b := w.heap.size) 1 (.slice none 0 0) (Nat.le_refl _)
    have hgU : Gr PnE.row (fun k => w.heap.size < k) ((u2.setCell ⟨w.heap.size, 0, none⟩ (.slice a2 C.length c2)).setCell ⟨w.heap.size, 1, none⟩ (.slice none 0 0)) a2 c2 C := hgr.stay (by rw [set2_size]; exact Nat.le_refl _) (fun k hk _ => ⟨by omega, set2_other _ _ (by omega)⟩) (fun b o e _ _ => set2_other _ _ (by have := hbk b o e; omega))
    rw [← hU] at A hKU hgU
    obtain ⟨x0, x1, f0, f1⟩ := X1.two
    have HBK : Hid (∀ c o, a2 = some ⟨c, o, none⟩ → w.heap.size < c) := fun c o e => by have := hbk c o e; omega
    clear hK hgr hbk hK2
    go_wp2
    rw [← hU]
    clear hU
    (try simp only [Exit.inBlock, Exit.then])
    refine bodyPost_ret (v := .agg #[.slice a2 C.length c2, .slice none 0 0]) (by obtain ⟨r0, r1, _⟩ := A.two; simp [results, Try.results36, go_sem, r0, r1]) rfl ⟨a2, c2, none, 0, by rw [HC.out]; rfl, by rw [HC.out]; exact hgU, by rw [HC.out]; exact Gr.nil _ _ _ _ _ (Nat.zero_le _) (fun _ => rfl), HBK.out, (fun c o e => by cases e), hKU⟩

end Go.Proofs.Ytokcdkckomoajaa

namespace Go.Proofs.Ytokcdkckomoajaa
open Go.RowKit Go.Maps
set_option linter.unusedSimpArgs false
set_option linter.unusedVariables false

theorem rdO_K (b : List Nat) : rdOE b = (if (decide (wrOE (candK b) = 0) && decide (wrOB (candK b) = b)) = true then 0 else 2) ∧ rdOL b = (if (decide (wrOE (candK b) = 0) && decide (wrOB (candK b) = b)) = true then candK b else Ol.none) := by
  obtain ⟨h1, h2⟩ := candK_ok b
  rw [h1]
  unfold rdOE rdOL
  cases h : rdOk b with
  | false => exact ⟨rfl, rfl⟩
  | true => exact ⟨rfl, by rw [h2 h]⟩

set_option maxHeartbeats 4000000 in
set_option maxRecDepth 100000 in
theorem creadO_any (pa : Option Addr) (pc : Nat) (xs : List Nat) (w : World) (h : Rb w pa pc xs) :
    Calls Try.prog 13 #[.slice pa xs.length pc] w fun e w' => ∃ a ca b cb, e = .returned (.tuple #[.agg #[.slice a (rdOL xs).cs.length ca, .slice b (rdOL xs).ps.length cb], .int .i64 (rdOE xs)]) ∧ Gr PnE.row (fun _ => True) w' a ca (rdOL xs).cs ∧ Gr PaE (fun _ => True) w' b cb (rdOL xs).ps ∧ Below w.heap.size w w' := by
  have hle := h.le
  have hcm := h.cap
  unfold maxLen at hcm
  have HB : Hid (∀ b o, pa = some ⟨b, o, none⟩ → xs ≠ [] → b < w.heap.size) := fun b o e hne => by
    rcases h.2.2.2.2 with h0 | ⟨b', o', e', hb', _⟩
    · exact absurd h0 hne
    · rw [e] at e'
      cases e'
      exact hb'
  obtain ⟨W, hW, X1, X2, hbW⟩ : ∃ W, W = (w.alloc (.cells #[.slice none 0 0, .slice none 0 0] 25)).alloc (.cells #[.slice pa xs.length pc, .int .i64 0] 73) ∧ Bk 25 W w.heap.size [.slice none 0 0, .slice none 0 0] ∧ Bk 73 W (w.heap.size + 1) [.slice pa xs.length pc, .int .i64 0] ∧ Below w.heap.size w W := ⟨_, rfl, (Bk.new _ _ _).below (bl1 _), Bk.new1 _ _ _ _, bl2 _ _⟩
  have hWs : W.heap.size = w.heap.size + 2 := by rw [hW]; simp
  have hrb := h.below hbW
  have hS : Sc 73 W (w.heap.size + 1) pa pc xs 0 := ⟨X2, hrb, fun b o e hne => by have := HB.out b o e hne; omega⟩
  have hou := coutlineOf_any (w.heap.size + 1) pa pc xs W hS (fun b o e hne => Nat.lt_of_lt_of_le (HB.out b o e hne) hbW.size)
  have HRE : Hid (_) := (rdO_K xs).1
  have HRL : Hid (_) := (rdO_K xs).2
  generalize rdOE xs = re at *
  generalize rdOL xs = rl at *
  generalize candK xs = o at *
  have HRB : Hid (Rb w pa pc xs) := h
  have HWS : Hid (W.heap.size = w.heap.size + 2) := hWs
  clear h hrb hS X2 hWs
  go_enter Try.func13, Try.ntmps13
  go_wp2_with fail
  rw [← hW]
  clear hW
  refine hou.mono ?_
  rintro e u1 ⟨a1, c1, b1, d1, rfl, hgc, hgp, hba, hbb, hKp⟩
  have hWs := HWS.out
  have hB1 : Below w.heap.size w u1 := hbW.trans (hKp.below (by omega) (by omega))
  replace X1 := X1.kp hKp (by omega)
  have HBA : Hid (∀ c o, a1 = some ⟨c, o, none⟩ → w.heap.size < c) := fun c o e => by have := hba c o e; omega
  have HBB : Hid (∀ c o, b1 = some ⟨c, o, none⟩ → w.heap.size < c) := fun c o e => by have := hbb c o e; omega
  clear hou
  obtain ⟨V, hV, Y1, hbV⟩ : ∃ V, V = u1.alloc (.cells #[.slice a1 o.cs.length c1, .slice b1 o.ps.length d1] 25) ∧ Bk 25 V u1.heap.size [.slice a1 o.cs.length c1, .slice b1 o.ps.length d1] ∧ Below u1.heap.size u1 V := ⟨_, rfl, Bk.new _ _ _, bl1 _⟩
  have hgl : w.heap.size < u1.heap.size := X1.lt
  replace X1 := X1.below hbV
  replace hgc := (hgc.below hbV).wide (S' := fun k => w.heap.size < k) (fun k h1 _ => by omega)
  replace hgp := hgp.below hbV
  replace hB1 : Below w.heap.size w V := hB1.trans (hbV.mono hB1.size)
  have hwr := cwriteO_any _ a1 c1 b1 d1 o V hgc hgp.anyA
  have kc := hgc.lenB
  have kp := hgp.lenB
  clear hbV hKp hbW hba hbb hWs
  go_wp2_with fail
  rw [← hV]
  clear hV
  refine hwr.mono ?_
  rintro e u2 ⟨a2, c2, rfl, hr2, hb2⟩
  replace X1 := X1.below hb2
  replace Y1 := Y1.below hb2
  replace hgc := hgc.below hb2
  replace hgp := hgp.below hb2
  replace hB1 : Below w.heap.size w u2 := hB1.trans (hb2.mono hB1.size)
  clear hwr hb2
  have heq := equal_any a2 pa c2 pc (wrOB o) xs u2 hr2 (HRB.out.below hB1)
  obtain ⟨x0, x1, f0, f1⟩ := X1.two
  have hba := HBA.out
  have hbb := HBB.out
  have hOK : wrOE o = 0 ∨ wrOE o ≠ 0 := by omega
  rcases hOK with h0 | h0
  rotate_left
  · have HE : Hid (re = 2 ∧ rl = Ol.none) := by rw [decide_eq_false h0, Bool.false_and] at HRE HRL; exact ⟨HRE.out, HRL.out⟩
    have g1 : (wrOE o != 0) = true := bne_iff_ne.2 h0
    clear h0 heq HRE HRL
    generalize wrOB o = ob at *
    generalize wrOE o = oe at *
    obtain ⟨U, hU⟩ : ∃ U, U = (u2.setCell ⟨w.heap.size, 0, none⟩ (.slice none 0 0)).setCell ⟨w.heap.size, 1, none⟩ (.slice none 0 0) := ⟨_, rfl⟩
    have A := X1.set2 (.slice none 0 0) (.slice none 0 0)
    have hbU : Below w.heap.size w ((u2.setCell ⟨w.heap.size, 0, none⟩ (.slice none 0 0)).setCell ⟨w.heap.size, 1, none⟩ (.slice none 0 0)) := (hB1.setCell (p := ⟨w.heap.size, 0, none⟩) (Nat.le_refl _) _).setCell (p := ⟨w.heap.size, 1, none⟩) (Nat.le_refl _) _
    rw [← hU] at A hbU
    clear hgc hgp hba hbb hB1
    go_wp2
    rw [← hU]
    clear hU
    (try simp only [Exit.inBlock, Exit.then])
    refine bodyPost_ret (v := .tuple #[.agg #[.slice none 0 0, .slice none 0 0], .int .i64 2]) (by obtain ⟨r0, r1, _⟩ := A.two; simp [results, Try.results13, go_sem, r0, r1]) rfl ⟨none, 0, none, 0, by rw [HE.out.1, HE.out.2]; rfl, by rw [HE.out.2]; exact Gr.nil _ _ _ _ _ (Nat.zero_le _) (fun _ => rfl), by rw [HE.out.2]; exact Gr.nil _ _ _ _ _ (Nat.zero_le _) (fun _ => rfl), hbU⟩
  have g1 : (wrOE o != 0) = false := by rw [h0]; rfl
  by_cases h1 : wrOB o = xs
  rotate_left
  · have HE : Hid (re = 2 ∧ rl = Ol.none) := by rw [decide_eq_false h1, Bool.and_false] at HRE HRL; exact ⟨HRE.out, HRL.out⟩
    rw [decide_eq_false h1] at heq
    clear h0 h1 HRE HRL
    generalize wrOB o = ob at *
    generalize wrOE o = oe at *
    go_wp2_with fail
    refine heq.mono ?_
    rintro e v ⟨rfl, rfl⟩
    clear heq
    obtain ⟨U, hU⟩ : ∃ U, U = (u2.setCell ⟨w.heap.size, 0, none⟩ (.slice none 0 0)).setCell ⟨w.heap.size, 1, none⟩ (.slice none 0 0) := ⟨_, rfl⟩
    have A := X1.set2 (.slice none 0 0) (.slice none 0 0)
    have hbU : Below w.heap.size w ((u2.setCell ⟨w.heap.size, 0, none⟩ (.slice none 0 0)).setCell ⟨w.heap.size, 1, none⟩ (.slice none 0 0)) := (hB1.setCell (p := ⟨w.heap.size, 0, none⟩) (Nat.le_refl _) _).setCell (p := ⟨w.heap.size, 1, none⟩) (Nat.le_refl _) _
    rw [← hU] at A hbU
    clear hgc hgp hba hbb hB1
    go_wp2
    rw [← hU]
    clear hU
    (try simp only [Exit.inBlock, Exit.then])
    refine bodyPost_ret (v := .tuple #[.agg #[.slice none 0 0, .slice none 0 0], .int .i64 2]) (by obtain ⟨r0, r1, _⟩ := A.two; simp [results, Try.results13, go_sem, r0, r1]) rfl ⟨none, 0, none, 0, by rw [HE.out.1, HE.out.2]; rfl, by rw [HE.out.2]; exact Gr.nil _ _ _ _ _ (Nat.zero_le _) (fun _ => rfl), by rw [HE.out.2]; exact Gr.nil _ _ _ _ _ (Nat.zero_le _) (fun _ => rfl), hbU⟩
  have HE : Hid (re = 0 ∧ rl = o) := by rw [decide_eq_true h0, decide_eq_true h1, Bool.and_self] at HRE HRL; exact ⟨HRE.out, HRL.out⟩
  rw [decide_eq_true h1] at heq
  clear h0 h1 HRE HRL
  generalize wrOB o = ob at *
  generalize wrOE o = oe at *
  go_wp2_with fail
  refine heq.mono ?_
  rintro e v ⟨rfl, rfl⟩
  clear heq
  obtain ⟨y0, y1, _⟩ := Y1.two
  obtain ⟨U, hU⟩ : ∃ U, U = (u2.setCell ⟨w.heap.size, 0, none⟩ (.slice a1 o.cs.length c1)).setCell ⟨w.heap.size, 1, none⟩ (.slice b1 o.ps.length d1) := ⟨_, rfl⟩
  have A := X1.set2 (.slice a1 o.cs.length c1) (.slice b1 o.ps.length d1)
  have hbU : Below w.heap.size w ((u2.setCell ⟨w.heap.size, 0, none⟩ (.slice a1 o.cs.length c1)).setCell ⟨w.heap.size, 1, none⟩ (.slice b1 o.ps.length d1)) := (hB1.setCell (p := ⟨w.heap.size, 0, none⟩) (Nat.le_refl _) _).setCell (p := ⟨w.heap.size, 1, none⟩) (Nat.le_refl _) _
  have hgcU : Gr PnE.row (fun _ => True) ((u2.setCell ⟨w.heap.size, 0, none⟩ (.slice a1 o.cs.length c1)).setCell ⟨w.heap.size, 1, none⟩ (.slice b1 o.ps.length d1)) a1 c1 o.cs := hgc.stay (by rw [set2_size]; exact Nat.le_refl _) (fun k hk _ => ⟨trivial, set2_other _ _ (by omega)⟩) (fun b o e _ _ => set2_other _ _ (by have := hba b o e; omega))
  have hgpU : Gr PaE (fun _ => True) ((u2.setCell ⟨w.heap.size, 0, none⟩ (.slice a1 o.cs.length c1)).setCell ⟨w.heap.size, 1, none⟩ (.slice b1 o.ps.length d1)) b1 d1 o.ps := hgp.stay (by rw [set2_size]; exact Nat.le_refl _) (fun k hk => hk.elim) (fun b o e _ _ => set2_other _ _ (by have := hbb b o e; omega))
  rw [← hU] at A hbU hgcU hgpU
  clear hgc hgp hba hbb hB1
  go_wp2
  rw [← hU]
  clear hU
  (try simp only [Exit.inBlock, Exit.then])
  refine bodyPost_ret (v := .tuple #[.agg #[.slice a1 o.cs.length c1, .slice b1 o.ps.length d1], .int .i64 0]) (by obtain ⟨r0, r1, _⟩ := A.two; simp [results, Try.results13, go_sem, r0, r1]) rfl ⟨a1, c1, b1, d1, by rw [HE.out.1, HE.out.2], by rw [HE.out.2]; exact hgcU, by rw [HE.out.2]; exact hgpU, hbU⟩

end Go.Proofs.Ytokcdkckomoajaa

namespace Go.Proofs.Ytokcdkckomoajaa
open Go.RowKit Go.Maps
set_option linter.unusedSimpArgs false
set_option linter.unusedVariables false

theorem Gr.rwAt {α : Type} {E : El α} {S : Nat → Prop} {w : World} {a : Option Addr} {cap : Nat} {m : List (List α)} (h : Gr E.row S w a cap m) (k : Nat) (hk : k < m.length) :
    ∃ b off a' cap', a = some ⟨b, off, none⟩ ∧ b < w.heap.size ∧ (∀ wr, Below w.heap.size w wr → wr.cell? ⟨b, off + k, none⟩ = some (.slice a' (m.getD k []).length cap')) ∧ Gr E S w a' cap' (m.getD k []) := by
  obtain ⟨b, off, a', cap', e, hb, hc, hr, _⟩ := h.rw (Below.refl _ _) k hk
  exact ⟨b, off, a', cap', e, hb, fun wr hB => (hB.cell (p := ⟨b, off + k, none⟩) hb).trans hc, hr⟩

set_option maxHeartbeats 4000000 in
set_option maxRecDepth 100000 in
theorem ssameO_any (S S2 : Nat → Prop) (a : Option Addr) (ca : Nat) (b : Option Addr) (cb : Nat) (a' : Option Addr) (ca' : Nat) (b' : Option Addr) (cb' : Nat) (o : Ol) (w : World) (hg : Gr PnE.row S w a ca o.cs) (hm : Gr PaE S w b cb o.ps) (hg' : Gr PnE.row S2 w a' ca' o.cs) (hm' : Gr PaE S2 w b' cb' o.ps) :
    Calls Try.prog 16 #[.agg #[.slice a o.cs.length ca, .slice b o.ps.length cb], .agg #[.slice a' o.cs.length ca', .slice b' o.ps.length cb']] w fun e w' => e = .returned (.bool true) ∧ Below w.heap.size w w' := by
  have k1 := hg.lenB
  have k2 := hm.lenB
  have g1 : ((o.cs.length : Int) != (o.cs.length : Int)) = false := by simp
  have g2 : ((o.ps.length : Int) != (o.ps.length : Int)) = false := by simp
  obtain ⟨W, hW, X1, X2, hbW⟩ : ∃ W, W = (w.alloc (.cells #[.slice a o.cs.length ca, .slice b o.ps.length cb] 25)).alloc (.cells #[.slice a' o.cs.length ca', .slice b' o.ps.length cb'] 25) ∧
      Bk 25 W w.heap.size [.slice a o.cs.length ca, .slice b o.ps.length cb] ∧ Bk 25 W (w.heap.size + 1) [.slice a' o.cs.length ca', .slice b' o.ps.length cb'] ∧ Below w.heap.size w W := ⟨_, rfl, (Bk.new _ _ _).below (bl1 _), Bk.new1 _ _ _ _, bl2 _ _⟩
  have HA : Hid (Gr PnE.row S W a ca o.cs) := hg.below hbW
  have HB : Hid (Gr PnE.row S2 W a' ca' o.cs) := hg'.below hbW
  have HC : Hid (Gr PaE S W b cb o.ps) := hm.below hbW
  have HD : Hid (Gr PaE S2 W b' cb' o.ps) := hm'.below hbW
  have HX1 : Hid (Bk 25 W w.heap.size [.slice a o.cs.length ca, .slice b o.ps.length cb]) := X1
  have HX2 : Hid (Bk 25 W (w.heap.size + 1) [.slice a' o.cs.length ca', .slice b' o.ps.length cb']) := X2
  have HBW : Hid (Below w.heap.size w W) := hbW
  clear hg hm hg' hm' X1 X2 hbW
  go_enter Try.func16, Try.ntmps16
  go_wp2
  rw [← hW]
  clear hW g1 g2
  go_loopw [5] (fun i wr => ∃ k : Nat, k ≤ o.cs.length ∧ i = .int .i64 k ∧ Below W.heap.size W wr) (fun i _ => o.cs.length - (intOf i).toNat)
  case atStart => exact ⟨0, Nat.zero_le _, rfl, Below.refl _ _⟩
  case round =>
    obtain ⟨k, hk, rfl, hnx⟩ := hrel
    obtain ⟨x0, x1, _⟩ := (HX1.out.below hnx).two
    obtain ⟨y0, y1, _⟩ := (HX2.out.below hnx).two
    by_cases hkn : k < o.cs.length
    · obtain ⟨b1, o1, a1, c1, ea, l1, d1, p1⟩ := HA.out.rwAt k hkn
      obtain ⟨b2, o2, a2, c2, eb, l2, d2, p2⟩ := HB.out.rwAt k hkn
      obtain ⟨l, hl⟩ : ∃ l, o.cs.getD k [] = l := ⟨_, rfl⟩
      rw [hl] at d1 p1 d2 p2
      have e2 := p1.lenB
      have HD1 : Hid (∀ V, Below W.heap.size W V → V.cell? ⟨b1, o1 + k, none⟩ = some (.slice a1 l.length c1) ∧ V.cell? ⟨b2, o2 + k, none⟩ = some (.slice a2 l.length c2)) := fun V hV => ⟨d1 V hV, d2 V hV⟩
      have HP1 : Hid (Gr PnE S W a1 c1 l) := p1
      have HP2 : Hid (Gr PnE S2 W a2 c2 l) := p2
      have hll : ((l.length : Int) != (l.length : Int)) = false := by simp
      obtain ⟨q1, q2⟩ := HD1.out wr hnx
      have i1 : (0 : Int) ≤ (k : Int) := by omega
      have i2 : (k : Int) < (o.cs.length : Int) := by omega
      subst ea eb
      clear hl d1 d2 p1 p2
      go_wp2_with fail
      go_quiet (fail)
      have HNX : Hid (Below W.heap.size W wr) := hnx
      clear q1 q2 hnx x0 x1 y0 y1
      go_wp2
      go_loopw [6] (fun i wr2 => ∃ j : Nat, j ≤ l.length ∧ i = .int .i64 j ∧ Below W.heap.size W wr2) (fun i _ => l.length - (intOf i).toNat)
      case atStart => exact ⟨0, Nat.zero_le _, rfl, below_drewN HNX.out _⟩
      case round =>
        obtain ⟨j, hj, rfl, hny⟩ := hrel
        obtain ⟨q1, q2⟩ := HD1.out wr hny
        obtain ⟨x0, x1, _⟩ := (HX1.out.below hny).two
        obtain ⟨y0, y1, _⟩ := (HX2.out.below hny).two
        by_cases hjn : j < l.length
        · obtain ⟨b3, o3, ec, _, _, c0, c1', c2'⟩ := HP1.out.pn hny j hjn
          obtain ⟨b4, o4, ed, _, _, d0, d1, d2⟩ := HP2.out.pn hny j hjn
          generalize l.getD j Pn.none = t at *
          obtain ⟨x, y, z⟩ := t
          dsimp only at c0 c1' c2' d0 d1 d2
          subst ec ed
          have i3 : (0 : Int) ≤ (j : Int) := by omega
          have i4 : (j : Int) < (l.length : Int) := by omega
          go_wp2_with fail
          go_quiet (fail)
          go_wp2
          go_roundw
          case rel => exact ⟨j + 1, by omega, by go_num, below_drewN hny _⟩
          case measure => simp [intOf]; omega
        · have g1 : ¬ (j : Int) < (l.length : Int) := by omega
          go_wp2
          go_roundw
          case rel => exact ⟨k + 1, by omega, by go_num, hny⟩
          case measure => simp [intOf]; omega
    · have g1 : ¬ (k : Int) < (o.cs.length : Int) := by omega
      go_wp2
      clear x0 x1 y0 y1 hkn hk g1
      go_loopw [7] (fun i wr => ∃ k : Nat, k ≤ o.ps.length ∧ i = .int .i64 k ∧ Below W.heap.size W wr) (fun i _ => o.ps.length - (intOf i).toNat)
      case atStart => exact ⟨0, Nat.zero_le _, rfl, hnx⟩
      case round =>
        clear hnx
        obtain ⟨k, hk, rfl, hnx⟩ := hrel
        obtain ⟨x0, x1, _⟩ := (HX1.out.below hnx).two
        obtain ⟨y0, y1, _⟩ := (HX2.out.below hnx).two
        by_cases hkn : k < o.ps.length
        · obtain ⟨b3, o3, ec, _, _, c0, c1', c2'⟩ := HC.out.pa hnx k hkn
          obtain ⟨b4, o4, ed, _, _, d0, d1, d2⟩ := HD.out.pa hnx k hkn
          generalize o.ps.getD k Pa.none = t at *
          obtain ⟨x, y, z⟩ := t
          dsimp only at c0 c1' c2' d0 d1 d2
          subst ec ed
          have i3 : (0 : Int) ≤ (k : Int) := by omega
          have i4 : (k : Int) < (o.ps.length : Int) := by omega
          go_wp2_with fail
          go_quiet (fail)
          go_wp2
          go_roundw
          case rel => exact ⟨k + 1, by omega, by go_num, below_drewN hnx _⟩
          case measure => simp [intOf]; omega
        · have g1 : ¬ (k : Int) < (o.ps.length : Int) := by omega
          have hbW := HBW.out.trans (hnx.mono HBW.out.size)
          go_wp2
          go_ret
          exact ⟨rfl, hbW⟩

end Go.Proofs.Ytokcdkckomoajaa

namespace Go.Proofs.Ytokcdkckomoajaa
open Go.RowKit
set_option linter.unusedSimpArgs false
set_option linter.unusedVariables false

/-- A slice of integers that came in: it is nil; or it leads to a row of 'cap' cells, the numbers 'zs' (the first 'len' are its elements), each fitting its kind. -/
def IsRowK (k : IntKind) (w : World) (a : Option Addr) (len cap : Nat) (zs : List Int) : Prop :=
  (a = none ∧ len = 0 ∧ cap = 0 ∧ zs = []) ∨
  ∃ x, a = some x ∧ len ≤ cap ∧ cap ≤ maxLen ∧ zs.length = cap ∧ (∀ i, i < zs.length → w.cell? (x.add i) = some (.int k (zs.getD i 0))) ∧ ∀ n ∈ zs, (Lit.int k n).wf = true

theorem wfo_u8_bounds {n : Int} (h : (Lit.int .u8 n).wf = true) : 0 ≤ n ∧ n < 256 := by
  simp [Lit.wf, IntKind.min, IntKind.max, IntKind.bits, IntKind.signed] at h
  omega
theorem wfo_i32_bounds {n : Int} (h : (Lit.int .i32 n).wf = true) : -2147483648 ≤ n ∧ n ≤ 2147483647 := by
  simp [Lit.wf, IntKind.min, IntKind.max, IntKind.bits, IntKind.signed] at h
  omega
theorem wfo_i64_bounds {n : Int} (h : (Lit.int .i64 n).wf = true) : -9223372036854775808 ≤ n ∧ n ≤ 9223372036854775807 := by
  simp [Lit.wf, IntKind.min, IntKind.max, IntKind.bits, IntKind.signed] at h
  omega

theorem IsRowK.cells {k : IntKind} {w : World} {a : Option Addr} {len cap : Nat} {zs : List Int} (h : IsRowK k w a len cap zs) :
    ∃ ys : List Int, len = ys.length ∧ (∀ y ∈ ys, (Lit.int k y).wf = true) ∧ ys.length ≤ cap ∧ cap ≤ maxLen ∧ (a = none → cap = 0) ∧
      (ys = [] ∨ ∃ b off, a = some ⟨b, off, none⟩ ∧ b < w.heap.size ∧ ∀ i, i < ys.length → w.cell? ⟨b, off + i, none⟩ = some (.int k (ys.getD i 0))) := by
  rcases h with ⟨rfl, rfl, rfl, rfl⟩ | ⟨x, rfl, h1, h2, h3, hc, hw⟩
  · exact ⟨[], rfl, (fun y hy => by cases hy), Nat.le_refl _, Nat.zero_le _, fun _ => rfl, .inl rfl⟩
  · refine ⟨zs.take len, by simp; omega, fun y hy => hw y (List.mem_of_mem_take hy), by simp; omega, h2, (by simp), ?_⟩
    by_cases h0 : len = 0
    · exact .inl (by simp [h0])
    · obtain ⟨b, off, spot⟩ := x
      have c0 := hc 0 (by omega)
      have hspot : spot = none := by simpa [Addr.add] using World.cell?_spot c0
      subst hspot
      refine .inr ⟨b, off, rfl, ?_, fun i hi => ?_⟩
      · have := World.block_lt_of_cell? w _ c0
        simpa [Addr.add] using this
      · simp at hi
        have hadd : (⟨b, off, none⟩ : Addr).add i = ⟨b, off + i, none⟩ := by unfold Addr.add; split <;> simp_all
        have hci := hc i (by omega)
        rw [hadd] at hci
        rw [hci]
        simp [List.getD, show i < len by omega]

theorem IsRowK.rb {w : World} {a : Option Addr} {len cap : Nat} {zs : List Int} (h : IsRowK .u8 w a len cap zs) : ∃ xs : List Nat, len = xs.length ∧ Rb w a cap xs := by
  obtain ⟨ys, h1, h2, h3, h4, h5, h6⟩ := h.cells
  have hb : ∀ y ∈ ys, 0 ≤ y ∧ y < 256 := fun y hy => wfo_u8_bounds (h2 y hy)
  refine ⟨ys.map Int.toNat, by simp [h1], ?_, by simpa using h3, h4, h5, ?_⟩
  · intro x hx
    obtain ⟨y, hy, rfl⟩ := List.mem_map.1 hx
    have := hb y hy
    omega
  · rcases h6 with rfl | ⟨b, off, e, hlt, hc⟩
    · exact .inl rfl
    · refine .inr ⟨b, off, e, hlt, fun i hi => ?_⟩
      simp at hi
      rw [hc i hi]
      have h0 : ys.getD i 0 = ys[i] := by simp [List.getD, hi]
      have hy := hb ys[i] (List.getElem_mem hi)
      rw [h0]
      simp [List.getD, hi]
      omega

end Go.Proofs.Ytokcdkckomoajaa

namespace Go.Proofs.Ytokcdkckomoajaa
open Go.RowKit
open Go.ChangeShapes Go.WideShapes Go.Joins Go.Deep
set_option linter.unusedSimpArgs false
set_option linter.unusedVariables false

/-- What came in as data of a type lies as such a thing. -/
def Opens {α : Type} (E : El α) (t : TypeId) : Prop :=
  Try.prog.cellsOf t = E.sz ∧ ∀ (H : Type) (enc : TypeId × Value → H) (W : World) (held : Bool) (fuel : Nat) (cs : List Value) (x : DataW H × List MemPlace),
    DataW.trod enc Try.prog W 0 (fun _ => true) held fuel t cs = some x → (∀ n ∈ x.1.weights Try.prog t, n ≤ reachBytes) → ∃ y : α, E.rep (fun k => k < W.heap.size) W cs y
theorem Opens.num {t : TypeId} {k : IntKind} {lo hi : Int} (ht : Try.prog.underlying t = some (.int k)) (hc : Try.prog.cellsOf t = 1) (hb : ∀ z, (Lit.int k z).wf = true → lo ≤ z ∧ z ≤ hi) : Opens (El.num k lo hi) t :=
  ⟨hc, fun H enc W held fuel cs x h hz => by
    obtain ⟨z, e, _, hw⟩ := DataW.trod_int ht h
    exact ⟨z, e, hb z hw⟩⟩
theorem Opens.int {t : TypeId} (ht : Try.prog.underlying t = some (.int .i64)) (hc : Try.prog.cellsOf t = 1) : Opens El.int t := Opens.num ht hc (fun z hw => wfo_i64_bounds hw)
theorem Opens.bool {t : TypeId} (ht : Try.prog.underlying t = some .bool) (hc : Try.prog.cellsOf t = 1) : Opens El.bool t :=
  ⟨hc, fun H enc W held fuel cs x h hz => by
    obtain ⟨z, e, _⟩ := DataW.trod_bool ht h
    exact ⟨z, e⟩⟩
theorem Opens.str {t : TypeId} (ht : Try.prog.underlying t = some .string) (hc : Try.prog.cellsOf t = 1) : Opens El.str t :=
  ⟨hc, fun H enc W held fuel cs x h hz => by
    obtain ⟨z, e, _, hw⟩ := DataW.trod_string ht h
    exact ⟨z, e, hw⟩⟩
theorem Opens.via {α β : Type} {E : El α} {t : TypeId} (h : Opens E t) {f : β → α} {d : β} (hf : ∀ x, ∃ y, f y = x) : Opens (E.via f d) t :=
  ⟨h.1, fun H enc W held fuel cs x h1 hz => by
    obtain ⟨z, hz⟩ := h.2 H enc W held fuel cs x h1 hz
    obtain ⟨y, rfl⟩ := hf z
    exact ⟨y, hz⟩⟩
theorem list_of_ltG {α : Type} {d : α} {p : Nat → α → Prop} : ∀ n, (∀ i, i < n → ∃ o, p i o) → ∃ os : List α, os.length = n ∧ ∀ i, i < n → p i (os.getD i d) := by
  intro n
  induction n with
  | zero => exact fun _ => ⟨[], rfl, fun i hi => by omega⟩
  | succ n ih =>
    intro h
    obtain ⟨os, hl, ho⟩ := ih (fun i hi => h i (by omega))
    obtain ⟨o, h1⟩ := h n (by omega)
    refine ⟨os ++ [o], by simp [hl], fun i hi => ?_⟩
    by_cases hi' : i < n
    · have e : (os ++ [o]).getD i d = os.getD i d := by simp [List.getD, List.getElem?_append_left (show i < os.length by omega)]
      rw [e]
      exact ho i hi'
    · have e : i = n := by omega
      subst e
      have e : (os ++ [o]).getD i d = o := by simp [List.getD, ← hl]
      rw [e]
      exact h1
theorem weights_all {H : Type} {P : Program} {e : TypeId} {d : DataW H} : ∀ {l : List (DataW H)}, d ∈ l → ∀ {n : Nat}, n ∈ d.weights P e → n ∈ DataW.weightsAll P e l
  | c :: l, h, n, hn => by
    rw [DataW.weightsAll, List.mem_append]
    rcases List.mem_cons.1 h with h | h
    · exact .inl (by rw [← h]; exact hn)
    · exact .inr (weights_all h hn)
theorem Opens.row {α : Type} {E : El α} {t e : TypeId} (h : Opens E e) (ht : Try.prog.underlying t = some (.slice e)) (hc : Try.prog.cellsOf t = 1) (hsz : 0 < E.sz) (hby : 1 ≤ Try.prog.bytesOf e) : Opens E.row t :=
  ⟨hc, fun H enc W held fuel cs x hf hz => by
    rcases open_slice ht hf with ⟨hcs, _⟩ | ⟨ad, len, cap, m, n, D, Pl, hcs, _, hl, hm, hmm, hx, hel⟩
    · exact ⟨[], none, 0, hcs, (fun b o e1 => by cases e1), Gr.nil _ _ _ _ _ (Nat.zero_le _) (fun _ => rfl), Nat.zero_le _⟩
    · have hle : len ≤ m := by rw [hmm]; split <;> omega
      subst hx
      have hzm : ∀ i, i < len → ∀ k ∈ (D i).weights Try.prog e, k ≤ reachBytes := by
        intro i hi k hk
        refine hz k ?_
        simp only [DataW.weights, ht, List.mem_cons, List.mem_append]
        exact .inr (.inl (weights_all (List.mem_map.2 ⟨i, List.mem_range.2 hi, rfl⟩) hk))
      have hzl : len ≤ 140737488351232 := by
        have h1 := hz ((((List.range len).map D).length + ((List.range (m - len)).map fun j => D (len + j)).length) * Try.prog.bytesOf e) (by simp only [DataW.weights, ht]; exact List.mem_cons_self)
        rw [List.length_map, List.length_map, List.length_range, List.length_range] at h1
        have h2 : (len + (m - len)) * 1 ≤ (len + (m - len)) * Try.prog.bytesOf e := Nat.mul_le_mul_left _ hby
        have h3 : reachBytes = 140737488351232 := rfl
        omega
      have hone : ∀ i, i < len → ∃ o : α, ∃ vs, E.rep (fun k => k < W.heap.size) W vs o ∧ ∀ j, j < E.sz → W.cell? ((ad.add (i * E.sz)).add j) = vs[j]? := by
        intro i hi
        obtain ⟨cs', hc', ht'⟩ := hel i (by omega)
        rw [h.1] at hc'
        obtain ⟨hlen, _, hcell⟩ := World.cells?_some hc'
        obtain ⟨o, ho⟩ := h.2 H enc W held n cs' _ ht' (hzm i hi)
        refine ⟨o, cs', ho, fun j hj => ?_⟩
        have := hcell j (by omega)
        rw [this, List.getElem?_eq_getElem (by omega)]
      obtain ⟨os, hol, ho⟩ := list_of_ltG (d := E.dfl) len hone
      have key : ∀ i, i < len → ∃ b off vs, ad = ⟨b, off, none⟩ ∧ b < W.heap.size ∧ E.rep (fun k => k < W.heap.size) W vs (os.getD i E.dfl) ∧ ∀ j, j < E.sz → W.cell? ⟨b, off + i * E.sz + j, none⟩ = vs[j]? := by
        intro i hi
        obtain ⟨vs, h1, h2⟩ := ho i hi
        obtain ⟨b, off, spot⟩ := ad
        have h0 := h2 0 hsz
        have hv : 0 < vs.length := by rw [E.len h1]; exact hsz
        rw [List.getElem?_eq_getElem hv] at h0
        have hspot : spot = none := by
          obtain ⟨vs', h1', h2'⟩ := ho 0 (by omega)
          have h0' := h2' 0 hsz
          rw [List.getElem?_eq_getElem (by rw [E.len h1']; exact hsz)] at h0'
          have := World.cell?_spot h0'
          simpa [Addr.add] using this
        subst hspot
        have hadd : ∀ i, (⟨b, off, none⟩ : Addr).add i = ⟨b, off + i, none⟩ := by intro i; unfold Addr.add; split <;> simp_all
        have hadd2 : ∀ i j, ((⟨b, off, none⟩ : Addr).add i).add j = ⟨b, off + i + j, none⟩ := by intro i j; rw [hadd]; unfold Addr.add; split <;> simp_all
        have hlt := World.block_lt_of_cell? W _ h0
        rw [hadd2] at hlt
        exact ⟨b, off, vs, rfl, hlt, h1, fun j hj => by rw [← hadd2]; exact h2 j hj⟩
      refine ⟨os, some ad, cap, by rw [hcs, hol], fun b o e1 hne => ?_, ⟨by omega, hm, (fun e => by cases e), fun i hi => ?_⟩, by rw [hol]; exact hzl⟩
      · obtain ⟨b', off', _, e2, hb', _⟩ := key 0 (by have := List.length_pos_iff.2 hne; omega)
        rw [e2] at e1
        cases e1
        exact hb'
      · obtain ⟨b, off, vs, e2, hb, h1, h2⟩ := key i (by omega)
        exact ⟨b, off, vs, by rw [e2], hb, h1, h2⟩⟩
/-- Fields, one behind the other. -/
def OpensF {α : Type} (E : El α) (fs : List Field) (off : Nat) : Prop :=
  ∀ (H : Type) (enc : TypeId × Value → H) (W : World) (held : Bool) (n : Nat) (cs : List Value), (∀ f ∈ fs, ∃ y, DataW.trod enc Try.prog W 0 (fun _ => true) held n f.type ((cs.drop f.offset).take (Try.prog.cellsOf f.type)) = some y ∧ ∀ k ∈ y.1.weights Try.prog f.type, k ≤ reachBytes) →
    ∃ x : α, E.rep (fun k => k < W.heap.size) W ((cs.drop off).take E.sz) x
theorem OpensF.last {α : Type} {E : El α} {f : Field} {off : Nat} (h : Opens E f.type) (ho : f.offset = off) : OpensF E [f] off := by
  intro H enc W held n cs hy
  obtain ⟨y, hy, hz⟩ := hy f (by simp)
  rw [h.1, ho] at hy
  exact h.2 H enc W held n _ y hy hz
theorem OpensF.more {α β : Type} {E : El α} {F : El β} {f : Field} {fs : List Field} {off : Nat} (h : Opens E f.type) (ho : f.offset = off) (hs : OpensF F fs (off + E.sz)) : OpensF (E.cat F) (f :: fs) off := by
  intro H enc W held n cs hy
  obtain ⟨y, hy0, hz0⟩ := hy f (by simp)
  rw [h.1, ho] at hy0
  obtain ⟨x, hx⟩ := h.2 H enc W held n _ y hy0 hz0
  obtain ⟨z, hz⟩ := hs H enc W held n cs (fun g hg => hy g (by simp [hg]))
  refine ⟨(x, z), (cs.drop off).take E.sz, (cs.drop (off + E.sz)).take F.sz, ?_, hx, hz⟩
  show (cs.drop off).take (E.sz + F.sz) = _
  rw [List.take_add, List.drop_drop]
theorem Opens.struct {α : Type} {E : El α} {t : TypeId} {fs : Array Field} (ht : Try.prog.underlying t = some (.struct fs)) (hc : Try.prog.cellsOf t = E.sz) (h : OpensF E fs.toList 0) : Opens E t :=
  ⟨hc, fun H enc W held fuel cs x hf hz => by
    obtain ⟨xs, n, _, hx, hl, hlen, hff⟩ := DataW.trod_struct ht hf
    subst hx
    obtain ⟨y, hy⟩ := h H enc W held n cs (fun f hf' => by
      obtain ⟨i, hi, e⟩ := List.getElem_of_mem hf'
      have := hff i f (by rw [← e]; simp)
      have hix : i < xs.length := by simpa [hlen] using hi
      rw [this]
      refine ⟨xs[i]'hix, by rw [List.getElem?_eq_getElem], fun k hk => hz k ?_⟩
      simp only [DataW.weights, ht]
      refine DataW.weights_mem_each (j := i) (t := f.type) (d := (xs[i]'hix).1) ?_ ?_ k hk
      · rw [List.getElem?_map, List.getElem?_eq_getElem hi, e]
        rfl
      · rw [List.getElem?_map, List.getElem?_eq_getElem hix]
        rfl)
    rw [List.drop_zero, List.take_of_length_le (by rw [hl, hc]; exact Nat.le_refl _)] at hy
    exact ⟨y, hy⟩⟩
/-- A struct by value. -/
theorem Opens.agg {α : Type} {E : El α} {t : TypeId} (h : Opens E t) {fs : Array Field} (ht : Try.prog.underlying t = some (.struct fs)) {H : Type} {enc : TypeId × Value → H} {W : World} {held : Bool} {r : Reach} {b0 : Nat} {v : Value} {d : DataW H} {p : List MemPlace}
    (hv : Value.okWide Try.prog W r b0 t v) (hd : DataW.Trod enc Try.prog W 0 (fun _ => true) held t v d p) (hz : ∀ n ∈ d.weights Try.prog t, n ≤ reachBytes) : ∃ (cs : Array Value) (y : α), v = .agg cs ∧ E.rep (fun k => k < W.heap.size) W cs.toList y := by
  obtain ⟨cs, rfl, hsz⟩ := okWide_struct ht hv
  obtain ⟨fuel, hf⟩ := hd
  obtain ⟨y, hy⟩ := h.2 H enc W held fuel _ _ hf hz
  exact ⟨cs, y, rfl, by simpa [Value.cells] using hy⟩
/-- Anything of one cell. -/
theorem Opens.cell {α : Type} {E : El α} {t : TypeId} (h : Opens E t) {H : Type} {enc : TypeId × Value → H} {W : World} {held : Bool} {v : Value} {d : DataW H} {p : List MemPlace}
    (hd : DataW.Trod enc Try.prog W 0 (fun _ => true) held t v d p) (hz : ∀ n ∈ d.weights Try.prog t, n ≤ reachBytes) (hone : v.cells = #[v]) : ∃ y : α, E.rep (fun k => k < W.heap.size) W [v] y := by
  obtain ⟨fuel, hf⟩ := hd
  obtain ⟨y, hy⟩ := h.2 H enc W held fuel _ _ hf hz
  exact ⟨y, by simpa [hone] using hy⟩

end Go.Proofs.Ytokcdkckomoajaa
