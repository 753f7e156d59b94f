/-
  Rows of ints that are read, cut.
  outline.takeStep, outline.takeFlags: the walks.
  foundryref12's reader: the walks.
-/
import Derived.Test.YtdojgkejpfdaeaaZ2
import Derived.Test.YtdojgkejpfdaeaaZ8
import Derived.Test.YtdojgkejpfdaeaaZ9
import Derived.Test.YtdojgkejpfdaeaaZ7
import Derived.Test.YtdojgkejpfdaeaaZ3
namespace Go.Proofs.Ytdojgkejpfdaeaa
open Go.RowKit Go.Maps
set_option linter.unusedSimpArgs false
set_option linter.unusedVariables false

/-- Numbers, cut. -/
theorem Ri.take {w : World} {a : Option Addr} {cap : Nat} {zs : List Int} (h : Ri w a cap zs) (n : Nat) : Ri w a cap (zs.take n) := by
  refine ⟨fun z hz => h.1 z (List.mem_of_mem_take hz), Nat.le_trans (by simp; omega) h.2.1, h.2.2.1, ?_⟩
  rcases h.2.2.2 with h4 | ⟨b, off, e, h5, h6⟩
  · exact .inl (by rw [h4]; simp)
  · refine .inr ⟨b, off, e, h5, fun i hi => ?_⟩
    have hi' : i < n ∧ i < zs.length := by simp at hi; omega
    rw [h6 i hi'.2]
    simp [List.getD, List.getElem?_take, hi'.1]
theorem Ri.drop {w : World} {b off cap : Nat} {zs : List Int} (h : Ri w (some ⟨b, off, none⟩) cap zs) (n : Nat) (hn : n ≤ zs.length) : Ri w (some ⟨b, off + n, none⟩) (cap - n) (zs.drop n) := by
  refine ⟨fun z hz => h.1 z (List.mem_of_mem_drop hz), ?_, Nat.le_trans (Nat.sub_le _ _) h.2.2.1, ?_⟩
  · have := h.2.1
    simp
    omega
  · rcases h.2.2.2 with h4 | ⟨b', off', e, h5, h6⟩
    · exact .inl (by rw [h4]; simp)
    · cases e
      refine .inr ⟨b, off + n, rfl, h5, fun i hi => ?_⟩
      have hi' : n + i < zs.length := by simp at hi; omega
      rw [Nat.add_assoc, h6 (n + i) hi']
      simp [List.getD]
/-- Numbers, cut at both ends. -/
theorem Ri.from {w : World} {a : Option Addr} {cap : Nat} {zs : List Int} (h : Ri w a cap zs) (n : Nat) (hn : n ≤ zs.length) : Ri w (if cap = n then a else a.map (fun x => x.add n)) (cap - n) (zs.drop n) := by
  by_cases h0 : n < zs.length
  · rcases h.2.2.2 with h4 | ⟨b, off, rfl, h5, h6⟩
    · rw [h4] at h0; simp at h0
    · have := h.2.1
      rw [if_neg (by omega)]
      have hadd : (⟨b, off, none⟩ : Addr).add n = ⟨b, off + n, none⟩ := by unfold Addr.add; split <;> simp_all
      show Ri w (some ((⟨b, off, none⟩ : Addr).add n)) _ _
      rw [hadd]
      exact h.drop n hn
  · have e : zs.drop n = [] := List.drop_eq_nil_of_le (by omega)
    rw [e]
    exact Ri.nil _ _ _ (Nat.le_trans (Nat.sub_le _ _) h.2.2.1)

end Go.Proofs.Ytdojgkejpfdaeaa

namespace Go.Proofs.Ytdojgkejpfdaeaa
open Go.RowKit Go.Maps
set_option linter.unusedSimpArgs false
set_option linter.unusedVariables false

theorem and_x : ∀ f : Fin 256, bits BinOp.and IntKind.i64 (f.val : Int) 18 = (if f.val / 2 % 2 = 1 then 2 else 0) + (if f.val / 16 % 2 = 1 then 16 else 0) := by decide +kernel
theorem and_y : ∀ f : Fin 256, bits BinOp.and IntKind.i64 (f.val : Int) 36 = (if f.val / 4 % 2 = 1 then 4 else 0) + (if f.val / 32 % 2 = 1 then 32 else 0) := by decide +kernel
theorem and_8 : ∀ f : Fin 256, bits BinOp.and IntKind.i64 (f.val : Int) 8 = (if f.val / 8 % 2 = 1 then 8 else 0) := by decide +kernel
theorem and_1 : ∀ f : Fin 256, bits BinOp.and IntKind.i64 (f.val : Int) 1 = (if f.val % 2 = 1 then 1 else 0) := by decide +kernel
theorem and_8n {f : Nat} (h : f < 256) : bits BinOp.and IntKind.i64 (f : Int) 8 = (if f / 8 % 2 = 1 then 8 else 0) := and_8 ⟨f, h⟩
theorem and_1n {f : Nat} (h : f < 256) : bits BinOp.and IntKind.i64 (f : Int) 1 = (if f % 2 = 1 then 1 else 0) := and_1 ⟨f, h⟩
theorem or_x2 : bits BinOp.or IntKind.i64 2 16 = 18 := by decide
theorem or_y2 : bits BinOp.or IntKind.i64 4 32 = 36 := by decide
theorem hd1_lt {s : List Nat} (hs : Byt s) : hd1 s < 256 := by
  unfold hd1
  cases s with
  | nil => decide
  | cons x t => exact hs x (by simp)
theorem hd2_lt {s : List Nat} (hs : Byt s) : hd2 s < 65536 := by
  match s, hs with
  | [], _ => decide
  | [x], _ => exact (by decide : (0 : Nat) < 65536)
  | x :: y :: t, hs =>
    have := hs x (by simp)
    have := hs y (by simp)
    show 256 * x + y < 65536
    omega

set_option maxHeartbeats 1000000 in
set_option maxRecDepth 100000 in
theorem cstepX_any (f : Nat) (g : Nat) (pa : Option Addr) (pc : Nat) (xs : List Nat) (p : Nat) (w : World) (h : Sc 63 w g pa pc xs p) (hp : p ≤ 900000) (hf : f < 256) :
    Calls Try.prog 62 #[pg g, .int .i64 (f : Int), .int .i64 2, .int .i64 16] w fun e w' => ∃ p', e = .returned (.int .i64 (dfR f 2 16 (xs.drop p)).1) ∧ Sc 63 w' g pa pc xs p' ∧ xs.drop p' = (dfR f 2 16 (xs.drop p)).2 ∧ p' ≤ p + 2 ∧ Kp g w w' := by
  have hor := or_x2
  have hand := and_x ⟨f, hf⟩
  have hb := hd1_lt (h.rb.lim.drop p)
  dsimp only at hand
  by_cases ha : f / 2 % 2 = 1
  · by_cases hbb : f / 16 % 2 = 1
    · have HE : Hid (dfR f 2 16 (xs.drop p) = ((hd1 (xs.drop p) : Int), (xs.drop p).drop 1)) := by show _ = _; rw [dfR, if_pos ha, if_pos hbb]
      rw [if_pos ha, if_pos hbb, show ((2 : Int) + 16) = 18 from rfl] at hand
      have hu := cSu8_any g pa pc xs p w h (by omega)
      clear ha hbb h
      go_enter Try.func62, Try.ntmps62
      go_wp2_with fail
      refine hu.mono ?_
      rintro e u1 ⟨rfl, h1, hk1⟩
      clear hu
      go_wp2
      go_ret
      exact ⟨p + 1, by rw [HE.out]; rfl, h1, by rw [HE.out, List.drop_drop], by omega, hk1⟩
    · have HE : Hid (dfR f 2 16 (xs.drop p) = (-(hd1 (xs.drop p) : Int), (xs.drop p).drop 1)) := by show _ = _; rw [dfR, if_pos ha, if_neg hbb]
      rw [if_pos ha, if_neg hbb, show ((2 : Int) + 0) = 2 from rfl] at hand
      have hu := cSu8_any g pa pc xs p w h (by omega)
      clear ha hbb h
      generalize hd1 (xs.drop p) = z at *
      go_enter Try.func62, Try.ntmps62
      go_wp2_with fail
      refine hu.mono ?_
      rintro e u1 ⟨rfl, h1, hk1⟩
      clear hu
      go_wp2
      go_ret
      exact ⟨p + 1, by rw [HE.out]; rfl, h1, by rw [HE.out, List.drop_drop], by omega, hk1⟩
  · by_cases hbb : f / 16 % 2 = 1
    · have HE : Hid (dfR f 2 16 (xs.drop p) = (0, xs.drop p)) := by show _ = _; rw [dfR, if_neg ha, if_pos hbb]
      rw [if_neg ha, if_pos hbb, show ((0 : Int) + 16) = 16 from rfl] at hand
      clear ha hbb
      go_enter Try.func62, Try.ntmps62
      go_wp2
      go_ret
      exact ⟨p, by rw [HE.out]; rfl, h, by rw [HE.out], by omega, Kp.refl _ _⟩
    · have HE : Hid (dfR f 2 16 (xs.drop p) = (sx16 (hd2 (xs.drop p)), (xs.drop p).drop 2)) := by show _ = _; rw [dfR, if_neg ha, if_neg hbb]
      rw [if_neg ha, if_neg hbb, show ((0 : Int) + 0) = 0 from rfl] at hand
      have hu := cSi16_any g pa pc xs p w h (by omega)
      clear ha hbb h
      generalize sx16 (hd2 (xs.drop p)) = z at *
      go_enter Try.func62, Try.ntmps62
      go_wp2_with fail
      refine hu.mono ?_
      rintro e u1 ⟨rfl, h1, hk1⟩
      clear hu
      go_wp2
      go_ret
      exact ⟨p + 2, by rw [HE.out]; rfl, h1, by rw [HE.out, List.drop_drop], by omega, hk1⟩

set_option maxHeartbeats 1000000 in
set_option maxRecDepth 100000 in
theorem cstepY_any (f : Nat) (g : Nat) (pa : Option Addr) (pc : Nat) (xs : List Nat) (p : Nat) (w : World) (h : Sc 63 w g pa pc xs p) (hp : p ≤ 900000) (hf : f < 256) :
    Calls Try.prog 62 #[pg g, .int .i64 (f : Int), .int .i64 4, .int .i64 32] w fun e w' => ∃ p', e = .returned (.int .i64 (dfR f 4 32 (xs.drop p)).1) ∧ Sc 63 w' g pa pc xs p' ∧ xs.drop p' = (dfR f 4 32 (xs.drop p)).2 ∧ p' ≤ p + 2 ∧ Kp g w w' := by
  have hor := or_y2
  have hand := and_y ⟨f, hf⟩
  have hb := hd1_lt (h.rb.lim.drop p)
  dsimp only at hand
  by_cases ha : f / 4 % 2 = 1
  · by_cases hbb : f / 32 % 2 = 1
    · have HE : Hid (dfR f 4 32 (xs.drop p) = ((hd1 (xs.drop p) : Int), (xs.drop p).drop 1)) := by show _ = _; rw [dfR, if_pos ha, if_pos hbb]
      rw [if_pos ha, if_pos hbb, show ((4 : Int) + 32) = 36 from rfl] at hand
      have hu := cSu8_any g pa pc xs p w h (by omega)
      clear ha hbb h
      go_enter Try.func62, Try.ntmps62
      go_wp2_with fail
      refine hu.mono ?_
      rintro e u1 ⟨rfl, h1, hk1⟩
      clear hu
      go_wp2
      go_ret
      exact ⟨p + 1, by rw [HE.out]; rfl, h1, by rw [HE.out, List.drop_drop], by omega, hk1⟩
    · have HE : Hid (dfR f 4 32 (xs.drop p) = (-(hd1 (xs.drop p) : Int), (xs.drop p).drop 1)) := by show _ = _; rw [dfR, if_pos ha, if_neg hbb]
      rw [if_pos ha, if_neg hbb, show ((4 : Int) + 0) = 4 from rfl] at hand
      have hu := cSu8_any g pa pc xs p w h (by omega)
      clear ha hbb h
      generalize hd1 (xs.drop p) = z at *
      go_enter Try.func62, Try.ntmps62
      go_wp2_with fail
      refine hu.mono ?_
      rintro e u1 ⟨rfl, h1, hk1⟩
      clear hu
      go_wp2
      go_ret
      exact ⟨p + 1, by rw [HE.out]; rfl, h1, by rw [HE.out, List.drop_drop], by omega, hk1⟩
  · by_cases hbb : f / 32 % 2 = 1
    · have HE : Hid (dfR f 4 32 (xs.drop p) = (0, xs.drop p)) := by show _ = _; rw [dfR, if_neg ha, if_pos hbb]
      rw [if_neg ha, if_pos hbb, show ((0 : Int) + 32) = 32 from rfl] at hand
      clear ha hbb
      go_enter Try.func62, Try.ntmps62
      go_wp2
      go_ret
      exact ⟨p, by rw [HE.out]; rfl, h, by rw [HE.out], by omega, Kp.refl _ _⟩
    · have HE : Hid (dfR f 4 32 (xs.drop p) = (sx16 (hd2 (xs.drop p)), (xs.drop p).drop 2)) := by show _ = _; rw [dfR, if_neg ha, if_neg hbb]
      rw [if_neg ha, if_neg hbb, show ((0 : Int) + 0) = 0 from rfl] at hand
      have hu := cSi16_any g pa pc xs p w h (by omega)
      clear ha hbb h
      generalize sx16 (hd2 (xs.drop p)) = z at *
      go_enter Try.func62, Try.ntmps62
      go_wp2_with fail
      refine hu.mono ?_
      rintro e u1 ⟨rfl, h1, hk1⟩
      clear hu
      go_wp2
      go_ret
      exact ⟨p + 2, by rw [HE.out]; rfl, h1, by rw [HE.out, List.drop_drop], by omega, hk1⟩

/-- Numbers as ints. -/
def nI (l : List Nat) : List Int := l.map (fun x : Nat => (x : Int))
theorem nI_len (l : List Nat) : (nI l).length = l.length := List.length_map ..
theorem nI_app (l m : List Nat) : nI (l ++ m) = nI l ++ nI m := List.map_append
theorem nI_get (l : List Nat) (k : Nat) : (nI l).getD k 0 = ((l.getD k 0 : Nat) : Int) := by
  unfold nI
  by_cases h : k < l.length
  · simp [List.getD, h]
  · simp [List.getD, Nat.not_lt.1 h]
theorem nI_take (l : List Nat) (k : Nat) : nI (l.take k) = (nI l).take k := by unfold nI; rw [List.map_take]
theorem fg_more {n : Nat} {s acc : List Nat} (h : acc.length < n) (h8 : hd1 s / 8 % 2 = 1) {acc' : List Nat} (ha : acc' = acc ++ List.replicate (hd1 (s.drop 1) + 1) (hd1 s)) : rdG (n - acc.length) n s acc = rdG (n - acc'.length) n (s.drop 2) acc' := by
  subst ha
  obtain ⟨f, hf⟩ : ∃ f, n - acc.length = f + 1 := ⟨n - acc.length - 1, by omega⟩
  rw [hf, rdG, if_pos h, if_pos h8]
  exact rdG_fuel _ _ _ _ _ (by rw [List.length_append, List.length_replicate]; omega) (by omega)
theorem fg_one {n : Nat} {s acc : List Nat} (h : acc.length < n) (h8 : ¬ hd1 s / 8 % 2 = 1) {acc' : List Nat} (ha : acc' = acc ++ List.replicate (0 + 1) (hd1 s)) : rdG (n - acc.length) n s acc = rdG (n - acc'.length) n (s.drop 1) acc' := by
  subst ha
  obtain ⟨f, hf⟩ : ∃ f, n - acc.length = f + 1 := ⟨n - acc.length - 1, by omega⟩
  rw [hf, rdG, if_pos h, if_neg h8]
  exact rdG_fuel _ _ _ _ _ (by rw [List.length_append, List.length_singleton]; omega) (by show n - (acc ++ [hd1 s]).length ≤ n - (acc ++ [hd1 s]).length; omega)
theorem rep_snoc (acc : List Nat) (j f : Nat) : acc ++ List.replicate (j + 1) f = (acc ++ List.replicate j f) ++ [f] := by rw [List.replicate_succ', List.append_assoc]

set_option maxHeartbeats 2000000 in
set_option maxRecDepth 100000 in
theorem ctakeFlags_any (n : Nat) (g : Nat) (pa : Option Addr) (pc : Nat) (xs : List Nat) (p : Nat) (w : World) (h : Sc 63 w g pa pc xs p) (hp : p ≤ 100000) (hn : n ≤ 80) (hpb : ∀ b o, pa = some ⟨b, o, none⟩ → xs ≠ [] → b < w.heap.size) :
    Calls Try.prog 61 #[pg g, .int .i64 (n : Int)] w fun e w' => ∃ a' c', e = .returned (.slice a' (nI (fsK n (xs.drop p))).length c') ∧ Ri w' a' c' (nI (fsK n (xs.drop p))) ∧ (∀ b o, a' = some ⟨b, o, none⟩ → w.heap.size ≤ b ∧ b < w'.heap.size) ∧ ∃ p', Sc 63 w' g pa pc xs p' ∧ xs.drop p' = (fgK n (xs.drop p)).2 ∧ p' ≤ p + 1000 ∧ Kp g w w' := by
  have HG0 : Hid (fgK n (xs.drop p) = rdG (n - ([] : List Nat).length) n (xs.drop p) []) := rfl
  have hgl : g < w.heap.size := h.bk.lt
  go_enter Try.func61, Try.ntmps61
  go_wp2
  go_loopw [5] (fun v wr => ∃ (acc : List Nat) (q : Nat), v.ownBlock ≠ some g ∧ Gi w.heap.size wr v (nI acc) ∧ acc.length ≤ n + 255 ∧ Sc 63 wr g pa pc xs q ∧ q ≤ p + 2 * acc.length ∧ fgK n (xs.drop p) = rdG (n - acc.length) n (xs.drop q) acc ∧ Kp g w wr) (fun v _ => n - slLen v)
  case atStart => exact ⟨[], p, (fun e => by cases e), Gi.nil _ _, by simp, h, by omega, HG0.out, Kp.refl _ _⟩
  case round =>
    clear h HG0
    obtain ⟨acc, q, hvg, hG, hal, hS, hq, hfg, hK⟩ := hrel
    obtain ⟨a5, c5, rfl, hri, hbk⟩ := hG.slice
    have HF : Hid (fgK n (xs.drop p) = rdG (n - acc.length) n (xs.drop q) acc) := hfg
    have hcp := hri.2.1
    have hcm := hri.2.2.1
    unfold maxLen at hcm
    have hnl := nI_len acc
    rw [hnl] at hcp ⊢
    clear hfg
    by_cases hlt : acc.length < n
    rotate_left
    · have HFE : Hid (fgK n (xs.drop p) = (acc, xs.drop q)) := by show _ = _; rw [HF.out, rdG_stop (by omega)]
      have HFS : Hid (nI (fsK n (xs.drop p)) = (nI acc).take n) := by show _ = _; unfold fsK; rw [HFE.out, nI_take]
      have HL : Hid (((nI acc).take n).length = n) := by show _ = _; rw [List.length_take, nI_len]; omega
      have HRI : Hid (Ri wr a5 c5 (nI acc)) := hri
      have HBK : Hid (∀ b o, a5 = some ⟨b, o, none⟩ → w.heap.size ≤ b ∧ b < wr.heap.size) := hbk
      have g1 : ¬ (acc.length : Int) < (n : Int) := by omega
      have i1 : (0 : Int) ≤ (n : Int) := by omega
      have i2 : (n : Int) ≤ (c5 : Int) := by omega
      clear HF hG hri hbk hvg hnl
      cases a5 with
      | none =>
        go_wp2
        go_ret
        exact ⟨none, c5, by rw [HFS.out, HL.out]; rfl, by rw [HFS.out]; exact HRI.out.take n, HBK.out, q, hS, by rw [HFE.out], by omega, hK⟩
      | some ad =>
        obtain ⟨b5, o5, s5⟩ := ad
        go_wp2
        go_ret
        exact ⟨_, c5, by rw [HFS.out, HL.out]; rfl, by rw [HFS.out]; exact HRI.out.take n, HBK.out, q, hS, by rw [HFE.out], by omega, hK⟩
    have g1 : (acc.length : Int) < (n : Int) := by omega
    have hu := cSu8_any g pa pc xs q wr hS (by omega)
    have hfl := hd1_lt (hS.rb.lim.drop q)
    have hml := hd1_lt (hS.rb.lim.drop (q + 1))
    have hand := and_8n hfl
    have hG2 := hG
    obtain ⟨f, hf⟩ : ∃ f, hd1 (xs.drop q) = f := ⟨_, rfl⟩
    have HST : Hid (f / 8 % 2 = 1 → ∀ m, hd1 (xs.drop (q + 1)) = m → rdG (n - acc.length) n (xs.drop q) acc = rdG (n - (acc ++ List.replicate (m + 1) f).length) n (xs.drop (q + 1 + 1)) (acc ++ List.replicate (m + 1) f)) := fun h8 m hm => by
      have := fg_more (s := xs.drop q) hlt (by rw [hf]; exact h8) (acc' := acc ++ List.replicate (m + 1) f) (by rw [List.drop_drop, hm, hf])
      rw [this, List.drop_drop]
    have HSO : Hid (¬ f / 8 % 2 = 1 → rdG (n - acc.length) n (xs.drop q) acc = rdG (n - (acc ++ List.replicate (0 + 1) f).length) n (xs.drop (q + 1)) (acc ++ List.replicate (0 + 1) f)) := fun h8 => by
      have := fg_one (s := xs.drop q) hlt (by rw [hf]; exact h8) (acc' := acc ++ List.replicate (0 + 1) f) (by rw [hf])
      rw [this, List.drop_drop]
    rw [hf] at hu hfl hand
    have HVG : Hid ((Value.slice a5 acc.length c5).ownBlock ≠ some g) := by rw [hnl] at hvg; exact hvg
    clear hf hri hbk hvg
    go_wp2_with fail
    refine hu.mono ?_
    rintro e u1 ⟨rfl, hS1, hK1⟩
    have hG1 := hG.kp hS.bk (by decide) hK1
    have HKK : Hid (Kp g w u1) := hK.trans hK1
    clear hu hS hK hK1 hG hG2
    by_cases h8 : f / 8 % 2 = 1
    · rw [if_pos h8] at hand
      have hu2 := cSu8_any g pa pc xs (q + 1) u1 hS1 (by omega)
      obtain ⟨m, hm⟩ : ∃ m, hd1 (xs.drop (q + 1)) = m := ⟨_, rfl⟩
      rw [hm] at hu2 hml
      have HST2 : Hid (_) := HST.out h8 m hm
      clear hm HSO HST h8
      go_wp2_with fail
      refine hu2.mono ?_
      rintro e u2 ⟨rfl, hS2, hK2⟩
      replace hG1 := hG1.kp hS1.bk (by decide) hK2
      have HKK2 : Hid (Kp g w u2) := HKK.out.trans hK2
      clear hu2 hS1 hK2
      have HG1 : Hid (Gi w.heap.size u2 (.slice a5 acc.length c5) (nI acc)) := by rw [hnl] at hG1; exact hG1
      have HSS : Hid (Sc 63 u2 g pa pc xs (q + 1 + 1)) := hS2
      have HK1 : Hid (Kp g w u2) := HKK2.out
      clear hG1 hS2 HKK HKK2
      go_wp2
      go_loopw [5, 21] (fun v i wr => ∃ j : Nat, j ≤ m + 1 ∧ i = .int .i64 j ∧ v.ownBlock ≠ some g ∧ Gi w.heap.size wr v (nI (acc ++ List.replicate j f)) ∧ Sc 63 wr g pa pc xs (q + 1 + 1) ∧ Kp g w wr) (fun _ i _ => m + 1 - (intOf i).toNat)
      case atStart => exact ⟨0, Nat.zero_le _, rfl, HVG.out, by rw [List.replicate_zero, List.append_nil]; exact HG1.out, HSS.out, HK1.out⟩
      case round =>
        clear HG1 HSS HK1 HVG
        obtain ⟨j, hj, rfl, hvg, hG, hS, hK⟩ := hrel
        obtain ⟨a6, c6, rfl, hri, hbk⟩ := hG.slice
        have hln : (nI (acc ++ List.replicate j f)).length = acc.length + j := by rw [nI_len, List.length_append, List.length_replicate]
        by_cases hjm : j ≤ m
        · have g2 : (j : Int) < 1 + (m : Int) := by omega
          have hll : (nI (acc ++ List.replicate j f)).length + 1 ≤ 1000000 := by omega
          have HAP : Hid (nI (acc ++ List.replicate (j + 1) f) = nI (acc ++ List.replicate j f) ++ [(f : Int)]) := by show _ = _; rw [rep_snoc, nI_app]; rfl
          have bp := bl1 (w := wr) (.cells #[.int .i64 (f : Int)] 3)
          have hGb := hG.below bp
          have hSb := hS.below bp
          have hN := Bk.new 3 wr [.int .i64 (f : Int)]
          have n0 := hN.cell 0 (by simp)
          have hgl2 : wr.heap.size < (wr.alloc (.cells #[.int .i64 (f : Int)] 3)).heap.size := hN.lt
          have hKb : Kp g w (wr.alloc (.cells #[.int .i64 (f : Int)] 3)) := hK.alloc _
          have hbs := hKb.size
          have hfi : I64 (f : Int) := ⟨by omega, by omega⟩
          clear hN bp hri hbk hln
          generalize nI (acc ++ List.replicate j f) = L at *
          go_wp2_with (at_builtin; refine wpList_append_gi rfl _ _ rfl w.heap.size _ L rfl hGb wr.heap.size (f : Int) rfl hgl2 n0 hfi hll hbs ?_)
          intro v9 w9 hG9 hgrow hown
          have hS9 := hSb.grown hgrow hvg (fun b o e hne e2 => by
            have := (hGb.lo e2).1
            have := hpb b o e hne
            omega)
          have hK9 : Kp g w w9 := hKb.grown hgrow (fun k hk => (hGb.lo hk).1)
          have HV9 : Hid (v9.ownBlock ≠ some g) := by
            rcases hown with ho | ho
            · show _ ≠ _
              rw [ho]
              exact hvg
            · show _ ≠ _
              rw [ho]
              intro e
              have h1 := Option.some.inj e
              have h2 := hS.bk.lt
              (try simp at h1)
              omega
          rw [← HAP.out] at hG9
          clear hgrow hown hGb hSb n0 hgl2 hKb hbs hvg hll HAP
          go_wp2
          go_roundw
          case rel => exact ⟨j + 1, by omega, by go_num, HV9.out, hG9, hS9, hK9⟩
          case measure => simp [intOf]; omega
        · obtain rfl : j = m + 1 := by omega
          have g2 : ¬ (((m + 1 : Nat) : Nat) : Int) < 1 + (m : Int) := by omega
          have HFF : Hid (fgK n (xs.drop p) = rdG (n - (acc ++ List.replicate (m + 1) f).length) n (xs.drop (q + 1 + 1)) (acc ++ List.replicate (m + 1) f)) := by
            show _ = _
            rw [HF.out, HST2.out]
          have HLN : Hid ((acc ++ List.replicate (m + 1) f).length = acc.length + (m + 1)) := by show _ = _; rw [List.length_append, List.length_replicate]
          have hln2 := hln
          rw [hln]
          clear hri hbk hln
          go_wp2
          go_roundw
          case rel => exact ⟨acc ++ List.replicate (m + 1) f, q + 1 + 1, by rw [hln2] at hvg; exact hvg, by rw [hln2] at hG; exact hG, by rw [HLN.out]; omega, hS, by rw [HLN.out]; omega, HFF.out, hK⟩
          case measure => show n - (acc.length + (m + 1)) < n - acc.length; omega
    · rw [if_neg h8] at hand
      have HSO2 : Hid (_) := HSO.out h8
      clear HSO HST h8 hml
      have HG1 : Hid (Gi w.heap.size u1 (.slice a5 acc.length c5) (nI acc)) := by rw [hnl] at hG1; exact hG1
      have HSS : Hid (Sc 63 u1 g pa pc xs (q + 1)) := hS1
      have HK1 : Hid (Kp g w u1) := HKK.out
      clear hG1 hS1 HKK
      go_wp2
      go_loopw [5, 21] (fun v i wr => ∃ j : Nat, j ≤ 0 + 1 ∧ i = .int .i64 j ∧ v.ownBlock ≠ some g ∧ Gi w.heap.size wr v (nI (acc ++ List.replicate j f)) ∧ Sc 63 wr g pa pc xs (q + 1) ∧ Kp g w wr) (fun _ i _ => 0 + 1 - (intOf i).toNat)
      case atStart => exact ⟨0, Nat.zero_le _, rfl, HVG.out, by rw [List.replicate_zero, List.append_nil]; exact HG1.out, HSS.out, HK1.out⟩
      case round =>
        clear HG1 HSS HK1 HVG
        obtain ⟨j, hj, rfl, hvg, hG, hS, hK⟩ := hrel
        obtain ⟨a6, c6, rfl, hri, hbk⟩ := hG.slice
        have hln : (nI (acc ++ List.replicate j f)).length = acc.length + j := by rw [nI_len, List.length_append, List.length_replicate]
        by_cases hjm : j ≤ 0
        · have g2 : (j : Int) < 1 := by omega
          have hll : (nI (acc ++ List.replicate j f)).length + 1 ≤ 1000000 := by omega
          have HAP : Hid (nI (acc ++ List.replicate (j + 1) f) = nI (acc ++ List.replicate j f) ++ [(f : Int)]) := by show _ = _; rw [rep_snoc, nI_app]; rfl
          have bp := bl1 (w := wr) (.cells #[.int .i64 (f : Int)] 3)
          have hGb := hG.below bp
          have hSb := hS.below bp
          have hN := Bk.new 3 wr [.int .i64 (f : Int)]
          have n0 := hN.cell 0 (by simp)
          have hgl2 : wr.heap.size < (wr.alloc (.cells #[.int .i64 (f : Int)] 3)).heap.size := hN.lt
          have hKb : Kp g w (wr.alloc (.cells #[.int .i64 (f : Int)] 3)) := hK.alloc _
          have hbs := hKb.size
          have hfi : I64 (f : Int) := ⟨by omega, by omega⟩
          clear hN bp hri hbk hln
          generalize nI (acc ++ List.replicate j f) = L at *
          go_wp2_with (at_builtin; refine wpList_append_gi rfl _ _ rfl w.heap.size _ L rfl hGb wr.heap.size (f : Int) rfl hgl2 n0 hfi hll hbs ?_)
          intro v9 w9 hG9 hgrow hown
          have hS9 := hSb.grown hgrow hvg (fun b o e hne e2 => by
            have := (hGb.lo e2).1
            have := hpb b o e hne
            omega)
          have hK9 : Kp g w w9 := hKb.grown hgrow (fun k hk => (hGb.lo hk).1)
          have HV9 : Hid (v9.ownBlock ≠ some g) := by
            rcases hown with ho | ho
            · show _ ≠ _
              rw [ho]
              exact hvg
            · show _ ≠ _
              rw [ho]
              intro e
              have h1 := Option.some.inj e
              have h2 := hS.bk.lt
              (try simp at h1)
              omega
          rw [← HAP.out] at hG9
          clear hgrow hown hGb hSb n0 hgl2 hKb hbs hvg hll HAP
          go_wp2
          go_roundw
          case rel => exact ⟨j + 1, by omega, by go_num, HV9.out, hG9, hS9, hK9⟩
          case measure => simp [intOf]; omega
        · obtain rfl : j = 0 + 1 := by omega
          have g2 : ¬ (((0 + 1 : Nat) : Nat) : Int) < 1 := by omega
          have HFF : Hid (fgK n (xs.drop p) = rdG (n - (acc ++ List.replicate (0 + 1) f).length) n (xs.drop (q + 1)) (acc ++ List.replicate (0 + 1) f)) := by
            show _ = _
            rw [HF.out, HSO2.out]
          have HLN : Hid ((acc ++ List.replicate (0 + 1) f).length = acc.length + (0 + 1)) := by show _ = _; rw [List.length_append, List.length_replicate]
          have hln2 := hln
          rw [hln]
          clear hri hbk hln
          go_wp2
          go_roundw
          case rel => exact ⟨acc ++ List.replicate (0 + 1) f, q + 1, by rw [hln2] at hvg; exact hvg, by rw [hln2] at hG; exact hG, by rw [HLN.out]; omega, hS, by rw [HLN.out]; omega, HFF.out, hK⟩
          case measure => show n - (acc.length + (0 + 1)) < n - acc.length; omega

end Go.Proofs.Ytdojgkejpfdaeaa

namespace Go.Proofs.Ytdojgkejpfdaeaa
open Go.RowKit Go.Maps
set_option linter.unusedSimpArgs false
set_option linter.unusedVariables false

set_option maxHeartbeats 1000000 in
set_option maxRecDepth 100000 in
theorem su8R_any (g : Nat) (pa : Option Addr) (pc : Nat) (xs : List Nat) (p : Nat) (w : World) (h : Sc 66 w g pa pc xs p) (hp : p ≤ 1000000) :
    Calls Try.prog 49 #[pg g] w fun e w' => e = .returned (.int .i64 (hd1 (xs.drop p) : Int)) ∧ Sc 66 w' g pa pc xs (p + 1) ∧ Kp g w w' := by
  have hF := fun U (hr : Rb U pa pc xs) => su8_any pa pc xs (p : Int) U hr ⟨by omega, by omega⟩
  simp only [nmV_hd1] at hF
  generalize inB xs.length (p : Int) 1 = qb at hF
  generalize (hd1 (xs.drop p) : Int) = vv at hF ⊢
  obtain ⟨x0, x1, _⟩ := h.bk.two
  go_enter Try.func49, Try.ntmps49
  go_upto_region 1 with fail
  refine wp_region_held_drew (S := (fun u => u.cell? ⟨g, 0, none⟩ = some (.slice pa xs.length pc) ∧ u.cell? ⟨g, 1, none⟩ = some (.int .i64 (p : Int)))) (by kernel_rfl) ?_ (fun hHeld => ?_)
  · (try dsimp only)
    go_keep
  have hdr : Below w.heap.size w w.drew := Below.drew1
  have hkp : Kp g w w.drew := (Kp.refl g w).drew
  generalize w.drew = ud at hdr hkp hHeld ⊢
  replace h := h.below hdr
  clear hdr x0 x1
  refine hT 0 hHeld ?_
  refine hT 1 hHeld ?_
  refine hT 2 hHeld ?_
  refine hT 3 hHeld ?_
  refine hT 4 hHeld ?_
  refine hT 5 hHeld ?_
  refine hT 6 hHeld ?_
  refine hT 7 hHeld ?_
  refine hCall (i := 8) rfl (by kernel_rfl) (by rfl) (fun K hK => ?_)
  go_simp
  refine (hF _ h.rb).mono ?_
  rintro e u1 ⟨rfl, rfl⟩
  go_wp2_with fail
  refine hK.out _ _ ?_ (fun hHeld => ?_)
  · (try dsimp only)
    exact hHeld
  clear hK K
  try simp only [Act.put, List.setIfInBounds_toArray, List.set_cons_zero, List.set_cons_succ]
  refine hT 9 hHeld ?_
  refine hT 10 hHeld ?_
  refine hT 11 hHeld ?_
  refine hT 12 hHeld ?_
  refine hT 13 hHeld ?_
  refine wpAnyH_done (by kernel_rfl) ?_ _
  clear hHeld
  obtain ⟨x0, x1, f0, f1⟩ := h.bk.two
  have hpn : (p : Int) + 1 = ((p + 1 : Nat) : Int) := by omega
  have HS : Hid (Sc 66 (ud.setCell ⟨g, 1, none⟩ (.int .i64 ((p + 1 : Nat) : Int))) g pa pc xs (p + 1)) := h.step (p + 1)
  have HK2 : Hid (Kp g w (ud.setCell ⟨g, 1, none⟩ (.int .i64 ((p + 1 : Nat) : Int)))) := hkp.setCell 1 (.int .i64 ((p + 1 : Nat) : Int))
  obtain ⟨m, hm⟩ : ∃ m : Nat, p + 1 = m := ⟨_, rfl⟩
  have hml : m ≤ 1000002 := by omega
  rw [hm] at hpn HS HK2
  have HM : Hid (p + 1 = m) := hm
  clear hm
  go_wp2
  go_ret
  exact ⟨rfl, by rw [HM.out]; exact HS.out, HK2.out⟩

set_option maxHeartbeats 1000000 in
set_option maxRecDepth 100000 in
theorem su16R_any (g : Nat) (pa : Option Addr) (pc : Nat) (xs : List Nat) (p : Nat) (w : World) (h : Sc 66 w g pa pc xs p) (hp : p ≤ 1000000) :
    Calls Try.prog 29 #[pg g] w fun e w' => e = .returned (.int .i64 (hd2 (xs.drop p) : Int)) ∧ Sc 66 w' g pa pc xs (p + 2) ∧ Kp g w w' := by
  have hF := fun U (hr : Rb U pa pc xs) => su16_any pa pc xs (p : Int) U hr ⟨by omega, by omega⟩
  simp only [nmV_hd2] at hF
  generalize inB xs.length (p : Int) 2 = qb at hF
  generalize (hd2 (xs.drop p) : Int) = vv at hF ⊢
  obtain ⟨x0, x1, _⟩ := h.bk.two
  go_enter Try.func29, Try.ntmps29
  go_upto_region 1 with fail
  refine wp_region_held_drew (S := (fun u => u.cell? ⟨g, 0, none⟩ = some (.slice pa xs.length pc) ∧ u.cell? ⟨g, 1, none⟩ = some (.int .i64 (p : Int)))) (by kernel_rfl) ?_ (fun hHeld => ?_)
  · (try dsimp only)
    go_keep
  have hdr : Below w.heap.size w w.drew := Below.drew1
  have hkp : Kp g w w.drew := (Kp.refl g w).drew
  generalize w.drew = ud at hdr hkp hHeld ⊢
  replace h := h.below hdr
  clear hdr x0 x1
  refine hT 0 hHeld ?_
  refine hT 1 hHeld ?_
  refine hT 2 hHeld ?_
  refine hT 3 hHeld ?_
  refine hT 4 hHeld ?_
  refine hT 5 hHeld ?_
  refine hT 6 hHeld ?_
  refine hT 7 hHeld ?_
  refine hCall (i := 8) rfl (by kernel_rfl) (by rfl) (fun K hK => ?_)
  go_simp
  refine (hF _ h.rb).mono ?_
  rintro e u1 ⟨rfl, rfl⟩
  go_wp2_with fail
  refine hK.out _ _ ?_ (fun hHeld => ?_)
  · (try dsimp only)
    exact hHeld
  clear hK K
  try simp only [Act.put, List.setIfInBounds_toArray, List.set_cons_zero, List.set_cons_succ]
  refine hT 9 hHeld ?_
  refine hT 10 hHeld ?_
  refine hT 11 hHeld ?_
  refine hT 12 hHeld ?_
  refine hT 13 hHeld ?_
  refine wpAnyH_done (by kernel_rfl) ?_ _
  clear hHeld
  obtain ⟨x0, x1, f0, f1⟩ := h.bk.two
  have hpn : (p : Int) + 2 = ((p + 2 : Nat) : Int) := by omega
  have HS : Hid (Sc 66 (ud.setCell ⟨g, 1, none⟩ (.int .i64 ((p + 2 : Nat) : Int))) g pa pc xs (p + 2)) := h.step (p + 2)
  have HK2 : Hid (Kp g w (ud.setCell ⟨g, 1, none⟩ (.int .i64 ((p + 2 : Nat) : Int)))) := hkp.setCell 1 (.int .i64 ((p + 2 : Nat) : Int))
  obtain ⟨m, hm⟩ : ∃ m : Nat, p + 2 = m := ⟨_, rfl⟩
  have hml : m ≤ 1000002 := by omega
  rw [hm] at hpn HS HK2
  have HM : Hid (p + 2 = m) := hm
  clear hm
  go_wp2
  go_ret
  exact ⟨rfl, by rw [HM.out]; exact HS.out, HK2.out⟩

set_option maxHeartbeats 1000000 in
set_option maxRecDepth 100000 in
theorem si16R_any (g : Nat) (pa : Option Addr) (pc : Nat) (xs : List Nat) (p : Nat) (w : World) (h : Sc 66 w g pa pc xs p) (hp : p ≤ 1000000) :
    Calls Try.prog 28 #[pg g] w fun e w' => e = .returned (.int .i64 (sx16 (hd2 (xs.drop p)))) ∧ Sc 66 w' g pa pc xs (p + 2) ∧ Kp g w w' := by
  have hF := fun U (hr : Rb U pa pc xs) => si16_any pa pc xs (p : Int) U hr ⟨by omega, by omega⟩
  simp only [nmV_hd2] at hF
  generalize inB xs.length (p : Int) 2 = qb at hF
  generalize (sx16 (hd2 (xs.drop p))) = vv at hF ⊢
  obtain ⟨x0, x1, _⟩ := h.bk.two
  go_enter Try.func28, Try.ntmps28
  go_upto_region 1 with fail
  refine wp_region_held_drew (S := (fun u => u.cell? ⟨g, 0, none⟩ = some (.slice pa xs.length pc) ∧ u.cell? ⟨g, 1, none⟩ = some (.int .i64 (p : Int)))) (by kernel_rfl) ?_ (fun hHeld => ?_)
  · (try dsimp only)
    go_keep
  have hdr : Below w.heap.size w w.drew := Below.drew1
  have hkp : Kp g w w.drew := (Kp.refl g w).drew
  generalize w.drew = ud at hdr hkp hHeld ⊢
  replace h := h.below hdr
  clear hdr x0 x1
  refine hT 0 hHeld ?_
  refine hT 1 hHeld ?_
  refine hT 2 hHeld ?_
  refine hT 3 hHeld ?_
  refine hT 4 hHeld ?_
  refine hT 5 hHeld ?_
  refine hT 6 hHeld ?_
  refine hT 7 hHeld ?_
  refine hCall (i := 8) rfl (by kernel_rfl) (by rfl) (fun K hK => ?_)
  go_simp
  refine (hF _ h.rb).mono ?_
  rintro e u1 ⟨rfl, rfl⟩
  go_wp2_with fail
  refine hK.out _ _ ?_ (fun hHeld => ?_)
  · (try dsimp only)
    exact hHeld
  clear hK K
  try simp only [Act.put, List.setIfInBounds_toArray, List.set_cons_zero, List.set_cons_succ]
  refine hT 9 hHeld ?_
  refine hT 10 hHeld ?_
  refine hT 11 hHeld ?_
  refine hT 12 hHeld ?_
  refine hT 13 hHeld ?_
  refine wpAnyH_done (by kernel_rfl) ?_ _
  clear hHeld
  obtain ⟨x0, x1, f0, f1⟩ := h.bk.two
  have hpn : (p : Int) + 2 = ((p + 2 : Nat) : Int) := by omega
  have HS : Hid (Sc 66 (ud.setCell ⟨g, 1, none⟩ (.int .i64 ((p + 2 : Nat) : Int))) g pa pc xs (p + 2)) := h.step (p + 2)
  have HK2 : Hid (Kp g w (ud.setCell ⟨g, 1, none⟩ (.int .i64 ((p + 2 : Nat) : Int)))) := hkp.setCell 1 (.int .i64 ((p + 2 : Nat) : Int))
  obtain ⟨m, hm⟩ : ∃ m : Nat, p + 2 = m := ⟨_, rfl⟩
  have hml : m ≤ 1000002 := by omega
  rw [hm] at hpn HS HK2
  have HM : Hid (p + 2 = m) := hm
  clear hm
  go_wp2
  go_ret
  exact ⟨rfl, by rw [HM.out]; exact HS.out, HK2.out⟩

theorem rt_intQ {x y : Int} (h : x = y) : Ending.returned (.int .i64 x) = Ending.returned (.int .i64 y) := by rw [h]

set_option maxHeartbeats 1000000 in
set_option maxRecDepth 100000 in
theorem sdifX_any (f g : Nat) (pa : Option Addr) (pc : Nat) (xs : List Nat) (p : Nat) (w : World) (h : Sc 66 w g pa pc xs p) (hp : p ≤ 1000000) (hf : f < 256) :
    Calls Try.prog 50 #[pg g, .int .i64 (f : Int), .int .i64 2, .int .i64 16] w fun e w' => ∃ j, j ≤ 2 ∧ e = .returned (.int .i64 (dfR f 2 16 (xs.drop p)).1) ∧ (dfR f 2 16 (xs.drop p)).2 = xs.drop (p + j) ∧ Sc 66 w' g pa pc xs (p + j) ∧ Kp g w w' := by
  have hb1 := hd1_lt (s := xs.drop p) (fun x hx => h.rb.lim x (List.mem_of_mem_drop hx))
  have q1 : (f : Int).tdiv 2 = ((f / 2 : Nat) : Int) := by rw [Int.tdiv_eq_ediv_of_nonneg (by omega)]; rfl
  have q2 : (f : Int).tdiv 16 = ((f / 16 : Nat) : Int) := by rw [Int.tdiv_eq_ediv_of_nonneg (by omega)]; rfl
  by_cases ha : f / 2 % 2 = 1 <;> by_cases hb : f / 16 % 2 = 1
  · have HE : Hid (dfR f 2 16 (xs.drop p) = ((hd1 (xs.drop p) : Int), (xs.drop p).drop 1)) := by
      show _ = _
      unfold dfR
      rw [if_pos ha, if_pos hb]
    have g1 : ((f / 2 : Nat) : Int) % 2 = 1 := by omega
    have g2 : ((f / 16 : Nat) : Int) % 2 = 1 := by omega
    clear ha hb
    go_enter Try.func50, Try.ntmps50
    go_upto_region 1 with fail
    refine wp_region_held_drew (S := fun w9 => True) (by kernel_rfl) ?_ (fun hHeld => ?_)
    · (try dsimp only)
      all_goals go_keep
    have hdr : Below w.heap.size w w.drew := Below.drew1
    have hkp : Kp g w w.drew := (Kp.refl g w).drew
    generalize w.drew = ud at hdr hkp hHeld ⊢
    replace h := h.below hdr
    clear hdr
    refine hT 0 hHeld ?_
    refine hT 1 hHeld ?_
    refine hT 2 hHeld ?_
    refine hT 3 hHeld ?_
    refine hT 4 hHeld ?_
    refine hT 5 hHeld ?_
    refine hT 6 hHeld ?_
    refine hT 7 hHeld ?_
    refine hT 8 hHeld ?_
    refine hT 9 hHeld ?_
    refine hT 10 hHeld ?_
    refine hT 11 hHeld ?_
    refine wpAnyH_done (by kernel_rfl) ?_ _
    clear hHeld
    go_wp2_with fail
    refine (su8R_any g pa pc xs p _ h hp).mono ?_
    rintro e u2 ⟨rfl, hs, hk⟩
    go_wp2
    go_ret
    exact ⟨1, by omega, rt_intQ (by rw [HE.out]), by rw [HE.out]; exact (List.drop_drop).trans (by rw [Nat.add_comm]) , hs, hkp.trans hk⟩
  · have HE : Hid (dfR f 2 16 (xs.drop p) = (-(hd1 (xs.drop p) : Int), (xs.drop p).drop 1)) := by
      show _ = _
      unfold dfR
      rw [if_pos ha, if_neg hb]
    have g1 : ((f / 2 : Nat) : Int) % 2 = 1 := by omega
    have g2 : ((f / 16 : Nat) : Int) % 2 = 0 := by omega
    clear ha hb
    go_enter Try.func50, Try.ntmps50
    go_upto_region 1 with fail
    refine wp_region_held_drew (S := fun w9 => True) (by kernel_rfl) ?_ (fun hHeld => ?_)
    · (try dsimp only)
      all_goals go_keep
    have hdr : Below w.heap.size w w.drew := Below.drew1
    have hkp : Kp g w w.drew := (Kp.refl g w).drew
    generalize w.drew = ud at hdr hkp hHeld ⊢
    replace h := h.below hdr
    clear hdr
    refine hT 0 hHeld ?_
    refine hT 1 hHeld ?_
    refine hT 2 hHeld ?_
    refine hT 3 hHeld ?_
    refine hT 4 hHeld ?_
    refine hT 5 hHeld ?_
    refine hT 6 hHeld ?_
    refine hT 7 hHeld ?_
    refine hT 8 hHeld ?_
    refine hT 9 hHeld ?_
    refine hT 10 hHeld ?_
    refine hT 11 hHeld ?_
    refine wpAnyH_done (by kernel_rfl) ?_ _
    clear hHeld
    go_wp2_with fail
    refine (su8R_any g pa pc xs p _ h hp).mono ?_
    rintro e u2 ⟨rfl, hs, hk⟩
    go_wp2
    go_ret
    exact ⟨1, by omega, rt_intQ (by rw [HE.out]), by rw [HE.out]; exact (List.drop_drop).trans (by rw [Nat.add_comm]) , hs, hkp.trans hk⟩
  · have HE : Hid (dfR f 2 16 (xs.drop p) = (0, xs.drop p)) := by
      show _ = _
      unfold dfR
      rw [if_neg ha, if_pos hb]
    have g1 : ((f / 2 : Nat) : Int) % 2 = 0 := by omega
    have g2 : ((f / 16 : Nat) : Int) % 2 = 1 := by omega
    clear ha hb
    go_enter Try.func50, Try.ntmps50
    go_upto_region 1 with fail
    refine wp_region_held_drew (S := fun w9 => True) (by kernel_rfl) ?_ (fun hHeld => ?_)
    · (try dsimp only)
      all_goals go_keep
    have hdr : Below w.heap.size w w.drew := Below.drew1
    have hkp : Kp g w w.drew := (Kp.refl g w).drew
    generalize w.drew = ud at hdr hkp hHeld ⊢
    replace h := h.below hdr
    clear hdr
    refine hT 0 hHeld ?_
    refine hT 1 hHeld ?_
    refine hT 2 hHeld ?_
    refine hT 3 hHeld ?_
    refine hT 4 hHeld ?_
    refine hT 5 hHeld ?_
    refine hT 6 hHeld ?_
    refine hT 7 hHeld ?_
    refine hT 8 hHeld ?_
    refine hT 9 hHeld ?_
    refine hT 10 hHeld ?_
    refine hT 11 hHeld ?_
    refine wpAnyH_done (by kernel_rfl) ?_ _
    clear hHeld
    go_wp2
    go_ret
    exact ⟨0, by omega, rt_intQ (by rw [HE.out]), by rw [HE.out]; rfl, h, hkp⟩
  · have HE : Hid (dfR f 2 16 (xs.drop p) = (sx16 (hd2 (xs.drop p)), (xs.drop p).drop 2)) := by
      show _ = _
      unfold dfR
      rw [if_neg ha, if_neg hb]
    have g1 : ((f / 2 : Nat) : Int) % 2 = 0 := by omega
    have g2 : ((f / 16 : Nat) : Int) % 2 = 0 := by omega
    clear ha hb
    go_enter Try.func50, Try.ntmps50
    go_upto_region 1 with fail
    refine wp_region_held_drew (S := fun w9 => True) (by kernel_rfl) ?_ (fun hHeld => ?_)
    · (try dsimp only)
      all_goals go_keep
    have hdr : Below w.heap.size w w.drew := Below.drew1
    have hkp : Kp g w w.drew := (Kp.refl g w).drew
    generalize w.drew = ud at hdr hkp hHeld ⊢
    replace h := h.below hdr
    clear hdr
    refine hT 0 hHeld ?_
    refine hT 1 hHeld ?_
    refine hT 2 hHeld ?_
    refine hT 3 hHeld ?_
    refine hT 4 hHeld ?_
    refine hT 5 hHeld ?_
    refine hT 6 hHeld ?_
    refine hT 7 hHeld ?_
    refine hT 8 hHeld ?_
    refine hT 9 hHeld ?_
    refine hT 10 hHeld ?_
    refine hT 11 hHeld ?_
    refine wpAnyH_done (by kernel_rfl) ?_ _
    clear hHeld
    go_wp2_with fail
    refine (si16R_any g pa pc xs p _ h hp).mono ?_
    rintro e u2 ⟨rfl, hs, hk⟩
    go_wp2
    go_ret
    exact ⟨2, by omega, rt_intQ (by rw [HE.out]), by rw [HE.out]; exact (List.drop_drop).trans (by rw [Nat.add_comm]) , hs, hkp.trans hk⟩

set_option maxHeartbeats 1000000 in
set_option maxRecDepth 100000 in
theorem sdifY_any (f g : Nat) (pa : Option Addr) (pc : Nat) (xs : List Nat) (p : Nat) (w : World) (h : Sc 66 w g pa pc xs p) (hp : p ≤ 1000000) (hf : f < 256) :
    Calls Try.prog 50 #[pg g, .int .i64 (f : Int), .int .i64 4, .int .i64 32] w fun e w' => ∃ j, j ≤ 2 ∧ e = .returned (.int .i64 (dfR f 4 32 (xs.drop p)).1) ∧ (dfR f 4 32 (xs.drop p)).2 = xs.drop (p + j) ∧ Sc 66 w' g pa pc xs (p + j) ∧ Kp g w w' := by
  have hb1 := hd1_lt (s := xs.drop p) (fun x hx => h.rb.lim x (List.mem_of_mem_drop hx))
  have q1 : (f : Int).tdiv 4 = ((f / 4 : Nat) : Int) := by rw [Int.tdiv_eq_ediv_of_nonneg (by omega)]; rfl
  have q2 : (f : Int).tdiv 32 = ((f / 32 : Nat) : Int) := by rw [Int.tdiv_eq_ediv_of_nonneg (by omega)]; rfl
  by_cases ha : f / 4 % 2 = 1 <;> by_cases hb : f / 32 % 2 = 1
  · have HE : Hid (dfR f 4 32 (xs.drop p) = ((hd1 (xs.drop p) : Int), (xs.drop p).drop 1)) := by
      show _ = _
      unfold dfR
      rw [if_pos ha, if_pos hb]
    have g1 : ((f / 4 : Nat) : Int) % 2 = 1 := by omega
    have g2 : ((f / 32 : Nat) : Int) % 2 = 1 := by omega
    clear ha hb
    go_enter Try.func50, Try.ntmps50
    go_upto_region 1 with fail
    refine wp_region_held_drew (S := fun w9 => True) (by kernel_rfl) ?_ (fun hHeld => ?_)
    · (try dsimp only)
      all_goals go_keep
    have hdr : Below w.heap.size w w.drew := Below.drew1
    have hkp : Kp g w w.drew := (Kp.refl g w).drew
    generalize w.drew = ud at hdr hkp hHeld ⊢
    replace h := h.below hdr
    clear hdr
    refine hT 0 hHeld ?_
    refine hT 1 hHeld ?_
    refine hT 2 hHeld ?_
    refine hT 3 hHeld ?_
    refine hT 4 hHeld ?_
    refine hT 5 hHeld ?_
    refine hT 6 hHeld ?_
    refine hT 7 hHeld ?_
    refine hT 8 hHeld ?_
    refine hT 9 hHeld ?_
    refine hT 10 hHeld ?_
    refine hT 11 hHeld ?_
    refine wpAnyH_done (by kernel_rfl) ?_ _
    clear hHeld
    go_wp2_with fail
    refine (su8R_any g pa pc xs p _ h hp).mono ?_
    rintro e u2 ⟨rfl, hs, hk⟩
    go_wp2
    go_ret
    exact ⟨1, by omega, rt_intQ (by rw [HE.out]), by rw [HE.out]; exact (List.drop_drop).trans (by rw [Nat.add_comm]) , hs, hkp.trans hk⟩
  · have HE : Hid (dfR f 4 32 (xs.drop p) = (-(hd1 (xs.drop p) : Int), (xs.drop p).drop 1)) := by
      show _ = _
      unfold dfR
      rw [if_pos ha, if_neg hb]
    have g1 : ((f / 4 : Nat) : Int) % 2 = 1 := by omega
    have g2 : ((f / 32 : Nat) : Int) % 2 = 0 := by omega
    clear ha hb
    go_enter Try.func50, Try.ntmps50
    go_upto_region 1 with fail
    refine wp_region_held_drew (S := fun w9 => True) (by kernel_rfl) ?_ (fun hHeld => ?_)
    · (try dsimp only)
      all_goals go_keep
    have hdr : Below w.heap.size w w.drew := Below.drew1
    have hkp : Kp g w w.drew := (Kp.refl g w).drew
    generalize w.drew = ud at hdr hkp hHeld ⊢
    replace h := h.below hdr
    clear hdr
    refine hT 0 hHeld ?_
    refine hT 1 hHeld ?_
    refine hT 2 hHeld ?_
    refine hT 3 hHeld ?_
    refine hT 4 hHeld ?_
    refine hT 5 hHeld ?_
    refine hT 6 hHeld ?_
    refine hT 7 hHeld ?_
    refine hT 8 hHeld ?_
    refine hT 9 hHeld ?_
    refine hT 10 hHeld ?_
    refine hT 11 hHeld ?_
    refine wpAnyH_done (by kernel_rfl) ?_ _
    clear hHeld
    go_wp2_with fail
    refine (su8R_any g pa pc xs p _ h hp).mono ?_
    rintro e u2 ⟨rfl, hs, hk⟩
    go_wp2
    go_ret
    exact ⟨1, by omega, rt_intQ (by rw [HE.out]), by rw [HE.out]; exact (List.drop_drop).trans (by rw [Nat.add_comm]) , hs, hkp.trans hk⟩
  · have HE : Hid (dfR f 4 32 (xs.drop p) = (0, xs.drop p)) := by
      show _ = _
      unfold dfR
      rw [if_neg ha, if_pos hb]
    have g1 : ((f / 4 : Nat) : Int) % 2 = 0 := by omega
    have g2 : ((f / 32 : Nat) : Int) % 2 = 1 := by omega
    clear ha hb
    go_enter Try.func50, Try.ntmps50
    go_upto_region 1 with fail
    refine wp_region_held_drew (S := fun w9 => True) (by kernel_rfl) ?_ (fun hHeld => ?_)
    · (try dsimp only)
      all_goals go_keep
    have hdr : Below w.heap.size w w.drew := Below.drew1
    have hkp : Kp g w w.drew := (Kp.refl g w).drew
    generalize w.drew = ud at hdr hkp hHeld ⊢
    replace h := h.below hdr
    clear hdr
    refine hT 0 hHeld ?_
    refine hT 1 hHeld ?_
    refine hT 2 hHeld ?_
    refine hT 3 hHeld ?_
    refine hT 4 hHeld ?_
    refine hT 5 hHeld ?_
    refine hT 6 hHeld ?_
    refine hT 7 hHeld ?_
    refine hT 8 hHeld ?_
    refine hT 9 hHeld ?_
    refine hT 10 hHeld ?_
    refine hT 11 hHeld ?_
    refine wpAnyH_done (by kernel_rfl) ?_ _
    clear hHeld
    go_wp2
    go_ret
    exact ⟨0, by omega, rt_intQ (by rw [HE.out]), by rw [HE.out]; rfl, h, hkp⟩
  · have HE : Hid (dfR f 4 32 (xs.drop p) = (sx16 (hd2 (xs.drop p)), (xs.drop p).drop 2)) := by
      show _ = _
      unfold dfR
      rw [if_neg ha, if_neg hb]
    have g1 : ((f / 4 : Nat) : Int) % 2 = 0 := by omega
    have g2 : ((f / 32 : Nat) : Int) % 2 = 0 := by omega
    clear ha hb
    go_enter Try.func50, Try.ntmps50
    go_upto_region 1 with fail
    refine wp_region_held_drew (S := fun w9 => True) (by kernel_rfl) ?_ (fun hHeld => ?_)
    · (try dsimp only)
      all_goals go_keep
    have hdr : Below w.heap.size w w.drew := Below.drew1
    have hkp : Kp g w w.drew := (Kp.refl g w).drew
    generalize w.drew = ud at hdr hkp hHeld ⊢
    replace h := h.below hdr
    clear hdr
    refine hT 0 hHeld ?_
    refine hT 1 hHeld ?_
    refine hT 2 hHeld ?_
    refine hT 3 hHeld ?_
    refine hT 4 hHeld ?_
    refine hT 5 hHeld ?_
    refine hT 6 hHeld ?_
    refine hT 7 hHeld ?_
    refine hT 8 hHeld ?_
    refine hT 9 hHeld ?_
    refine hT 10 hHeld ?_
    refine hT 11 hHeld ?_
    refine wpAnyH_done (by kernel_rfl) ?_ _
    clear hHeld
    go_wp2_with fail
    refine (si16R_any g pa pc xs p _ h hp).mono ?_
    rintro e u2 ⟨rfl, hs, hk⟩
    go_wp2
    go_ret
    exact ⟨2, by omega, rt_intQ (by rw [HE.out]), by rw [HE.out]; exact (List.drop_drop).trans (by rw [Nat.add_comm]) , hs, hkp.trans hk⟩

end Go.Proofs.Ytdojgkejpfdaeaa
