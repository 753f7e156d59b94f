/-
  Outlines: how the code reads bytes; step by step (plain mathematics).
  outline's source: take, u8, u16, i16: the walks.
  outline.takeStep, outline.takeFlags: the walks.
-/
import Derived.Test.YtokcdkckomoajaaZ5
import Derived.Test.YtokcdkckomoajaaZ12
import Derived.Test.YtokcdkckomoajaaZ2
import Derived.Test.YtokcdkckomoajaaZ8
import Derived.Deep.CutRange
import Derived.Test.YtokcdkckomoajaaZ11
namespace Go.Proofs.Ytokcdkckomoajaa
set_option linter.unusedSimpArgs false
set_option linter.unusedVariables false

/-- Differences, one by one. -/
def rdR (sh sm : Nat) (fs : List Nat) (s : List Nat) (a : Int) (k : Nat) : List Nat := (rdD sh sm (fs.take k) s a).2
theorem rdR_zero (sh sm : Nat) (fs s : List Nat) (a : Int) : rdR sh sm fs s a 0 = s := rfl
theorem rdR_all (sh sm : Nat) (fs s : List Nat) (a : Int) : rdR sh sm fs s a fs.length = (rdD sh sm fs s a).2 := by unfold rdR; rw [List.take_length]
theorem rdD_at (sh sm : Nat) : ∀ (fs s : List Nat) (a : Int) (k : Nat), k < fs.length → (rdD sh sm fs s a).1.getD k 0 = (if k = 0 then a else (rdD sh sm fs s a).1.getD (k - 1) 0) + (dfR (fs.getD k 0) sh sm (rdR sh sm fs s a k)).1 ∧ rdR sh sm fs s a (k + 1) = (dfR (fs.getD k 0) sh sm (rdR sh sm fs s a k)).2 := by
  intro fs
  induction fs with
  | nil => intro s a k hk; simp at hk
  | cons f t ih =>
    intro s a k hk
    cases k with
    | zero => exact ⟨rfl, rfl⟩
    | succ k =>
      obtain ⟨h1, h2⟩ := ih (dfR f sh sm s).2 (a + (dfR f sh sm s).1) k (by simpa using hk)
      have e : ∀ j, rdR sh sm (f :: t) s a (j + 1) = rdR sh sm t (dfR f sh sm s).2 (a + (dfR f sh sm s).1) j := fun j => rfl
      refine ⟨?_, by rw [e, e, List.getD_cons_succ]; exact h2⟩
      rw [e, List.getD_cons_succ, rdD, List.getD_cons_succ, h1]
      cases k with
      | zero => rfl
      | succ k => simp
theorem dfR_le (f sh sm : Nat) {s : List Nat} (hs : Byt s) : -32768 ≤ (dfR f sh sm s).1 ∧ (dfR f sh sm s).1 ≤ 32767 := by
  have h1 : hd1 s < 256 := by
    unfold hd1
    cases s with
    | nil => decide
    | cons x t => exact hs x (by simp)
  have h2 : hd2 s < 65536 := by
    match s, hs with
    | [], _ => decide
    | [x], _ => exact (by decide : (0 : Nat) < 65536)
    | x :: y :: t, hs =>
      have := hs x (by simp)
      have := hs y (by simp)
      show 256 * x + y < 65536
      omega
  unfold dfR sx16
  split
  · split <;> dsimp only <;> omega
  · split
    · dsimp only; omega
    · dsimp only; split <;> omega
theorem dfR_drop (f sh sm : Nat) (s : List Nat) : ∃ j, j ≤ 2 ∧ (dfR f sh sm s).2 = s.drop j := by
  unfold dfR
  split
  · split
    · exact ⟨1, by omega, rfl⟩
    · exact ⟨1, by omega, rfl⟩
  · split
    · exact ⟨0, by omega, rfl⟩
    · exact ⟨2, by omega, rfl⟩
theorem rdR_byt {sh sm : Nat} {fs s : List Nat} {a : Int} (hs : Byt s) : ∀ k, k ≤ fs.length → Byt (rdR sh sm fs s a k) := by
  intro k
  induction k with
  | zero => intro _; exact hs
  | succ k ih =>
    intro hk
    rw [(rdD_at sh sm fs s a k (by omega)).2]
    obtain ⟨j, _, e⟩ := dfR_drop (fs.getD k 0) sh sm (rdR sh sm fs s a k)
    rw [e]
    exact (ih (by omega)).drop j
theorem rdD_le {sh sm : Nat} {fs s : List Nat} (hs : Byt s) : ∀ k, k < fs.length → -32768 * ((k : Int) + 1) ≤ (rdD sh sm fs s 0).1.getD k 0 ∧ (rdD sh sm fs s 0).1.getD k 0 ≤ 32767 * ((k : Int) + 1) := by
  intro k
  induction k with
  | zero =>
    intro hk
    have h1 := (rdD_at sh sm fs s 0 0 hk).1
    have h2 := dfR_le (fs.getD 0 0) sh sm (rdR_byt (sh := sh) (sm := sm) (fs := fs) (a := 0) hs 0 (Nat.zero_le _))
    rw [if_pos rfl] at h1
    rw [h1]
    omega
  | succ k ih =>
    intro hk
    have h0 := ih (by omega)
    have h1 := (rdD_at sh sm fs s 0 (k + 1) hk).1
    have h2 := dfR_le (fs.getD (k + 1) 0) sh sm (rdR_byt (sh := sh) (sm := sm) (fs := fs) (a := 0) hs (k + 1) (by omega))
    rw [if_neg (by omega), Nat.add_sub_cancel] at h1
    rw [h1]
    omega
/-- Flags: how many, and where the rest begins. -/
theorem rdG_len : ∀ (f n : Nat) (s acc : List Nat), n ≤ acc.length + f → n ≤ (rdG f n s acc).1.length := by
  intro f
  induction f with
  | zero => intro n s acc h; exact h
  | succ f ih =>
    intro n s acc h
    rw [rdG]
    split
    · split
      · exact ih _ _ _ (by rw [List.length_append, List.length_replicate]; omega)
      · exact ih _ _ _ (by rw [List.length_append, List.length_singleton]; omega)
    · dsimp only; omega
theorem rdG_byt : ∀ (f n : Nat) (s acc : List Nat), Byt s → Byt acc → Byt (rdG f n s acc).1 := by
  intro f
  induction f with
  | zero => intro n s acc _ h; exact h
  | succ f ih =>
    intro n s acc hs h
    have h1 : hd1 s < 256 := by
      unfold hd1
      cases s with
      | nil => decide
      | cons x t => exact hs x (by simp)
    rw [rdG]
    split
    · split
      · exact ih _ _ _ (hs.drop 2) (h.append (fun x hx => by rw [List.eq_of_mem_replicate hx]; exact h1))
      · exact ih _ _ _ (hs.drop 1) (h.append (fun x hx => by rw [List.mem_singleton.1 hx]; exact h1))
    · exact h
/-- Contours, as the code cuts them. -/
def cutK : List Nat → Nat → List Pn → List (List Pn)
  | [], _, _ => []
  | e :: t, p, l => (l.drop p).take (min (e + 1) l.length - p) :: cutK t (max p (min (e + 1) l.length)) l
def numK (L : Nat) : List Nat → Nat → Nat → Nat
  | _, p, 0 => p
  | [], p, _ + 1 => p
  | e :: t, p, k + 1 => numK L t (max p (min (e + 1) L)) k
theorem cutK_len : ∀ (es : List Nat) (p : Nat) (l : List Pn), (cutK es p l).length = es.length := by
  intro es
  induction es with
  | nil => intro p l; rfl
  | cons e t ih => intro p l; rw [cutK, List.length_cons, List.length_cons, ih]
theorem cutK_at : ∀ (es : List Nat) (p : Nat) (l : List Pn) (k : Nat), k < es.length → (cutK es p l).getD k [] = (l.drop (numK l.length es p k)).take (min (es.getD k 0 + 1) l.length - numK l.length es p k) ∧ numK l.length es p (k + 1) = max (numK l.length es p k) (min (es.getD k 0 + 1) l.length) := by
  intro es
  induction es with
  | nil => intro p l k hk; simp at hk
  | cons e t ih =>
    intro p l k hk
    cases k with
    | zero =>
      refine ⟨rfl, ?_⟩
      rw [numK]
      cases t <;> rfl
    | succ k =>
      obtain ⟨h1, h2⟩ := ih (max p (min (e + 1) l.length)) l k (by simpa using hk)
      exact ⟨h1, h2⟩
theorem numK_le {L : Nat} : ∀ (es : List Nat) (p k : Nat), p ≤ L → numK L es p k ≤ L := by
  intro es
  induction es with
  | nil => intro p k h; cases k <;> exact h
  | cons e t ih =>
    intro p k h
    cases k with
    | zero => exact h
    | succ k => exact ih _ k (by omega)
theorem cutK_some : ∀ (es : List Nat) (p : Nat) (l : List Pn) (cs : List (List Pn)), cutC es p l = some cs → cutK es p l = cs := by
  intro es
  induction es with
  | nil => intro p l cs h; injection h
  | cons e t ih =>
    intro p l cs h
    rw [cutC] at h
    split at h
    · cases h
    · rename_i hn
      cases hc : cutC t (e + 1) l with
      | none => rw [hc] at h; cases h
      | some r =>
        rw [hc] at h
        injection h with h
        rw [cutK, ← h, show min (e + 1) l.length = e + 1 by omega, show max p (e + 1) = e + 1 by omega, ih _ _ _ hc]
/-- What the code tries bytes as. -/
def cntK (m : Nat) (es : List Nat) : Nat := if m = 0 then 0 else min (es.getD (m - 1) 0 + 1) 80
def fgK (n : Nat) (s : List Nat) : List Nat × List Nat := rdG n n s []
def fsK (n : Nat) (s : List Nat) : List Nat := (fgK n s).1.take n
def xsK (n : Nat) (s : List Nat) : List Int × List Nat := rdD 2 16 (fsK n s) (fgK n s).2 0
def ysK (n : Nat) (s : List Nat) : List Int × List Nat := rdD 4 32 (fsK n s) (xsK n s).2 0
def ptK (n : Nat) (s : List Nat) : List Pn := mkP (xsK n s).1 (ysK n s).1 (fsK n s)
theorem fsK_len (n : Nat) (s : List Nat) : (fsK n s).length = n := by
  unfold fsK fgK
  rw [List.length_take]
  have := rdG_len n n s [] (by simp)
  omega
theorem ptK_len (n : Nat) (s : List Nat) : (ptK n s).length = n := by
  unfold ptK
  rw [mkP_len _ _ _ (by unfold xsK; rw [rdD_len]) (by unfold ysK; rw [rdD_len]), fsK_len]
def conK (m : Nat) (s : List Nat) : List (List Pn) := cutK (rdE m s).1 0 (ptK (cntK m (rdE m s).1) (rdE m s).2)
def candK (b : List Nat) : Ol := if sx16 (hd2 b) = -1 then ⟨[], psR ((b.drop 2).drop 2) (min (hd2 (b.drop 2)) 6)⟩ else ⟨conK (min (sx16 (hd2 b)) 10).toNat (b.drop 2), []⟩
theorem ptK_ls {n : Nat} {s : List Nat} (h : ptsW n (rdE n s).1 ≤ 80) : ptK (cntK n (rdE n s).1) (rdE n s).2 = lsW n s := by
  have e : cntK n (rdE n s).1 = ptsW n (rdE n s).1 := by
    unfold cntK
    unfold ptsW at h ⊢
    split
    · rfl
    · rename_i h0
      rw [if_neg h0] at h
      omega
  have e1 : fgK (ptsW n (rdE n s).1) (rdE n s).2 = flW n s := by unfold fgK flW; rw [if_pos h]
  rw [e]
  unfold ptK lsW ysK ysW xsK xsW fsK fsW
  rw [e1]
theorem candK_back {o : Ol} (h : wrOE o = 0) : candK (wrOB o) = o := by
  obtain ⟨⟨f1, f2, f3, f4, f5, f6, f7⟩, hdi⟩ := wrOE_ok h
  by_cases h0 : o.ps.length = 0
  · rw [wrOB_co h h0]
    have hd := diB_iff.1 (hdi h0)
    obtain ⟨cs, ps⟩ := o
    have hps : ps = [] := List.length_eq_zero_iff.1 h0
    subst hps
    dsimp only at *
    unfold coB
    have v0 : V8 (be2 (cs.length : Int)) = cs.length := by rw [V8_be2i' (by omega) (by omega), Int.toNat_natCast]
    have hsx : sx16 cs.length = (cs.length : Int) := by unfold sx16; rw [if_neg (by omega)]
    unfold candK
    rw [hd2_be2, drop_be2, v0, hsx, if_neg (by omega), show (min (cs.length : Int) 10).toNat = cs.length by omega]
    obtain ⟨hpt, hC⟩ := co_back f4 f5 hd [] (s := (endF 0 cs).flatMap be2 ++ (rl (flL cs.flatten) ++ ((difs 0 0 cs.flatten).flatMap (fun t => axB t.1) ++ (difs 0 0 cs.flatten).flatMap (fun t => axB t.2.1)))) (by rw [List.append_nil])
    unfold conK
    rw [ptK_ls (by rw [hpt]; exact f5), cutK_some _ _ _ _ hC]
  · rw [wrOB_pa h h0]
    obtain ⟨cs, ps⟩ := o
    have hcs : cs = [] := List.length_eq_zero_iff.1 (by rcases f1 with f1 | f1; exact f1; exact absurd f1 h0)
    subst hcs
    dsimp only at *
    have v0 : V8 (be2 (ps.length : Int)) = ps.length := by rw [V8_be2i' (by omega) (by omega), Int.toNat_natCast]
    have hb := psR_back ps f7 []
    rw [List.append_nil] at hb
    unfold paB candK
    have e1 : hd2 ([255, 255] ++ (be2 (ps.length : Int) ++ ps.flatMap paE)) = 65535 := rfl
    have e2 : ([255, 255] ++ (be2 (ps.length : Int) ++ ps.flatMap paE)).drop 2 = be2 (ps.length : Int) ++ ps.flatMap paE := rfl
    rw [e1, e2, if_pos (by decide), hd2_be2, drop_be2, v0, show min ps.length 6 = ps.length by omega, hb]
/-- The code's bytes are read just where the reference's are. -/
theorem candK_ok (b : List Nat) : (decide (wrOE (candK b) = 0) && decide (wrOB (candK b) = b)) = rdOk b ∧ (rdOk b = true → candK b = candO b) := by
  have h2 : rdOk b = true → candK b = candO b := fun h => by
    obtain ⟨h1, h2⟩ := rdOk_iff.1 h
    have := candK_back h1
    rw [h2] at this
    exact this
  refine ⟨?_, h2⟩
  rw [Bool.eq_iff_iff]
  constructor
  · intro h
    rw [Bool.and_eq_true, decide_eq_true_iff, decide_eq_true_iff] at h
    exact (rdO_of h.1 h.2).1
  · intro h
    rw [h2 h]
    exact h

end Go.Proofs.Ytokcdkckomoajaa

namespace Go.Proofs.Ytokcdkckomoajaa
open Go.RowKit Go.Maps
set_option linter.unusedSimpArgs false
set_option linter.unusedVariables false

set_option maxHeartbeats 1000000 in
set_option maxRecDepth 100000 in
theorem ctake8_any (v : Int) (q : Bool) (n : Nat) (g : Nat) (pa : Option Addr) (pc : Nat) (xs : List Nat) (p : Nat) (w : World) (h : Sc 73 w g pa pc xs p) (hp : p ≤ 1000000) (hn : n ≤ 2)
    (hF : ∀ U, Rb U pa pc xs → Calls Try.prog 73 #[.slice pa xs.length pc, .int .i64 (p : Int)] U fun e w' => e = .returned (.tuple #[.int .i64 v, .bool q]) ∧ U = w') :
    Calls Try.prog 61 #[pg g, .func (.func 73) #[] #[], .int .i64 (n : Int)] w fun e w' => e = .returned (.int .i64 v) ∧ Sc 73 w' g pa pc xs (p + n) ∧ Kp g w w' := by
  obtain ⟨x0, x1, _⟩ := h.bk.two
  go_enter Try.func61, Try.ntmps61
  go_upto_region 1 with fail
  refine wp_region_held_drew (S := (fun u => u.cell? ⟨g, 0, none⟩ = some (.slice pa xs.length pc) ∧ u.cell? ⟨g, 1, none⟩ = some (.int .i64 (p : Int)))) (by kernel_rfl) ?_ (fun hHeld => ?_)
  · (try dsimp only)
    go_keep
  have hdr : Below w.heap.size w w.drew := Below.drew1
  have hkp : Kp g w w.drew := (Kp.refl g w).drew
  generalize w.drew = ud at hdr hkp hHeld ⊢
  replace h := h.below hdr
  clear hdr x0 x1
  refine hT 0 hHeld ?_
  refine hT 1 hHeld ?_
  refine hT 2 hHeld ?_
  refine hT 3 hHeld ?_
  refine hT 4 hHeld ?_
  refine hT 5 hHeld ?_
  refine hT 6 hHeld ?_
  refine hT 7 hHeld ?_
  refine hT 8 hHeld ?_
  refine hCall (i := 9) rfl (by kernel_rfl) (by rfl) (fun K hK => ?_)
  go_simp
  refine (hF _ h.rb).mono ?_
  rintro e u1 ⟨rfl, rfl⟩
  go_wp2_with fail
  refine hK.out _ _ ?_ (fun hHeld => ?_)
  · (try dsimp only)
    exact hHeld
  clear hK K
  try simp only [Act.put, List.setIfInBounds_toArray, List.set_cons_zero, List.set_cons_succ]
  refine hT 10 hHeld ?_
  refine hT 11 hHeld ?_
  refine hT 13 hHeld ?_
  refine hT 12 hHeld ?_
  refine hT 14 hHeld ?_
  refine wpAnyH_done (by kernel_rfl) ?_ _
  clear hHeld
  obtain ⟨x0, x1, f0, f1⟩ := h.bk.two
  have hs := h.step (p + n)
  have hk2 := hkp.setCell 1 (.int .i64 ((p + n : Nat) : Int))
  have hpn : (p : Int) + (n : Int) = ((p + n : Nat) : Int) := by omega
  have HS : Hid (_) := hs
  have HK2 : Hid (_) := hk2
  clear hs hk2
  obtain ⟨m, hm⟩ : ∃ m : Nat, p + n = m := ⟨_, rfl⟩
  have hml : m ≤ 1000002 := by omega
  rw [hm] at hpn HS HK2
  have HM : Hid (p + n = m) := hm
  clear hm
  go_wp2
  go_ret
  exact ⟨rfl, by rw [HM.out]; exact HS.out, HK2.out⟩

set_option maxHeartbeats 1000000 in
set_option maxRecDepth 100000 in
theorem ctake16_any (v : Int) (q : Bool) (n : Nat) (g : Nat) (pa : Option Addr) (pc : Nat) (xs : List Nat) (p : Nat) (w : World) (h : Sc 73 w g pa pc xs p) (hp : p ≤ 1000000) (hn : n ≤ 2)
    (hF : ∀ U, Rb U pa pc xs → Calls Try.prog 68 #[.slice pa xs.length pc, .int .i64 (p : Int)] U fun e w' => e = .returned (.tuple #[.int .i64 v, .bool q]) ∧ U = w') :
    Calls Try.prog 61 #[pg g, .func (.func 68) #[] #[], .int .i64 (n : Int)] w fun e w' => e = .returned (.int .i64 v) ∧ Sc 73 w' g pa pc xs (p + n) ∧ Kp g w w' := by
  obtain ⟨x0, x1, _⟩ := h.bk.two
  go_enter Try.func61, Try.ntmps61
  go_upto_region 1 with fail
  refine wp_region_held_drew (S := (fun u => u.cell? ⟨g, 0, none⟩ = some (.slice pa xs.length pc) ∧ u.cell? ⟨g, 1, none⟩ = some (.int .i64 (p : Int)))) (by kernel_rfl) ?_ (fun hHeld => ?_)
  · (try dsimp only)
    go_keep
  have hdr : Below w.heap.size w w.drew := Below.drew1
  have hkp : Kp g w w.drew := (Kp.refl g w).drew
  generalize w.drew = ud at hdr hkp hHeld ⊢
  replace h := h.below hdr
  clear hdr x0 x1
  refine hT 0 hHeld ?_
  refine hT 1 hHeld ?_
  refine hT 2 hHeld ?_
  refine hT 3 hHeld ?_
  refine hT 4 hHeld ?_
  refine hT 5 hHeld ?_
  refine hT 6 hHeld ?_
  refine hT 7 hHeld ?_
  refine hT 8 hHeld ?_
  refine hCall (i := 9) rfl (by kernel_rfl) (by rfl) (fun K hK => ?_)
  go_simp
  refine (hF _ h.rb).mono ?_
  rintro e u1 ⟨rfl, rfl⟩
  go_wp2_with fail
  refine hK.out _ _ ?_ (fun hHeld => ?_)
  · (try dsimp only)
    exact hHeld
  clear hK K
  try simp only [Act.put, List.setIfInBounds_toArray, List.set_cons_zero, List.set_cons_succ]
  refine hT 10 hHeld ?_
  refine hT 11 hHeld ?_
  refine hT 13 hHeld ?_
  refine hT 12 hHeld ?_
  refine hT 14 hHeld ?_
  refine wpAnyH_done (by kernel_rfl) ?_ _
  clear hHeld
  obtain ⟨x0, x1, f0, f1⟩ := h.bk.two
  have hs := h.step (p + n)
  have hk2 := hkp.setCell 1 (.int .i64 ((p + n : Nat) : Int))
  have hpn : (p : Int) + (n : Int) = ((p + n : Nat) : Int) := by omega
  have HS : Hid (_) := hs
  have HK2 : Hid (_) := hk2
  clear hs hk2
  obtain ⟨m, hm⟩ : ∃ m : Nat, p + n = m := ⟨_, rfl⟩
  have hml : m ≤ 1000002 := by omega
  rw [hm] at hpn HS HK2
  have HM : Hid (p + n = m) := hm
  clear hm
  go_wp2
  go_ret
  exact ⟨rfl, by rw [HM.out]; exact HS.out, HK2.out⟩

set_option maxHeartbeats 1000000 in
set_option maxRecDepth 100000 in
theorem ctakei_any (v : Int) (q : Bool) (n : Nat) (g : Nat) (pa : Option Addr) (pc : Nat) (xs : List Nat) (p : Nat) (w : World) (h : Sc 73 w g pa pc xs p) (hp : p ≤ 1000000) (hn : n ≤ 2)
    (hF : ∀ U, Rb U pa pc xs → Calls Try.prog 62 #[.slice pa xs.length pc, .int .i64 (p : Int)] U fun e w' => e = .returned (.tuple #[.int .i64 v, .bool q]) ∧ U = w') :
    Calls Try.prog 61 #[pg g, .func (.func 62) #[] #[], .int .i64 (n : Int)] w fun e w' => e = .returned (.int .i64 v) ∧ Sc 73 w' g pa pc xs (p + n) ∧ Kp g w w' := by
  obtain ⟨x0, x1, _⟩ := h.bk.two
  go_enter Try.func61, Try.ntmps61
  go_upto_region 1 with fail
  refine wp_region_held_drew (S := (fun u => u.cell? ⟨g, 0, none⟩ = some (.slice pa xs.length pc) ∧ u.cell? ⟨g, 1, none⟩ = some (.int .i64 (p : Int)))) (by kernel_rfl) ?_ (fun hHeld => ?_)
  · (try dsimp only)
    go_keep
  have hdr : Below w.heap.size w w.drew := Below.drew1
  have hkp : Kp g w w.drew := (Kp.refl g w).drew
  generalize w.drew = ud at hdr hkp hHeld ⊢
  replace h := h.below hdr
  clear hdr x0 x1
  refine hT 0 hHeld ?_
  refine hT 1 hHeld ?_
  refine hT 2 hHeld ?_
  refine hT 3 hHeld ?_
  refine hT 4 hHeld ?_
  refine hT 5 hHeld ?_
  refine hT 6 hHeld ?_
  refine hT 7 hHeld ?_
  refine hT 8 hHeld ?_
  refine hCall (i := 9) rfl (by kernel_rfl) (by rfl) (fun K hK => ?_)
  go_simp
  refine (hF _ h.rb).mono ?_
  rintro e u1 ⟨rfl, rfl⟩
  go_wp2_with fail
  refine hK.out _ _ ?_ (fun hHeld => ?_)
  · (try dsimp only)
    exact hHeld
  clear hK K
  try simp only [Act.put, List.setIfInBounds_toArray, List.set_cons_zero, List.set_cons_succ]
  refine hT 10 hHeld ?_
  refine hT 11 hHeld ?_
  refine hT 13 hHeld ?_
  refine hT 12 hHeld ?_
  refine hT 14 hHeld ?_
  refine wpAnyH_done (by kernel_rfl) ?_ _
  clear hHeld
  obtain ⟨x0, x1, f0, f1⟩ := h.bk.two
  have hs := h.step (p + n)
  have hk2 := hkp.setCell 1 (.int .i64 ((p + n : Nat) : Int))
  have hpn : (p : Int) + (n : Int) = ((p + n : Nat) : Int) := by omega
  have HS : Hid (_) := hs
  have HK2 : Hid (_) := hk2
  clear hs hk2
  obtain ⟨m, hm⟩ : ∃ m : Nat, p + n = m := ⟨_, rfl⟩
  have hml : m ≤ 1000002 := by omega
  rw [hm] at hpn HS HK2
  have HM : Hid (p + n = m) := hm
  clear hm
  go_wp2
  go_ret
  exact ⟨rfl, by rw [HM.out]; exact HS.out, HK2.out⟩

set_option maxHeartbeats 1000000 in
set_option maxRecDepth 100000 in
theorem cSu8_any (g : Nat) (pa : Option Addr) (pc : Nat) (xs : List Nat) (p : Nat) (w : World) (h : Sc 73 w g pa pc xs p) (hp : p ≤ 1000000) :
    Calls Try.prog 72 #[pg g] w fun e w' => e = .returned (.int .i64 (hd1 (xs.drop p) : Int)) ∧ Sc 73 w' g pa pc xs (p + 1) ∧ Kp g w w' := by
  have ht := ctake8_any (hd1 (xs.drop p) : Int) (inB xs.length (p : Int) 1) 1 g pa pc xs p w h hp (by decide) (fun U hU => by rw [← nmV_hd1]; exact u8_any pa pc xs (p : Int) U hU ⟨by omega, by omega⟩)
  go_enter Try.func72, Try.ntmps72
  go_wp2_with fail
  refine ht.mono ?_
  rintro e u ⟨rfl, h1, h2⟩
  go_wp2
  go_ret
  exact ⟨rfl, h1, h2⟩

set_option maxHeartbeats 1000000 in
set_option maxRecDepth 100000 in
theorem cSu16_any (g : Nat) (pa : Option Addr) (pc : Nat) (xs : List Nat) (p : Nat) (w : World) (h : Sc 73 w g pa pc xs p) (hp : p ≤ 1000000) :
    Calls Try.prog 63 #[pg g] w fun e w' => e = .returned (.int .i64 (hd2 (xs.drop p) : Int)) ∧ Sc 73 w' g pa pc xs (p + 2) ∧ Kp g w w' := by
  have ht := ctake16_any (hd2 (xs.drop p) : Int) (inB xs.length (p : Int) 2) 2 g pa pc xs p w h hp (by decide) (fun U hU => by rw [← nmV_hd2]; exact u16_any pa pc xs (p : Int) U hU ⟨by omega, by omega⟩)
  go_enter Try.func63, Try.ntmps63
  go_wp2_with fail
  refine ht.mono ?_
  rintro e u ⟨rfl, h1, h2⟩
  go_wp2
  go_ret
  exact ⟨rfl, h1, h2⟩

set_option maxHeartbeats 1000000 in
set_option maxRecDepth 100000 in
theorem cSi16_any (g : Nat) (pa : Option Addr) (pc : Nat) (xs : List Nat) (p : Nat) (w : World) (h : Sc 73 w g pa pc xs p) (hp : p ≤ 1000000) :
    Calls Try.prog 52 #[pg g] w fun e w' => e = .returned (.int .i64 (sx16 (hd2 (xs.drop p)))) ∧ Sc 73 w' g pa pc xs (p + 2) ∧ Kp g w w' := by
  have ht := ctakei_any (sx16 (hd2 (xs.drop p))) (inB xs.length (p : Int) 2) 2 g pa pc xs p w h hp (by decide) (fun U hU => by rw [← nmV_hd2]; exact i16_any pa pc xs (p : Int) U hU ⟨by omega, by omega⟩)
  go_enter Try.func52, Try.ntmps52
  go_wp2_with fail
  refine ht.mono ?_
  rintro e u ⟨rfl, h1, h2⟩
  go_wp2
  go_ret
  exact ⟨rfl, h1, h2⟩

end Go.Proofs.Ytokcdkckomoajaa

namespace Go.Proofs.Ytokcdkckomoajaa
open Go.RowKit Go.Maps
set_option linter.unusedSimpArgs false
set_option linter.unusedVariables false

theorem and_x : ∀ f : Fin 256, bits BinOp.and IntKind.i64 (f.val : Int) 18 = (if f.val / 2 % 2 = 1 then 2 else 0) + (if f.val / 16 % 2 = 1 then 16 else 0) := by decide +kernel
theorem and_y : ∀ f : Fin 256, bits BinOp.and IntKind.i64 (f.val : Int) 36 = (if f.val / 4 % 2 = 1 then 4 else 0) + (if f.val / 32 % 2 = 1 then 32 else 0) := by decide +kernel
theorem and_8 : ∀ f : Fin 256, bits BinOp.and IntKind.i64 (f.val : Int) 8 = (if f.val / 8 % 2 = 1 then 8 else 0) := by decide +kernel
theorem and_1 : ∀ f : Fin 256, bits BinOp.and IntKind.i64 (f.val : Int) 1 = (if f.val % 2 = 1 then 1 else 0) := by decide +kernel
theorem and_8n {f : Nat} (h : f < 256) : bits BinOp.and IntKind.i64 (f : Int) 8 = (if f / 8 % 2 = 1 then 8 else 0) := and_8 ⟨f, h⟩
theorem and_1n {f : Nat} (h : f < 256) : bits BinOp.and IntKind.i64 (f : Int) 1 = (if f % 2 = 1 then 1 else 0) := and_1 ⟨f, h⟩
theorem or_x2 : bits BinOp.or IntKind.i64 2 16 = 18 := by decide
theorem or_y2 : bits BinOp.or IntKind.i64 4 32 = 36 := by decide
theorem hd1_lt {s : List Nat} (hs : Byt s) : hd1 s < 256 := by
  unfold hd1
  cases s with
  | nil => decide
  | cons x t => exact hs x (by simp)
theorem hd2_lt {s : List Nat} (hs : Byt s) : hd2 s < 65536 := by
  match s, hs with
  | [], _ => decide
  | [x], _ => exact (by decide : (0 : Nat) < 65536)
  | x :: y :: t, hs =>
    have := hs x (by simp)
    have := hs y (by simp)
    show 256 * x + y < 65536
    omega

set_option maxHeartbeats 1000000 in
set_option maxRecDepth 100000 in
theorem cstepX_any (f : Nat) (g : Nat) (pa : Option Addr) (pc : Nat) (xs : List Nat) (p : Nat) (w : World) (h : Sc 73 w g pa pc xs p) (hp : p ≤ 900000) (hf : f < 256) :
    Calls Try.prog 70 #[pg g, .int .i64 (f : Int), .int .i64 2, .int .i64 16] w fun e w' => ∃ p', e = .returned (.int .i64 (dfR f 2 16 (xs.drop p)).1) ∧ Sc 73 w' g pa pc xs p' ∧ xs.drop p' = (dfR f 2 16 (xs.drop p)).2 ∧ p' ≤ p + 2 ∧ Kp g w w' := by
  have hor := or_x2
  have hand := and_x ⟨f, hf⟩
  have hb := hd1_lt (h.rb.lim.drop p)
  dsimp only at hand
  by_cases ha : f / 2 % 2 = 1
  · by_cases hbb : f / 16 % 2 = 1
    · have HE : Hid (dfR f 2 16 (xs.drop p) = ((hd1 (xs.drop p) : Int), (xs.drop p).drop 1)) := by show _ = _; rw [dfR, if_pos ha, if_pos hbb]
      rw [if_pos ha, if_pos hbb, show ((2 : Int) + 16) = 18 from rfl] at hand
      have hu := cSu8_any g pa pc xs p w h (by omega)
      clear ha hbb h
      go_enter Try.func70, Try.ntmps70
      go_wp2_with fail
      refine hu.mono ?_
      rintro e u1 ⟨rfl, h1, hk1⟩
      clear hu
      go_wp2
      go_ret
      exact ⟨p + 1, by rw [HE.out]; rfl, h1, by rw [HE.out, List.drop_drop], by omega, hk1⟩
    · have HE : Hid (dfR f 2 16 (xs.drop p) = (-(hd1 (xs.drop p) : Int), (xs.drop p).drop 1)) := by show _ = _; rw [dfR, if_pos ha, if_neg hbb]
      rw [if_pos ha, if_neg hbb, show ((2 : Int) + 0) = 2 from rfl] at hand
      have hu := cSu8_any g pa pc xs p w h (by omega)
      clear ha hbb h
      generalize hd1 (xs.drop p) = z at *
      go_enter Try.func70, Try.ntmps70
      go_wp2_with fail
      refine hu.mono ?_
      rintro e u1 ⟨rfl, h1, hk1⟩
      clear hu
      go_wp2
      go_ret
      exact ⟨p + 1, by rw [HE.out]; rfl, h1, by rw [HE.out, List.drop_drop], by omega, hk1⟩
  · by_cases hbb : f / 16 % 2 = 1
    · have HE : Hid (dfR f 2 16 (xs.drop p) = (0, xs.drop p)) := by show _ = _; rw [dfR, if_neg ha, if_pos hbb]
      rw [if_neg ha, if_pos hbb, show ((0 : Int) + 16) = 16 from rfl] at hand
      clear ha hbb
      go_enter Try.func70, Try.ntmps70
      go_wp2
      go_ret
      exact ⟨p, by rw [HE.out]; rfl, h, by rw [HE.out], by omega, Kp.refl _ _⟩
    · have HE : Hid (dfR f 2 16 (xs.drop p) = (sx16 (hd2 (xs.drop p)), (xs.drop p).drop 2)) := by show _ = _; rw [dfR, if_neg ha, if_neg hbb]
      rw [if_neg ha, if_neg hbb, show ((0 : Int) + 0) = 0 from rfl] at hand
      have hu := cSi16_any g pa pc xs p w h (by omega)
      clear ha hbb h
      generalize sx16 (hd2 (xs.drop p)) = z at *
      go_enter Try.func70, Try.ntmps70
      go_wp2_with fail
      refine hu.mono ?_
      rintro e u1 ⟨rfl, h1, hk1⟩
      clear hu
      go_wp2
      go_ret
      exact ⟨p + 2, by rw [HE.out]; rfl, h1, by rw [HE.out, List.drop_drop], by omega, hk1⟩

set_option maxHeartbeats 1000000 in
set_option maxRecDepth 100000 in
theorem cstepY_any (f : Nat) (g : Nat) (pa : Option Addr) (pc : Nat) (xs : List Nat) (p : Nat) (w : World) (h : Sc 73 w g pa pc xs p) (hp : p ≤ 900000) (hf : f < 256) :
    Calls Try.prog 70 #[pg g, .int .i64 (f : Int), .int .i64 4, .int .i64 32] w fun e w' => ∃ p', e = .returned (.int .i64 (dfR f 4 32 (xs.drop p)).1) ∧ Sc 73 w' g pa pc xs p' ∧ xs.drop p' = (dfR f 4 32 (xs.drop p)).2 ∧ p' ≤ p + 2 ∧ Kp g w w' := by
  have hor := or_y2
  have hand := and_y ⟨f, hf⟩
  have hb := hd1_lt (h.rb.lim.drop p)
  dsimp only at hand
  by_cases ha : f / 4 % 2 = 1
  · by_cases hbb : f / 32 % 2 = 1
    · have HE : Hid (dfR f 4 32 (xs.drop p) = ((hd1 (xs.drop p) : Int), (xs.drop p).drop 1)) := by show _ = _; rw [dfR, if_pos ha, if_pos hbb]
      rw [if_pos ha, if_pos hbb, show ((4 : Int) + 32) = 36 from rfl] at hand
      have hu := cSu8_any g pa pc xs p w h (by omega)
      clear ha hbb h
      go_enter Try.func70, Try.ntmps70
      go_wp2_with fail
      refine hu.mono ?_
      rintro e u1 ⟨rfl, h1, hk1⟩
      clear hu
      go_wp2
      go_ret
      exact ⟨p + 1, by rw [HE.out]; rfl, h1, by rw [HE.out, List.drop_drop], by omega, hk1⟩
    · have HE : Hid (dfR f 4 32 (xs.drop p) = (-(hd1 (xs.drop p) : Int), (xs.drop p).drop 1)) := by show _ = _; rw [dfR, if_pos ha, if_neg hbb]
      rw [if_pos ha, if_neg hbb, show ((4 : Int) + 0) = 4 from rfl] at hand
      have hu := cSu8_any g pa pc xs p w h (by omega)
      clear ha hbb h
      generalize hd1 (xs.drop p) = z at *
      go_enter Try.func70, Try.ntmps70
      go_wp2_with fail
      refine hu.mono ?_
      rintro e u1 ⟨rfl, h1, hk1⟩
      clear hu
      go_wp2
      go_ret
      exact ⟨p + 1, by rw [HE.out]; rfl, h1, by rw [HE.out, List.drop_drop], by omega, hk1⟩
  · by_cases hbb : f / 32 % 2 = 1
    · have HE : Hid (dfR f 4 32 (xs.drop p) = (0, xs.drop p)) := by show _ = _; rw [dfR, if_neg ha, if_pos hbb]
      rw [if_neg ha, if_pos hbb, show ((0 : Int) + 32) = 32 from rfl] at hand
      clear ha hbb
      go_enter Try.func70, Try.ntmps70
      go_wp2
      go_ret
      exact ⟨p, by rw [HE.out]; rfl, h, by rw [HE.out], by omega, Kp.refl _ _⟩
    · have HE : Hid (dfR f 4 32 (xs.drop p) = (sx16 (hd2 (xs.drop p)), (xs.drop p).drop 2)) := by show _ = _; rw [dfR, if_neg ha, if_neg hbb]
      rw [if_neg ha, if_neg hbb, show ((0 : Int) + 0) = 0 from rfl] at hand
      have hu := cSi16_any g pa pc xs p w h (by omega)
      clear ha hbb h
      generalize sx16 (hd2 (xs.drop p)) = z at *
      go_enter Try.func70, Try.ntmps70
      go_wp2_with fail
      refine hu.mono ?_
      rintro e u1 ⟨rfl, h1, hk1⟩
      clear hu
      go_wp2
      go_ret
      exact ⟨p + 2, by rw [HE.out]; rfl, h1, by rw [HE.out, List.drop_drop], by omega, hk1⟩

/-- Numbers as ints. -/
def nI (l : List Nat) : List Int := l.map (fun x : Nat => (x : Int))
theorem nI_len (l : List Nat) : (nI l).length = l.length := List.length_map ..
theorem nI_app (l m : List Nat) : nI (l ++ m) = nI l ++ nI m := List.map_append
theorem nI_get (l : List Nat) (k : Nat) : (nI l).getD k 0 = ((l.getD k 0 : Nat) : Int) := by
  unfold nI
  by_cases h : k < l.length
  · simp [List.getD, h]
  · simp [List.getD, Nat.not_lt.1 h]
theorem nI_take (l : List Nat) (k : Nat) : nI (l.take k) = (nI l).take k := by unfold nI; rw [List.map_take]
theorem fg_more {n : Nat} {s acc : List Nat} (h : acc.length < n) (h8 : hd1 s / 8 % 2 = 1) {acc' : List Nat} (ha : acc' = acc ++ List.replicate (hd1 (s.drop 1) + 1) (hd1 s)) : rdG (n - acc.length) n s acc = rdG (n - acc'.length) n (s.drop 2) acc' := by
  subst ha
  obtain ⟨f, hf⟩ : ∃ f, n - acc.length = f + 1 := ⟨n - acc.length - 1, by omega⟩
  rw [hf, rdG, if_pos h, if_pos h8]
  exact rdG_fuel _ _ _ _ _ (by rw [List.length_append, List.length_replicate]; omega) (by omega)
theorem fg_one {n : Nat} {s acc : List Nat} (h : acc.length < n) (h8 : ¬ hd1 s / 8 % 2 = 1) {acc' : List Nat} (ha : acc' = acc ++ List.replicate (0 + 1) (hd1 s)) : rdG (n - acc.length) n s acc = rdG (n - acc'.length) n (s.drop 1) acc' := by
  subst ha
  obtain ⟨f, hf⟩ : ∃ f, n - acc.length = f + 1 := ⟨n - acc.length - 1, by omega⟩
  rw [hf, rdG, if_pos h, if_neg h8]
  exact rdG_fuel _ _ _ _ _ (by rw [List.length_append, List.length_singleton]; omega) (by show n - (acc ++ [hd1 s]).length ≤ n - (acc ++ [hd1 s]).length; omega)
theorem rep_snoc (acc : List Nat) (j f : Nat) : acc ++ List.replicate (j + 1) f = (acc ++ List.replicate j f) ++ [f] := by rw [List.replicate_succ', List.append_assoc]

set_option maxHeartbeats 2000000 in
set_option maxRecDepth 100000 in
theorem ctakeFlags_any (n : Nat) (g : Nat) (pa : Option Addr) (pc : Nat) (xs : List Nat) (p : Nat) (w : World) (h : Sc 73 w g pa pc xs p) (hp : p ≤ 100000) (hn : n ≤ 80) (hpb : ∀ b o, pa = some ⟨b, o, none⟩ → xs ≠ [] → b < w.heap.size) :
    Calls Try.prog 69 #[pg g, .int .i64 (n : Int)] w fun e w' => ∃ a' c', e = .returned (.slice a' (nI (fsK n (xs.drop p))).length c') ∧ Ri w' a' c' (nI (fsK n (xs.drop p))) ∧ (∀ b o, a' = some ⟨b, o, none⟩ → w.heap.size ≤ b ∧ b < w'.heap.size) ∧ ∃ p', Sc 73 w' g pa pc xs p' ∧ xs.drop p' = (fgK n (xs.drop p)).2 ∧ p' ≤ p + 1000 ∧ Kp g w w' := by
  have HG0 : Hid (fgK n (xs.drop p) = rdG (n - ([] : List Nat).length) n (xs.drop p) []) := rfl
  have hgl : g < w.heap.size := h.bk.lt
  go_enter Try.func69, Try.ntmps69
  go_wp2
  go_loopw [5] (fun v wr => ∃ (acc : List Nat) (q : Nat), v.ownBlock ≠ some g ∧ Gi w.heap.size wr v (nI acc) ∧ acc.length ≤ n + 255 ∧ Sc 73 wr g pa pc xs q ∧ q ≤ p + 2 * acc.length ∧ fgK n (xs.drop p) = rdG (n - acc.length) n (xs.drop q) acc ∧ Kp g w wr) (fun v _ => n - slLen v)
  case atStart => exact ⟨[], p, (fun e => by cases e), Gi.nil _ _, by simp, h, by omega, HG0.out, Kp.refl _ _⟩
  case round =>
    clear h HG0
    obtain ⟨acc, q, hvg, hG, hal, hS, hq, hfg, hK⟩ := hrel
    obtain ⟨a5, c5, rfl, hri, hbk⟩ := hG.slice
    have HF : Hid (fgK n (xs.drop p) = rdG (n - acc.length) n (xs.drop q) acc) := hfg
    have hcp := hri.2.1
    have hcm := hri.2.2.1
    unfold maxLen at hcm
    have hnl := nI_len acc
    rw [hnl] at hcp ⊢
    clear hfg
    by_cases hlt : acc.length < n
    rotate_left
    · have HFE : Hid (fgK n (xs.drop p) = (acc, xs.drop q)) := by show _ = _; rw [HF.out, rdG_stop (by omega)]
      have HFS : Hid (nI (fsK n (xs.drop p)) = (nI acc).take n) := by show _ = _; unfold fsK; rw [HFE.out, nI_take]
      have HL : Hid (((nI acc).take n).length = n) := by show _ = _; rw [List.length_take, nI_len]; omega
      have HRI : Hid (Ri wr a5 c5 (nI acc)) := hri
      have HBK : Hid (∀ b o, a5 = some ⟨b, o, none⟩ → w.heap.size ≤ b ∧ b < wr.heap.size) := hbk
      have g1 : ¬ (acc.length : Int) < (n : Int) := by omega
      have i1 : (0 : Int) ≤ (n : Int) := by omega
      have i2 : (n : Int) ≤ (c5 : Int) := by omega
      clear HF hG hri hbk hvg hnl
      cases a5 with
      | none =>
        go_wp2
        go_ret
        exact ⟨none, c5, by rw [HFS.out, HL.out]; rfl, by rw [HFS.out]; exact HRI.out.take n, HBK.out, q, hS, by rw [HFE.out], by omega, hK⟩
      | some ad =>
        obtain ⟨b5, o5, s5⟩ := ad
        go_wp2
        go_ret
        exact ⟨_, c5, by rw [HFS.out, HL.out]; rfl, by rw [HFS.out]; exact HRI.out.take n, HBK.out, q, hS, by rw [HFE.out], by omega, hK⟩
    have g1 : (acc.length : Int) < (n : Int) := by omega
    have hu := cSu8_any g pa pc xs q wr hS (by omega)
    have hfl := hd1_lt (hS.rb.lim.drop q)
    have hml := hd1_lt (hS.rb.lim.drop (q + 1))
    have hand := and_8n hfl
    have hG2 := hG
    obtain ⟨f, hf⟩ : ∃ f, hd1 (xs.drop q) = f := ⟨_, rfl⟩
    have HST : Hid (f / 8 % 2 = 1 → ∀ m, hd1 (xs.drop (q + 1)) = m → rdG (n - acc.length) n (xs.drop q) acc = rdG (n - (acc ++ List.replicate (m + 1) f).length) n (xs.drop (q + 1 + 1)) (acc ++ List.replicate (m + 1) f)) := fun h8 m hm => by
      have := fg_more (s := xs.drop q) hlt (by rw [hf]; exact h8) (acc' := acc ++ List.replicate (m + 1) f) (by rw [List.drop_drop, hm, hf])
      rw [this, List.drop_drop]
    have HSO : Hid (¬ f / 8 % 2 = 1 → rdG (n - acc.length) n (xs.drop q) acc = rdG (n - (acc ++ List.replicate (0 + 1) f).length) n (xs.drop (q + 1)) (acc ++ List.replicate (0 + 1) f)) := fun h8 => by
      have := fg_one (s := xs.drop q) hlt (by rw [hf]; exact h8) (acc' := acc ++ List.replicate (0 + 1) f) (by rw [hf])
      rw [this, List.drop_drop]
    rw [hf] at hu hfl hand
    have HVG : Hid ((Value.slice a5 acc.length c5).ownBlock ≠ some g) := by rw [hnl] at hvg; exact hvg
    clear hf hri hbk hvg
    go_wp2_with fail
    refine hu.mono ?_
    rintro e u1 ⟨rfl, hS1, hK1⟩
    have hG1 := hG.kp hS.bk (by decide) hK1
    have HKK : Hid (Kp g w u1) := hK.trans hK1
    clear hu hS hK hK1 hG hG2
    by_cases h8 : f / 8 % 2 = 1
    · rw [if_pos h8] at hand
      have hu2 := cSu8_any g pa pc xs (q + 1) u1 hS1 (by omega)
      obtain ⟨m, hm⟩ : ∃ m, hd1 (xs.drop (q + 1)) = m := ⟨_, rfl⟩
      rw [hm] at hu2 hml
      have HST2 : Hid (_) := HST.out h8 m hm
      clear hm HSO HST h8
      go_wp2_with fail
      refine hu2.mono ?_
      rintro e u2 ⟨rfl, hS2, hK2⟩
      replace hG1 := hG1.kp hS1.bk (by decide) hK2
      have HKK2 : Hid (Kp g w u2) := HKK.out.trans hK2
      clear hu2 hS1 hK2
      have HG1 : Hid (Gi w.heap.size u2 (.slice a5 acc.length c5) (nI acc)) := by rw [hnl] at hG1; exact hG1
      have HSS : Hid (Sc 73 u2 g pa pc xs (q + 1 + 1)) := hS2
      have HK1 : Hid (Kp g w u2) := HKK2.out
      clear hG1 hS2 HKK HKK2
      go_wp2
      go_loopw [5, 21] (fun v i wr => ∃ j : Nat, j ≤ m + 1 ∧ i = .int .i64 j ∧ v.ownBlock ≠ some g ∧ Gi w.heap.size wr v (nI (acc ++ List.replicate j f)) ∧ Sc 73 wr g pa pc xs (q + 1 + 1) ∧ Kp g w wr) (fun _ i _ => m + 1 - (intOf i).toNat)
      case atStart => exact ⟨0, Nat.zero_le _, rfl, HVG.out, by rw [List.replicate_zero, List.append_nil]; exact HG1.out, HSS.out, HK1.out⟩
      case round =>
        clear HG1 HSS HK1 HVG
        obtain ⟨j, hj, rfl, hvg, hG, hS, hK⟩ := hrel
        obtain ⟨a6, c6, rfl, hri, hbk⟩ := hG.slice
        have hln : (nI (acc ++ List.replicate j f)).length = acc.length + j := by rw [nI_len, List.length_append, List.length_replicate]
        by_cases hjm : j ≤ m
        · have g2 : (j : Int) < 1 + (m : Int) := by omega
          have hll : (nI (acc ++ List.replicate j f)).length + 1 ≤ 1000000 := by omega
          have HAP : Hid (nI (acc ++ List.replicate (j + 1) f) = nI (acc ++ List.replicate j f) ++ [(f : Int)]) := by show _ = _; rw [rep_snoc, nI_app]; rfl
          have bp := bl1 (w := wr) (.cells #[.int .i64 (f : Int)] 3)
          have hGb := hG.below bp
          have hSb := hS.below bp
          have hN := Bk.new 3 wr [.int .i64 (f : Int)]
          have n0 := hN.cell 0 (by simp)
          have hgl2 : wr.heap.size < (wr.alloc (.cells #[.int .i64 (f : Int)] 3)).heap.size := hN.lt
          have hKb : Kp g w (wr.alloc (.cells #[.int .i64 (f : Int)] 3)) := hK.alloc _
          have hbs := hKb.size
          have hfi : I64 (f : Int) := ⟨by omega, by omega⟩
          clear hN bp hri hbk hln
          generalize nI (acc ++ List.replicate j f) = L at *
          go_wp2_with (at_builtin; refine wpList_append_gi rfl _ _ rfl w.heap.size _ L rfl hGb wr.heap.size (f : Int) rfl hgl2 n0 hfi hll hbs ?_)
          intro v9 w9 hG9 hgrow hown
          have hS9 := hSb.grown hgrow hvg (fun b o e hne e2 => by
            have := (hGb.lo e2).1
            have := hpb b o e hne
            omega)
          have hK9 : Kp g w w9 := hKb.grown hgrow (fun k hk => (hGb.lo hk).1)
          have HV9 : Hid (v9.ownBlock ≠ some g) := by
            rcases hown with ho | ho
            · show _ ≠ _
              rw [ho]
              exact hvg
            · show _ ≠ _
              rw [ho]
              intro e
              have h1 := Option.some.inj e
              have h2 := hS.bk.lt
              (try simp at h1)
              omega
          rw [← HAP.out] at hG9
          clear hgrow hown hGb hSb n0 hgl2 hKb hbs hvg hll HAP
          go_wp2
          go_roundw
          case rel => exact ⟨j + 1, by omega, by go_num, HV9.out, hG9, hS9, hK9⟩
          case measure => simp [intOf]; omega
        · obtain rfl : j = m + 1 := by omega
          have g2 : ¬ (((m + 1 : Nat) : Nat) : Int) < 1 + (m : Int) := by omega
          have HFF : Hid (fgK n (xs.drop p) = rdG (n - (acc ++ List.replicate (m + 1) f).length) n (xs.drop (q + 1 + 1)) (acc ++ List.replicate (m + 1) f)) := by
            show _ = _
            rw [HF.out, HST2.out]
          have HLN : Hid ((acc ++ List.replicate (m + 1) f).length = acc.length + (m + 1)) := by show _ = _; rw [List.length_append, List.length_replicate]
          have hln2 := hln
          rw [hln]
          clear hri hbk hln
          go_wp2
          go_roundw
          case rel => exact ⟨acc ++ List.replicate (m + 1) f, q + 1 + 1, by rw [hln2] at hvg; exact hvg, by rw [hln2] at hG; exact hG, by rw [HLN.out]; omega, hS, by rw [HLN.out]; omega, HFF.out, hK⟩
          case measure => show n - (acc.length + (m + 1)) < n - acc.length; omega
    · rw [if_neg h8] at hand
      have HSO2 : Hid (_) := HSO.out h8
      clear HSO HST h8 hml
      have HG1 : Hid (Gi w.heap.size u1 (.slice a5 acc.length c5) (nI acc)) := by rw [hnl] at hG1; exact hG1
      have HSS : Hid (Sc 73 u1 g pa pc xs (q + 1)) := hS1
      have HK1 : Hid (Kp g w u1) := HKK.out
      clear hG1 hS1 HKK
      go_wp2
      go_loopw [5, 21] (fun v i wr => ∃ j : Nat, j ≤ 0 + 1 ∧ i = .int .i64 j ∧ v.ownBlock ≠ some g ∧ Gi w.heap.size wr v (nI (acc ++ List.replicate j f)) ∧ Sc 73 wr g pa pc xs (q + 1) ∧ Kp g w wr) (fun _ i _ => 0 + 1 - (intOf i).toNat)
      case atStart => exact ⟨0, Nat.zero_le _, rfl, HVG.out, by rw [List.replicate_zero, List.append_nil]; exact HG1.out, HSS.out, HK1.out⟩
      case round =>
        clear HG1 HSS HK1 HVG
        obtain ⟨j, hj, rfl, hvg, hG, hS, hK⟩ := hrel
        obtain ⟨a6, c6, rfl, hri, hbk⟩ := hG.slice
        have hln : (nI (acc ++ List.replicate j f)).length = acc.length + j := by rw [nI_len, List.length_append, List.length_replicate]
        by_cases hjm : j ≤ 0
        · have g2 : (j : Int) < 1 := by omega
          have hll : (nI (acc ++ List.replicate j f)).length + 1 ≤ 1000000 := by omega
          have HAP : Hid (nI (acc ++ List.replicate (j + 1) f) = nI (acc ++ List.replicate j f) ++ [(f : Int)]) := by show _ = _; rw [rep_snoc, nI_app]; rfl
          have bp := bl1 (w := wr) (.cells #[.int .i64 (f : Int)] 3)
          have hGb := hG.below bp
          have hSb := hS.below bp
          have hN := Bk.new 3 wr [.int .i64 (f : Int)]
          have n0 := hN.cell 0 (by simp)
          have hgl2 : wr.heap.size < (wr.alloc (.cells #[.int .i64 (f : Int)] 3)).heap.size := hN.lt
          have hKb : Kp g w (wr.alloc (.cells #[.int .i64 (f : Int)] 3)) := hK.alloc _
          have hbs := hKb.size
          have hfi : I64 (f : Int) := ⟨by omega, by omega⟩
          clear hN bp hri hbk hln
          generalize nI (acc ++ List.replicate j f) = L at *
          go_wp2_with (at_builtin; refine wpList_append_gi rfl _ _ rfl w.heap.size _ L rfl hGb wr.heap.size (f : Int) rfl hgl2 n0 hfi hll hbs ?_)
          intro v9 w9 hG9 hgrow hown
          have hS9 := hSb.grown hgrow hvg (fun b o e hne e2 => by
            have := (hGb.lo e2).1
            have := hpb b o e hne
            omega)
          have hK9 : Kp g w w9 := hKb.grown hgrow (fun k hk => (hGb.lo hk).1)
          have HV9 : Hid (v9.ownBlock ≠ some g) := by
            rcases hown with ho | ho
            · show _ ≠ _
              rw [ho]
              exact hvg
            · show _ ≠ _
              rw [ho]
              intro e
              have h1 := Option.some.inj e
              have h2 := hS.bk.lt
              (try simp at h1)
              omega
          rw [← HAP.out] at hG9
          clear hgrow hown hGb hSb n0 hgl2 hKb hbs hvg hll HAP
          go_wp2
          go_roundw
          case rel => exact ⟨j + 1, by omega, by go_num, HV9.out, hG9, hS9, hK9⟩
          case measure => simp [intOf]; omega
        · obtain rfl : j = 0 + 1 := by omega
          have g2 : ¬ (((0 + 1 : Nat) : Nat) : Int) < 1 := by omega
          have HFF : Hid (fgK n (xs.drop p) = rdG (n - (acc ++ List.replicate (0 + 1) f).length) n (xs.drop (q + 1)) (acc ++ List.replicate (0 + 1) f)) := by
            show _ = _
            rw [HF.out, HSO2.out]
          have HLN : Hid ((acc ++ List.replicate (0 + 1) f).length = acc.length + (0 + 1)) := by show _ = _; rw [List.length_append, List.length_replicate]
          have hln2 := hln
          rw [hln]
          clear hri hbk hln
          go_wp2
          go_roundw
          case rel => exact ⟨acc ++ List.replicate (0 + 1) f, q + 1, by rw [hln2] at hvg; exact hvg, by rw [hln2] at hG; exact hG, by rw [HLN.out]; omega, hS, by rw [HLN.out]; omega, HFF.out, hK⟩
          case measure => show n - (acc.length + (0 + 1)) < n - acc.length; omega

end Go.Proofs.Ytokcdkckomoajaa
