/-
  Outlines: how the code reads bytes; step by step (plain mathematics).
  Regions that draw their order, step by step: the kit's own laws with the operation taken out of a written list. Nothing here is a walk.
  The plain mathematics of lists of limbs: values, trimmed lists, comparisons. Nothing here speaks of a program.
  What is known of a slice of limbs in a world: where it is read (Rd), and where it is a row of the call's own (Res). Two laws on append.
-/
import Derived.Test.YtdojgkejpfdaeaaZ6
import Derived.Test.YtdojgkejpfdaeaaChecked
import Derived.Deep.RegionHeld3
import Derived.WalkKit
import Derived.ProofKit
import Derived.Below
import Derived.Laws.AppendOwnNone
namespace Go.Proofs.Ytdojgkejpfdaeaa
set_option linter.unusedSimpArgs false
set_option linter.unusedVariables false

/-- Differences, one by one. -/
def rdR (sh sm : Nat) (fs : List Nat) (s : List Nat) (a : Int) (k : Nat) : List Nat := (rdD sh sm (fs.take k) s a).2
theorem rdR_zero (sh sm : Nat) (fs s : List Nat) (a : Int) : rdR sh sm fs s a 0 = s := rfl
theorem rdR_all (sh sm : Nat) (fs s : List Nat) (a : Int) : rdR sh sm fs s a fs.length = (rdD sh sm fs s a).2 := by unfold rdR; rw [List.take_length]
theorem rdD_at (sh sm : Nat) : ∀ (fs s : List Nat) (a : Int) (k : Nat), k < fs.length → (rdD sh sm fs s a).1.getD k 0 = (if k = 0 then a else (rdD sh sm fs s a).1.getD (k - 1) 0) + (dfR (fs.getD k 0) sh sm (rdR sh sm fs s a k)).1 ∧ rdR sh sm fs s a (k + 1) = (dfR (fs.getD k 0) sh sm (rdR sh sm fs s a k)).2 := by
  intro fs
  induction fs with
  | nil => intro s a k hk; simp at hk
  | cons f t ih =>
    intro s a k hk
    cases k with
    | zero => exact ⟨rfl, rfl⟩
    | succ k =>
      obtain ⟨h1, h2⟩ := ih (dfR f sh sm s).2 (a + (dfR f sh sm s).1) k (by simpa using hk)
      have e : ∀ j, rdR sh sm (f :: t) s a (j + 1) = rdR sh sm t (dfR f sh sm s).2 (a + (dfR f sh sm s).1) j := fun j => rfl
      refine ⟨?_, by rw [e, e, List.getD_cons_succ]; exact h2⟩
      rw [e, List.getD_cons_succ, rdD, List.getD_cons_succ, h1]
      cases k with
      | zero => rfl
      | succ k => simp
theorem dfR_le (f sh sm : Nat) {s : List Nat} (hs : Byt s) : -32768 ≤ (dfR f sh sm s).1 ∧ (dfR f sh sm s).1 ≤ 32767 := by
  have h1 : hd1 s < 256 := by
    unfold hd1
    cases s with
    | nil => decide
    | cons x t => exact hs x (by simp)
  have h2 : hd2 s < 65536 := by
    match s, hs with
    | [], _ => decide
    | [x], _ => exact (by decide : (0 : Nat) < 65536)
    | x :: y :: t, hs =>
      have := hs x (by simp)
      have := hs y (by simp)
      show 256 * x + y < 65536
      omega
  unfold dfR sx16
  split
  · split <;> dsimp only <;> omega
  · split
    · dsimp only; omega
    · dsimp only; split <;> omega
theorem dfR_drop (f sh sm : Nat) (s : List Nat) : ∃ j, j ≤ 2 ∧ (dfR f sh sm s).2 = s.drop j := by
  unfold dfR
  split
  · split
    · exact ⟨1, by omega, rfl⟩
    · exact ⟨1, by omega, rfl⟩
  · split
    · exact ⟨0, by omega, rfl⟩
    · exact ⟨2, by omega, rfl⟩
theorem rdR_byt {sh sm : Nat} {fs s : List Nat} {a : Int} (hs : Byt s) : ∀ k, k ≤ fs.length → Byt (rdR sh sm fs s a k) := by
  intro k
  induction k with
  | zero => intro _; exact hs
  | succ k ih =>
    intro hk
    rw [(rdD_at sh sm fs s a k (by omega)).2]
    obtain ⟨j, _, e⟩ := dfR_drop (fs.getD k 0) sh sm (rdR sh sm fs s a k)
    rw [e]
    exact (ih (by omega)).drop j
theorem rdD_le {sh sm : Nat} {fs s : List Nat} (hs : Byt s) : ∀ k, k < fs.length → -32768 * ((k : Int) + 1) ≤ (rdD sh sm fs s 0).1.getD k 0 ∧ (rdD sh sm fs s 0).1.getD k 0 ≤ 32767 * ((k : Int) + 1) := by
  intro k
  induction k with
  | zero =>
    intro hk
    have h1 := (rdD_at sh sm fs s 0 0 hk).1
    have h2 := dfR_le (fs.getD 0 0) sh sm (rdR_byt (sh := sh) (sm := sm) (fs := fs) (a := 0) hs 0 (Nat.zero_le _))
    rw [if_pos rfl] at h1
    rw [h1]
    omega
  | succ k ih =>
    intro hk
    have h0 := ih (by omega)
    have h1 := (rdD_at sh sm fs s 0 (k + 1) hk).1
    have h2 := dfR_le (fs.getD (k + 1) 0) sh sm (rdR_byt (sh := sh) (sm := sm) (fs := fs) (a := 0) hs (k + 1) (by omega))
    rw [if_neg (by omega), Nat.add_sub_cancel] at h1
    rw [h1]
    omega
/-- Flags: how many, and where the rest begins. -/
theorem rdG_len : ∀ (f n : Nat) (s acc : List Nat), n ≤ acc.length + f → n ≤ (rdG f n s acc).1.length := by
  intro f
  induction f with
  | zero => intro n s acc h; exact h
  | succ f ih =>
    intro n s acc h
    rw [rdG]
    split
    · split
      · exact ih _ _ _ (by rw [List.length_append, List.length_replicate]; omega)
      · exact ih _ _ _ (by rw [List.length_append, List.length_singleton]; omega)
    · dsimp only; omega
theorem rdG_byt : ∀ (f n : Nat) (s acc : List Nat), Byt s → Byt acc → Byt (rdG f n s acc).1 := by
  intro f
  induction f with
  | zero => intro n s acc _ h; exact h
  | succ f ih =>
    intro n s acc hs h
    have h1 : hd1 s < 256 := by
      unfold hd1
      cases s with
      | nil => decide
      | cons x t => exact hs x (by simp)
    rw [rdG]
    split
    · split
      · exact ih _ _ _ (hs.drop 2) (h.append (fun x hx => by rw [List.eq_of_mem_replicate hx]; exact h1))
      · exact ih _ _ _ (hs.drop 1) (h.append (fun x hx => by rw [List.mem_singleton.1 hx]; exact h1))
    · exact h
/-- Contours, as the code cuts them. -/
def cutK : List Nat → Nat → List Pn → List (List Pn)
  | [], _, _ => []
  | e :: t, p, l => (l.drop p).take (min (e + 1) l.length - p) :: cutK t (max p (min (e + 1) l.length)) l
def numK (L : Nat) : List Nat → Nat → Nat → Nat
  | _, p, 0 => p
  | [], p, _ + 1 => p
  | e :: t, p, k + 1 => numK L t (max p (min (e + 1) L)) k
theorem cutK_len : ∀ (es : List Nat) (p : Nat) (l : List Pn), (cutK es p l).length = es.length := by
  intro es
  induction es with
  | nil => intro p l; rfl
  | cons e t ih => intro p l; rw [cutK, List.length_cons, List.length_cons, ih]
theorem cutK_at : ∀ (es : List Nat) (p : Nat) (l : List Pn) (k : Nat), k < es.length → (cutK es p l).getD k [] = (l.drop (numK l.length es p k)).take (min (es.getD k 0 + 1) l.length - numK l.length es p k) ∧ numK l.length es p (k + 1) = max (numK l.length es p k) (min (es.getD k 0 + 1) l.length) := by
  intro es
  induction es with
  | nil => intro p l k hk; simp at hk
  | cons e t ih =>
    intro p l k hk
    cases k with
    | zero =>
      refine ⟨rfl, ?_⟩
      rw [numK]
      cases t <;> rfl
    | succ k =>
      obtain ⟨h1, h2⟩ := ih (max p (min (e + 1) l.length)) l k (by simpa using hk)
      exact ⟨h1, h2⟩
theorem numK_le {L : Nat} : ∀ (es : List Nat) (p k : Nat), p ≤ L → numK L es p k ≤ L := by
  intro es
  induction es with
  | nil => intro p k h; cases k <;> exact h
  | cons e t ih =>
    intro p k h
    cases k with
    | zero => exact h
    | succ k => exact ih _ k (by omega)
theorem cutK_some : ∀ (es : List Nat) (p : Nat) (l : List Pn) (cs : List (List Pn)), cutC es p l = some cs → cutK es p l = cs := by
  intro es
  induction es with
  | nil => intro p l cs h; injection h
  | cons e t ih =>
    intro p l cs h
    rw [cutC] at h
    split at h
    · cases h
    · rename_i hn
      cases hc : cutC t (e + 1) l with
      | none => rw [hc] at h; cases h
      | some r =>
        rw [hc] at h
        injection h with h
        rw [cutK, ← h, show min (e + 1) l.length = e + 1 by omega, show max p (e + 1) = e + 1 by omega, ih _ _ _ hc]
/-- What the code tries bytes as. -/
def cntK (m : Nat) (es : List Nat) : Nat := if m = 0 then 0 else min (es.getD (m - 1) 0 + 1) 80
def fgK (n : Nat) (s : List Nat) : List Nat × List Nat := rdG n n s []
def fsK (n : Nat) (s : List Nat) : List Nat := (fgK n s).1.take n
def xsK (n : Nat) (s : List Nat) : List Int × List Nat := rdD 2 16 (fsK n s) (fgK n s).2 0
def ysK (n : Nat) (s : List Nat) : List Int × List Nat := rdD 4 32 (fsK n s) (xsK n s).2 0
def ptK (n : Nat) (s : List Nat) : List Pn := mkP (xsK n s).1 (ysK n s).1 (fsK n s)
theorem fsK_len (n : Nat) (s : List Nat) : (fsK n s).length = n := by
  unfold fsK fgK
  rw [List.length_take]
  have := rdG_len n n s [] (by simp)
  omega
theorem ptK_len (n : Nat) (s : List Nat) : (ptK n s).length = n := by
  unfold ptK
  rw [mkP_len _ _ _ (by unfold xsK; rw [rdD_len]) (by unfold ysK; rw [rdD_len]), fsK_len]
def conK (m : Nat) (s : List Nat) : List (List Pn) := cutK (rdE m s).1 0 (ptK (cntK m (rdE m s).1) (rdE m s).2)
def candK (b : List Nat) : Ol := if sx16 (hd2 b) = -1 then ⟨[], psR ((b.drop 2).drop 2) (min (hd2 (b.drop 2)) 6)⟩ else ⟨conK (min (sx16 (hd2 b)) 10).toNat (b.drop 2), []⟩
theorem ptK_ls {n : Nat} {s : List Nat} (h : ptsW n (rdE n s).1 ≤ 80) : ptK (cntK n (rdE n s).1) (rdE n s).2 = lsW n s := by
  have e : cntK n (rdE n s).1 = ptsW n (rdE n s).1 := by
    unfold cntK
    unfold ptsW at h ⊢
    split
    · rfl
    · rename_i h0
      rw [if_neg h0] at h
      omega
  have e1 : fgK (ptsW n (rdE n s).1) (rdE n s).2 = flW n s := by unfold fgK flW; rw [if_pos h]
  rw [e]
  unfold ptK lsW ysK ysW xsK xsW fsK fsW
  rw [e1]
theorem candK_back {o : Ol} (h : wrOE o = 0) : candK (wrOB o) = o := by
  obtain ⟨⟨f1, f2, f3, f4, f5, f6, f7⟩, hdi⟩ := wrOE_ok h
  by_cases h0 : o.ps.length = 0
  · rw [wrOB_co h h0]
    have hd := diB_iff.1 (hdi h0)
    obtain ⟨cs, ps⟩ := o
    have hps : ps = [] := List.length_eq_zero_iff.1 h0
    subst hps
    dsimp only at *
    unfold coB
    have v0 : V8 (be2 (cs.length : Int)) = cs.length := by rw [V8_be2i' (by omega) (by omega), Int.toNat_natCast]
    have hsx : sx16 cs.length = (cs.length : Int) := by unfold sx16; rw [if_neg (by omega)]
    unfold candK
    rw [hd2_be2, drop_be2, v0, hsx, if_neg (by omega), show (min (cs.length : Int) 10).toNat = cs.length by omega]
    obtain ⟨hpt, hC⟩ := co_back f4 f5 hd [] (s := (endF 0 cs).flatMap be2 ++ (rl (flL cs.flatten) ++ ((difs 0 0 cs.flatten).flatMap (fun t => axB t.1) ++ (difs 0 0 cs.flatten).flatMap (fun t => axB t.2.1)))) (by rw [List.append_nil])
    unfold conK
    rw [ptK_ls (by rw [hpt]; exact f5), cutK_some _ _ _ _ hC]
  · rw [wrOB_pa h h0]
    obtain ⟨cs, ps⟩ := o
    have hcs : cs = [] := List.length_eq_zero_iff.1 (by rcases f1 with f1 | f1; exact f1; exact absurd f1 h0)
    subst hcs
    dsimp only at *
    have v0 : V8 (be2 (ps.length : Int)) = ps.length := by rw [V8_be2i' (by omega) (by omega), Int.toNat_natCast]
    have hb := psR_back ps f7 []
    rw [List.append_nil] at hb
    unfold paB candK
    have e1 : hd2 ([255, 255] ++ (be2 (ps.length : Int) ++ ps.flatMap paE)) = 65535 := rfl
    have e2 : ([255, 255] ++ (be2 (ps.length : Int) ++ ps.flatMap paE)).drop 2 = be2 (ps.length : Int) ++ ps.flatMap paE := rfl
    rw [e1, e2, if_pos (by decide), hd2_be2, drop_be2, v0, show min ps.length 6 = ps.length by omega, hb]
/-- The code's bytes are read just where the reference's are. -/
theorem candK_ok (b : List Nat) : (decide (wrOE (candK b) = 0) && decide (wrOB (candK b) = b)) = rdOk b ∧ (rdOk b = true → candK b = candO b) := by
  have h2 : rdOk b = true → candK b = candO b := fun h => by
    obtain ⟨h1, h2⟩ := rdOk_iff.1 h
    have := candK_back h1
    rw [h2] at this
    exact this
  refine ⟨?_, h2⟩
  rw [Bool.eq_iff_iff]
  constructor
  · intro h
    rw [Bool.and_eq_true, decide_eq_true_iff, decide_eq_true_iff] at h
    exact (rdO_of h.1 h.2).1
  · intro h
    rw [h2 h]
    exact h

end Go.Proofs.Ytdojgkejpfdaeaa

namespace Go.Proofs.Ytdojgkejpfdaeaa
open Go.RowKit

/-- The operation at a place of a list. -/
def nth : List Oper → Nat → Option Oper
  | [], _ => none
  | o :: _, 0 => some o
  | _ :: l, n + 1 => nth l n
theorem nth_eq : ∀ (l : List Oper) (i : Nat), nth l i = l.toArray[i]? := by
  intro l
  induction l with
  | nil => intro i; simp [nth]
  | cons o l ih =>
    intro i
    cases i with
    | zero => simp [nth]
    | succ i => simp [nth, ih i]

theorem hTake {P : Program} {md : Region.Mode} {l : List Oper} {Q : Exit → Act → World → Prop} {S : World → Prop} {i : Nat} {o : Oper} {v : Value} {fuel : Nat} {listed : Array Bool} {a : Act} {w : World} (hi : nth l i = some o)
    (hs : Region.noSelect l.toArray = true) (hf : Region.free md l.toArray listed i = true) (hr : (Region.ready md l.toArray listed).contains i = true)
    (hQ : ∀ c a w, Q (.panic c) (a.put o.dst v) w → Q (.panic c) a w) (hy : YieldsIf P l.toArray S o v a) (hS : S w)
    (h : wpAnyH P md l.toArray Q S fuel (listed.setIfInBounds i true) (a.put o.dst v) w) : wpAnyH P md l.toArray Q S (fuel + 1) listed a w :=
  wpAnyH_take ((nth_eq l i).symm.trans hi) hs hf hr hQ hy hS h

theorem hCall {P : Program} {md : Region.Mode} {l : List Oper} {Q : Exit → Act → World → Prop} {S : World → Prop} {i : Nat} {o : Oper} {fuel : Nat} {listed : Array Bool} {a : Act} {w : World} (hi : nth l i = some o)
    (hr : Region.ready md l.toArray listed = [i]) (hw : Region.wanted o (yielded l.toArray a.tmps) = true)
    (h : ∀ K : Act → World → Prop, Shut (∀ a w, S w → (S w → wpAnyH P md l.toArray Q S fuel (listed.setIfInBounds i true) a w) → K a w) → Oper.wp P o a w K Q) :
    wpAnyH P md l.toArray Q S (fuel + 1) listed a w :=
  wpAnyH_ready hr (by simp) (AllReadyH.cons ((nth_eq l i).symm.trans hi) (fun K hK => by rw [if_pos hw]; exact h K hK) AllReadyH.nil)

theorem hCons {P : Program} {md : Region.Mode} {l : List Oper} {Q : Exit → Act → World → Prop} {S : World → Prop} {i : Nat} {o : Oper} {fuel : Nat} {listed : Array Bool} {a : Act} {w : World} {rs : List Nat} (hi : nth l i = some o)
    (hw : Region.wanted o (yielded l.toArray a.tmps) = true)
    (h : ∀ K : Act → World → Prop, Shut (∀ a w, S w → (S w → wpAnyH P md l.toArray Q S fuel (listed.setIfInBounds i true) a w) → K a w) → Oper.wp P o a w K Q)
    (hs : AllReadyH P md l.toArray Q S fuel listed a w rs) : AllReadyH P md l.toArray Q S fuel listed a w (i :: rs) :=
  AllReadyH.cons ((nth_eq l i).symm.trans hi) (fun K hK => by rw [if_pos hw]; exact h K hK) hs

/-- An operation that is carried out and only reads. -/
theorem hT {P : Program} {md : Region.Mode} {l : List Oper} {Q : Exit → Act → World → Prop} {S : World → Prop} (i : Nat) {o : Oper} {v : Value} {fuel : Nat} {listed : Array Bool} {a a2 : Act} {w : World} (hS : S w)
    (h : wpAnyH P md l.toArray Q S fuel (listed.setIfInBounds i true) a2 w)
    (hi : nth l i = some o := by rfl) (hs : Region.noSelect l.toArray = true := by kernel_rfl) (hf : Region.free md l.toArray listed i = true := by kernel_rfl) (hr : (Region.ready md l.toArray listed).contains i = true := by kernel_rfl)
    (hQ : ∀ c a w, Q (.panic c) (a.put o.dst v) w → Q (.panic c) a w := by exact fun _ _ _ h => h) (hw : Region.wanted o (yielded l.toArray a.tmps) = true := by rfl)
    (hy : ∀ w9, S w9 → (execOp a.eval o).run P w9 = .ok (.value v) w9 := by intro w9 hSw; (try dsimp only at hSw); go_simp; try with_reducible rfl)
    (ha : a.put o.dst v = a2 := by (try simp only [Act.put, List.setIfInBounds_toArray, List.set_cons_zero, List.set_cons_succ]); try rfl) : wpAnyH P md l.toArray Q S (fuel + 1) listed a w := by
  subst ha
  exact wpAnyH_take ((nth_eq l i).symm.trans hi) hs hf hr hQ (Or.inl ⟨hw, hy⟩) hS h

/-- An operation that is not wanted. -/
theorem hN {P : Program} {md : Region.Mode} {l : List Oper} {Q : Exit → Act → World → Prop} {S : World → Prop} (i : Nat) {o : Oper} {fuel : Nat} {listed : Array Bool} {a a2 : Act} {w : World} (hS : S w)
    (h : wpAnyH P md l.toArray Q S fuel (listed.setIfInBounds i true) a2 w)
    (hi : nth l i = some o := by rfl) (hs : Region.noSelect l.toArray = true := by kernel_rfl) (hf : Region.free md l.toArray listed i = true := by kernel_rfl) (hr : (Region.ready md l.toArray listed).contains i = true := by kernel_rfl)
    (hQ : ∀ c a w, Q (.panic c) (a.put o.dst undef) w → Q (.panic c) a w := by exact fun _ _ _ h => h) (hw : Region.wanted o (yielded l.toArray a.tmps) = false := by rfl)
    (ha : a.put o.dst undef = a2 := by (try simp only [Act.put, List.setIfInBounds_toArray, List.set_cons_zero, List.set_cons_succ]); try rfl) : wpAnyH P md l.toArray Q S (fuel + 1) listed a w := by
  subst ha
  exact wpAnyH_take ((nth_eq l i).symm.trans hi) hs hf hr hQ (Or.inr ⟨hw, rfl⟩) hS h

end Go.Proofs.Ytdojgkejpfdaeaa

namespace Go.Proofs.Ytdojgkejpfdaeaa

/-- The value of a list of limbs, the least significant first. -/
def V : List Nat → Nat
  | [] => 0
  | x :: xs => x + 4294967296 * V xs

/-- Every limb has 32 bits. -/
def Lim (xs : List Nat) : Prop := ∀ x ∈ xs, x < 4294967296

/-- The list without the zeros at its end. -/
def strip : List Nat → List Nat
  | [] => []
  | x :: xs => if strip xs = [] then (if x = 0 then [] else [x]) else x :: strip xs

/-- No zero stands at the list's end. -/
def Tr (xs : List Nat) : Prop := strip xs = xs

theorem V_append (xs ys : List Nat) : V (xs ++ ys) = V xs + 4294967296 ^ xs.length * V ys := by
  induction xs with
  | nil => simp [V]
  | cons x xs ih => simp only [List.cons_append, V, ih, List.length_cons, Nat.pow_succ, Nat.mul_add]; rw [Nat.mul_comm (4294967296 ^ xs.length) 4294967296, Nat.mul_assoc]; omega

theorem Lim.cons {x : Nat} {xs : List Nat} (h : Lim (x :: xs)) : x < 4294967296 ∧ Lim xs := ⟨h x (by simp), fun y hy => h y (by simp [hy])⟩
theorem Lim.mk {x : Nat} {xs : List Nat} (hx : x < 4294967296) (h : Lim xs) : Lim (x :: xs) := by
  intro y hy; rcases List.mem_cons.1 hy with rfl | hy
  · exact hx
  · exact h y hy
theorem Lim.nil : Lim [] := by intro x hx; cases hx
theorem Lim.append {xs ys : List Nat} (h : Lim xs) (k : Lim ys) : Lim (xs ++ ys) := by
  intro x hx; rcases List.mem_append.1 hx with hx | hx
  · exact h x hx
  · exact k x hx
theorem Lim.snoc {xs : List Nat} {x : Nat} (h : Lim xs) (hx : x < 4294967296) : Lim (xs ++ [x]) := h.append (Lim.mk hx Lim.nil)

theorem Lim.take {xs : List Nat} (h : Lim xs) (n : Nat) : Lim (xs.take n) := fun x hx => h x (List.mem_of_mem_take hx)
theorem Lim.drop {xs : List Nat} (h : Lim xs) (n : Nat) : Lim (xs.drop n) := fun x hx => h x (List.mem_of_mem_drop hx)
theorem Lim.getD {xs : List Nat} (h : Lim xs) (i : Nat) : xs.getD i 0 < 4294967296 := by
  rw [List.getD_eq_getElem?_getD]
  by_cases hi : i < xs.length
  · rw [List.getElem?_eq_getElem hi]; exact h _ (List.getElem_mem hi)
  · rw [List.getElem?_eq_none (by omega)]; decide
theorem Lim.set {xs : List Nat} (h : Lim xs) (i : Nat) {x : Nat} (hx : x < 4294967296) : Lim (xs.set i x) := by
  intro y hy; rcases List.mem_or_eq_of_mem_set hy with hy | rfl
  · exact h y hy
  · exact hx

theorem V_lt {xs : List Nat} (h : Lim xs) : V xs < 4294967296 ^ xs.length := by
  induction xs with
  | nil => simp [V]
  | cons x xs ih =>
    have := ih h.cons.2; have hx := h.cons.1
    simp only [V, List.length_cons, Nat.pow_succ]; omega

theorem V_nil : V [] = 0 := rfl
theorem V_zeros (n : Nat) : V (List.replicate n 0) = 0 := by
  induction n with
  | zero => rfl
  | succ n ih => rw [List.replicate_succ, V, ih]

theorem getD_take_succ (xs : List Nat) (i : Nat) : xs.take (i + 1) = xs.take i ++ (if i < xs.length then [xs.getD i 0] else []) := by
  by_cases h : i < xs.length
  · rw [if_pos h, List.take_succ_eq_append_getElem h]; simp [List.getD, h]
  · rw [if_neg h, List.take_of_length_le (by omega), List.take_of_length_le (by omega)]; simp

theorem V_take_succ (xs : List Nat) (i : Nat) : V (xs.take (i + 1)) = V (xs.take i) + 4294967296 ^ i * xs.getD i 0 := by
  rw [getD_take_succ, V_append]
  by_cases h : i < xs.length
  · rw [if_pos h, List.length_take, Nat.min_eq_left (by omega)]; simp [V]
  · rw [if_neg h]; simp [V, List.getD, List.getElem?_eq_none (Nat.le_of_not_lt h)]

theorem V_take_drop (xs : List Nat) (i : Nat) : V xs = V (xs.take i) + 4294967296 ^ i * V (xs.drop i) := by
  by_cases h : i ≤ xs.length
  · have := V_append (xs.take i) (xs.drop i)
    rw [List.take_append_drop, List.length_take, Nat.min_eq_left h] at this; exact this
  · rw [List.take_of_length_le (by omega), List.drop_eq_nil_of_le (by omega)]; simp [V]

theorem V_snoc (xs : List Nat) (x : Nat) : V (xs ++ [x]) = V xs + 4294967296 ^ xs.length * x := by rw [V_append]; simp [V]

/-- Two lists that read alike have one value. -/
theorem V_congr : ∀ (a b : List Nat), (∀ j, a.getD j 0 = b.getD j 0) → V a = V b := by
  intro a; induction a with
  | nil =>
    intro b; induction b with
    | nil => intro _; rfl
    | cons y b ih =>
      intro h
      have h0 := h 0; have h1 := ih (fun j => by have := h (j + 1); simpa using this)
      simp at h0; simp only [V] at h1 ⊢; omega
  | cons x a ih =>
    intro b h
    cases b with
    | nil =>
      have h0 := h 0; have h1 := ih [] (fun j => by have := h (j + 1); simpa using this)
      simp at h0; simp only [V] at h1 ⊢; omega
    | cons y b =>
      have h0 := h 0; have h1 := ih b (fun j => by have := h (j + 1); simpa using this)
      simp at h0; rw [V, V, h1, h0]

theorem getD_tail (a : List Nat) (j : Nat) : a.tail.getD j 0 = a.getD (j + 1) 0 := by cases a <;> simp
theorem V_head_tail (a : List Nat) : V a = a.getD 0 0 + 4294967296 * V a.tail := by cases a <;> simp [V]
theorem Lim.tail {a : List Nat} (h : Lim a) : Lim a.tail := by
  cases a with
  | nil => exact h
  | cons x a => exact h.cons.2

/-- Where the limbs above place i are alike and the one there is less, so is the value. -/
theorem V_lt_top : ∀ (i : Nat) (a b : List Nat), Lim a → (∀ j, i < j → a.getD j 0 = b.getD j 0) → a.getD i 0 < b.getD i 0 → V a < V b := by
  intro i; induction i with
  | zero =>
    intro a b _ h h0
    rw [V_head_tail a, V_head_tail b, V_congr a.tail b.tail (fun j => by rw [getD_tail, getD_tail]; exact h (j + 1) (by omega))]; omega
  | succ i ih =>
    intro a b hl h h0
    have := ih a.tail b.tail hl.tail (fun j hj => by rw [getD_tail, getD_tail]; exact h (j + 1) (by omega)) (by rw [getD_tail, getD_tail]; exact h0)
    have hx := hl.getD 0
    rw [V_head_tail a, V_head_tail b]; omega

theorem strip_nil : strip [] = [] := rfl
theorem V_strip (xs : List Nat) : V (strip xs) = V xs := by
  induction xs with
  | nil => rfl
  | cons x xs ih =>
    rw [strip]
    by_cases h : strip xs = []
    · rw [if_pos h]; rw [h] at ih
      by_cases hx : x = 0
      · rw [if_pos hx]; simp only [V] at ih ⊢; omega
      · rw [if_neg hx]; simp only [V] at ih ⊢; omega
    · rw [if_neg h]; simp only [V]; rw [ih]
theorem strip_strip (xs : List Nat) : strip (strip xs) = strip xs := by
  induction xs with
  | nil => rfl
  | cons x xs ih =>
    rw [strip]
    by_cases h : strip xs = []
    · rw [if_pos h]
      by_cases hx : x = 0
      · rw [if_pos hx]; rfl
      · rw [if_neg hx]; simp [strip, hx]
    · rw [if_neg h, strip, ih, if_neg h]
theorem tr_strip (xs : List Nat) : Tr (strip xs) := strip_strip xs
theorem tr_nil : Tr [] := rfl
theorem strip_snoc_zero (xs : List Nat) : strip (xs ++ [0]) = strip xs := by
  induction xs with
  | nil => rfl
  | cons x xs ih => rw [List.cons_append, strip, ih, strip]
theorem strip_snoc (xs : List Nat) (x : Nat) (hx : x ≠ 0) : strip (xs ++ [x]) = xs ++ [x] := by
  induction xs with
  | nil => simp [strip, hx]
  | cons y xs ih => rw [List.cons_append, strip, ih, if_neg (by simp)]
theorem tr_snoc {xs : List Nat} {x : Nat} (hx : x ≠ 0) : Tr (xs ++ [x]) := strip_snoc xs x hx
theorem strip_take (xs : List Nat) : strip xs = xs.take (strip xs).length := by
  induction xs with
  | nil => rfl
  | cons x xs ih =>
    rw [strip]
    by_cases h : strip xs = []
    · rw [if_pos h]
      by_cases hx : x = 0
      · rw [if_pos hx]; simp
      · rw [if_neg hx]; simp
    · rw [if_neg h]; simp only [List.length_cons, List.take_succ_cons]; rw [← ih]
theorem strip_length_le (xs : List Nat) : (strip xs).length ≤ xs.length := by rw [strip_take]; simp; omega
theorem Lim.strip {xs : List Nat} (h : Lim xs) : Lim (strip xs) := by rw [strip_take]; exact h.take _

/-- What is stripped of a head: the zeros behind it do not count. -/
theorem strip_take_zero (xs : List Nat) (n : Nat) (h : n < xs.length) (h0 : xs.getD n 0 = 0) : strip (xs.take (n + 1)) = strip (xs.take n) := by
  rw [getD_take_succ, if_pos h, h0, strip_snoc_zero]
theorem strip_take_some (xs : List Nat) (n : Nat) (h : n < xs.length) (h0 : xs.getD n 0 ≠ 0) : strip (xs.take (n + 1)) = xs.take (n + 1) := by
  rw [getD_take_succ, if_pos h, strip_snoc _ _ h0]

/-- The last limb of a trimmed list isn't 0. -/
theorem Tr.last {xs : List Nat} (h : Tr xs) (hn : xs ≠ []) : xs.getD (xs.length - 1) 0 ≠ 0 := by
  intro h0
  have hl : 0 < xs.length := List.length_pos_iff.2 hn
  have e := strip_take_zero xs (xs.length - 1) (by omega) h0
  rw [show xs.length - 1 + 1 = xs.length by omega, List.take_length] at e
  have e2 : strip xs = xs := h
  have := strip_length_le (xs.take (xs.length - 1))
  rw [← e, e2] at this
  simp at this; omega

theorem V_ge {xs : List Nat} (h : Tr xs) (hn : xs ≠ []) : 4294967296 ^ (xs.length - 1) ≤ V xs := by
  have hl : 0 < xs.length := List.length_pos_iff.2 hn
  have e := V_take_succ xs (xs.length - 1)
  rw [show xs.length - 1 + 1 = xs.length by omega, List.take_length] at e
  have h1 := h.last hn
  rw [e]
  calc 4294967296 ^ (xs.length - 1) = 4294967296 ^ (xs.length - 1) * 1 := by omega
    _ ≤ 4294967296 ^ (xs.length - 1) * xs.getD (xs.length - 1) 0 := Nat.mul_le_mul_left _ (by omega)
    _ ≤ _ := by omega

theorem len_le_of_V {xs : List Nat} (h : Tr xs) {k : Nat} (hv : V xs < 4294967296 ^ k) : xs.length ≤ k := by
  rcases Decidable.em (xs = []) with rfl | hn
  · simp
  · have h1 := V_ge h hn
    rcases Nat.lt_or_ge k xs.length with hk | hk
    · have : 4294967296 ^ k ≤ 4294967296 ^ (xs.length - 1) := Nat.pow_le_pow_right (by decide) (by omega)
      omega
    · exact hk

theorem V_lt_of_length {a b : List Nat} (ha : Lim a) (hb : Tr b) (h : a.length < b.length) : V a < V b := by
  have h1 := V_lt ha
  have h2 := V_ge hb (by intro e; rw [e] at h; simp at h)
  have : 4294967296 ^ a.length ≤ 4294967296 ^ (b.length - 1) := Nat.pow_le_pow_right (by decide) (by omega)
  omega

theorem eq_nil_of_V {xs : List Nat} (h : Tr xs) (hv : V xs = 0) : xs = [] := by
  rcases Decidable.em (xs = []) with rfl | hn
  · rfl
  · have h1 := V_ge h hn
    have : 0 < 4294967296 ^ (xs.length - 1) := Nat.pow_pos (by decide)
    omega

theorem V_eq_lists : ∀ (n : Nat) (a b : List Nat), a.length = n → b.length = n → Lim a → Lim b → V a = V b → a = b := by
  intro n; induction n with
  | zero => intro a b ha hb _ _ _; rw [List.length_eq_zero_iff.1 ha, List.length_eq_zero_iff.1 hb]
  | succ n ih =>
    intro a b ha hb la lb h
    match a, b, ha, hb with
    | x :: a, y :: b, ha, hb =>
      have := la.cons.1; have := lb.cons.1
      simp only [V] at h
      have e1 : x = y := by omega
      have e2 : V a = V b := by omega
      rw [e1, ih a b (by simpa using ha) (by simpa using hb) la.cons.2 lb.cons.2 e2]

/-- A trimmed list is told by its value. -/
theorem uniq {a b : List Nat} (la : Lim a) (lb : Lim b) (ta : Tr a) (tb : Tr b) (h : V a = V b) : a = b := by
  have h1 : ¬ a.length < b.length := fun hl => by have := V_lt_of_length la tb hl; omega
  have h2 : ¬ b.length < a.length := fun hl => by have := V_lt_of_length lb ta hl; omega
  exact V_eq_lists b.length a b (by omega) rfl la lb h

end Go.Proofs.Ytdojgkejpfdaeaa

namespace Go.Proofs.Ytdojgkejpfdaeaa
open Go.RowKit
set_option linter.unusedSimpArgs false
set_option linter.unusedVariables false

/-- A limb as a value. -/
def U (n : Nat) : Value := .int .u32 (n : Int)

/-- A slice of limbs: its address and capacity, and the limbs that are read there. -/
def Rd (w : World) (a : Option Addr) (cap : Nat) (xs : List Nat) : Prop :=
  Lim xs ∧ xs.length ≤ cap ∧ cap ≤ maxLen ∧ (a = none → cap = 0) ∧
  (xs = [] ∨ ∃ b off, a = some ⟨b, off, none⟩ ∧ b < w.heap.size ∧ ∀ i, i < xs.length → w.cell? ⟨b, off + i, none⟩ = some (.int .u32 (xs.getD i 0 : Nat)))

theorem Rd.lim {w : World} {a : Option Addr} {cap : Nat} {xs : List Nat} (h : Rd w a cap xs) : Lim xs := h.1
theorem Rd.le {w : World} {a : Option Addr} {cap : Nat} {xs : List Nat} (h : Rd w a cap xs) : xs.length ≤ cap := h.2.1
theorem Rd.cap {w : World} {a : Option Addr} {cap : Nat} {xs : List Nat} (h : Rd w a cap xs) : cap ≤ maxLen := h.2.2.1

/-- Where the limbs lie (a plain name, which no walk looks behind). -/
def Fm (w : World) (a : Option Addr) (xs : List Nat) : Prop :=
  xs = [] ∨ ∃ b off, a = some ⟨b, off, none⟩ ∧ b < w.heap.size ∧ ∀ i, i < xs.length → w.cell? ⟨b, off + i, none⟩ = some (.int .u32 (xs.getD i 0 : Nat))

theorem Rd.fm {w : World} {a : Option Addr} {cap : Nat} {xs : List Nat} (h : Rd w a cap xs) : Fm w a xs := h.2.2.2.2

theorem Fm.at {w wr : World} {a : Option Addr} {xs : List Nat} (h : Fm w a xs) (hb : Below w.heap.size w wr) (k : Nat) (hk : k < xs.length) :
    ∃ b off, a = some ⟨b, off, none⟩ ∧ b < w.heap.size ∧ wr.cell? ⟨b, off + k, none⟩ = some (.int .u32 (xs.getD k 0 : Nat)) := by
  rcases h with rfl | ⟨b, off, h1, h2, h3⟩
  · simp at hk
  · exact ⟨b, off, h1, h2, (hb.cell (p := ⟨b, off + k, none⟩) h2).trans (h3 k hk)⟩

theorem Rd.keep {w w' : World} {a : Option Addr} {cap : Nat} {xs : List Nat} (h : Rd w a cap xs) (hs : w.heap.size ≤ w'.heap.size)
    (hb : ∀ b, b < w.heap.size → (∃ o, a = some ⟨b, o, none⟩) → w'.heap[b]? = w.heap[b]?) : Rd w' a cap xs := by
  obtain ⟨h1, h2, h3, h5, h4⟩ := h
  refine ⟨h1, h2, h3, h5, ?_⟩
  rcases h4 with h4 | ⟨b, off, e, hb1, hc⟩
  · exact .inl h4
  · exact .inr ⟨b, off, e, Nat.lt_of_lt_of_le hb1 hs, fun i hi => (World.cell?_of_block (w := w) (a := ⟨b, off + i, none⟩) (hb b hb1 ⟨off, e⟩)).trans (hc i hi)⟩

theorem Rd.below {w w' : World} {a : Option Addr} {cap : Nat} {xs : List Nat} (h : Rd w a cap xs) (hb : Below w.heap.size w w') : Rd w' a cap xs :=
  h.keep hb.size fun b hb1 _ => hb.block b hb1

theorem Rd.take {w : World} {a : Option Addr} {cap : Nat} {xs : List Nat} (h : Rd w a cap xs) (n : Nat) : Rd w a cap (xs.take n) := by
  obtain ⟨h1, h2, h3, h5, h4⟩ := h
  refine ⟨h1.take n, by simp; omega, h3, h5, ?_⟩
  rcases h4 with rfl | ⟨b, off, e, hb1, hc⟩
  · exact .inl (by simp)
  · refine .inr ⟨b, off, e, hb1, fun i hi => ?_⟩
    simp at hi
    rw [hc i (by omega)]
    simp [List.getD, show i < n by omega]

theorem Rd.strip {w : World} {a : Option Addr} {cap : Nat} {xs : List Nat} (h : Rd w a cap xs) : Rd w a cap (strip xs) := by
  rw [strip_take]; exact h.take _

theorem Rd.nil (w : World) (a : Option Addr) (cap : Nat) (h : cap ≤ maxLen) (h0 : a = none → cap = 0) : Rd w a cap [] := ⟨Lim.nil, Nat.zero_le _, h, h0, .inl rfl⟩

/-- A row of the call's own. -/
def Res (e : TypeId) (base : Nat) (w : World) (a : Option Addr) (cap : Nat) (xs : List Nat) : Prop :=
  Lim xs ∧ w.ownsRow base e 1 (.slice a xs.length cap) xs.length (xs.map U)

theorem Res.lim {e : TypeId} {base : Nat} {w : World} {a : Option Addr} {cap : Nat} {xs : List Nat} (h : Res e base w a cap xs) : Lim xs := h.1

theorem Res.rd {e : TypeId} {base : Nat} {w : World} {a : Option Addr} {cap : Nat} {xs : List Nat} (h : Res e base w a cap xs) : Rd w a cap xs := by
  obtain ⟨hl, h⟩ := h
  rcases h.2 with ⟨hv, h0⟩ | ⟨g, cap', cur, hv, hb, hg, hc1, hc2, hc3, ht⟩
  · have : xs = [] := List.length_eq_zero_iff.1 h0
    subst this
    simp at hv
    exact Rd.nil _ _ _ (by rw [hv.2]; exact Nat.zero_le _) (fun _ => hv.2)
  · simp at hv
    obtain ⟨rfl, rfl⟩ := hv
    refine ⟨hl, hc1, hc2, (by simp), .inr ⟨g, 0, rfl, (Array.getElem?_eq_some_iff.1 hg).1, fun i hi => ?_⟩⟩
    have := h.cells (g := g) rfl i (U (xs.getD i 0)) (by simp [List.getD, hi])
    have hadd : (⟨g, 0, none⟩ : Addr).add i = ⟨g, 0 + i, none⟩ := by unfold Addr.add; split <;> simp_all
    rw [hadd] at this; exact this

theorem ownsRow_mono {w : World} {base base' : Nat} {e : TypeId} {size : Nat} {v : Value} {n : Nat} {xs : List Value} (h : w.ownsRow base e size v n xs) (hb : base' ≤ base) : w.ownsRow base' e size v n xs := by
  refine ⟨h.1, ?_⟩
  rcases h.2 with h0 | ⟨g, cap, cur, h1, h2, h3⟩
  · exact .inl h0
  · exact .inr ⟨g, cap, cur, h1, Nat.le_trans hb h2, h3⟩

theorem Res.mono {e : TypeId} {base base' : Nat} {w : World} {a : Option Addr} {cap : Nat} {xs : List Nat} (h : Res e base w a cap xs) (hb : base' ≤ base) : Res e base' w a cap xs := ⟨h.1, ownsRow_mono h.2 hb⟩

theorem Res.below {e : TypeId} {base : Nat} {w w' : World} {a : Option Addr} {cap : Nat} {xs : List Nat} (h : Res e base w a cap xs) (hb : Below w.heap.size w w') : Res e base w' a cap xs := by
  refine ⟨h.1, h.2.1, ?_⟩
  rcases h.2.2 with h0 | ⟨g, cap', cur, h1, h2, h3, h4⟩
  · exact .inl h0
  · exact .inr ⟨g, cap', cur, h1, h2, (hb.block g (Array.getElem?_eq_some_iff.1 h3).1).trans h3, h4⟩

/-- Out of what append leaves. -/
theorem Res.of {e : TypeId} {base : Nat} {w : World} {v : Value} {n : Nat} {xs : List Nat} (hl : Lim xs) (h : w.ownsRow base e 1 v n (xs.map U)) : ∃ a cap, v = .slice a xs.length cap ∧ Res e base w a cap xs := by
  have hn : n = xs.length := by have := h.1; simp at this; omega
  subst hn
  rcases h.2 with ⟨hv, h0⟩ | ⟨g, cap, cur, hv, _⟩
  · exact ⟨none, 0, by rw [hv, h0], hl, by rw [h0] at h ⊢; rw [hv] at h; exact h⟩
  · subst hv; exact ⟨_, cap, rfl, hl, h⟩

/-- A view of a block that is known whole. -/
theorem rd_block {w : World} {g : Nat} {zs : List Nat} {e : TypeId} (h : w.heap[g]? = some (.cells (zs.map U).toArray e (0, 0))) (hl : Lim zs) (off n cap : Nat) (h1 : off + n ≤ zs.length) (h2 : n ≤ cap) (h3 : cap ≤ maxLen) :
    Rd w (some ⟨g, off, none⟩) cap ((zs.drop off).take n) := by
  refine ⟨(hl.drop off).take n, by simp; omega, h3, (by simp), .inr ⟨g, off, rfl, (Array.getElem?_eq_some_iff.1 h).1, fun i hi => ?_⟩⟩
  simp at hi
  rw [cell_of_row w g (off + i) _ e (0, 0) h]
  simp [List.getD, U, show off + i < zs.length by omega, show i < n by omega]

theorem rd_new (w : World) (e : TypeId) (zs : List Nat) (cs : Array Value) (hc : cs = (zs.map U).toArray) (hl : Lim zs) (hm : zs.length ≤ maxLen) : Rd (w.alloc (.cells cs e)) (some ⟨w.heap.size, 0, none⟩) zs.length zs := by
  subst hc
  have := rd_block (heap_alloc_new w (.cells (zs.map U).toArray e)) hl 0 zs.length zs.length (by omega) (Nat.le_refl _) hm
  simpa using this

/-- What append leaves, in the walk's own spelling. -/
theorem own_snoc {w : World} {base : Nat} {e : TypeId} {v : Value} {n z : Nat} {zs : List Nat} (h : w.ownsRow base e 1 v n (List.map U zs ++ [U z])) : w.ownsRow base e 1 v n ((zs ++ [z]).map U) := by
  rw [List.map_append]; exact h

theorem oneCell_U (xs : List Nat) : ∀ u ∈ xs.map U, u.oneCell' = true := by
  intro u hu
  obtain ⟨x, _, rfl⟩ := List.mem_map.1 hu
  rfl

section
variable {P : Program} {w : World} {ops : Array Oper} {rest : List Oper} {o : Oper} {a : Act} {Q : Exit → Act → World → Prop}

/-- 'append(out, src...)': src is read, out is the call's own. -/
theorem wpList_append_rd (hgd : o.guard = none) (s x : Operand) (t : TypeId) (ho : o.op = .call { callee := .builtin .append, args := #[s, x], argTypes := #[t, t] })
    (base : Nat) (e : TypeId) (i : TypeInfo) (ht : P.underlying t = some (.slice e)) (hi : P.info? e = some i) (hz : i.zero = some (.int .u32 0)) (hsize : i.size = 1) (hby : i.bytes = 4)
    (v : Value) (n : Nat) (ys : List Nat) (hs : a.eval s = v) (hown : w.ownsRow base e 1 v n (ys.map U))
    (ad : Option Addr) (c m : Nat) (zs : List Nat) (hx : a.eval x = .slice ad m c) (hm : m = zs.length) (hrd : Rd w ad c zs) (hlen : n + zs.length ≤ 2000000000) (hbase : base ≤ w.heap.size)
    (h : ∀ v' w', w'.ownsRow base e 1 v' (n + zs.length) ((ys ++ zs).map U) → w.grownBy w' v.ownBlock → wpList P ops Q rest (a.put o.dst v') w') : wpList P ops Q (o :: rest) a w := by
  subst hm
  cases ad with
  | none =>
    have hc : c = 0 := hrd.2.2.2.1 rfl
    have hzs : zs = [] := by
      rcases hrd.2.2.2.2 with h0 | ⟨b, off, e', _⟩
      · exact h0
      · cases e'
    subst hzs; subst hc
    refine wpList_append_own_none hgd s x t ho base e i 1 ht hi v n (ys.map U) hs hown hx (h v w (by simpa using hown) (World.grownBy.refl w _))
  | some ad =>
    refine wpList_append_own w hgd s x t ho base e i (.int .u32 0) 1 4 ht hi hz hsize hby rfl (by decide) v n (ys.map U) hs hown ad zs.length c (zs.map U) hx (by simp) ?_ (oneCell_U zs) (by unfold maxLen; omega) (by omega) hbase ?_
    · intro j u hj
      rcases hrd.2.2.2.2 with rfl | ⟨b, off, e', hb, hc⟩
      · simp at hj
      · simp at e'; subst e'
        have hjl : j < zs.length := by
          rcases Nat.lt_or_ge j zs.length with h1 | h1
          · exact h1
          · rw [List.getElem?_eq_none (by simpa using h1)] at hj; cases hj
        have hadd : (⟨b, off, none⟩ : Addr).add j = ⟨b, off + j, none⟩ := by unfold Addr.add; split <;> simp_all
        rw [hadd, hc j hjl]
        rw [List.getElem?_map, List.getElem?_eq_getElem hjl] at hj
        simp at hj; rw [← hj]; simp [List.getD, hjl, U]
    · intro v' w' h1 h2 _
      exact h v' w' (by rw [List.map_append]; exact h1) h2

/-- 'append(out, x)': x is laid in a block of its own first. -/
theorem wpList_append_one (hgd : o.guard = none) (s x : Operand) (t : TypeId) (ho : o.op = .call { callee := .builtin .append, args := #[s, x], argTypes := #[t, t] })
    (base : Nat) (e : TypeId) (i : TypeInfo) (ht : P.underlying t = some (.slice e)) (hi : P.info? e = some i) (hz : i.zero = some (.int .u32 0)) (hsize : i.size = 1) (hby : i.bytes = 4)
    (v : Value) (n : Nat) (ys : List Nat) (hs : a.eval s = v) (hown : w.ownsRow base e 1 v n (ys.map U))
    (g z : Nat) (hx : a.eval x = .slice (some ⟨g, 0, none⟩) 1 1) (hc : w.cell? ⟨g, 0, none⟩ = some (.int .u32 (z : Int))) (hlen : n + 1 ≤ 2000000000) (hbase : base ≤ w.heap.size)
    (h : ∀ v' w', w'.ownsRow base e 1 v' (n + 1) ((ys ++ [z]).map U) → w.grownBy w' v.ownBlock → wpList P ops Q rest (a.put o.dst v') w') : wpList P ops Q (o :: rest) a w := by
  refine wpList_append_own w hgd s x t ho base e i (.int .u32 0) 1 4 ht hi hz hsize hby rfl (by decide) v n (ys.map U) hs hown ⟨g, 0, none⟩ 1 1 [U z] hx rfl ?_ (oneCell_U [z]) (by unfold maxLen; omega) (by omega) hbase ?_
  · intro j u hj
    match j, hj with
    | 0, hj => simp at hj; subst hj; simpa [Addr.add, U] using hc
  · intro v' w' h1 h2 _
    exact h v' w' (by rw [List.map_append]; exact h1) h2
end

theorem Below.drew1 {w : World} : Below w.heap.size w w.drew := (Below.refl _ _).drew

end Go.Proofs.Ytdojgkejpfdaeaa
