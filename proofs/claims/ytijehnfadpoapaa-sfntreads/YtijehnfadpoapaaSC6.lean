/-
  sfnt.Pack: the walk.
-/
import Derived.Test.YtijehnfadpoapaaSC2
import Derived.Test.YtijehnfadpoapaaSC5
namespace Go.Proofs.Ytijehnfadpoapaa
open Go.RowKit Go.Maps
set_option linter.unusedSimpArgs false
set_option linter.unusedVariables false

/-- How long a page is that has k tables' bytes. -/
def lenK (l : List Tb) (k : Nat) : Nat := 12 + 16 * l.length + (bods (l.take k)).length
/-- A page with k tables' bytes and places; one whose next place is known already. -/
def stB (l : List Tb) (k : Nat) : St := ⟨hdr l.length ++ (dirs (l.take k) (12 + 16 * l.length) ++ (dir0 (l.drop k) ++ bods (l.take k))), (mkz l.length).drop k, false⟩
def stN (l : List Tb) (k : Nat) : St := ⟨hdr l.length ++ (dirs (l.take (k + 1)) (12 + 16 * l.length) ++ (dir0 (l.drop (k + 1)) ++ bods (l.take k))), (mkz l.length).drop (k + 1), false⟩

theorem stB_zero (l : List Tb) : stB l 0 = stR l.length l l.length := by simp [stB, stR, dirs, bods]
theorem stB_len {l : List Tb} {k : Nat} (h : ∀ t ∈ l, (sb t.tx).length = 4) (hk : k ≤ l.length) : (stB l k).bs.length = lenK l k := by
  have h1 := dirs_len (l := l.take k) (12 + 16 * l.length) (fun t ht => h t (List.mem_of_mem_take ht))
  have h2 := dir0_len (l := l.drop k) (fun t ht => h t (List.mem_of_mem_drop ht))
  simp only [stB, List.length_append, hdr_len, h1, h2, List.length_take, List.length_drop, lenK]
  omega
theorem stN_len {l : List Tb} {k : Nat} (h : ∀ t ∈ l, (sb t.tx).length = 4) (hk : k < l.length) : (stN l k).bs.length = lenK l k := by
  have h1 := dirs_len (l := l.take (k + 1)) (12 + 16 * l.length) (fun t ht => h t (List.mem_of_mem_take ht))
  have h2 := dir0_len (l := l.drop (k + 1)) (fun t ht => h t (List.mem_of_mem_drop ht))
  simp only [stN, List.length_append, hdr_len, h1, h2, List.length_take, List.length_drop, lenK]
  omega
theorem lenK_mod (l : List Tb) (k : Nat) : lenK l k % 4 = 0 := by have := bods_mod (l.take k); unfold lenK; omega
theorem lenK_succ {l : List Tb} {k : Nat} (hk : k < l.length) : lenK l (k + 1) = lenK l k + ((l.getD k Tb.none).bs.length + padN (l.getD k Tb.none).bs.length 4) := by
  unfold lenK
  rw [takeT_succ hk, bods_append, List.length_append]
  simp only [bods, List.length_append, fil_len, List.length_nil]
  omega
theorem mkz_nodup (n : Nat) : (mkz n).Nodup := by
  unfold mkz List.Nodup
  rw [List.pairwise_map]
  exact List.nodup_range.imp (fun {a b} h => by omega)
theorem mkz_get {n k : Nat} (hk : k < n) : (mkz n).getD k 0 = ((20 + 16 * k : Nat) : Int) := by simp [mkz, List.getD, hk]
theorem mkz_drop {n k : Nat} (hk : k < n) : (mkz n).drop k = ((20 + 16 * k : Nat) : Int) :: (mkz n).drop (k + 1) := by
  have hl : k < (mkz n).length := by rw [mkz_len]; exact hk
  rw [List.drop_eq_getElem_cons hl]
  congr 1
  simp [mkz]
theorem mkz_less {n k : Nat} (hk : k < n) : ((mkz n).drop k).filter (fun x => decide (x ≠ ((20 + 16 * k : Nat) : Int))) = (mkz n).drop (k + 1) := by
  have hn : ((mkz n).drop k).Nodup := (List.drop_sublist k _).nodup (mkz_nodup n)
  rw [mkz_drop hk] at hn ⊢
  have hx := (List.nodup_cons.1 hn).1
  rw [List.filter_cons]
  simp only [ne_eq, not_true_eq_false, decide_false, Bool.false_eq_true, if_false]
  rw [List.filter_eq_self]
  intro a ha
  simp only [decide_eq_true_eq]
  intro e
  exact hx (e ▸ ha)
theorem ovr_mid {A X Z Y : List Nat} {q : Nat} (hq : A.length = q) (hx : X.length = Y.length) : ovr (A ++ (X ++ Z)) q Y = A ++ (Y ++ Z) := by
  subst hq
  rw [ovr, List.take_left, ← List.drop_drop, List.drop_left, ← hx, List.drop_left, List.append_assoc]
theorem getD_drop {l : List Tb} {k : Nat} (hk : k < l.length) : l.drop k = l.getD k Tb.none :: l.drop (k + 1) := by rw [List.drop_eq_getElem_cons hk]; simp [List.getD, hk]

theorem stB_now {l : List Tb} {k : Nat} (h : ∀ t ∈ l, (sb t.tx).length = 4) (hk : k < l.length) : (stB l k).now ((20 + 16 * k : Nat) : Int) 0 = stN l k := by
  have hlen := stB_len h (Nat.le_of_lt hk)
  have hm : ((20 + 16 * k : Nat) : Int) ∈ (stB l k).ws := by show _ ∈ (mkz l.length).drop k; rw [mkz_drop hk]; exact List.mem_cons_self
  rw [St.now_ok (s := stB l k) rfl ⟨hm, by decide, by omega⟩, hlen]
  have e1 : (stB l k).ws.filter (fun x => decide (x ≠ ((20 + 16 * k : Nat) : Int))) = (mkz l.length).drop (k + 1) := mkz_less hk
  have e2 : ovr (stB l k).bs (((20 + 16 * k : Nat) : Int)).toNat (be4 ((lenK l k : Int) - 0)) = (stN l k).bs := by
    have ht4 := h _ (getD_mem hk)
    have h1 := dirs_len (l := l.take k) (12 + 16 * l.length) (fun t ht => h t (List.mem_of_mem_take ht))
    rw [Int.toNat_natCast, Int.sub_zero, stB, stN, getD_drop hk, takeT_succ hk, dir0, dirs_append, dirs, dirs, lenK]
    generalize l.getD k Tb.none = t at *
    dsimp only
    rw [dirE, dirE]
    have := ovr_mid (A := hdr l.length ++ dirs (l.take k) (12 + 16 * l.length) ++ sb t.tx ++ be4 (sm t.bs : Nat)) (X := be4 ((0 : Nat) : Int)) (Y := be4 ((12 + 16 * l.length + (bods (l.take k)).length : Nat) : Int)) (Z := be4 (t.bs.length : Nat) ++ (dir0 (l.drop (k + 1)) ++ bods (l.take k))) (q := 20 + 16 * k) (by simp [hdr_len, h1, ht4, be4]; omega) rfl
    simp only [List.append_assoc, List.append_nil, List.nil_append] at this ⊢
    exact this
  rw [e1, e2]
  rfl
theorem padN_mod {a b : Nat} (h : a % 4 = 0) : padN (a + b) 4 = padN b 4 := by unfold padN; omega
theorem stN_next {l : List Tb} {k : Nat} (h : ∀ t ∈ l, (sb t.tx).length = 4) (hk : k < l.length) :
    ((stN l k).app (l.getD k Tb.none).bs).app (List.replicate (padN ((stN l k).app (l.getD k Tb.none).bs).bs.length 4) 0) = stB l (k + 1) := by
  have hlen := stN_len h hk
  have e : ((stN l k).app (l.getD k Tb.none).bs).bs.length = lenK l k + (l.getD k Tb.none).bs.length := by
    rw [St.app_ok (s := stN l k) rfl]
    dsimp only
    rw [List.length_append, hlen]
  rw [e, padN_mod (lenK_mod l k), St.app_app, St.app_ok (s := stN l k) rfl, stN, stB]
  dsimp only
  have e2 : bods (l.take (k + 1)) = bods (l.take k) ++ fil (l.getD k Tb.none).bs := by rw [takeT_succ hk, bods_append]; simp [bods]
  rw [e2, fil]
  simp only [List.append_assoc]
theorem stB_end (l : List Tb) : stB l l.length = ⟨fileR l, [], false⟩ := by
  have e : (mkz l.length).drop l.length = [] := List.drop_eq_nil_of_le (by rw [mkz_len]; exact Nat.le_refl _)
  simp [stB, fileR, dir0, e]
theorem lenK_end {l : List Tb} (h : ∀ t ∈ l, (sb t.tx).length = 4) : lenK l l.length = (fileR l).length := by
  rw [fileR_len h, lenK, List.take_length]

theorem Pc.more {w : World} {B : Nat} {G : Nat → Prop} {s : St} (h : Pc w B G s) (o : Obj) : Pc (w.alloc o) B (fun k => G k ∨ k = w.heap.size) s := by
  refine h.guard_new (by simp) (fun k hk _ => (bl1 o).block k hk) ?_
  rintro k (hk | rfl)
  · exact ⟨by have := h.1 k hk; simp; omega, fun _ => hk⟩
  · exact ⟨by simp, fun hlt => absurd hlt (Nat.lt_irrefl _)⟩
theorem Pl.more {w : World} {B : Nat} {G : Nat → Prop} {ws : List Int} (h : Pl w B G ws) (o : Obj) : Pl (w.alloc o) B (fun k => G k ∨ k = w.heap.size) ws := by
  have h' := h.below (bl1 o)
  obtain ⟨h1, h2, h3, n, vm, k1, k2, h4, h5⟩ := h
  obtain ⟨_, _, _, n', vm', k1', k2', h4', h5'⟩ := h'
  have e : vm' = vm ∧ n' = n := by
    have e1 := h4.below (bl1 o)
    rw [Bx4, h4'] at e1
    simp at e1
    exact ⟨e1.2, by omega⟩
  obtain ⟨rfl, rfl⟩ := e
  have hlt := h4.lt
  refine ⟨?_, ?_, h3, n', vm', k1, k2, h4', ?_⟩
  · rintro k (hk | rfl)
    · have := h1 k hk; simp; omega
    · simp
  · rintro (hk | hk)
    · exact h2 hk
    · omega
  · rcases h5 with ⟨e1, e2⟩ | ⟨m, D, e, hG, ho, r1, r2⟩
    · exact .inl ⟨e1, e2⟩
    · have hm := ho.lt
      refine .inr ⟨m, D, e, ?_, ho.alloc o, r1, r2⟩
      rintro (hk | hk)
      · exact hG hk
      · omega

/-- What Pack's loop keeps. -/
def PkI (base : Nat) (u wr : World) (B : Nat) (v : Value) (l : List Tb) (k : Nat) : Prop :=
  ∃ G : Nat → Prop, (∀ j, j < base → G j) ∧ (∀ g, v.ownBlock = some g → G g) ∧ OwnI wr v (mkz l.length) ∧ Below base u wr ∧ ((lenK l k ≤ 1048576 ∧ Pc wr B G (stB l k)) ∨ (1048576 < lenK l k ∧ Pl wr B G ((mkz l.length).drop k)))

end Go.Proofs.Ytijehnfadpoapaa
