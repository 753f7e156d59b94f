/-
  outline.pointsOf: the walk.
  outline.pointsOf: the walk.
  outline.contoursOf: the walk.
  bytes.Equal: the walk.
-/
import Derived.Test.YtokcdkckomoajaaZ13
import Derived.Test.YtokcdkckomoajaaZ7
import Derived.Laws.OwnMore
import Derived.Test.YtokcdkckomoajaaZ8
import Derived.Lib.MinMax
import Derived.Test.YtokcdkckomoajaaZ2
import Derived.Test.YtokcdkckomoajaaZ3
import Derived.Laws.Cover1
namespace Go.Proofs.Ytokcdkckomoajaa
open Go.RowKit Go.Maps
set_option linter.unusedSimpArgs false
set_option linter.unusedVariables false

theorem flat_rep (vs : List Value) : ∀ n : Nat, (List.replicate n vs).flatten.length = n * vs.length := by
  intro n
  induction n with
  | zero => simp
  | succ n ih => rw [List.replicate_succ, List.flatten_cons, List.length_append, ih, Nat.add_mul]; omega
theorem made_flat {z : Array Value} {vs : List Value} (hz : z.toList = vs) (hs : 0 < vs.length) (n : Nat) : (madeCells z (n * vs.length)).toList = (List.replicate n vs).flatten := by
  apply List.ext_getElem?
  intro i
  subst hz
  by_cases hi : i < n * z.toList.length
  · have h5 : ∀ j, j < (List.replicate n z.toList).length → ((List.replicate n z.toList).getD j []).length = z.toList.length := fun j hj => by
      rw [List.length_replicate] at hj
      simp [List.getD, hj]
    have hd : i / z.toList.length < n := (Nat.div_lt_iff_lt_mul hs).2 hi
    have e1 : i / z.toList.length * z.toList.length + i % z.toList.length = i := by rw [Nat.mul_comm]; exact Nat.div_add_mod i _
    have h2 := flat_get h5 (i := i / z.toList.length) (j := i % z.toList.length) (by rw [List.length_replicate]; exact hd) (Nat.mod_lt _ hs)
    rw [e1] at h2
    rw [h2]
    have h3 : (List.replicate n z.toList).getD (i / z.toList.length) [] = z.toList := by rw [List.getD_eq_getElem?_getD, List.getElem?_replicate, if_pos hd]; rfl
    have hm : i % z.size < z.size := Nat.mod_lt _ hs
    have hi' : i < n * z.size := hi
    rw [h3]
    show (madeCells z (n * z.size)).toList[i]? = z.toList[i % z.size]?
    have e2 : (madeCells z (n * z.size)).toList[i]? = some (z[i % z.size]!) := by simp [madeCells, hi']
    rw [e2, List.getElem?_eq_getElem hm, getElem!_pos z _ hm]
    rfl
  · rw [List.getElem?_eq_none (by rw [Array.length_toList, size_madeCells]; omega), List.getElem?_eq_none (by rw [flat_rep]; omega)]
/-- A row that was made: of zeros. -/
theorem Gw.zeros {α : Type} {E : El α} {t : TypeId} {base : Nat} {w : World} {v : Value} {n : Nat} {z : Value} {vs : List Value} (h : w.ownsRow base t E.sz v n (madeCells z.cells (n * E.sz)).toList) (hz : z.cells.toList = vs) (hs : 0 < E.sz) (hr : E.rep (fun k => False ∧ v.ownBlock ≠ some k) w vs E.dfl) : Gw E t base (fun _ => False) w v (List.replicate n E.dfl) := by
  have hl := E.len hr
  refine ⟨List.replicate n vs, by rw [List.length_replicate, List.length_replicate], ?_, fun i hi => ?_⟩
  · rw [List.length_replicate, ← made_flat hz (by omega), hl]
    exact h
  · rw [List.length_replicate] at hi
    have e1 : (List.replicate n vs).getD i [] = vs := by rw [List.getD_eq_getElem?_getD, List.getElem?_replicate, if_pos hi]; rfl
    have e2 : (List.replicate n E.dfl).getD i E.dfl = E.dfl := by rw [List.getD_eq_getElem?_getD, List.getElem?_replicate, if_pos hi]; rfl
    rw [e1, e2]
    exact hr
/-- Points of the call's own: stores into one. -/
theorem Gw.pnSet {base : Nat} {w : World} {gP n c : Nat} {L : List Pn} (h : Gw PnE 43 base (fun _ => False) w (.slice (some ⟨gP, 0, none⟩) n c) L) {k : Nat} (hk : k < L.length) :
    (∀ x, I64 x → Gw PnE 43 base (fun _ => False) (w.setCell ⟨gP, k * 3, none⟩ (.int .i64 x)) (.slice (some ⟨gP, 0, none⟩) n c) (L.set k ⟨x, (L.getD k Pn.none).y, (L.getD k Pn.none).on⟩)) ∧
    (∀ y, I64 y → Gw PnE 43 base (fun _ => False) (w.setCell ⟨gP, k * 3 + 1, none⟩ (.int .i64 y)) (.slice (some ⟨gP, 0, none⟩) n c) (L.set k ⟨(L.getD k Pn.none).x, y, (L.getD k Pn.none).on⟩)) ∧
    (∀ o, Gw PnE 43 base (fun _ => False) (w.setCell ⟨gP, k * 3 + 2, none⟩ (.bool o)) (.slice (some ⟨gP, 0, none⟩) n c) (L.set k ⟨(L.getD k Pn.none).x, (L.getD k Pn.none).y, o⟩)) ∧ (∀ j, w.frozen? ⟨gP, j, none⟩ = false) ∧
    w.cell? ⟨gP, k * 3, none⟩ = some (.int .i64 (L.getD k Pn.none).x) ∧ w.cell? ⟨gP, k * 3 + 1, none⟩ = some (.int .i64 (L.getD k Pn.none).y) ∧ w.cell? ⟨gP, k * 3 + 2, none⟩ = some (.bool (L.getD k Pn.none).on) := by
  have hne : L ≠ [] := fun e => by rw [e] at hk; simp at hk
  obtain ⟨g, cap, ev, _, _, _, hfz, hcells, hset⟩ := h.own hne
  have eg : gP = g := by injection ev with e1 _ _; cases e1; rfl
  subst eg
  obtain ⟨vs, hr, hc⟩ := hcells k hk
  obtain ⟨rfl, hw⟩ := PnE_rep.1 hr
  refine ⟨fun x hx => ?_, fun y hy => ?_, fun o => ?_, hfz, hc 0 (by decide), hc 1 (by decide), hc 2 (by decide)⟩
  · exact hset k 0 (.int .i64 x) _ hk (by decide) (fun S' us hu => by obtain ⟨rfl, h1, h2⟩ := PnE_rep.1 hu; exact PnE_rep.2 ⟨rfl, hx, h2⟩)
  · exact hset k 1 (.int .i64 y) _ hk (by decide) (fun S' us hu => by obtain ⟨rfl, h1, h2⟩ := PnE_rep.1 hu; exact PnE_rep.2 ⟨rfl, h1, hy⟩)
  · exact hset k 2 (.bool o) _ hk (by decide) (fun S' us hu => by obtain ⟨rfl, h1, h2⟩ := PnE_rep.1 hu; exact PnE_rep.2 ⟨rfl, h1, h2⟩)
theorem Sc.other {t : TypeId} {w : World} {g b : Nat} {pa : Option Addr} {pc : Nat} {xs : List Nat} {p : Nat} (h : Sc t w g pa pc xs p) (j : Nat) (z : Value) (h1 : g ≠ b) (h2 : ∀ c o, pa = some ⟨c, o, none⟩ → xs ≠ [] → c ≠ b) : Sc t (w.setCell ⟨b, j, none⟩ z) g pa pc xs p :=
  ⟨h.1.other j z h1, h.2.1.keep' (by simp [World.setCell]) (fun c o _ e hne => Below.heap_setCell _ _ _ _ (fun e2 => h2 c o e hne e2)), h.2.2⟩
theorem Kp.other {g b : Nat} {a w : World} (h : Kp g a w) (j : Nat) (z : Value) (hb : a.heap.size ≤ b) : Kp g a (w.setCell ⟨b, j, none⟩ z) := Keep.setCell h (p := ⟨b, j, none⟩) (fun e => by have h1 : b < a.heap.size := e.1; omega) z
theorem fsK_byt {n : Nat} {s : List Nat} (hs : Byt s) : Byt (fsK n s) := (rdG_byt n n s [] hs Byt.nil).take n
theorem rdG_rest : ∀ (f n : Nat) (s acc : List Nat), ∃ j, (rdG f n s acc).2 = s.drop j := by
  intro f
  induction f with
  | zero => intro n s acc; exact ⟨0, rfl⟩
  | succ f ih =>
    intro n s acc
    rw [rdG]
    split
    · split
      · obtain ⟨j, e⟩ := ih n (s.drop 2) (acc ++ List.replicate (hd1 (s.drop 1) + 1) (hd1 s))
        exact ⟨2 + j, by rw [e, List.drop_drop]⟩
      · obtain ⟨j, e⟩ := ih n (s.drop 1) (acc ++ [hd1 s])
        exact ⟨1 + j, by rw [e, List.drop_drop]⟩
    · exact ⟨0, rfl⟩
theorem fgK_byt {n : Nat} {s : List Nat} (hs : Byt s) : Byt (fgK n s).2 := by
  obtain ⟨j, e⟩ := rdG_rest n n s []
  unfold fgK
  rw [e]
  exact hs.drop j
theorem xsK_byt {n : Nat} {s : List Nat} (hs : Byt s) : Byt (xsK n s).2 := by
  have := rdR_byt (sh := 2) (sm := 16) (fs := fsK n s) (a := 0) (fgK_byt (n := n) hs) (fsK n s).length (Nat.le_refl _)
  rw [rdR_all] at this
  exact this
theorem getD_set' {L : List Pn} {k i : Nat} {q : Pn} (hk : k < L.length) : (L.set k q).getD i Pn.none = if i = k then q else L.getD i Pn.none := by
  by_cases h : i = k
  · subst h; simp [List.getD, hk]
  · rw [if_neg h]; simp [List.getD, List.getElem?_set_ne (fun e => h e.symm)]
def onK (fs : List Nat) (i : Nat) : Bool := decide (fs.getD i 0 % 2 = 1)
/-- Points while they are read. -/
def pXk (X : List Int) (fs : List Nat) (k i : Nat) : Pn := if i < k then ⟨X.getD i 0, 0, onK fs i⟩ else Pn.none
def pYk (X Y : List Int) (fs : List Nat) (k i : Nat) : Pn := ⟨X.getD i 0, if i < k then Y.getD i 0 else 0, onK fs i⟩
theorem pts_all {L : List Pn} {n : Nat} {s : List Nat} (hl : L.length = n) (h : ∀ i, i < n → L.getD i Pn.none = pYk (xsK n s).1 (ysK n s).1 (fsK n s) n i) : L = ptK n s := by
  apply List.ext_getElem (by rw [hl, ptK_len])
  intro i h1 h2
  have e := h i (by omega)
  have e2 := mkP_get (xsK n s).1 (ysK n s).1 (fsK n s) i (by unfold xsK; rw [rdD_len]) (by unfold ysK; rw [rdD_len]) (by rw [fsK_len]; omega)
  rw [List.getD_eq_getElem?_getD, List.getElem?_eq_getElem h1, Option.getD_some] at e
  have e3 : (ptK n s).getD i Pn.none = (ptK n s)[i] := by rw [List.getD_eq_getElem?_getD, List.getElem?_eq_getElem h2, Option.getD_some]
  rw [e, ← e3]
  unfold ptK
  rw [e2]
  unfold pYk onK
  rw [if_pos (by omega)]

end Go.Proofs.Ytokcdkckomoajaa

namespace Go.Proofs.Ytokcdkckomoajaa
open Go.RowKit Go.Maps
set_option linter.unusedSimpArgs false
set_option linter.unusedVariables false

set_option maxHeartbeats 4000000 in
set_option maxRecDepth 100000 in
theorem cpointsOf_any (n : Nat) (g : Nat) (pa : Option Addr) (pc : Nat) (xs : List Nat) (p : Nat) (w : World) (h : Sc 73 w g pa pc xs p) (hp : p ≤ 100000) (hn : n ≤ 80) (hpb : ∀ b o, pa = some ⟨b, o, none⟩ → xs ≠ [] → b < w.heap.size) :
    Calls Try.prog 64 #[pg g, .int .i64 (n : Int)] w fun e w' => ∃ a' c', e = .returned (.slice a' (ptK n (xs.drop p)).length c') ∧ Gr PnE (fun _ => False) w' a' c' (ptK n (xs.drop p)) ∧ (∀ b o, a' = some ⟨b, o, none⟩ → w.heap.size ≤ b ∧ b < w'.heap.size) ∧ Kp g w w' := by
  have hgl : g < w.heap.size := h.bk.lt
  have hby := h.rb.lim.drop p
  have HB1 : Hid (Byt (fgK n (xs.drop p)).2) := fgK_byt hby
  have HB2 : Hid (Byt (xsK n (xs.drop p)).2) := xsK_byt hby
  have HBF : Hid (Byt (fsK n (xs.drop p))) := fsK_byt hby
  have HFL : Hid ((fsK n (xs.drop p)).length = n) := fsK_len _ _
  have HPA : Hid (∀ (L : List Pn), L.length = n → (∀ i, i < n → L.getD i Pn.none = pYk (xsK n (xs.drop p)).1 (ysK n (xs.drop p)).1 (fsK n (xs.drop p)) n i) → L = ptK n (xs.drop p)) := fun L => pts_all
  have HPL : Hid ((ptK n (xs.drop p)).length = n) := ptK_len _ _
  have HXE : Hid (xsK n (xs.drop p) = rdD 2 16 (fsK n (xs.drop p)) (fgK n (xs.drop p)).2 0) := rfl
  have HYE : Hid (ysK n (xs.drop p) = rdD 4 32 (fsK n (xs.drop p)) (xsK n (xs.drop p)).2 0) := rfl
  have htf := ctakeFlags_any n g pa pc xs p w h hp hn hpb
  clear h hby
  generalize ptK n (xs.drop p) = PT at *
  generalize ysK n (xs.drop p) = YY at *
  generalize xsK n (xs.drop p) = XX at *
  generalize fsK n (xs.drop p) = fs at *
  generalize fgK n (xs.drop p) = FG at *
  have HNL : Hid ((nI fs).length = n) := by show _ = _; rw [nI_len]; exact HFL.out
  rw [HNL.out] at htf
  go_enter Try.func64, Try.ntmps64
  go_wp2_with fail
  refine htf.mono ?_
  rintro e u1 ⟨a5, c5, rfl, hri, hbk, q, hS, hq, hqp, hK⟩
  clear htf
  obtain ⟨i0, hi0, hz0, hz1, hz2⟩ := info_parts info_pn
  obtain ⟨u2, hmk, hown, hgrow⟩ := run_makeSlice_full u1 u1.heap.size 37 43 i0 _ 3 Try.underlying37 hi0 hz0 hz1 .i64 .i64 n (by omega) (by rw [hz2]; omega) (by unfold maxLen; omega) (Nat.le_refl _)
  have hG0 : Gw PnE 43 u1.heap.size (fun _ => False) u2 (.slice (some ⟨u1.heap.size, 0, none⟩) n n) (List.replicate n Pn.none) := Gw.zeros hown rfl (by decide) (PnE_rep.2 ⟨rfl, ⟨by decide, by decide⟩, ⟨by decide, by decide⟩⟩)
  have hB2 : Below u1.heap.size u1 u2 := (Below.refl _ _).grown hgrow (Nat.le_refl _) (fun k hk => by cases hk)
  have hS2 := hS.below hB2
  have HRI : Hid (Ri u1 a5 c5 (nI fs)) := hri
  have HBK : Hid (∀ b o, a5 = some ⟨b, o, none⟩ → b < u1.heap.size ∧ b ≠ g) := fun b o e => ⟨(hbk b o e).2, by have := (hbk b o e).1; omega⟩
  have HPB : Hid (∀ b o, pa = some ⟨b, o, none⟩ → xs ≠ [] → b ≠ u1.heap.size) := fun b o e hne => by have := hpb b o e hne; have := hK.size; omega
  have HS2 : Hid (Sc 73 u2 g pa pc xs q) := hS2
  have HK2 : Hid (Kp g u1 u2) := Kp.of hB2
  have HQ : Hid (xs.drop q = FG.2) := hq
  have HG0 : Hid (Gw PnE 43 u1.heap.size (fun _ => False) u2 (.slice (some ⟨u1.heap.size, 0, none⟩) n n) (List.replicate n Pn.none)) := hG0
  have HKW : Hid (Kp g w u1) := hK
  have hgP : g < u1.heap.size := hS.bk.lt
  have HSZ : Hid (w.heap.size ≤ u1.heap.size) := hK.size
  clear hi0 hz0 hz1 hz2 hown hgrow hB2 hS2 hS hri hbk hq hG0 hK hpb
  go_wp2
  clear hmk
  obtain ⟨gP, hgPe⟩ : ∃ gP, u1.heap.size = gP := ⟨_, rfl⟩
  have hgPl : u1.heap.size ≤ gP := by omega
  have hgne : g ≠ gP := by omega
  rw [hgPe] at HG0 HPB ⊢
  have HGP : Hid (w.heap.size ≤ gP ∧ gP < u2.heap.size) := ⟨by have := HSZ.out; omega, by have := (HG0.out.lo (g := gP) rfl).2; exact this⟩
  clear hgPe hgP
  go_loopw [7, 20] (fun xv i wr => ∃ (k q1 : Nat) (x : Int) (L : List Pn), k ≤ n ∧ i = .int .i64 k ∧ xv = .int .i64 x ∧ x = (if k = 0 then 0 else XX.1.getD (k - 1) 0) ∧ L.length = n ∧ (∀ i, i < n → L.getD i Pn.none = pXk XX.1 fs k i) ∧ Gw PnE 43 gP (fun _ => False) wr (.slice (some ⟨gP, 0, none⟩) n n) L ∧ Sc 73 wr g pa pc xs q1 ∧ q1 ≤ q + 2 * k ∧ xs.drop q1 = rdR 2 16 fs FG.2 0 k ∧ Kp g u1 wr) (fun _ i _ => n - (intOf i).toNat)
  case atStart => exact ⟨0, q, 0, List.replicate n Pn.none, Nat.zero_le _, rfl, rfl, rfl, List.length_replicate, (fun i hi => by simp [List.getD, hi, pXk]), HG0.out, HS2.out, by omega, by rw [rdR_zero]; exact HQ.out, HK2.out⟩
  case round =>
    clear HG0 HS2 HK2
    obtain ⟨k, q1, x, L, hk, rfl, rfl, hx, hLl, hL, hG, hS, hq1, hr, hK⟩ := hrel
    by_cases hkn : k < n
    · obtain ⟨b5, o5, ea, hb5, d0⟩ := (Ri.kept HRI.out hK HBK.out).get k (by rw [HNL.out]; exact hkn)
      rw [nI_get] at d0
      have hfb : fs.getD k 0 < 256 := HBF.out.getD k
      obtain ⟨hat1, hat2⟩ := rdD_at 2 16 fs FG.2 0 k (by rw [HFL.out]; exact hkn)
      have hxl := rdD_le (sh := 2) (sm := 16) (fs := fs) HB1.out k (by rw [HFL.out]; exact hkn)
      rw [← HXE.out] at hat1 hxl
      rw [← hr] at hat1 hat2
      have hst := cstepX_any (fs.getD k 0) g pa pc xs q1 wr hS (by omega) hfb
      have hon : onK fs k = decide (fs.getD k 0 % 2 = 1) := rfl
      have hdl := dfR_le (fs.getD k 0) 2 16 (hS.rb.lim.drop q1)
      have hand := and_1n hfb
      subst ea
      obtain ⟨f, hf⟩ : ∃ f, fs.getD k 0 = f := ⟨_, rfl⟩
      rw [hf] at d0 hat1 hat2 hst hon hfb hdl hand
      rw [← hx] at hat1
      have HAT2 : Hid (_) := hat2
      obtain ⟨dd, hdd⟩ : ∃ d, (dfR f 2 16 (xs.drop q1)).1 = d := ⟨_, rfl⟩
      rw [hdd] at hat1 hst hdl
      obtain ⟨x2, hx2⟩ : ∃ z, x + dd = z := ⟨_, rfl⟩
      rw [hx2] at hat1
      have HX2 : Hid (XX.1.getD k 0 = x2) := hat1
      rw [hat1] at hxl
      have hx2b : -9223372036854775808 ≤ x2 ∧ x2 ≤ 9223372036854775807 := by omega
      have hx2i : I64 x2 := hx2b
      have i1 : (0 : Int) ≤ (k : Int) := by omega
      have i2 : (k : Int) < (n : Int) := by omega
      have HL : Hid (∀ i, i < n → L.getD i Pn.none = pXk XX.1 fs k i) := hL
      have HLK : Hid (L.getD k Pn.none = Pn.none) := by show _ = _; rw [hL k hkn]; unfold pXk; rw [if_neg (by omega)]
      have HON : Hid (onK fs k = decide (f % 2 = 1)) := hon
      clear hr hat1 hat2 hx hf hdd hL hxl hon
      go_wp2_with fail
      refine hst.mono ?_
      rintro e v1 ⟨q2, rfl, hS1, hq2, hq2l, hK1⟩
      have hG1 := hG.kp hS.bk (by decide) hK1
      have hK2 := hK.trans hK1
      have HQ2 : Hid (xs.drop q2 = rdR 2 16 fs FG.2 0 (k + 1)) := by show _ = _; rw [hq2, HAT2.out]
      clear hst hS hK hK1 hG hq2 d0
      obtain ⟨sx, _, so, fz, c0, c1, c2⟩ := hG1.pnSet (k := k) (by rw [hLl]; exact hkn)
      have hGa := sx x2 hx2i
      obtain ⟨_, _, so2, fz2, e0, e1, e2⟩ := hGa.pnSet (k := k) (by rw [List.length_set, hLl]; exact hkn)
      rw [HLK.out] at c0 c1 c2
      have hkL : k < L.length := by rw [hLl]; exact hkn
      have hsel : (L.set k ⟨x2, (L.getD k Pn.none).y, (L.getD k Pn.none).on⟩).getD k Pn.none = ⟨x2, 0, false⟩ := by rw [getD_set' hkL, if_pos rfl, HLK.out]; rfl
      rw [hsel] at e0 e1 e2 so2
      dsimp only at so2 e0 e1 e2
      have HFIN : Hid (∀ o : Bool, o = decide (f % 2 = 1) → ∀ i, i < n → ((L.set k ⟨x2, (L.getD k Pn.none).y, (L.getD k Pn.none).on⟩).set k ⟨x2, 0, o⟩).getD i Pn.none = pXk XX.1 fs (k + 1) i) := fun o ho i hi => by
        rw [getD_set' (by rw [List.length_set]; exact hkL), getD_set' hkL]
        by_cases hik : i = k
        · rw [if_pos hik, hik]
          unfold pXk
          rw [if_pos (by omega), HX2.out, HON.out, ho]
        · rw [if_neg hik, if_neg hik, HL.out i hi]
          unfold pXk
          by_cases h1 : i < k
          · rw [if_pos h1, if_pos (by omega)]
          · rw [if_neg h1, if_neg (by omega)]
      have HS2 : Hid (∀ o : Bool, Sc 73 ((v1.setCell ⟨gP, k * 3, none⟩ (.int .i64 x2)).setCell ⟨gP, k * 3 + 2, none⟩ (.bool o)) g pa pc xs q2) := fun o => (hS1.other _ _ hgne HPB.out).other _ _ hgne HPB.out
      have HKK : Hid (∀ o : Bool, Kp g u1 ((v1.setCell ⟨gP, k * 3, none⟩ (.int .i64 x2)).setCell ⟨gP, k * 3 + 2, none⟩ (.bool o))) := fun o => (hK2.other _ _ hgPl).other _ _ hgPl
      have HGG : Hid (_) := so2
      have HLL : Hid (∀ o : Bool, ((L.set k ⟨x2, (L.getD k Pn.none).y, (L.getD k Pn.none).on⟩).set k ⟨x2, 0, o⟩).length = n) := fun o => by rw [List.length_set, List.length_set, hLl]
      have hfz0 := fz (k * 3)
      have hfz2 := fz2 (k * 3 + 2)
      have hfz3 := fz (k * 3 + 2)
      have hXk : x2 = (if k + 1 = 0 then 0 else XX.1.getD (k + 1 - 1) 0) := by rw [if_neg (by omega), Nat.add_sub_cancel, HX2.out]
      have HXK : Hid (_) := hXk
      clear sx so so2 fz fz2 hGa hG1 hS1 hK2 hsel hXk HL HLK hLl hkL HAT2 hdl hx2i
      by_cases ho : f % 2 = 1
      · rw [if_pos ho] at hand
        have HO : Hid (true = decide (f % 2 = 1)) := (decide_eq_true ho).symm
        clear ho
        go_wp2
        go_roundw
        case rel => exact ⟨k + 1, q2, x2, _, by omega, by go_num, rfl, HXK.out, HLL.out true, HFIN.out true HO.out, HGG.out true, HS2.out true, by omega, HQ2.out, HKK.out true⟩
        case measure => simp [intOf]; omega
      · rw [if_neg ho] at hand
        have HO : Hid (false = decide (f % 2 = 1)) := (decide_eq_false ho).symm
        clear ho
        go_wp2
        go_roundw
        case rel => exact ⟨k + 1, q2, x2, _, by omega, by go_num, rfl, HXK.out, HLL.out false, HFIN.out false HO.out, HGG.out false, HS2.out false, by omega, HQ2.out, HKK.out false⟩
        case measure => simp [intOf]; omega
    · obtain rfl : k = n := by omega
      have g1 : ¬ (k : Int) < (k : Int) := by omega
      have hr2 : xs.drop q1 = XX.2 := by
        have := rdR_all 2 16 fs FG.2 0
        rw [HFL.out, ← HXE.out] at this
        rw [hr, this]
      have HR2 : Hid (xs.drop q1 = XX.2) := hr2
      have HL1 : Hid (∀ i, i < k → L.getD i Pn.none = pYk XX.1 YY.1 fs 0 i) := fun i hi => by
        rw [hL i hi]
        unfold pXk pYk
        rw [if_pos hi, if_neg (by omega)]
      have HG1 : Hid (Gw PnE 43 gP (fun _ => False) wr (.slice (some ⟨gP, 0, none⟩) k k) L) := hG
      have HS1 : Hid (Sc 73 wr g pa pc xs q1) := hS
      have HK1 : Hid (Kp g u1 wr) := hK
      have HLL : Hid (L.length = k) := hLl
      clear hx hLl hL hG hS hr hK hr2 hkn hk
      go_wp2
      obtain ⟨n, hnk⟩ : ∃ n, k = n := ⟨_, rfl⟩
      subst hnk
      go_loopw [8, 45] (fun yv i wr => ∃ (j q2 : Nat) (y : Int) (M : List Pn), j ≤ k ∧ i = .int .i64 j ∧ yv = .int .i64 y ∧ y = (if j = 0 then 0 else YY.1.getD (j - 1) 0) ∧ M.length = k ∧ (∀ i, i < k → M.getD i Pn.none = pYk XX.1 YY.1 fs j i) ∧ Gw PnE 43 gP (fun _ => False) wr (.slice (some ⟨gP, 0, none⟩) k k) M ∧ Sc 73 wr g pa pc xs q2 ∧ q2 ≤ q1 + 2 * j ∧ xs.drop q2 = rdR 4 32 fs XX.2 0 j ∧ Kp g u1 wr) (fun _ i _ => k - (intOf i).toNat)
      case atStart => exact ⟨0, q1, 0, L, Nat.zero_le _, rfl, rfl, rfl, HLL.out, HL1.out, HG1.out, HS1.out, by omega, by rw [rdR_zero]; exact HR2.out, HK1.out⟩
      case round =>
        clear HG1 HS1 HK1 HLL HL1
        obtain ⟨j, q2, y, M, hj, rfl, rfl, hy, hMl, hM, hG, hS, hq2, hr, hK⟩ := hrel
        by_cases hjn : j < k
        · obtain ⟨b5, o5, ea, hb5, d0⟩ := (Ri.kept HRI.out hK HBK.out).get j (by rw [HNL.out]; exact hjn)
          rw [nI_get] at d0
          have hfb : fs.getD j 0 < 256 := HBF.out.getD j
          obtain ⟨hat1, hat2⟩ := rdD_at 4 32 fs XX.2 0 j (by rw [HFL.out]; exact hjn)
          have hyl := rdD_le (sh := 4) (sm := 32) (fs := fs) HB2.out j (by rw [HFL.out]; exact hjn)
          rw [← HYE.out] at hat1 hyl
          rw [← hr] at hat1 hat2
          have hst := cstepY_any (fs.getD j 0) g pa pc xs q2 wr hS (by omega) hfb
          have hdl := dfR_le (fs.getD j 0) 4 32 (hS.rb.lim.drop q2)
          subst ea
          obtain ⟨f, hf⟩ : ∃ f, fs.getD j 0 = f := ⟨_, rfl⟩
          rw [hf] at d0 hat1 hat2 hst hfb hdl
          rw [← hy] at hat1
          have HAT2 : Hid (_) := hat2
          obtain ⟨dd, hdd⟩ : ∃ d, (dfR f 4 32 (xs.drop q2)).1 = d := ⟨_, rfl⟩
          rw [hdd] at hat1 hst hdl
          obtain ⟨y2, hy2⟩ : ∃ z, y + dd = z := ⟨_, rfl⟩
          rw [hy2] at hat1
          have HY2 : Hid (YY.1.getD j 0 = y2) := hat1
          rw [hat1] at hyl
          have hy2b : -9223372036854775808 ≤ y2 ∧ y2 ≤ 9223372036854775807 := by omega
          have hy2i : I64 y2 := hy2b
          have i1 : (0 : Int) ≤ (j : Int) := by omega
          have i2 : (j : Int) < (k : Int) := by omega
          have HM : Hid (∀ i, i < k → M.getD i Pn.none = pYk XX.1 YY.1 fs j i) := hM
          clear hr hat1 hat2 hy hf hdd hM hyl
          go_wp2_with fail
          refine hst.mono ?_
          rintro e v1 ⟨q3, rfl, hS1, hq3, hq3l, hK1⟩
          have hG1 := hG.kp hS.bk (by decide) hK1
          have hK2 := hK.trans hK1
          have HQ3 : Hid (xs.drop q3 = rdR 4 32 fs XX.2 0 (j + 1)) := by show _ = _; rw [hq3, HAT2.out]
          clear hst hS hK hK1 hG hq3 d0
          have hjM : j < M.length := by rw [hMl]; exact hjn
          obtain ⟨_, sy, _, fz, c0, c1, c2⟩ := hG1.pnSet (k := j) hjM
          have hGa := sy y2 hy2i
          have HFIN : Hid (∀ i, i < k → (M.set j ⟨(M.getD j Pn.none).x, y2, (M.getD j Pn.none).on⟩).getD i Pn.none = pYk XX.1 YY.1 fs (j + 1) i) := fun i hi => by
            rw [getD_set' hjM]
            by_cases hij : i = j
            · rw [if_pos hij, hij, HM.out j hjn]
              simp only [pYk, if_pos (show j < j + 1 by omega), HY2.out]
            · rw [if_neg hij, HM.out i hi]
              unfold pYk
              by_cases h1 : i < j
              · rw [if_pos h1, if_pos (by omega)]
              · rw [if_neg h1, if_neg (by omega)]
          have hS3 := hS1.other (j * 3 + 1) (.int .i64 y2) hgne HPB.out
          have hK3 := hK2.other (j * 3 + 1) (.int .i64 y2) hgPl
          have HLL : Hid ((M.set j ⟨(M.getD j Pn.none).x, y2, (M.getD j Pn.none).on⟩).length = k) := by show _ = _; rw [List.length_set, hMl]
          have hfz1 := fz (j * 3 + 1)
          have hYk : y2 = (if j + 1 = 0 then 0 else YY.1.getD (j + 1 - 1) 0) := by rw [if_neg (by omega), Nat.add_sub_cancel, HY2.out]
          have HYK : Hid (_) := hYk
          have HGA : Hid (_) := hGa
          have HS3 : Hid (_) := hS3
          have HK3 : Hid (_) := hK3
          clear sy fz hGa hG1 hS1 hK2 hYk HM hMl hjM HAT2 hdl hy2i hS3 hK3
          go_wp2
          go_roundw
          case rel => exact ⟨j + 1, q3, y2, _, by omega, by go_num, rfl, HYK.out, HLL.out, HFIN.out, HGA.out, HS3.out, by omega, HQ3.out, HK3.out⟩
          case measure => simp [intOf]; omega
        · obtain rfl : j = k := by omega
          have g2 : ¬ (j : Int) < (j : Int) := by omega
          have hME := HPA.out M hMl hM
          subst hME
          obtain ⟨a9, c9, ev, hgr, hb9⟩ := hG.slice
          have HGR : Hid (Gr PnE (fun _ => False) wr (some ⟨gP, 0, none⟩) j M) := by
            injection ev with e1 e2 e3
            subst e1 e3
            exact hgr
          have HSL : Hid (∀ b o, (some ⟨gP, 0, none⟩ : Option Addr) = some ⟨b, o, none⟩ → w.heap.size ≤ b ∧ b < wr.heap.size) := fun b o e => by
            cases e
            exact ⟨HGP.out.1, (hG.lo (g := gP) rfl).2⟩
          have HKF : Hid (Kp g w wr) := HKW.out.trans hK
          clear hG hgr hb9 ev hS hr hy hM
          go_wp2
          go_ret
          exact ⟨_, j, by first | rfl | rw [HPL.out]; rfl, HGR.out, HSL.out, HKF.out⟩

end Go.Proofs.Ytokcdkckomoajaa

namespace Go.Proofs.Ytokcdkckomoajaa
open Go.RowKit Go.Maps
set_option linter.unusedSimpArgs false
set_option linter.unusedVariables false

theorem numK_zero (L : Nat) (es : List Nat) (p : Nat) : numK L es p 0 = p := by cases es <;> rfl
def cntF (E : List Nat) (k : Nat) : Nat := if k = 0 then 0 else min (E.getD (k - 1) 0 + 1) 80
theorem cntF_le (E : List Nat) (k : Nat) : cntF E k ≤ 80 := by unfold cntF; split <;> omega
theorem rdE_at {m : Nat} {xs : List Nat} {p k : Nat} (hk : k < m) : (rdE m (xs.drop p)).1.getD k 0 = hd2 (xs.drop (p + 2 * k)) := by rw [rdE_get m _ k hk, List.drop_drop]
theorem nI_snoc {E : List Nat} {k e : Nat} (hk : k < E.length) (he : E.getD k 0 = e) : nI (E.take (k + 1)) = nI (E.take k) ++ [(e : Int)] := by rw [take_snoc (d := 0) hk, nI_app, he]; rfl
theorem drop_take_snoc {l : List Pn} {a j : Nat} {q : Pn} (h : a + j < l.length) (hq : l.getD (a + j) Pn.none = q) : (l.drop a).take (j + 1) = (l.drop a).take j ++ [q] := by
  rw [take_snoc (d := Pn.none) (by rw [List.length_drop]; omega)]
  congr 2
  rw [← hq]
  simp [List.getD]
theorem Gw.widen {α : Type} {E : El α} {t : TypeId} {base : Nat} {S S' : Nat → Prop} {w : World} {v : Value} {l : List α} (h : Gw E t base S w v l) (hS : ∀ k, S k → k < w.heap.size → S' k) : Gw E t base S' w v l :=
  h.stay (Nat.le_refl _) (fun k h1 _ h2 => ⟨hS k h1 h2, rfl⟩) (fun _ _ => rfl)

set_option maxHeartbeats 4000000 in
set_option maxRecDepth 100000 in
theorem ccontoursOf_any (n : Int) (m : Nat) (g : Nat) (pa : Option Addr) (pc : Nat) (xs : List Nat) (p : Nat) (w : World) (h : Sc 73 w g pa pc xs p) (hp : p ≤ 1000) (hm : (min n 10).toNat = m) (hpb : ∀ b o, pa = some ⟨b, o, none⟩ → xs ≠ [] → b < w.heap.size) (hn : I64 n) :
    Calls Try.prog 54 #[pg g, .int .i64 n] w fun e w' => ∃ a' c', e = .returned (.slice a' (conK m (xs.drop p)).length c') ∧ Gr PnE.row (fun b => w.heap.size ≤ b) w' a' c' (conK m (xs.drop p)) ∧ (∀ b o, a' = some ⟨b, o, none⟩ → w.heap.size ≤ b) ∧ Kp g w w' := by
  have hm10 : m ≤ 10 := by omega
  have hn1 : -9223372036854775808 ≤ n ∧ n ≤ 9223372036854775807 := hn
  obtain ⟨mz, hmz⟩ : ∃ mz : Int, min n 10 = mz := ⟨_, rfl⟩
  have hmz1 : mz.toNat = m := by rw [← hmz]; exact hm
  have hgl : g < w.heap.size := h.bk.lt
  have HPB : Hid (∀ b o, pa = some ⟨b, o, none⟩ → xs ≠ [] → b < w.heap.size) := hpb
  have HCO : Hid (conK m (xs.drop p) = cutK (rdE m (xs.drop p)).1 0 (ptK (cntF (rdE m (xs.drop p)).1 m) (xs.drop (p + 2 * m)))) := by
    show _ = _
    unfold conK
    rw [rdE_rest, List.drop_drop]
    rfl
  have HEL : Hid ((rdE m (xs.drop p)).1.length = m) := rdE_len _ _
  have HEG : Hid (∀ k, k < m → (rdE m (xs.drop p)).1.getD k 0 = hd2 (xs.drop (p + 2 * k))) := fun k hk => rdE_at hk
  generalize conK m (xs.drop p) = C at *
  generalize (rdE m (xs.drop p)).1 = E at *
  clear hm hpb
  go_enter Try.func54, Try.ntmps54
  go_wp2
  clear hmz
  go_loopw [5, 6, 16] (fun v cv i wr => ∃ k : Nat, k ≤ m ∧ i = .int .i64 k ∧ cv = .int .i64 (cntF E k : Int) ∧ v.ownBlock ≠ some g ∧ Gi w.heap.size wr v (nI (E.take k)) ∧ Sc 73 wr g pa pc xs (p + 2 * k) ∧ Kp g w wr) (fun _ _ i _ => m - (intOf i).toNat)
  case atStart => exact ⟨0, Nat.zero_le _, rfl, rfl, (fun e => by cases e), Gi.nil _ _, h, Kp.refl _ _⟩
  case round =>
    clear h
    obtain ⟨k, hk, rfl, rfl, hvg, hG, hS, hK⟩ := hrel
    obtain ⟨a5, c5, rfl, hri, hbk⟩ := hG.slice
    by_cases hkm : k < m
    · have g1 : (k : Int) < mz := by omega
      have hu := cSu16_any g pa pc xs (p + 2 * k) wr hS (by omega)
      have heq := HEG.out k hkm
      have hlt := hd2_lt (hS.rb.lim.drop (p + 2 * k))
      rw [← heq] at hu hlt
      obtain ⟨e, he⟩ : ∃ e, E.getD k 0 = e := ⟨_, rfl⟩
      have HSN : Hid (_) := nI_snoc (by rw [HEL.out]; exact hkm) he
      have HCN : Hid (cntF E (k + 1) = min (e + 1) 80) := by show _ = _; unfold cntF; rw [if_neg (by omega), Nat.add_sub_cancel, he]
      rw [he] at hu hlt
      have hll : (nI (E.take k)).length + 1 ≤ 1000000 := by rw [nI_len, List.length_take]; omega
      clear heq he hri hbk
      generalize nI (E.take k) = L at *
      generalize cntF E k = cq at *
      go_wp2_with fail
      refine hu.mono ?_
      rintro e' u1 ⟨rfl, hS1, hK1⟩
      have hG1 := hG.kp hS.bk (by decide) hK1
      have hK2 := hK.trans hK1
      clear hu hS hK hK1 hG
      have bp := bl1 (w := u1) (.cells #[.int .i64 (e : Int)] 3)
      have hGb := hG1.below bp
      have hSb := hS1.below bp
      have hN := Bk.new 3 u1 [.int .i64 (e : Int)]
      have n0 := hN.cell 0 (by simp)
      have hgl2 : u1.heap.size < (u1.alloc (.cells #[.int .i64 (e : Int)] 3)).heap.size := hN.lt
      have hKb : Kp g w (u1.alloc (.cells #[.int .i64 (e : Int)] 3)) := hK2.alloc _
      have hbs := hKb.size
      have hei : I64 (e : Int) := ⟨by omega, by omega⟩
      obtain ⟨cz, hcz⟩ : ∃ c : Nat, min ((e : Int) + 1) 80 = (c : Int) := ⟨min (e + 1) 80, by omega⟩
      have hcz2 : min (e + 1) 80 = cz := by omega
      rw [hcz2] at HCN
      clear hN bp hG1 hK2 hcz2
      go_wp2_with (at_builtin; refine wpList_append_gi rfl _ _ rfl w.heap.size _ L rfl hGb u1.heap.size (e : Int) rfl hgl2 n0 hei hll hbs ?_)
      intro v9 w9 hG9 hgrow hown
      have hS9 := hSb.grown hgrow hvg (fun b o e' hne e2 => by
        have := (hGb.lo e2).1
        have := HPB.out b o e' hne
        omega)
      have hK9 : Kp g w w9 := hKb.grown hgrow (fun k hk => (hGb.lo hk).1)
      have HV9 : Hid (v9.ownBlock ≠ some g) := by
        rcases hown with ho | ho
        · show _ ≠ _
          rw [ho]
          exact hvg
        · show _ ≠ _
          rw [ho]
          intro e'
          have h1 := Option.some.inj e'
          have h2 := hS1.bk.lt
          (try simp at h1)
          omega
      rw [← HSN.out] at hG9
      clear hgrow hown hGb hSb n0 hgl2 hKb hbs hvg hll HSN hS1
      go_wp2
      go_roundw
      case rel => exact ⟨k + 1, by omega, by go_num, by rw [HCN.out], HV9.out, hG9, by rw [show p + 2 * (k + 1) = p + 2 * k + 2 by omega]; exact hS9, hK9⟩
      case measure => simp [intOf]; omega
    · obtain rfl : k = m := by omega
      have g1 : ¬ (k : Int) < mz := by omega
      have hcl := cntF_le E k
      have hpo := cpointsOf_any (cntF E k) g pa pc xs (p + 2 * k) wr hS (by omega) hcl (fun b o e hne => Nat.lt_of_lt_of_le (HPB.out b o e hne) hK.size)
      have hpl := ptK_len (cntF E k) (xs.drop (p + 2 * k))
      rw [List.take_of_length_le (by rw [HEL.out]; exact Nat.le_refl _)] at hri hG ⊢
      rw [hpl] at hpo
      have HPL : Hid (_) := hpl
      generalize ptK (cntF E k) (xs.drop (p + 2 * k)) = PT at *
      generalize cntF E k = cnt at *
      have HNL : Hid ((nI E).length = k) := by show _ = _; rw [nI_len]; exact HEL.out
      rw [HNL.out]
      clear hpl hvg hG
      go_wp2_with fail
      refine hpo.mono ?_
      rintro e u3 ⟨a8, c8, rfl, hpts, hbk8, hK8⟩
      have HRI : Hid (Ri u3 a5 c5 (nI E)) := Ri.kept hri hK8 (fun b o e => ⟨(hbk b o e).2, by have := (hbk b o e).1; omega⟩)
      have HPT : Hid (Gr PnE (fun _ => False) u3 a8 c8 PT) := hpts
      have HKK : Hid (Kp g w u3) := hK.trans hK8
      have HSZ : Hid (w.heap.size ≤ u3.heap.size) := HKK.out.size
      clear hpo hpts hbk8 hK8 hri hbk hS hK g1 hk hkm hmz1
      go_wp2
      go_loopw [9, 10, 33] (fun v nv i wr => ∃ r : Nat, r ≤ k ∧ i = .int .i64 r ∧ nv = .int .i64 (numK cnt E 0 r : Int) ∧ Gw PnE.row 37 u3.heap.size (fun b => u3.heap.size ≤ b ∧ b < wr.heap.size) wr v ((cutK E 0 PT).take r) ∧ Below u3.heap.size u3 wr) (fun _ _ i _ => k - (intOf i).toNat)
      case atStart => exact ⟨0, Nat.zero_le _, rfl, by rw [numK_zero]; rfl, Gw.nil _ _ _ _ _, Below.refl _ _⟩
      case round =>
        obtain ⟨r, hr, rfl, rfl, hG, hB⟩ := hrel
        obtain ⟨a9, c9, rfl, hgr9, hb9⟩ := hG.slice
        have HCL : Hid ((cutK E 0 PT).length = k) := by show _ = _; rw [cutK_len]; exact HEL.out
        by_cases hrk : r < k
        · obtain ⟨b5, o5, ea, hb5, d0⟩ := HRI.out.at hB r (by rw [HNL.out]; exact hrk)
          rw [nI_get] at d0
          subst ea
          have hnl := numK_le (L := cnt) E 0 r (Nat.zero_le _)
          obtain ⟨hat1, hat2⟩ := cutK_at E 0 PT r (by rw [HEL.out]; exact hrk)
          rw [HPL.out] at hat1 hat2
          have hll : ((cutK E 0 PT).take r).length + 1 ≤ 1000000 := by rw [List.length_take]; omega
          have HSN : Hid (_) := take_snoc (m := cutK E 0 PT) (d := []) (k := r) (by rw [HCL.out]; exact hrk)
          rw [hat1] at HSN
          generalize E.getD r 0 = ed at *
          obtain ⟨nm, hnm⟩ : ∃ z, numK cnt E 0 r = z := ⟨_, rfl⟩
          rw [hnm] at hnl hat2 HSN ⊢
          obtain ⟨lim, hlim⟩ : ∃ z, min (ed + 1) cnt = z := ⟨_, rfl⟩
          rw [hlim] at hat2 HSN
          have hlim1 : (lim = ed + 1 ∧ ed + 1 ≤ cnt) ∨ (lim = cnt ∧ cnt ≤ ed + 1) := by omega
          have HAT2 : Hid (numK cnt E 0 (r + 1) = max nm lim) := hat2
          generalize (cutK E 0 PT).take r = L at *
          have i1 : (0 : Int) ≤ (r : Int) := by omega
          have i2 : (r : Int) < (k : Int) := by omega
          have HG : Hid (Gw PnE.row 37 u3.heap.size (fun b => u3.heap.size ≤ b ∧ b < wr.heap.size) wr (.slice a9 L.length c9) L) := hG
          have HB : Hid (Below u3.heap.size u3 wr) := hB
          obtain ⟨wo, rfl⟩ : ∃ wo, wo = wr := ⟨_, rfl⟩
          clear hat1 hat2 hnm hlim hgr9 hb9 hG
          go_wp2
          clear d0 hB
          go_loopw [10, 13] (fun nv v wr => ∃ j : Nat, nm + j ≤ max nm lim ∧ nv = .int .i64 ((nm + j : Nat) : Int) ∧ Gw PnE 43 wo.heap.size (fun _ => False) wr v ((PT.drop nm).take j) ∧ Below wo.heap.size wo wr) (fun nv _ _ => max nm lim - (intOf nv).toNat)
          case atStart => exact ⟨0, by omega, rfl, Gw.nil _ _ _ _ _, Below.refl _ _⟩
          case round =>
            obtain ⟨j, hj, rfl, hV, hBo⟩ := hrel
            obtain ⟨a13, c13, rfl, hgr13, hb13⟩ := hV.slice
            obtain ⟨nj, hnj⟩ : ∃ z, nm + j = z := ⟨_, rfl⟩
            have HNJ : Hid (nm + j = nj) := hnj
            rw [hnj] at hj ⊢
            by_cases hgo : nj < lim
            · have hB3 := HB.out.trans (hBo.mono HB.out.size)
              obtain ⟨b8, o8, eb, hb8, ⟨w0, w1⟩, q0, q1, q2⟩ := HPT.out.pn hB3 nj (by rw [HPL.out]; omega)
              subst eb
              have HDT : Hid (_) := drop_take_snoc (l := PT) (a := nm) (j := j) (by rw [HPL.out, hnj]; omega) (by rw [hnj])
              generalize PT.getD nj Pn.none = q at *
              obtain ⟨x, y, on⟩ := q
              dsimp only at w0 w1 q0 q1 q2
              have hl13 : ((PT.drop nm).take j).length + 1 ≤ 1000000 := by rw [List.length_take, List.length_drop, HPL.out]; omega
              have g2 : decide (nj ≤ ed) = true := decide_eq_true (by omega)
              have g3 : decide (nj < cnt) = true := decide_eq_true (by omega)
              have j1 : (0 : Int) ≤ (nj : Int) := by omega
              have j2 : (nj : Int) < (cnt : Int) := by omega
              have bp := bl1 (w := wr) (.cells #[.int .i64 x, .int .i64 y, .bool on] 43)
              have hVb := hV.below bp
              have hone : Gr PnE (fun k => False ∧ (Value.slice a13 ((PT.drop nm).take j).length c13).ownBlock ≠ some k) (wr.alloc (.cells #[.int .i64 x, .int .i64 y, .bool on] 43)) (some ⟨wr.heap.size, 0, none⟩) 1 [⟨x, y, on⟩] := Gr.one_new (E := PnE) (pnC ⟨x, y, on⟩) 43 (PnE_rep.2 ⟨rfl, w0, w1⟩)
              have hBb := hBo.trans (bp.mono hBo.size)
              have hbs := hBb.size
              clear hnj bp hgr13 hb13 hB3 hlim1
              generalize (PT.drop nm).take j = K1 at *
              go_wp2_with (at_builtin; refine wpList_append_el 37 43 Try.underlying37 info_pn rfl (by decide) (by decide) rfl _ _ rfl wo.heap.size (fun _ => False) _ K1 rfl hVb (some ⟨wr.heap.size, 0, none⟩) 1 1 [⟨x, y, on⟩] rfl rfl hone hl13 hbs ?_)
              intro v9 w9 hT9 hgrow _
              have hB9 : Below wo.heap.size wo w9 := hBb.grown hgrow hbs (fun k hk => (hVb.lo hk).1)
              rw [← HDT.out] at hT9
              clear hgrow hVb hone hbs hl13 HDT hBb
              go_wp2
              go_roundw
              case rel => exact ⟨j + 1, by have := HNJ.out; omega, by rw [← HNJ.out]; go_num, hT9, hB9⟩
              case measure => have := HNJ.out; simp [intOf]; omega
            · have HMX : Hid (nj = max nm lim) := by show _ = _; omega
              have HJ : Hid (j = lim - nm) := by show _ = _; omega
              have hg2 : (decide (nj ≤ ed) = true ∧ decide (nj < cnt) = false) ∨ decide (nj ≤ ed) = false := by
                by_cases h1 : nj ≤ ed
                · exact .inl ⟨decide_eq_true h1, decide_eq_false (by omega)⟩
                · exact .inr (decide_eq_false h1)
              have hcb : ((PT.drop nm).take j).length ≤ 140737488351232 := by rw [List.length_take, List.length_drop, HPL.out]; omega
              rw [← HJ.out] at HSN
              generalize (PT.drop nm).take j = K1 at *
              have bp := bl1 (w := wr) (.cells #[.slice a13 K1.length c13] 37)
              have hG1 := (HG.out.below hBo).below bp
              have hG2 : Gw PnE.row 37 u3.heap.size (fun b => u3.heap.size ≤ b ∧ b < (wr.alloc (.cells #[.slice a13 K1.length c13] 37)).heap.size) (wr.alloc (.cells #[.slice a13 K1.length c13] 37)) (.slice a9 L.length c9) L := hG1.widen (fun k h1 h2 => ⟨h1.1, h2⟩)
              have hVb := hV.below bp
              have hgrb := hgr13.below bp
              have hrep : PnE.row.rep (fun k => (u3.heap.size ≤ k ∧ k < (wr.alloc (.cells #[.slice a13 K1.length c13] 37)).heap.size) ∧ (Value.slice a9 L.length c9).ownBlock ≠ some k) (wr.alloc (.cells #[.slice a13 K1.length c13] 37)) [.slice a13 K1.length c13] K1 := by
                refine ⟨a13, c13, rfl, fun b o e hne => ?_, hgrb.anyP, hcb⟩
                have hbb := hb13 b o e
                have hsz := HB.out.size
                have hsz2 := bp.size
                refine ⟨⟨by omega, by omega⟩, fun e2 => ?_⟩
                exact hG2.ne hVb (by decide) e2 (by rw [e]; rfl)
              have hN := Bk.new 37 wr [.slice a13 K1.length c13]
              have hone := Gr.one (E := PnE.row) hrep hN.lt (fun jj hjj => by
                obtain rfl : jj = 0 := by have h1 : jj < 1 := hjj; omega
                exact hN.cell 0 (by simp))
              have hBb := (HB.out.trans (hBo.mono HB.out.size)).trans (bp.mono (Nat.le_trans HB.out.size hBo.size))
              have hbs := hBb.size
              have g4 : ((nj : Nat) : Int) = ((nj : Nat) : Int) := rfl
              have HNN : Hid (numK cnt E 0 (r + 1) = nj) := by show _ = _; rw [HAT2.out, ← HMX.out]
              clear hnj HNJ hgr13 hb13 hlim1 hj hG1 hVb hgrb hrep hN bp hV HJ HMX HG hgo g4
              rcases hg2 with ⟨g2, g3⟩ | g2
              · go_wp2_with (at_builtin; refine wpList_append_el 22 37 Try.underlying22 info_pns rfl Nat.one_pos (by decide) rfl _ _ rfl u3.heap.size _ _ L rfl hG2 (some ⟨wr.heap.size, 0, none⟩) 1 1 [K1] rfl rfl hone hll hbs ?_)
                intro v9 w9 hT9 hgrow _
                have hB9 : Below u3.heap.size u3 w9 := hBb.grown hgrow hbs (fun k hk => (hG2.lo hk).1)
                have hT9 := hT9.widen (S' := fun b => u3.heap.size ≤ b ∧ b < w9.heap.size) (fun k h1 h2 => ⟨h1.1, h2⟩)
                rw [← HSN.out] at hT9
                clear hgrow hG2 hone hbs hll HSN hBb
                go_wp2
                go_roundw
                case rel => exact ⟨r + 1, by omega, by go_num, by rw [HNN.out], hT9, hB9⟩
                case measure => simp [intOf]; omega
              · go_wp2_with (at_builtin; refine wpList_append_el 22 37 Try.underlying22 info_pns rfl Nat.one_pos (by decide) rfl _ _ rfl u3.heap.size _ _ L rfl hG2 (some ⟨wr.heap.size, 0, none⟩) 1 1 [K1] rfl rfl hone hll hbs ?_)
                intro v9 w9 hT9 hgrow _
                have hB9 : Below u3.heap.size u3 w9 := hBb.grown hgrow hbs (fun k hk => (hG2.lo hk).1)
                have hT9 := hT9.widen (S' := fun b => u3.heap.size ≤ b ∧ b < w9.heap.size) (fun k h1 h2 => ⟨h1.1, h2⟩)
                rw [← HSN.out] at hT9
                clear hgrow hG2 hone hbs hll HSN hBb
                go_wp2
                go_roundw
                case rel => exact ⟨r + 1, by omega, by go_num, by rw [HNN.out], hT9, hB9⟩
                case measure => simp [intOf]; omega
        · obtain rfl : r = k := by omega
          have g2 : ¬ (r : Int) < (r : Int) := by omega
          rw [List.take_of_length_le (by rw [HCL.out]; exact Nat.le_refl _)] at hgr9 ⊢
          rw [← HCO.out] at hgr9 ⊢
          have HGR : Hid (Gr PnE.row (fun b => w.heap.size ≤ b) wr a9 c9 C) := hgr9.wide (fun k h1 _ => Nat.le_trans HSZ.out h1.1)
          have HB9 : Hid (∀ b o, a9 = some ⟨b, o, none⟩ → w.heap.size ≤ b) := fun b o e => Nat.le_trans HSZ.out (hb9 b o e).1
          have HKF : Hid (Kp g w wr) := HKK.out.trans (Kp.of hB)
          clear hG hgr9 hb9
          go_wp2
          go_ret
          exact ⟨a9, c9, rfl, HGR.out, HB9.out, HKF.out⟩

end Go.Proofs.Ytokcdkckomoajaa

namespace Go.Proofs.Ytokcdkckomoajaa
open Go.RowKit Go.Maps
set_option linter.unusedSimpArgs false
set_option linter.unusedVariables false

theorem teq_no {a b : ByteArray} (h : a ≠ b) : (a.toList == b.toList) = false := beq_eq_false_iff_ne.2 (fun e => h (toList_inj e))
theorem Rb.strA {w : World} {a : Option Addr} {cap : Nat} {xs : List Nat} (h : Rb w a cap xs) :
    (convert 26 9 (.slice a xs.length cap)).run Try.prog w = .ok (.string (str8 xs)) w := by
  by_cases hx : xs = []
  · subst hx
    have e : (convert 26 9 (.slice a 0 cap)).run Try.prog w = .ok (.string ByteArray.empty) w := by
      rw [run_convert_bytes_string w 26 9 5 _ 0 cap Try.underlying26 Try.underlying5 Try.underlying9]
      cases a <;> simp [Conv.bytesToString, loadCells, loadCellsFrom]
    exact e
  · exact h.str hx
theorem str8_inj {xs ys : List Nat} (hx : Byt xs) (hy : Byt ys) (e : str8 xs = str8 ys) : xs = ys := by
  rw [← sb_str8 hx, e, sb_str8 hy]

set_option maxHeartbeats 1000000 in
set_option maxRecDepth 100000 in
theorem equal_any (a b : Option Addr) (ca cb : Nat) (xs ys : List Nat) (w : World) (ha : Rb w a ca xs) (hb : Rb w b cb ys) :
    Calls Try.prog 37 #[.slice a xs.length ca, .slice b ys.length cb] w fun e w' => e = .returned (.bool (decide (xs = ys))) ∧ w = w' := by
  have h1 := ha.strA
  have h2 := hb.strA
  by_cases he : xs = ys
  · have hd := decide_eq_true he
    have hq : (str8 xs).toList == (str8 ys).toList := by rw [he]; simp
    have HD : Hid (decide (xs = ys) = true) := hd
    clear hd he
    go_enter Try.func37, Try.ntmps37
    go_wp2
    go_ret
    exact ⟨rt_bool (by rw [HD.out]), rfl⟩
  · have hd := decide_eq_false he
    have hq := teq_no (fun e => he (str8_inj ha.lim hb.lim e))
    have HD : Hid (decide (xs = ys) = false) := hd
    clear hd he
    go_enter Try.func37, Try.ntmps37
    go_wp2
    go_ret
    exact ⟨rt_bool (by rw [HD.out]), rfl⟩

end Go.Proofs.Ytokcdkckomoajaa
