/-
  foundryref21.Formed: the walk.
  foundryref21.names: the walk.
  foundryref19.Next, Back: the walks.
  foundryref19.Meet: the walk.
-/
import Derived.Test.YtchdoakoelfenaaGreatZX25
import Derived.Test.YtchdoakoelfenaaGreatZX23
import Derived.Test.YtchdoakoelfenaaGreatZX5
import Derived.Test.YtchdoakoelfenaaGreatZX20
import Derived.Test.YtchdoakoelfenaaGreatZX21
import Derived.BigQuiet
import Derived.Deep.QuietTactic
import Derived.Outline
namespace Go.Proofs.YtchdoakoelfenaaGreat
open Go.RowKit Go.Maps
set_option linter.unusedSimpArgs false
set_option linter.unusedVariables false

set_option maxHeartbeats 8000000 in
set_option maxRecDepth 100000 in
theorem sformP21_any (S : Nat → Prop) (a : Option Addr) (ca : Nat) (l : List Lk) (ga : Option Addr) (gc : Nat) (ma : Option Addr) (mc : Nat) (s : Sr) (g : Int) (w : World) (hl : Gr LkE S w a ca l) (k2 : s.rw.length ≤ 9223372036854775807) (hg : I64 g) :
    Calls Tryz.prog 10 #[.slice a l.length ca, .agg #[.slice ga s.rg.length gc, .slice ma s.rw.length mc], .int .i64 g] w fun e w' => e = .returned (.bool (foM20 (fiS s) l g)) ∧ Below w.heap.size w w' := by
  have kl := hl.lenB
  obtain ⟨W, hW, X2, hbW⟩ : ∃ W, W = w.alloc (.cells #[.slice ga s.rg.length gc, .slice ma s.rw.length mc] 29) ∧ Bk 29 W w.heap.size [.slice ga s.rg.length gc, .slice ma s.rw.length mc] ∧ Below w.heap.size w W := ⟨_, rfl, Bk.new _ _ _, bl1 _⟩
  by_cases hn1 : 10 < l.length
  · have HF : Hid (foM20 (fiS s) l g = false) := foM20_long hn1
    have g2 : (10 : Int) < (l.length : Int) := by omega
    clear hn1 hl X2
    go_enter Tryz.func10, Tryz.ntmps10
    go_upto_region 1 with fail
    rw [← hW]
    clear hW
    go_wp2
    go_ret
    exact ⟨rt_bool HF.out.symm, hbW⟩
  have g2 : ¬ (10 : Int) < (l.length : Int) := by omega
  have HL : Hid (Gr LkE S W a ca l) := hl.below hbW
  have HX2 : Hid (Bk 29 W w.heap.size [.slice ga s.rg.length gc, .slice ma s.rw.length mc]) := X2
  have HBW : Hid (Below w.heap.size w W) := hbW
  obtain ⟨R, hR⟩ : ∃ R, foM20 (fiS s) l g = R := ⟨_, rfl⟩
  have HBD : Hid (∀ k, k < l.length → plF (fiS s) g (l.getD k Lk.none) = false → R = false) := fun k hk h => by rw [← hR]; exact foM20_bad hk h
  have HYS : Hid ((∀ k, k < l.length → plF (fiS s) g (l.getD k Lk.none) = true) → R = true) := fun h => by rw [← hR]; exact foM20_iff.2 ⟨by omega, h⟩
  rw [hR]
  clear hR hn1 hl
  go_enter Tryz.func10, Tryz.ntmps10
  go_upto_region 1 with fail
  rw [← hW]
  clear hW X2 hbW
  go_wp2
  clear g2
  go_loopw [7] (fun i wr => ∃ k : Nat, k ≤ l.length ∧ i = .int .i64 k ∧ Hid (∀ j, j < k → plF (fiS s) g (l.getD j Lk.none) = true) ∧ Below W.heap.size W wr) (fun i _ => l.length - (intOf i).toNat)
  case atStart => exact ⟨0, Nat.zero_le _, rfl, (fun j hj => by omega), Below.refl _ _⟩
  case round =>
    obtain ⟨k, hk, rfl, HOK, hB⟩ := hrel
    by_cases hkn : k < l.length
    · obtain ⟨b, off, ra, rc, ea, hkd, hall⟩ := HL.out.lkAll k hkn
      have HBad : Hid (plF (fiS s) g (l.getD k Lk.none) = false → R = false) := HBD.out k hkn
      have HOK2 : Hid (plF (fiS s) g (l.getD k Lk.none) = true → ∀ j, j < k + 1 → plF (fiS s) g (l.getD j Lk.none) = true) := fun h j hj => by
        rcases Nat.lt_or_ge j k with h1 | h1
        · exact HOK.out j h1
        · rw [show j = k by omega]; exact h
      obtain ⟨x, hx⟩ : ∃ x, l.getD k Lk.none = x := ⟨_, rfl⟩
      rw [hx] at hkd hall HBad HOK2
      clear hx HOK
      obtain ⟨kd, sk, rs⟩ := x
      dsimp only at hkd hall
      have HALL : Hid (∀ u, Below W.heap.size W u → Gr RuE S u ra rc rs ∧ u.cell? ⟨b, off + k * 3, none⟩ = some (.int .i64 kd) ∧ u.cell? ⟨b, off + k * 3 + 1, none⟩ = some (.bool sk) ∧ u.cell? ⟨b, off + k * 3 + 2, none⟩ = some (.slice ra rs.length rc)) := hall
      obtain ⟨hrs, d0, d1, d2⟩ := hall wr hB
      have kr := hrs.lenB
      have i1 : (0 : Int) ≤ (k : Int) := by omega
      have i2 : (k : Int) < (l.length : Int) := by omega
      subst ea
      have hpu0 := smoves21_any kd wr hkd
      clear hrs hall
      cases hp : mvB kd with
      | false =>
        rw [hp] at hpu0
        have HOK3 : Hid (∀ j, j < k + 1 → plF (fiS s) g (l.getD j Lk.none) = true) := HOK2.out (plF_other (x := ⟨kd, sk, rs⟩) hp)
        clear hp HBad HOK2
        go_wp2_with fail
        refine hpu0.mono ?_
        rintro e u ⟨rfl, rfl⟩
        clear hpu0 d0 d1 d2
        go_wp2
        go_roundw
        case rel => exact ⟨k + 1, by omega, by go_num, HOK3, hB⟩
        case measure => simp [intOf]; omega
      | true =>
        rw [hp] at hpu0
        have hlo : plF (fiS s) g ⟨kd, sk, rs⟩ = lfB (fiS s) g kd sk rs := plF_lf (x := ⟨kd, sk, rs⟩) hp
        rw [hlo] at HBad HOK2
        clear hp hlo
        by_cases hn4 : 40 < rs.length
        · have g3 : decide ((40 : Int) < (rs.length : Int)) = true := decide_eq_true (by omega)
          have HF : Hid (R = false) := HBad.out (lfB_long hn4)
          have hBw : Below w.heap.size w wr := HBW.out.trans (hB.mono HBW.out.size)
          clear HBad HOK2 hn4
          go_wp2_with fail
          refine hpu0.mono ?_
          rintro e u ⟨rfl, rfl⟩
          clear hpu0
          go_wp2
          go_ret
          exact ⟨rt_bool HF.out.symm, hBw⟩
        have g3 : decide ((40 : Int) < (rs.length : Int)) = false := decide_eq_false (by omega)
        have HBad2 : Hid (∀ j, j < rs.length → prB (fiS s) kd sk (rs.getD j Ru.none) g = false → R = false) := fun j hj h => HBad.out (lfB_bad hj h)
        have HOK3 : Hid ((∀ j, j < rs.length → prB (fiS s) kd sk (rs.getD j Ru.none) g = true) → ∀ j, j < k + 1 → plF (fiS s) g (l.getD j Lk.none) = true) := fun h => HOK2.out (lfB_yes (show rs.length ≤ 40 by omega) h)
        clear HBad HOK2 hn4
        go_wp2_with fail
        refine hpu0.mono ?_
        rintro e u ⟨rfl, rfl⟩
        clear hpu0
        go_wp2
        clear d0 d1 d2 g3
        go_loopw [8] (fun i wr => ∃ j : Nat, j ≤ rs.length ∧ i = .int .i64 j ∧ Hid (∀ i, i < j → prB (fiS s) kd sk (rs.getD i Ru.none) g = true) ∧ Below W.heap.size W wr) (fun i _ => rs.length - (intOf i).toNat)
        case atStart => exact ⟨0, Nat.zero_le _, rfl, (fun j hj => by omega), hB⟩
        case round =>
          clear hB
          obtain ⟨j, hj, rfl, HOJ, hB⟩ := hrel
          obtain ⟨hrs, d0, d1, d2⟩ := HALL.out wr hB
          by_cases hjn : j < rs.length
          · have i3 : (0 : Int) ≤ (j : Int) := by omega
            have i4 : (j : Int) < (rs.length : Int) := by omega
            obtain ⟨rb, ro, a1, c1, a2, c2, er, hrb, hI, hin, hou, k0, k1, k2', k3, k4, k5, k6, k7, k8, k9⟩ := hrs.ru10 (Below.refl _ _) j hjn
            obtain ⟨r, hrr⟩ : ∃ r, rs.getD j Ru.none = r := ⟨_, rfl⟩
            have HRR : Hid (rs.getD j Ru.none = r) := hrr
            rw [hrr] at hI hin hou k0 k1 k2' k3 k4 k5 k6 k7 k8 k9
            clear hrr
            obtain ⟨inn, out, ap, lk, ⟨x1, x2⟩, ⟨y1, y2⟩, ⟨w1, w2⟩⟩ := r
            dsimp only at k0 k1 k2' k3 k4 k5 k6 k7 k8 k9 hin hou
            obtain ⟨j1, j2, j34, j56, j78⟩ := hI
            dsimp only at j1 j2 j34 j56 j78
            subst er
            have HBad3 : Hid (prB (fiS s) kd sk ⟨inn, out, ap, lk, (x1, x2), (y1, y2), (w1, w2)⟩ g = false → R = false) := fun h => HBad2.out j hjn (by rw [HRR.out]; exact h)
            have HOJ2 : Hid (prB (fiS s) kd sk ⟨inn, out, ap, lk, (x1, x2), (y1, y2), (w1, w2)⟩ g = true → ∀ i, i < j + 1 → prB (fiS s) kd sk (rs.getD i Ru.none) g = true) := fun h i hi => by
              rcases Nat.lt_or_ge i j with h1 | h1
              · exact HOJ.out i h1
              · rw [show i = j by omega, HRR.out]; exact h
            have hrc := fun Z (hZ : Below wr.heap.size wr Z) => srule21_any kd sk (some ⟨rb, ro, none⟩) rs.length rc a1 c1 a2 c2 inn out ap lk x1 x2 y1 y2 w1 w2 ga gc ma mc s g Z (hin.below hZ).ri hou.lenB k2 hg j34 j56 j78
            generalize prB (fiS s) kd sk ⟨inn, out, ap, lk, (x1, x2), (y1, y2), (w1, w2)⟩ g = A at hrc HBad3 HOJ2
            have X2 := HX2.out.below hB
            obtain ⟨z0, z1, -⟩ := X2.two
            have hlt := X2.lt
            clear HOJ HRR hin hou hrs X2
            go_wp2_with fail
            refine wp_region_held_drew (S := fun u => (u.cell? ⟨b, off + k * 3, none⟩ = some (.int .i64 kd) ∧ u.cell? ⟨b, off + k * 3 + 1, none⟩ = some (.bool sk) ∧ u.cell? ⟨b, off + k * 3 + 2, none⟩ = some (.slice (some ⟨rb, ro, none⟩) rs.length rc)) ∧
              (u.cell? ⟨rb, ro + j * 10, none⟩ = some (.slice a1 inn.length c1) ∧ u.cell? ⟨rb, ro + j * 10 + 1, none⟩ = some (.slice a2 out.length c2) ∧ u.cell? ⟨rb, ro + j * 10 + 2, none⟩ = some (.int .i64 ap) ∧ u.cell? ⟨rb, ro + j * 10 + 3, none⟩ = some (.int .i64 lk) ∧ u.cell? ⟨rb, ro + j * 10 + 4, none⟩ = some (.int .i64 x1) ∧ u.cell? ⟨rb, ro + j * 10 + 5, none⟩ = some (.int .i64 x2) ∧ u.cell? ⟨rb, ro + j * 10 + 6, none⟩ = some (.int .i64 y1) ∧ u.cell? ⟨rb, ro + j * 10 + 7, none⟩ = some (.int .i64 y2) ∧ u.cell? ⟨rb, ro + j * 10 + 8, none⟩ = some (.int .i64 w1) ∧ u.cell? ⟨rb, ro + j * 10 + 9, none⟩ = some (.int .i64 w2)) ∧
              u.cell? ⟨w.heap.size, 0, none⟩ = some (.slice ga s.rg.length gc) ∧ u.cell? ⟨w.heap.size, 1, none⟩ = some (.slice ma s.rw.length mc))
              (by kernel_rfl) ⟨⟨d0, d1, d2⟩, ⟨k0, k1, k2', k3, k4, k5, k6, k7, k8, k9⟩, z0, z1⟩ (fun hHeld => ?_)
            have hdr : Below wr.heap.size wr wr.drew := (Below.refl _ _).drew
            generalize wr.drew = Z at hdr hHeld ⊢
            refine hT 0 hHeld ?_
            refine hT 1 hHeld ?_
            refine hT 2 hHeld ?_
            refine hT 3 hHeld ?_
            refine hT 4 hHeld ?_
            refine hT 5 hHeld ?_
            refine hT 6 hHeld ?_
            refine hT 7 hHeld ?_
            refine hT 8 hHeld ?_
            refine hT 9 hHeld ?_
            refine hT 10 hHeld ?_
            refine hT 11 hHeld ?_
            refine hT 12 hHeld ?_
            refine hT 13 hHeld ?_
            refine hCall (i := 14) rfl (by kernel_rfl) (by rfl) (fun K hK => ?_)
            go_simp
            refine (hrc Z hdr).mono ?_
            rintro e u ⟨rfl, hbu⟩
            have hUu := hdr.trans (hbu.mono hdr.size)
            have hfin := hB.trans (hUu.mono hB.size)
            have hSu : Hid ((u.cell? ⟨b, off + k * 3, none⟩ = some (.int .i64 kd) ∧ u.cell? ⟨b, off + k * 3 + 1, none⟩ = some (.bool sk) ∧ u.cell? ⟨b, off + k * 3 + 2, none⟩ = some (.slice (some ⟨rb, ro, none⟩) rs.length rc)) ∧
              (u.cell? ⟨rb, ro + j * 10, none⟩ = some (.slice a1 inn.length c1) ∧ u.cell? ⟨rb, ro + j * 10 + 1, none⟩ = some (.slice a2 out.length c2) ∧ u.cell? ⟨rb, ro + j * 10 + 2, none⟩ = some (.int .i64 ap) ∧ u.cell? ⟨rb, ro + j * 10 + 3, none⟩ = some (.int .i64 lk) ∧ u.cell? ⟨rb, ro + j * 10 + 4, none⟩ = some (.int .i64 x1) ∧ u.cell? ⟨rb, ro + j * 10 + 5, none⟩ = some (.int .i64 x2) ∧ u.cell? ⟨rb, ro + j * 10 + 6, none⟩ = some (.int .i64 y1) ∧ u.cell? ⟨rb, ro + j * 10 + 7, none⟩ = some (.int .i64 y2) ∧ u.cell? ⟨rb, ro + j * 10 + 8, none⟩ = some (.int .i64 w1) ∧ u.cell? ⟨rb, ro + j * 10 + 9, none⟩ = some (.int .i64 w2)) ∧
              u.cell? ⟨w.heap.size, 0, none⟩ = some (.slice ga s.rg.length gc) ∧ u.cell? ⟨w.heap.size, 1, none⟩ = some (.slice ma s.rw.length mc)) :=
              ⟨⟨(HALL.out u hfin).2.1, (HALL.out u hfin).2.2.1, (HALL.out u hfin).2.2.2⟩, ⟨(hUu.cell (p := ⟨rb, ro + j * 10, none⟩) hrb).trans k0, (hUu.cell (p := ⟨rb, ro + j * 10 + 1, none⟩) hrb).trans k1, (hUu.cell (p := ⟨rb, ro + j * 10 + 2, none⟩) hrb).trans k2', (hUu.cell (p := ⟨rb, ro + j * 10 + 3, none⟩) hrb).trans k3, (hUu.cell (p := ⟨rb, ro + j * 10 + 4, none⟩) hrb).trans k4, (hUu.cell (p := ⟨rb, ro + j * 10 + 5, none⟩) hrb).trans k5, (hUu.cell (p := ⟨rb, ro + j * 10 + 6, none⟩) hrb).trans k6, (hUu.cell (p := ⟨rb, ro + j * 10 + 7, none⟩) hrb).trans k7, (hUu.cell (p := ⟨rb, ro + j * 10 + 8, none⟩) hrb).trans k8, (hUu.cell (p := ⟨rb, ro + j * 10 + 9, none⟩) hrb).trans k9⟩, (hUu.cell (p := ⟨w.heap.size, 0, none⟩) hlt).trans z0, (hUu.cell (p := ⟨w.heap.size, 1, none⟩) hlt).trans z1⟩
            clear hrc
            go_wp2_with fail
            refine hK.out _ _ hSu.out (fun hHeld => ?_)
            clear hK K
            try simp only [Act.put, List.setIfInBounds_toArray, List.set_cons_zero, List.set_cons_succ]
            refine hT 15 hHeld ?_
            refine wpAnyH_done (by kernel_rfl) ?_ _
            clear hSu hHeld hUu hbu hdr k0 k1 k2' k3 k4 k5 k6 k7 k8 k9 d0 d1 d2 z0 z1 hB
            cases A with
            | false =>
              have HF : Hid (R = false) := HBad3.out rfl
              have hBw := HBW.out.trans (hfin.mono HBW.out.size)
              clear HBad3 HOJ2
              go_wp2
              go_ret
              exact ⟨rt_bool HF.out.symm, hBw⟩
            | true =>
              have HOJ3 : Hid (∀ i, i < j + 1 → prB (fiS s) kd sk (rs.getD i Ru.none) g = true) := HOJ2.out rfl
              clear HBad3 HOJ2
              go_wp2
              go_roundw
              case rel => exact ⟨j + 1, by omega, by go_num, HOJ3, hfin⟩
              case measure => simp [intOf]; omega
          · have g4 : ¬ (j : Int) < (rs.length : Int) := by omega
            have HOK4 : Hid (∀ j, j < k + 1 → plF (fiS s) g (l.getD j Lk.none) = true) := HOK3.out (fun i hi => HOJ.out i (by omega))
            clear HOK3 HOJ hjn hrs
            go_wp2
            go_roundw
            case rel => exact ⟨k + 1, by omega, by go_num, HOK4, hB⟩
            case measure => simp [intOf]; omega
    · have HF : Hid (R = true) := HYS.out (fun j hj => HOK.out j (by omega))
      have g4 : ¬ (k : Int) < (l.length : Int) := by omega
      have hBw : Below w.heap.size w wr := HBW.out.trans (hB.mono HBW.out.size)
      clear HOK
      go_wp2
      go_ret
      exact ⟨rt_bool HF.out.symm, hBw⟩

end Go.Proofs.YtchdoakoelfenaaGreat

namespace Go.Proofs.YtchdoakoelfenaaGreat
open Go.RowKit Go.Maps
set_option linter.unusedSimpArgs false
set_option linter.unusedVariables false

theorem naT_succ {P : List Pd} {k : Nat} (hk : k < P.length) : (naL P).take (k + 1) = (naL P).take k ++ [(P.getD k Pd.none).g] := by
  have h1 : k < (naL P).length := by rw [naL_len]; exact hk
  rw [← naL_at, List.take_add_one, List.getD_eq_getElem?_getD, List.getElem?_eq_getElem h1]
  rfl
theorem naT_len {P : List Pd} {k : Nat} (hk : k ≤ P.length) : ((naL P).take k).length = k := by rw [List.length_take, naL_len]; omega
theorem naT_all (P : List Pd) : (naL P).take P.length = naL P := List.take_of_length_le (by rw [naL_len]; exact Nat.le_refl _)

set_option maxHeartbeats 2000000 in
set_option maxRecDepth 100000 in
theorem snames21_any (S : Nat → Prop) (a : Option Addr) (ca : Nat) (P : List Pd) (w : World) (h : Gr PdE S w a ca P) (hl : P.length ≤ 1000) :
    Calls Tryz.prog 25 #[.slice a P.length ca] w fun e w' => RowG (naL P) w.heap.size w' e ∧ Below w.heap.size w w' := by
  have HH : Hid (Gr PdE S w a ca P) := h
  obtain ⟨n, hnn⟩ : ∃ n, P.length = n := ⟨_, rfl⟩
  have HF0 : Hid ((naL P).take 0 = []) := rfl
  have HFS : Hid (∀ k, k < n → (naL P).take (k + 1) = (naL P).take k ++ [(P.getD k Pd.none).g]) := fun k hk => naT_succ (by rw [hnn]; exact hk)
  have HFL : Hid (∀ k, k ≤ n → ((naL P).take k).length = k) := fun k hk => naT_len (by rw [hnn]; exact hk)
  have HFN : Hid ((naL P).take n = naL P) := by show _ = _; rw [← hnn]; exact naT_all P
  have HN : Hid (P.length = n) := hnn
  rw [hnn] at hl ⊢
  obtain ⟨F, hF⟩ : ∃ F : Nat → List Int, (fun k => (naL P).take k) = F := ⟨_, rfl⟩
  have HF0 : Hid (F 0 = []) := by rw [← hF]; exact HF0
  have HFS : Hid (∀ k, k < n → F (k + 1) = F k ++ [(P.getD k Pd.none).g]) := by rw [← hF]; exact HFS
  have HFL : Hid (∀ k, k ≤ n → (F k).length = k) := by rw [← hF]; exact HFL
  have HFN : Hid (F n = naL P) := by rw [← hF]; exact HFN
  clear h hnn hF
  go_enter Tryz.func25, Tryz.ntmps25
  go_wp2
  go_loopw [3, 4] (fun vo vi wr => ∃ k : Nat, k ≤ n ∧ vi = .int .i64 k ∧ Hid (Gi w.heap.size wr vo (F k)) ∧ Below w.heap.size w wr) (fun _ vi _ => n - (intOf vi).toNat)
  case atStart => exact ⟨0, Nat.zero_le _, rfl, (by show Gi _ _ _ _; rw [HF0.out]; exact Gi.nil _ _), Below.refl _ _⟩
  case round =>
    obtain ⟨k, hk, rfl, hGw, hB⟩ := hrel
    by_cases hkn : k < n
    · obtain ⟨xb, xo, rfl, hxb, hw4, d0, d1, d2, d3⟩ := HH.out.pd hB k (by rw [HN.out]; exact hkn)
      have HSS := HFS.out k hkn
      obtain ⟨va, vc, rfl, -, -⟩ := hGw.out.slice
      have hzi := hw4.1
      generalize (P.getD k Pd.none).g = z at d0 hzi HSS
      have HSS2 : Hid (F (k + 1) = F k ++ [z]) := HSS
      have i1 : (0 : Int) ≤ (k : Int) := by omega
      have i2 : (k : Int) < (n : Int) := by omega
      obtain ⟨V9, hV9, Y9, hb9⟩ : ∃ V, V = wr.alloc (.cells #[.int .i64 z] 3) ∧ Bk 3 V wr.heap.size [.int .i64 z] ∧ Below wr.heap.size wr V := ⟨_, rfl, Bk.new _ _ _, bl1 _⟩
      have hGb := hGw.out.below hb9
      have hBb := hB.trans (hb9.mono hB.size)
      have hbs : w.heap.size ≤ V9.heap.size := hBb.size
      have hll : (F k).length + 1 ≤ 1000000 := by rw [HFL.out k hk]; omega
      have hlt := Y9.lt
      have y0 : V9.cell? ⟨wr.heap.size, 0, none⟩ = some (.int .i64 z) := Y9.cell 0 (by simp)
      have HLO : Hid (∀ q, (Value.slice va (F k).length vc).ownBlock = some q → w.heap.size ≤ q) := fun q hq => (hGw.out.lo hq).1
      clear HSS hGw d1 d2 d3 hw4
      go_wp2_with (at_builtin; rw [← hV9]; refine wpList_append_gi rfl _ _ rfl w.heap.size _ (F k) rfl hGb wr.heap.size z rfl hlt y0 hzi hll hbs ?_)
      intro v9 w9 hT9 hgrow _
      rw [← hV9] at hgrow
      rw [← HSS2.out] at hT9
      have HT9 : Hid (Gi w.heap.size w9 v9 (F (k + 1))) := hT9
      have hB9 : Below w.heap.size w w9 := hBb.grown hgrow hBb.size (fun q hq => HLO.out q hq)
      clear hT9 hgrow hGb hBb hbs hll hlt y0 HLO HSS2 hV9 Y9 hb9
      go_wp2
      go_roundw
      case rel => exact ⟨k + 1, by omega, by go_num, HT9, hB9⟩
      case measure => simp [intOf]; omega
    · obtain rfl : k = n := by omega
      have HV : Hid (RowG (naL P) w.heap.size _ (.returned _)) := ⟨_, rfl, by rw [← HFN.out]; exact hGw.out⟩
      have g4 : ¬ (k : Int) < (k : Int) := by omega
      clear hGw
      go_wp2
      go_ret
      exact ⟨HV.out, hB⟩

end Go.Proofs.YtchdoakoelfenaaGreat

namespace Go.Proofs.YtchdoakoelfenaaGreat
open Go.RowKit Go.Maps
set_option linter.unusedSimpArgs false
set_option linter.unusedVariables false

theorem psB_skR {ms : List Bool} {L : List Int} {sk : Bool} {i : Nat} (h : sk = false) : psB ms L sk i = false := by unfold psB; rw [h]; rfl
theorem psB_yesR {ms : List Bool} {L : List Int} {i : Nat} {g : Int} (h : L.getD i 0 = g) : psB ms L true i = mkB ms g := by unfold psB; rw [h]; rfl

set_option maxHeartbeats 2000000 in
set_option maxRecDepth 100000 in
theorem snext_any (S : Nat → Prop) (a : Option Addr) (ca : Nat) (L : List Int) (b : Option Addr) (cb : Nat) (ms : List Bool) (i : Int) (sk : Bool) (w : World) (hL : Ri w a ca L) (hm : Gr El.bool S w b cb ms) (hi : I64 i) :
    Calls Tryz.prog 47 #[.slice a L.length ca, .slice b ms.length cb, .int .i64 i, .bool sk] w fun e w' => e = .returned (.int .i64 (nxQ ms L sk i)) ∧ Below w.heap.size w w' := by
  have kl := hL.lenB
  obtain ⟨hi1, hi2⟩ := hi
  have hpl := splace_any a ca L i w kl
  cases hp : plB L i with
  | false =>
    rw [hp] at hpl
    have HF : Hid (nxQ ms L sk i = -1) := nxQ_no hp
    clear hp hL hm
    go_enter Tryz.func47, Tryz.ntmps47
    go_wp2_with fail
    refine hpl.mono ?_
    rintro e u ⟨rfl, rfl⟩
    clear hpl
    go_wp2
    go_ret
    exact ⟨rt_int HF.out.symm, Below.refl _ _⟩
  | true =>
  rw [hp] at hpl
  obtain ⟨p1, p2⟩ := plB_iff.1 hp
  obtain ⟨k, rfl⟩ : ∃ k : Nat, i = (k : Int) := ⟨i.toNat, by omega⟩
  have hk : k < L.length := by omega
  have HX : Hid (nxQ ms L sk (k : Int) = nxF ms L sk (L.length - (k + 1)) (k + 1)) := nxQ_yes hk
  have HL : Hid (Ri w a ca L) := hL
  have HM : Hid (Gr El.bool S w b cb ms) := hm
  clear hp hL hm
  go_enter Tryz.func47, Tryz.ntmps47
  go_wp2_with fail
  refine hpl.mono ?_
  rintro e u ⟨rfl, rfl⟩
  clear hpl
  go_wp2
  go_loopw [2] (fun i wr => ∃ j : Nat, j ≤ L.length ∧ i = .int .i64 j ∧ Hid (nxQ ms L sk (k : Int) = nxF ms L sk (L.length - j) j) ∧ Below w.heap.size w wr) (fun i _ => L.length - (intOf i).toNat)
  case atStart => exact ⟨k + 1, by omega, by go_num, HX, Below.refl _ _⟩
  case round =>
    obtain ⟨j, hj, rfl, HJ, hB⟩ := hrel
    by_cases hjn : j < L.length
    · obtain ⟨b1, o1, ea, _, c0⟩ := HL.out.at hB j hjn
      subst ea
      have HG : Hid (I64 (L.getD j 0)) := HL.out.i64 hjn
      have HON : Hid (_) := nxF_on (ms := ms) (sk := sk) hjn
      have HOF : Hid (_) := nxF_off (ms := ms) (sk := sk) hjn
      have HPS : Hid (∀ q, mkB ms (L.getD j 0) = q → psB ms L true j = q) := fun q hq => by rw [psB_yesR rfl]; exact hq
      obtain ⟨g, hg⟩ : ∃ g, L.getD j 0 = g := ⟨_, rfl⟩
      rw [hg] at c0 HG HPS
      have i1 : (0 : Int) ≤ (j : Int) := by omega
      have i2 : (j : Int) < (L.length : Int) := by omega
      have d1 : decide ((j : Int) < (L.length : Int)) = true := decide_eq_true i2
      have d1n : decide (j < L.length) = true := decide_eq_true hjn
      have e1 : ¬ (j : Int) = (L.length : Int) := by omega
      have e2 : ¬ j = L.length := by omega
      clear hg
      cases sk with
      | false =>
        have HF : Hid (nxQ ms L false (k : Int) = (j : Int)) := by show _ = _; rw [HJ.out, HOF.out (psB_skR rfl)]
        clear HJ HON HOF HPS
        go_wp2
        go_ret
        exact ⟨rt_int HF.out.symm, hB⟩
      | true =>
      have hmk := smark_any S b cb ms g wr (HM.out.below hB) HG.out
      cases hq : mkB ms g with
      | true =>
        rw [hq] at hmk
        have HJ2 : Hid (nxQ ms L true (k : Int) = nxF ms L true (L.length - (j + 1)) (j + 1)) := by show _ = _; rw [HJ.out]; exact HON.out (HPS.out _ hq)
        clear HJ HON HOF HPS hq
        go_wp2_with fail
        refine hmk.mono ?_
        rintro e u ⟨rfl, hb1⟩
        have hB2 := hB.trans (hb1.mono hB.size)
        clear hmk hb1 hB
        go_wp2
        go_roundw
        case rel => exact ⟨j + 1, by omega, by go_num, HJ2, hB2⟩
        case measure => simp [intOf]; omega
      | false =>
        rw [hq] at hmk
        have HF : Hid (nxQ ms L true (k : Int) = (j : Int)) := by show _ = _; rw [HJ.out, HOF.out (HPS.out _ hq)]
        clear HJ HON HOF HPS hq
        go_wp2_with fail
        refine hmk.mono ?_
        rintro e u ⟨rfl, hb1⟩
        have hB2 := hB.trans (hb1.mono hB.size)
        clear hmk hb1 hB
        go_wp2
        go_ret
        exact ⟨rt_int HF.out.symm, hB2⟩
    · have HF : Hid (nxQ ms L sk (k : Int) = -1) := by show _ = _; rw [HJ.out]; exact nxF_end (by omega)
      obtain rfl : j = L.length := by omega
      have g4 : ¬ (L.length : Int) < (L.length : Int) := by omega
      have d1 : decide ((L.length : Int) < (L.length : Int)) = false := decide_eq_false g4
      have d1n : decide (L.length < L.length) = false := decide_eq_false (by omega)
      clear HJ
      go_wp2
      go_ret
      exact ⟨rt_int HF.out.symm, hB⟩

set_option maxHeartbeats 2000000 in
set_option maxRecDepth 100000 in
theorem sback_any (S : Nat → Prop) (a : Option Addr) (ca : Nat) (L : List Int) (b : Option Addr) (cb : Nat) (ms : List Bool) (i : Int) (w : World) (hL : Ri w a ca L) (hm : Gr El.bool S w b cb ms) (hi : I64 i) :
    Calls Tryz.prog 38 #[.slice a L.length ca, .slice b ms.length cb, .int .i64 i] w fun e w' => e = .returned (.int .i64 (bkQ ms L i)) ∧ Below w.heap.size w w' := by
  have kl := hL.lenB
  obtain ⟨hi1, hi2⟩ := hi
  have hpl := splace_any a ca L i w kl
  cases hp : plB L i with
  | false =>
    rw [hp] at hpl
    have HF : Hid (bkQ ms L i = -1) := bkQ_no hp
    clear hp hL hm
    go_enter Tryz.func38, Tryz.ntmps38
    go_wp2_with fail
    refine hpl.mono ?_
    rintro e u ⟨rfl, rfl⟩
    clear hpl
    go_wp2
    go_ret
    exact ⟨rt_int HF.out.symm, Below.refl _ _⟩
  | true =>
  rw [hp] at hpl
  obtain ⟨p1, p2⟩ := plB_iff.1 hp
  obtain ⟨k, rfl⟩ : ∃ k : Nat, i = (k : Int) := ⟨i.toNat, by omega⟩
  have hk : k < L.length := by omega
  have HX : Hid (bkQ ms L (k : Int) = bkF ms L k) := bkQ_yes hk
  have HL : Hid (Ri w a ca L) := hL
  have HM : Hid (Gr El.bool S w b cb ms) := hm
  clear hp hL hm
  go_enter Tryz.func38, Tryz.ntmps38
  go_wp2_with fail
  refine hpl.mono ?_
  rintro e u ⟨rfl, rfl⟩
  clear hpl
  go_wp2
  go_loopw [2] (fun i wr => ∃ (m : Nat) (z : Int), m ≤ k ∧ Hid (z = (m : Int) - 1) ∧ i = .int .i64 z ∧ Hid (bkQ ms L (k : Int) = bkF ms L m) ∧ Below w.heap.size w wr) (fun i _ => (intOf i + 1).toNat)
  case atStart => exact ⟨k, _, Nat.le_refl _, rfl, rfl, HX, Below.refl _ _⟩
  case round =>
    obtain ⟨m, z, hm, HZ, rfl, HJ, hB⟩ := hrel
    cases m with
    | zero =>
      obtain rfl : z = -1 := by have := HZ.out; omega
      have HF : Hid (bkQ ms L (k : Int) = -1) := HJ.out
      clear HJ HZ
      go_wp2
      go_ret
      exact ⟨rt_int HF.out.symm, hB⟩
    | succ m =>
    obtain rfl : z = (m : Int) := by have := HZ.out; omega
    have hmn : m < L.length := by omega
    obtain ⟨b1, o1, ea, _, c0⟩ := HL.out.at hB m hmn
    subst ea
    have HG : Hid (I64 (L.getD m 0)) := HL.out.i64 hmn
    have HON : Hid (mkB ms (L.getD m 0) = true → bkF ms L (m + 1) = bkF ms L m) := fun h => bkF_on h
    have HOF : Hid (mkB ms (L.getD m 0) = false → bkF ms L (m + 1) = (m : Int)) := fun h => bkF_off h
    obtain ⟨g, hg⟩ : ∃ g, L.getD m 0 = g := ⟨_, rfl⟩
    rw [hg] at c0 HG HON HOF
    have i1 : (0 : Int) ≤ (m : Int) := by omega
    have i2 : (m : Int) < (L.length : Int) := by omega
    have d1 : decide ((0 : Int) ≤ (m : Int)) = true := decide_eq_true i1
    have i3 : ¬ (m : Int) < 0 := by omega
    have hmk := smark_any S b cb ms g wr (HM.out.below hB) HG.out
    clear hg HZ
    cases hq : mkB ms g with
    | true =>
      rw [hq] at hmk
      have HJ2 : Hid (bkQ ms L (k : Int) = bkF ms L m) := by show _ = _; rw [HJ.out]; exact HON.out hq
      clear HJ HON HOF hq
      go_wp2_with fail
      refine hmk.mono ?_
      rintro e u ⟨rfl, hb1⟩
      have hB2 := hB.trans (hb1.mono hB.size)
      clear hmk hb1 hB
      go_wp2
      go_roundw
      case rel => exact ⟨m, _, by omega, rfl, rfl, HJ2, hB2⟩
      case measure => simp [intOf]
    | false =>
      rw [hq] at hmk
      have HF : Hid (bkQ ms L (k : Int) = (m : Int)) := by show _ = _; rw [HJ.out]; exact HOF.out hq
      clear HJ HON HOF hq
      go_wp2_with fail
      refine hmk.mono ?_
      rintro e u ⟨rfl, hb1⟩
      have hB2 := hB.trans (hb1.mono hB.size)
      clear hmk hb1 hB
      go_wp2
      go_ret
      exact ⟨rt_int HF.out.symm, hB2⟩

end Go.Proofs.YtchdoakoelfenaaGreat

namespace Go.Proofs.YtchdoakoelfenaaGreat
open Go.RowKit Go.Maps
set_option linter.unusedSimpArgs false
set_option linter.unusedVariables false

set_option maxHeartbeats 4000000 in
set_option maxRecDepth 100000 in
theorem smeet_any (S : Nat → Prop) (a : Option Addr) (ca : Nat) (L : List Int) (b : Option Addr) (cb : Nat) (ms : List Bool) (i : Int) (q : Option Addr) (cq : Nat) (A : List Int) (sk : Bool) (w : World)
    (hL : Ri w a ca L) (hm : Gr El.bool S w b cb ms) (hi : I64 i) (hA : Ri w q cq A) (hA2 : A.length ≤ 1000) :
    Calls Tryz.prog 37 #[.slice a L.length ca, .slice b ms.length cb, .int .i64 i, .slice q A.length cq, .bool sk] w fun e w' => MetA ms L sk i A w.heap.size w' e ∧ Below w.heap.size w w' := by
  have kl := hL.lenB
  obtain ⟨hi1, hi2⟩ := hi
  by_cases h0 : A.length = 0
  · have HF : Hid (meQ ms L sk i A = none) := meQ_nil0 h0
    have HNO : Hid (∀ U, MetA ms L sk i A w.heap.size U (.returned (.tuple #[.slice none 0 0, .bool false]))) := fun U => MetA.no HF.out
    clear hL hm hA
    go_enter Tryz.func37, Tryz.ntmps37
    go_wp2_with fail
    go_quiet (fail)
    go_wp2
    go_ret2
    exact ⟨HNO.out _, below_drewN (Below.refl _ _) _⟩
  have e0 : ((A.length : Int) == 0) = false := by rw [beq_eq_false_iff_ne]; omega
  cases hp : plB L i with
  | false =>
    have hpl := fun W => splace_any a ca L i W kl
    rw [hp] at hpl
    have HPL : ∀ W, Calls Tryz.prog 46 #[.slice a L.length ca, .int .i64 i] W fun e w' => e = .returned (.bool false) ∧ w' = W := fun W => (hpl W).mono fun _ _ h => ⟨h.1, h.2.symm⟩
    have HF : Hid (meQ ms L sk i A = none) := meQ_not (fun h => by rw [hp] at h; cases h.1)
    have HNO : Hid (∀ U, MetA ms L sk i A w.heap.size U (.returned (.tuple #[.slice none 0 0, .bool false]))) := fun U => MetA.no HF.out
    clear hL hm hA hpl hp HF
    go_enter Tryz.func37, Tryz.ntmps37
    go_wp2_with fail
    go_quiet ((go_at_call 46; exact Calls.quiet_of_same (HPL _)))
    go_wp2
    go_ret2
    exact ⟨HNO.out _, below_drewN (Below.refl _ _) _⟩
  | true =>
  have hpl := fun W => splace_any a ca L i W kl
  rw [hp] at hpl
  have HPL : ∀ W, Calls Tryz.prog 46 #[.slice a L.length ca, .int .i64 i] W fun e w' => e = .returned (.bool true) ∧ w' = W := fun W => (hpl W).mono fun _ _ h => ⟨h.1, h.2.symm⟩
  obtain ⟨p1, p2⟩ := plB_iff.1 hp
  obtain ⟨k, rfl⟩ : ∃ k : Nat, i = (k : Int) := ⟨i.toNat, by omega⟩
  have hk : k < L.length := by omega
  have hA0 : 0 < A.length := by omega
  obtain ⟨b0, o0, rfl, hb0, c0⟩ := hL.at (Below.refl _ _) k hk
  obtain ⟨b1, o1, rfl, hb1, c1⟩ := hA.at (Below.refl _ _) 0 hA0
  rw [Nat.add_zero] at c1
  have HNE : Hid (¬ L.getD k 0 = A.getD 0 0 → meQ ms L sk (k : Int) A = none) := fun h => meQ_not (fun h1 => h h1.2)
  have HEQ : Hid (L.getD k 0 = A.getD 0 0 → MeI ms L sk (k : Int) A 1 [(k : Int)] (k : Int)) := fun h => MeI.one hA0 hp h
  have HIK : Hid (I64 (k : Int)) := ⟨by omega, by omega⟩
  have HL : Hid (Ri w (some ⟨b0, o0, none⟩) ca L) := hL
  have HM : Hid (Gr El.bool S w b cb ms) := hm
  have HA : Hid (Ri w (some ⟨b1, o1, none⟩) cq A) := hA
  obtain ⟨x, hx⟩ : ∃ x, L.getD k 0 = x := ⟨_, rfl⟩
  obtain ⟨y, hy⟩ : ∃ y, A.getD 0 0 = y := ⟨_, rfl⟩
  rw [hx] at c0 HNE HEQ
  rw [hy] at c1 HNE HEQ
  have i1 : (0 : Int) ≤ (k : Int) := by omega
  have i2 : (0 : Int) < (A.length : Int) := by omega
  clear hL hm hA hpl hp hx hy
  by_cases hxy : x = y
  rotate_left
  · have d1 : ((x : Int) != (y : Int)) = true := by simp; exact hxy
    have HNO : Hid (∀ U, MetA ms L sk (k : Int) A w.heap.size U (.returned (.tuple #[.slice none 0 0, .bool false]))) := fun U => MetA.no (HNE.out hxy)
    clear HNE HEQ HL HM HA hxy
    go_enter Tryz.func37, Tryz.ntmps37
    go_wp2_with fail
    go_quiet ((go_at_call 46; exact Calls.quiet_of_same (HPL _)))
    go_wp2
    go_ret2
    exact ⟨HNO.out _, below_drewN (Below.refl _ _) _⟩
  subst hxy
  have d1 : ((x : Int) != (x : Int)) = false := by simp
  have HI1 : Hid (_) := HEQ.out rfl
  clear HNE HEQ h0
  go_enter Tryz.func37, Tryz.ntmps37
  go_wp2_with fail
  go_quiet ((go_at_call 46; exact Calls.quiet_of_same (HPL _)))
  have hBW : Below w.heap.size w (w.drewN nq) := below_drewN (Below.refl _ _) _
  clear c0 c1 HPL
  generalize w.drewN nq = W at hBW ⊢
  have HI0 : Hid (Io w.heap.size (W.alloc (.cells #[.int .i64 (k : Int)] 3)) (.slice (some ⟨W.heap.size, 0, none⟩) 1 1) [(k : Int)]) := Io.one HIK.out hBW.size
  have HB0 : Hid (Below w.heap.size w (W.alloc (.cells #[.int .i64 (k : Int)] 3))) := hBW.trans ((bl1 _).mono hBW.size)
  clear hBW
  go_wp2
  go_loopw [2, 13, 14] (fun z v i wr => ∃ (j : Nat) (at' : Int) (l : List Int), j < A.length ∧ i = .int .i64 ((j : Int) + 1) ∧ z = .int .i64 at' ∧ Hid (MeI ms L sk (k : Int) A (j + 1) l at') ∧ Io w.heap.size wr v l ∧ Below w.heap.size w wr) (fun _ _ i _ => A.length - (intOf i).toNat)
  case atStart => exact ⟨0, (k : Int), [(k : Int)], hA0, rfl, rfl, HI1, HI0.out, HB0.out⟩
  case round =>
    clear HI1 HI0 HB0
    obtain ⟨j, z, l, hj, rfl, rfl, HI, hIo, hB⟩ := hrel
    obtain ⟨av, cv, rfl, hri⟩ := hIo.slice
    have HLEN : Hid (l.length = j + 1) := HI.out.len
    have hl1 : l.length ≤ j + 1 := by rw [HLEN.out]; exact Nat.le_refl _
    have hpz := plB_iff.1 HI.out.pl
    by_cases hjn : j + 1 < A.length
    · obtain ⟨b2, o2, e2, _, c2⟩ := HA.out.at hB (j + 1) hjn
      cases e2
      have HST : Hid (_) := HI.out.stop hjn
      have HMO : Hid (_) := HI.out.more hjn
      have HNX : Hid (_) := nx_pl (ms := ms) (sk := sk) HI.out.pl
      have hnx := snext_any S (some ⟨b0, o0, none⟩) ca L b cb ms z sk wr (HL.out.below hB) (HM.out.below hB) ⟨by omega, by omega⟩
      obtain ⟨r, hr⟩ : ∃ r, nxQ ms L sk z = r := ⟨_, rfl⟩
      obtain ⟨g, hg⟩ : ∃ g, A.getD (j + 1) 0 = g := ⟨_, rfl⟩
      rw [hr] at hnx HST HMO HNX
      rw [hg] at c2 HST HMO
      have i3 : (j : Int) + 1 < (A.length : Int) := by omega
      have i4 : (0 : Int) ≤ (j : Int) + 1 := by omega
      clear hr hg HI hri hpz
      go_wp2_with fail
      refine hnx.mono ?_
      rintro e u ⟨rfl, hbu⟩
      have hBu := hB.trans (hbu.mono hB.size)
      have c3 := (hbu.cell (p := ⟨b1, o1 + (j + 1), none⟩) (Nat.lt_of_lt_of_le hb1 hB.size)).trans c2
      have hIu := hIo.below hbu
      clear hnx hbu hB c2 hIo
      rcases HNX.out with rfl | ⟨m, rfl, hm⟩
      · have HNO : Hid (∀ U, MetA ms L sk (k : Int) A w.heap.size U (.returned (.tuple #[.slice none 0 0, .bool false]))) := fun U => MetA.no (HST.out (.inl rfl))
        clear HST HMO HNX hIu
        go_wp2_with fail
        go_quiet (fail)
        go_wp2
        go_ret2
        exact ⟨HNO.out _, below_drewN hBu _⟩
      · obtain ⟨b4, o4, e4, _, c4⟩ := HL.out.at hBu m hm
        cases e4
        rw [Int.toNat_natCast] at HST HMO
        obtain ⟨x2, hx2⟩ : ∃ x, L.getD m 0 = x := ⟨_, rfl⟩
        rw [hx2] at c4 HST HMO
        have e5 : ((m : Int) == -1) = false := by rw [beq_eq_false_iff_ne]; omega
        have i5 : (0 : Int) ≤ (m : Int) := by omega
        have i6 : (m : Int) < (L.length : Int) := by omega
        clear hx2 HNX
        by_cases hxg : x2 = g
        rotate_left
        · have d2 : ((x2 : Int) != (g : Int)) = true := by simp; exact hxg
          have HNO : Hid (∀ U, MetA ms L sk (k : Int) A w.heap.size U (.returned (.tuple #[.slice none 0 0, .bool false]))) := fun U => MetA.no (HST.out (.inr hxg))
          clear HST HMO hIu hxg
          go_wp2_with fail
          go_quiet (fail)
          go_wp2
          go_ret2
          exact ⟨HNO.out _, below_drewN hBu _⟩
        subst hxg
        have d2 : ((x2 : Int) != (x2 : Int)) = false := by simp
        have HMI : Hid (_) := HMO.out (fun h => by
          rcases h with h | h
          · omega
          · exact h rfl)
        have HIM : Hid (I64 (m : Int)) := ⟨by omega, by omega⟩
        clear HST HMO
        go_wp2_with fail
        go_quiet (fail)
        have hIq : Io w.heap.size (u.drewN nq) _ l := hIu.below (below_drewN (Below.refl _ _) _)
        have hBq := below_drewN hBu nq
        clear c3 c4 hIu hBu
        generalize u.drewN nq = y1 at hIq hBq ⊢
        have hT5 := hIq.below (bl1 (.cells #[.int .i64 (m : Int)] 3))
        have hN := heap_alloc_new y1 (.cells #[.int .i64 (m : Int)] 3)
        have n0 := cell_of_row _ y1.heap.size 0 _ _ (0, 0) hN
        have hll : l.length + 1 ≤ 1000000 := by omega
        have hB6 : Below w.heap.size w (y1.alloc (.cells #[.int .i64 (m : Int)] 3)) := hBq.alloc hBq.size _
        clear hN hIq
        go_wp2_with (at_builtin; refine wpList_append_int rfl _ _ rfl w.heap.size _ l rfl hT5 y1.heap.size (m : Int) rfl n0 HIM.out hll hB6.size ?_)
        intro v' w9 hT9 hgrow
        have hB9 : Below w.heap.size w w9 := hB6.grown hgrow hB6.size (fun k hk => hT5.lo hk)
        clear hgrow hT5 n0 hB6 hBq hll
        go_wp2
        go_roundw
        case rel => exact ⟨j + 1, (m : Int), _, hjn, by go_num, rfl, HMI, hT9, hB9⟩
        case measure => simp [intOf]; omega
    · have HY : Hid (MetA ms L sk (k : Int) A w.heap.size wr (.returned (.tuple #[.slice av l.length cv, .bool true]))) := MetA.yes (MeI.done (by rw [show A.length = j + 1 by omega]; exact HI.out)) hIo
      have g4 : ¬ (j : Int) + 1 < (A.length : Int) := by omega
      clear HI hri hpz hIo
      go_wp2
      go_ret2
      exact ⟨HY.out, hB⟩

end Go.Proofs.YtchdoakoelfenaaGreat
