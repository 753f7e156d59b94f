/-
  bytes.Equal, sfnt.tables: the walks.
-/
import Derived.Test.YtijehnfadpoapaaSC7
namespace Go.Proofs.Ytijehnfadpoapaa
open Go.RowKit Go.Maps
set_option linter.unusedSimpArgs false
set_option linter.unusedVariables false

theorem Rb.strA {w : World} {a : Option Addr} {cap : Nat} {xs : List Nat} (h : Rb w a cap xs) :
    (convert 23 9 (.slice a xs.length cap)).run Try.prog w = .ok (.string (str8 xs)) w := by
  by_cases hx : xs = []
  · subst hx
    have e : (convert 23 9 (.slice a 0 cap)).run Try.prog w = .ok (.string ByteArray.empty) w := by
      rw [run_convert_bytes_string w 23 9 5 _ 0 cap Try.underlying23 Try.underlying5 Try.underlying9]
      cases a <;> simp [Conv.bytesToString, loadCells, loadCellsFrom]
    exact e
  · exact h.str hx
theorem str8_inj {xs ys : List Nat} (hx : Byt xs) (hy : Byt ys) (e : str8 xs = str8 ys) : xs = ys := by
  rw [← sb_str8 hx, e, sb_str8 hy]

set_option maxHeartbeats 1000000 in
set_option maxRecDepth 100000 in
theorem equal_any (a b : Option Addr) (ca cb : Nat) (xs ys : List Nat) (w : World) (ha : Rb w a ca xs) (hb : Rb w b cb ys) :
    Calls Try.prog 41 #[.slice a xs.length ca, .slice b ys.length cb] w fun e w' => e = .returned (.bool (decide (xs = ys))) ∧ w = w' := by
  have h1 := ha.strA
  have h2 := hb.strA
  by_cases he : xs = ys
  · have hd := decide_eq_true he
    have hq : (str8 xs).toList == (str8 ys).toList := by rw [he]; simp
    have HD : Hid (decide (xs = ys) = true) := hd
    clear hd he
    go_enter Try.func41, Try.ntmps41
    go_wp2
    go_ret
    exact ⟨rt_bool (by rw [HD.out]), rfl⟩
  · have hd := decide_eq_false he
    have hq := teq_no (fun e => he (str8_inj ha.lim hb.lim e))
    have HD : Hid (decide (xs = ys) = false) := hd
    clear hd he
    go_enter Try.func41, Try.ntmps41
    go_wp2
    go_ret
    exact ⟨rt_bool (by rw [HD.out]), rfl⟩

/-- What is read of a file, table by table, the bytes one behind the other. -/
theorem tab_facts (l1 : List Tb) (t : Tb) (l2 : List Tb) (h : ∀ s ∈ l1 ++ t :: l2, gd (sb s.tx) = true) (hl : (fileR (l1 ++ t :: l2)).length < 4294967296) :
    tgB (fileR (l1 ++ t :: l2)) ((12 + 16 * l1.length : Nat) : Int) = true ∧ tgV (fileR (l1 ++ t :: l2)) ((12 + 16 * l1.length : Nat) : Int) = t.tx ∧ nmV (fileR (l1 ++ t :: l2)) ((24 + 16 * l1.length : Nat) : Int) 4 = t.bs.length ∧
    inB (fileR (l1 ++ t :: l2)).length ((12 + 16 * (l1 ++ t :: l2).length + (bods l1).length : Nat) : Int) ((t.bs.length : Nat) : Int) = true ∧ cutV (fileR (l1 ++ t :: l2)) ((12 + 16 * (l1 ++ t :: l2).length + (bods l1).length : Nat) : Int) ((t.bs.length : Nat) : Int) = t.bs := by
  have h4 : ∀ s ∈ l1 ++ t :: l2, (sb s.tx).length = 4 := fun s hs => gd_len (h s hs)
  obtain ⟨D, E, hf, hD, hE⟩ := file_split l1 t l2 h4
  have hlen := fileR_len h4
  have hbl : (bods (l1 ++ t :: l2)).length = (bods l1).length + (t.bs.length + padN t.bs.length 4 + (bods l2).length) := by rw [bods_append, bods]; simp only [List.length_append, fil_len]
  rw [hbl] at hlen
  generalize fileR (l1 ++ t :: l2) = b at *
  have hn : (l1 ++ t :: l2).length = l1.length + 1 + l2.length := by simp; omega
  generalize (l1 ++ t :: l2).length = n at *
  have htag : gd (sb t.tx) = true := h t (by simp)
  have ht4 := gd_len htag
  have hat : 12 + 16 * n + (bods l1).length < 4294967296 := by omega
  have hsz : t.bs.length < 4294967296 := by omega
  have e0 : cutV b ((12 + 16 * l1.length : Nat) : Int) ((4 : Nat) : Int) = sb t.tx := cutV_at (A := hdr n ++ D) (X := sb t.tx) (Z := be4 (sm t.bs : Nat) ++ (be4 ((12 + 16 * n + (bods l1).length : Nat) : Int) ++ be4 (t.bs.length : Nat)) ++ (E ++ (bods l1 ++ (fil t.bs ++ bods l2)))) (by rw [hf, dirE]; simp only [List.append_assoc]) (by simp [hdr_len, hD]) ht4
  have i0 : inB b.length ((12 + 16 * l1.length : Nat) : Int) ((4 : Nat) : Int) = true := inB_at (A := hdr n ++ D) (X := sb t.tx) (Z := be4 (sm t.bs : Nat) ++ (be4 ((12 + 16 * n + (bods l1).length : Nat) : Int) ++ be4 (t.bs.length : Nat)) ++ (E ++ (bods l1 ++ (fil t.bs ++ bods l2)))) (by rw [hf, dirE]; simp only [List.append_assoc]) (by simp [hdr_len, hD]) ht4
  have e0' : cutV b ((12 + 16 * l1.length : Nat) : Int) 4 = sb t.tx := e0
  have i0' : inB b.length ((12 + 16 * l1.length : Nat) : Int) 4 = true := i0
  have g0 : tgB b ((12 + 16 * l1.length : Nat) : Int) = true := by
    rw [tgB, e0', i0', htag]
    rfl
  have v0 : tgV b ((12 + 16 * l1.length : Nat) : Int) = t.tx := by rw [tgV, g0, if_pos rfl, e0', str8_sb]
  have e2 : nmV b ((24 + 16 * l1.length : Nat) : Int) 4 = t.bs.length := by
    rw [nmV_at (b := b) (q := 24 + 16 * l1.length) (n := 4) (A := hdr n ++ D ++ sb t.tx ++ be4 (sm t.bs : Nat) ++ be4 ((12 + 16 * n + (bods l1).length : Nat) : Int)) (X := be4 (t.bs.length : Nat)) (Z := E ++ (bods l1 ++ (fil t.bs ++ bods l2))) (by rw [hf, dirE]; simp only [List.append_assoc]) (by simp [hdr_len, hD, ht4, be4]; omega) rfl]
    exact V8_be4 hsz
  refine ⟨g0, v0, e2, ?_, ?_⟩
  · exact inB_at (A := hdr n ++ D ++ dirE t (12 + 16 * n + (bods l1).length) ++ E ++ bods l1) (X := t.bs) (Z := List.replicate (padN t.bs.length 4) 0 ++ bods l2) (by rw [hf]; simp only [fil, List.append_assoc]) (by simp [hdr_len, hD, hE, dirE_len ht4]; omega) rfl
  · exact cutV_at (A := hdr n ++ D ++ dirE t (12 + 16 * n + (bods l1).length) ++ E ++ bods l1) (X := t.bs) (Z := List.replicate (padN t.bs.length 4) 0 ++ bods l2) (by rw [hf]; simp only [fil, List.append_assoc]) (by simp [hdr_len, hD, hE, dirE_len ht4]; omega) rfl

theorem fil_eq {b : List Nat} (h : Fil b) (hl : b.length ≤ 1048576) : b = fileR (dirB b) ∧ (dirB b).length = nmV b 4 2 ∧ inB b.length 4 2 = true := by
  have hr := h.ris (by omega)
  have e : fileR (dirB b) = b := by
    have := h.2
    rw [fileS, srt_of_ris hr] at this
    exact this
  have e2 : nmV (fileR (dirB b)) ((4 : Nat) : Int) 2 = (dirB b).length := by
    rw [nmV_at (b := fileR (dirB b)) (q := 4) (n := 2) (A := be4 65536) (X := be2 (dirB b).length) (Z := (be2 ((16 * pw (dirB b).length : Nat) : Int) ++ (be2 ((lg (dirB b).length : Nat) : Int) ++ be2 ((16 * (dirB b).length - 16 * pw (dirB b).length : Nat) : Int))) ++ (dirs (dirB b) (12 + 16 * (dirB b).length) ++ bods (dirB b))) (by rw [fileR, hdr]; simp only [List.append_assoc]) rfl rfl]
    exact V8_be2 (by have := h.1.2.1; omega)
  have e3 : inB (fileR (dirB b)).length ((4 : Nat) : Int) ((2 : Nat) : Int) = true := inB_at (A := be4 65536) (X := be2 (dirB b).length) (Z := (be2 ((16 * pw (dirB b).length : Nat) : Int) ++ (be2 ((lg (dirB b).length : Nat) : Int) ++ be2 ((16 * (dirB b).length - 16 * pw (dirB b).length : Nat) : Int))) ++ (dirs (dirB b) (12 + 16 * (dirB b).length) ++ bods (dirB b))) (by rw [fileR, hdr]; simp only [List.append_assoc]) rfl rfl
  rw [e] at e2 e3
  exact ⟨e.symm, e2.symm, e3⟩
/-- The table number k of a file, as it is read. -/
theorem fil_at {b : List Nat} (h : Fil b) (hl : b.length ≤ 1048576) {k : Nat} (hk : k < (dirB b).length) :
    tgB b ((12 + 16 * k : Nat) : Int) = true ∧ tgV b ((12 + 16 * k : Nat) : Int) = ((dirB b).getD k Tb.none).tx ∧ nmV b ((24 + 16 * k : Nat) : Int) 4 = ((dirB b).getD k Tb.none).bs.length ∧
    inB b.length ((12 + 16 * nmV b 4 2 + (bods ((dirB b).take k)).length : Nat) : Int) ((((dirB b).getD k Tb.none).bs.length : Nat) : Int) = true ∧ cutV b ((12 + 16 * nmV b 4 2 + (bods ((dirB b).take k)).length : Nat) : Int) ((((dirB b).getD k Tb.none).bs.length : Nat) : Int) = ((dirB b).getD k Tb.none).bs := by
  obtain ⟨e1, e2, e3⟩ := fil_eq h hl
  have es : dirB b = (dirB b).take k ++ (dirB b).getD k Tb.none :: (dirB b).drop (k + 1) := by rw [← getD_drop hk, List.take_append_drop]
  have hi : ((dirB b).take k).length = k := by simp; omega
  have := tab_facts ((dirB b).take k) ((dirB b).getD k Tb.none) ((dirB b).drop (k + 1)) (by rw [← es]; exact fun s hs => (h.1.2.2.1 s hs).1) (by rw [← es, ← e1]; omega)
  rw [hi, ← es, ← e1, e2] at this
  exact this
theorem cutV_len {xs : List Nat} {q n : Nat} (h : inB xs.length (q : Int) (n : Int) = true) : (cutV xs (q : Int) (n : Int)).length = n ∧ q + n ≤ xs.length := by
  have h' := h
  simp [inB] at h'
  rw [cutV_yes h]
  simp
  omega
theorem take_eq_of {l m : List Tb} {k : Nat} {t : Tb} (h : l = m.take k) (hk : k < m.length) (ht : t = m.getD k Tb.none) : l ++ [t] = m.take (k + 1) := by
  rw [takeT_succ hk, h, ht]

set_option maxHeartbeats 2000000 in
set_option maxRecDepth 100000 in
theorem tables_any (a : Option Addr) (cap : Nat) (xs : List Nat) (w : World) (h : Rb w a cap xs) (hlx : xs.length ≤ 1048576) :
    Calls Try.prog 40 #[.slice a xs.length cap] w fun e w' => Below w.heap.size w w' ∧ ((∃ a' cap' l, e = .returned (.tuple #[.slice a' l.length cap', .bool true]) ∧ Ts w' a' cap' l ∧ (Fil xs → l = dirB xs)) ∨ (e = .returned (.tuple #[.slice none 0 0, .bool false]) ∧ ¬ Fil xs)) := by
  obtain ⟨i0, hi, hz0, hz1, hz2⟩ := info_parts info_tabC
  have k1 := h.le
  have k2 := h.cap
  unfold maxLen at k2
  have HH : Hid (Rb w a cap xs) := h
  have HFE : Hid (Fil xs → (dirB xs).length = nmV xs 4 2 ∧ inB xs.length 4 2 = true) := fun hf => (fil_eq hf hlx).2
  have HFA : Hid (∀ k, Fil xs → k < (dirB xs).length → tgB xs ((12 + 16 * k : Nat) : Int) = true ∧ tgV xs ((12 + 16 * k : Nat) : Int) = ((dirB xs).getD k Tb.none).tx ∧ nmV xs ((24 + 16 * k : Nat) : Int) 4 = ((dirB xs).getD k Tb.none).bs.length ∧
    inB xs.length ((12 + 16 * nmV xs 4 2 + (bods ((dirB xs).take k)).length : Nat) : Int) ((((dirB xs).getD k Tb.none).bs.length : Nat) : Int) = true ∧ cutV xs ((12 + 16 * nmV xs 4 2 + (bods ((dirB xs).take k)).length : Nat) : Int) ((((dirB xs).getD k Tb.none).bs.length : Nat) : Int) = ((dirB xs).getD k Tb.none).bs) := fun k hf hk => fil_at hf hlx hk
  have hnb := nmV_lt h.lim 4 2
  go_enter Try.func40, Try.ntmps40
  go_wp2_with fail
  refine (u16_any a cap xs 4 _ h ⟨by decide, by decide⟩).mono ?_
  rintro e u ⟨rfl, rfl⟩
  by_cases hin : inB xs.length 4 2 = true
  rotate_left
  · have hin : inB xs.length 4 2 = false := by simpa using hin
    have HN : Hid (¬ Fil xs) := fun hf => by have := (HFE.out hf).2; rw [hin] at this; cases this
    rw [hin]
    clear h
    go_wp2
    go_ret2
    exact ⟨Below.refl _ _, .inr ⟨rfl, HN.out⟩⟩
  rw [hin]
  obtain ⟨n, hn⟩ : ∃ n, nmV xs 4 2 = n := ⟨_, rfl⟩
  rw [hn] at hnb ⊢
  have HN : Hid (nmV xs 4 2 = n) := hn
  have hnb' : n < 65536 := hnb
  clear hn hnb h
  go_wp2
  go_loopw [6, 7, 27] (fun v p i wr => ∃ (k : Nat) (l : List Tb) (q : Nat), k ≤ n ∧ i = .int .i64 k ∧ p = .int .i64 (q : Int) ∧ q = 12 + 16 * n + (bods l).length ∧ q ≤ 1048590 ∧ l.length = k ∧ (Fil xs → l = (dirB xs).take k) ∧ (∃ G, (∀ j, j < w.heap.size → G j) ∧ To 46 w.heap.size G wr v l) ∧ Below w.heap.size w wr) (fun _ _ i _ => n - (intOf i).toNat)
  case atStart => exact ⟨0, [], 12 + 16 * n, Nat.zero_le _, rfl, by congr 1; omega, by simp [bods], by omega, rfl, fun _ => by simp, ⟨(· < w.heap.size), fun j hj => hj, To.nil _ _ _ _ (fun k hk => hk)⟩, Below.refl _ _⟩
  case round =>
    obtain ⟨k, l, q, hk, rfl, rfl, hq, hqb, hlk, hfl, ⟨G, hG0, hT⟩, hB⟩ := hrel
    obtain ⟨a2, c2, rfl, hts, hlo⟩ := hT.slice
    have HQ : Hid (q = 12 + 16 * n + (bods l).length) := hq
    have HLK : Hid (l.length = k) := hlk
    have HFL : Hid (Fil xs → l = (dirB xs).take k) := hfl
    have HT : Hid (To 46 w.heap.size G wr (.slice a2 l.length c2) l) := hT
    have HTS : Hid (Ts wr a2 c2 l) := hts
    clear hq hlk hfl hT hts
    by_cases hkn : k < n
    · have e12 : ((12 + 16 * k : Nat) : Int) = 12 + (k : Int) * 16 := by omega
      have e24 : ((24 + 16 * k : Nat) : Int) = 12 + (k : Int) * 16 + 12 := by omega
      have HFK : Hid (Fil xs → tgB xs (12 + (k : Int) * 16) = true ∧ tgV xs (12 + (k : Int) * 16) = ((dirB xs).getD k Tb.none).tx ∧ nmV xs (12 + (k : Int) * 16 + 12) 4 = ((dirB xs).getD k Tb.none).bs.length ∧ inB xs.length (q : Int) ((((dirB xs).getD k Tb.none).bs.length : Nat) : Int) = true ∧ cutV xs (q : Int) ((((dirB xs).getD k Tb.none).bs.length : Nat) : Int) = ((dirB xs).getD k Tb.none).bs) := by
        show Fil xs → _
        intro hf
        have hkl : k < (dirB xs).length := by rw [(HFE.out hf).1, HN.out]; exact hkn
        have := HFA.out k hf hkl
        rw [e12, e24, HN.out, ← HFL.out hf, ← HQ.out] at this
        exact this
      clear e12 e24
      have htz := tgV_size xs (12 + (k : Int) * 16)
      have hsb := nmV_lt HH.out.lim (12 + (k : Int) * 16 + 12) 4
      go_wp2_with fail
      refine (tag_any a cap xs (12 + (k : Int) * 16) _ (HH.out.below hB) ⟨by omega, by omega⟩ (by omega)).mono ?_
      rintro e v1 ⟨rfl, hb1⟩
      generalize tgV xs (12 + (k : Int) * 16) = tx at *
      generalize tgB xs (12 + (k : Int) * 16) = tq at *
      have hB1 := hB.trans (hb1.mono hB.size)
      go_wp2_with fail
      refine (u32_any a cap xs (12 + (k : Int) * 16 + 12) _ (HH.out.below hB1) ⟨by omega, by omega⟩).mono ?_
      rintro e v2 ⟨rfl, rfl⟩
      generalize nmV xs (12 + (k : Int) * 16 + 12) 4 = ps at *
      generalize inB xs.length (12 + (k : Int) * 16 + 12) 4 = sq
      have hsb' : ps < 4294967296 := hsb
      clear hsb
      go_wp2_with fail
      refine (cut_any a cap xs (q : Int) (ps : Int) _ (HH.out.below hB1) ⟨by omega, by omega⟩ ⟨by omega, by omega⟩ (by omega)).mono ?_
      rintro e v4 ⟨a5, c5, rfl, hr5, hb4⟩
      have HCL : Hid (inB xs.length (q : Int) (ps : Int) = true → (cutV xs (q : Int) (ps : Int)).length = ps ∧ q + ps ≤ xs.length) := fun h => cutV_len h
      have hb5 : Below wr.heap.size wr v4 := hb1.trans (hb4.mono hb1.size)
      have hB4 : Below w.heap.size w v4 := hB.trans (hb5.mono hB.size)
      cases htq : tq with
      | false =>
        subst htq
        have HNF : Hid (¬ Fil xs) := fun hf => by have := (HFK.out hf).1; cases this
        clear hr5 hb4 hb1 hB1 hb5
        generalize cutV xs (q : Int) (ps : Int) = zs at *
        generalize inB xs.length (q : Int) (ps : Int) = zq at *
        go_wp2
        go_ret2
        exact ⟨hB4, .inr ⟨rfl, HNF.out⟩⟩
      | true =>
        subst htq
        by_cases hzq : inB xs.length (q : Int) (ps : Int) = true
        rotate_left
        · have hzq : inB xs.length (q : Int) (ps : Int) = false := by simpa using hzq
          have HNF : Hid (¬ Fil xs) := fun hf => by
            obtain ⟨f1, f2, f3, f4, f5⟩ := HFK.out hf
            rw [← f3, hzq] at f4
            cases f4
          rw [hzq]
          clear hr5 hb4 hb1 hB1 hb5 hzq
          generalize cutV xs (q : Int) (ps : Int) = zs at *
          go_wp2
          go_ret2
          exact ⟨hB4, .inr ⟨rfl, HNF.out⟩⟩
        obtain ⟨hzl, hqp⟩ := HCL.out hzq
        have HNX : Hid (Fil xs → l ++ [⟨tx, cutV xs (q : Int) (ps : Int)⟩] = (dirB xs).take (k + 1)) := by
          show Fil xs → _
          intro hf
          have hkl : k < (dirB xs).length := by rw [(HFE.out hf).1, HN.out]; exact hkn
          obtain ⟨f1, f2, f3, f4, f5⟩ := HFK.out hf
          refine take_eq_of (HFL.out hf) hkl ?_
          rw [← f3] at f5
          rw [f5, f2]
        rw [hzq]
        generalize cutV xs (q : Int) (ps : Int) = zs at *
        have HZL : Hid (zs.length = ps) := hzl
        have hG5 : zs ≠ [] → ∀ b o, a5 = some ⟨b, o, none⟩ → (G b ∨ (wr.heap.size ≤ b ∧ b < v4.heap.size)) := by
          intro hne b o eb
          have h1 := hr5.rd.lt hne b o eb
          have h2 := hr5.low b (by rw [eb]; rfl)
          exact .inr ⟨Nat.le_trans hb1.size h2, h1⟩
        have hT5 := (HT.out.wide hb5).below (bl1 (.cells #[.string tx, .slice a5 zs.length c5] 46))
        have hr6 := hr5.rd.below (bl1 (.cells #[.string tx, .slice a5 zs.length c5] 46))
        have hll : l.length + 1 ≤ 1000000 := by rw [HLK.out]; omega
        clear hr5 hzl hzq
        obtain ⟨r, hrr⟩ : ∃ r, (ps + 3) / 4 = r := ⟨_, rfl⟩
        have hdv : ((ps : Int) + 3).tdiv 4 = (r : Int) := by rw [show (ps : Int) + 3 = ((ps + 3 : Nat) : Int) by omega, show (4 : Int) = ((4 : Nat) : Int) from rfl, ← Int.ofNat_tdiv, hrr]
        have hdv2 : ((ps : Int) + 4 - 1).tdiv 4 = (r : Int) := by rw [show (ps : Int) + 4 - 1 = ((ps + 3 : Nat) : Int) by omega, show (4 : Int) = ((4 : Nat) : Int) from rfl, ← Int.ofNat_tdiv, hrr]
        have HR : Hid ((ps + 3) / 4 = r) := hrr
        have hrb : r ≤ 262145 := by omega
        clear hrr
        go_wp2_with (at_builtin; refine wpList_append_tab rfl _ _ 22 rfl w.heap.size 46 i0 Try.underlying22 hi hz0 hz1 hz2 _ _ l rfl hT5 v4.heap.size ⟨tx, zs⟩ a5 c5 rfl ?_ ?_ htz hr6 hG5 hll ?_ ?_)
        · have := hB4.size
          simp
          omega
        · intro v' w9 hT9 hgrow hat
          have hB9 : Below w.heap.size w w9 := (hB4.alloc hB4.size _).grown hgrow (by have := hB4.size; simp; omega) (fun k hk => (HT.out.lt hk).2)
          have HT9 : Hid (To 46 w.heap.size _ w9 v' (l ++ [⟨tx, zs⟩])) := hT9
          clear hgrow hat hT5 hr6 hG5 hT9
          go_wp2
          go_roundw
          case rel =>
            refine ⟨k + 1, l ++ [⟨tx, zs⟩], q + r * 4, by omega, by go_num, by go_num, ?_, by have := HR.out; omega, by simp [HLK.out], HNX.out, ⟨_, fun j hj => .inl (hG0 j hj), HT9.out⟩, hB9⟩
            have e1 := HQ.out
            have e2 := HR.out
            have e3 := HZL.out
            rw [bods_append, List.length_append]
            simp only [bods, List.append_nil, fil_len, e3]
            unfold padN
            omega
          case measure => simp [intOf]; omega
    · obtain rfl : k = n := by omega
      have HE : Hid (Fil xs → l = dirB xs) := by
        show Fil xs → _
        intro hf
        rw [HFL.out hf, List.take_of_length_le (by rw [(HFE.out hf).1, HN.out]; exact Nat.le_refl _)]
      go_wp2
      go_ret2
      exact ⟨hB, .inl ⟨a2, c2, l, rfl, HTS.out, HE.out⟩⟩

end Go.Proofs.Ytijehnfadpoapaa
