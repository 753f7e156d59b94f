/-
  sfnt.Pack: the walk itself.
-/
import Derived.Test.YtijehnfadpoapaaSC6
namespace Go.Proofs.Ytijehnfadpoapaa
open Go.RowKit Go.Maps
set_option linter.unusedSimpArgs false
set_option linter.unusedVariables false

set_option maxHeartbeats 4000000 in
set_option maxRecDepth 100000 in
theorem pack_any (a : Option Addr) (cap : Nat) (l0 : List Tb) (w : World) (h : Ts w a cap l0) :
    Calls Try.prog 11 #[.slice a l0.length cap] w fun e w' => ∃ a' cap', e = .returned (.tuple #[.slice a' (pckB l0).length cap', .int .i64 (pckE l0)]) ∧ Rb w' a' cap' (pckB l0) ∧ Below w.heap.size w w' := by
  have k1 := h.1
  have k2 := h.2.1
  unfold maxLen at k2
  by_cases hfr : frB l0 = true
  rotate_left
  · have hfr : frB l0 = false := by simpa using hfr
    have e1 : Hid (pckE l0 = 1) := by show pckE l0 = 1; simp [pckE, hfr]
    have e2 : Hid (pckB l0 = []) := by show pckB l0 = []; simp [pckB, hfr]
    go_enter Try.func11, Try.ntmps11
    go_wp2_with fail
    refine (formed_any a cap l0 _ h).mono ?_
    rintro e u ⟨rfl, hb⟩
    rw [hfr]
    go_wp2
    go_ret2
    exact ⟨none, 0, by rw [e1.out, e2.out]; rfl, by rw [e2.out]; exact Rb.nil _ _ _ (Nat.zero_le _) (fun _ => rfl), hb⟩
  have hf0 := frB_iff.1 hfr
  have hn1 := hf0.1
  have hn2 := hf0.2.1
  obtain ⟨b, off, _, _, ea, _⟩ := h.2.2.2 0 (by omega)
  subst ea
  have HPE : Hid (pckE l0 = if 1048576 < (fileS l0).length then 3 else 0) := by show pckE l0 = _; simp [pckE, hfr]
  have HPB : Hid (pckB l0 = if 1048576 < (fileS l0).length then [] else fileS l0) := by show pckB l0 = _; simp [pckB, hfr]
  have HF0 : Hid (Frm l0) := hf0
  go_enter Try.func11, Try.ntmps11
  go_wp2_with fail
  refine (formed_any _ cap l0 _ h).mono ?_
  rintro e w1 ⟨rfl, hb1⟩
  rw [hfr]
  have h1 := h.below hb1
  go_wp2_with fail
  refine (tclone_any b off cap l0 _ h1 (by omega)).mono ?_
  rintro e w2 ⟨g, c, d, rfl, hd, hR⟩
  have hds : d.size = l0.length := by rw [← hd]; simp
  have hsrt := sort_any hR (by rw [hd]; exact hf0.2.2.2) (by omega)
  rw [hd, hds] at hsrt
  have HS : Hid (Calls Try.prog 25 #[.slice (some ⟨g, 0, none⟩) l0.length c, .func (.func 26) #[] #[]] w2 fun e w' => e = .returned (.tuple #[]) ∧ Ts w' (some ⟨g, 0, none⟩) c (srt l0) ∧ Below w1.heap.size w1 w') := hsrt
  clear hsrt hds hd hR h1
  go_wp2_with fail
  refine HS.out.mono ?_
  rintro e u ⟨rfl, hT, hb2⟩
  have hbU : Below w.heap.size w u := hb1.trans (hb2.mono hb1.size)
  have hl : (srt l0).length = l0.length := srt_len l0
  have HFS : Hid (fileS l0 = fileR (srt l0)) := rfl
  have hf : Frm (srt l0) := HF0.out.srt
  clear HS hb1 hb2 h hfr
  generalize srt l0 = l at *
  rw [← hl]
  rw [← hl] at hn1 hn2
  have HPC : Hid (Pc (u.alloc (.cells #[.slice none 0 0, .int .i64 0, .map none, .bool false] 56)) u.heap.size (· < u.heap.size) St.zero) := pc_newS u _ (fun _ h => h)
  have hB0 := bl1 (w := u) (.cells #[.slice none 0 0, .int .i64 0, .map none, .bool false] 56)
  have hc1 := hT.1
  have hc2 := hT.2.1
  unfold maxLen at hc2
  clear hl k1 k2 HF0 hf0
  go_wp2_with fail
  refine (putHead_any u.heap.size _ l.length _ HPC.out hn1 hn2).mono ?_
  rintro e u2 ⟨rfl, hP2, hK2⟩
  have hB2 : Below u.heap.size u u2 := hB0.trans (hK2.below (fun k hk => hk))
  clear hK2 hB0 HPC
  go_wp2_with fail
  refine (putRecords_any u.heap.size u.heap.size _ c l u _ hT rfl hB2 hf hP2).mono ?_
  rintro e u3 ⟨v, G, rfl, hL⟩
  have hI : PkI u.heap.size u u3 u.heap.size v l 0 := by
    refine ⟨G, hL.gb, fun g hg => (hL.vg g hg).1, hL.vo, hL.be, .inl ⟨?_, by rw [stB_zero]; exact hL.pc⟩⟩
    simp [lenK, bods]
    omega
  clear hL hB2 hP2
  obtain ⟨am, cm, ev, hm1, hm2, hm3, _⟩ : ∃ a cap, v = .slice a (mkz l.length).length cap ∧ (mkz l.length).length ≤ cap ∧ cap ≤ maxLen ∧ (0 < (mkz l.length).length → ∃ g, a = some ⟨g, 0, none⟩) ∧ True := by
    obtain ⟨_, _, _, ho, _⟩ := hI
    obtain ⟨am, cm, e, x1, x2, x3, _⟩ := ho.slice
    exact ⟨am, cm, e, x1, x2, x3, trivial⟩
  rw [mkz_len] at ev hm1 hm3
  obtain ⟨gm, rfl⟩ := hm3 (by omega)
  subst ev
  unfold maxLen at hm2
  have HT : Hid (Ts u (some ⟨g, 0, none⟩) c l) := hT
  have HF : Hid (Frm l) := hf
  clear hT hf hm3
  generalize hBB : u.heap.size = B at *
  have HBB : Hid (u.heap.size = B) := hBB
  clear hBB
  go_wp2
  go_loopw [27] (fun i wr => ∃ k : Nat, k ≤ l.length ∧ i = .int .i64 k ∧ PkI B u wr B (.slice (some ⟨gm, 0, none⟩) l.length cm) l k) (fun i _ => l.length - (intOf i).toNat)
  case atStart => exact ⟨0, Nat.zero_le _, rfl, hI⟩
  case round =>
    obtain ⟨k, hk, rfl, G, hgb, hgv, ho, hbe, hpg⟩ := hrel
    by_cases hkn : k < l.length
    · have hbe' : Below u.heap.size u wr := by rw [HBB.out]; exact hbe
      obtain ⟨b, off, c0, c', ea, hb, d1, d2, hr⟩ := HT.out.at hbe' k hkn
      cases ea
      obtain ⟨_, _, c0', c'', e1, _, e3, e4, hr'⟩ := HT.out.2.2.2 k hkn
      cases e1
      have e5 : some (Value.slice c0 (l.getD k Tb.none).bs.length c') = some (Value.slice c0' (l.getD k Tb.none).bs.length c'') := by rw [← d2, ← e4]; exact hbe'.cell (p := ⟨_, 0 + k * 2 + 1, none⟩) hb
      cases e5
      rw [Nat.zero_add] at d1 d2
      have hfs := HF.out.2.2.1 _ (getD_mem hkn)
      have HNX : Hid (_) := stN_next (fun t ht => HF.out.tag ht) hkn
      have HNW : Hid (_) := stB_now (fun t ht => HF.out.tag ht) hkn
      have HSL : Hid (_) := stB_len (fun t ht => HF.out.tag ht) hk
      have HNL : Hid (_) := stN_len (fun t ht => HF.out.tag ht) hkn
      have HLK : Hid (_) := lenK_succ hkn
      have HLM : Hid (_) := lenK_mod l k
      have hG : (l.getD k Tb.none).bs ≠ [] → ∀ b o, c0 = some ⟨b, o, none⟩ → b < u.heap.size := hr'.lt
      generalize l.getD k Tb.none = s at *
      obtain ⟨tx, bs⟩ := s
      dsimp only at *
      obtain ⟨_, hbl⟩ := hfs
      have HG : Hid (bs ≠ [] → ∀ b o, c0 = some ⟨b, o, none⟩ → b < u.heap.size) := hG
      have hcm : wr.cell? ⟨gm, k, none⟩ = some (.int .i64 ((20 + 16 * k : Nat) : Int)) := by
        obtain ⟨_, _, ee, _, _, _, xc⟩ := ho.slice
        rw [mkz_len] at ee
        cases ee
        have := xc gm rfl k (by rw [mkz_len]; exact hkn)
        rw [mkz_get hkn] at this
        exact this
      have hgm : gm < wr.heap.size := ho.lt rfl
      obtain ⟨z, hz⟩ : ∃ z : Int, ((20 + 16 * k : Nat) : Int) = z := ⟨_, rfl⟩
      rw [hz] at hcm
      have HZ : Hid (((20 + 16 * k : Nat) : Int) = z) := hz
      have hzb : 0 ≤ z ∧ z ≤ 1000 := by omega
      obtain ⟨hzb1, hzb2⟩ := hzb
      have hcm1 := (Below.cell (bl1 (w := wr) (.cells #[.string tx, .slice c0 bs.length c'] 46)) (p := ⟨gm, k, none⟩) hgm).trans hcm
      have hr1 := hr.below (bl1 (.cells #[.string tx, .slice c0 bs.length c'] 46))
      have t1 : (wr.alloc (.cells #[.string tx, .slice c0 bs.length c'] 46)).cell? ⟨wr.heap.size, 1, none⟩ = some (.slice c0 bs.length c') := cell_of_row _ _ 1 _ _ (0, 0) (heap_alloc_new wr _)
      have HO : Hid (OwnI wr (.slice (some ⟨gm, 0, none⟩) l.length cm) (mkz l.length)) := ho
      have HGB : Hid (∀ j, j < B → G j) := hgb
      have HGV : Hid (G gm) := hgv gm rfl
      have HBE : Hid (Below B u wr) := hbe
      clear hz hG hr' e3 e4 hr hgb hgv ho hbe' hcm hI
      -- what is left behind a round
      have fin : ∀ W, Keep (fun j => G j ∨ j = wr.heap.size) (wr.alloc (.cells #[.string tx, .slice c0 bs.length c'] 46)) W → ((lenK l (k + 1) ≤ 1048576 ∧ Pc W B (fun j => G j ∨ j = wr.heap.size) (stB l (k + 1))) ∨ (1048576 < lenK l (k + 1) ∧ Pl W B (fun j => G j ∨ j = wr.heap.size) ((mkz l.length).drop (k + 1)))) → PkI B u W B (.slice (some ⟨gm, 0, none⟩) l.length cm) l (k + 1) := by
        intro W hK hp
        refine ⟨_, fun j hj => .inl (HGB.out j hj), fun g hg => by simp only [Value.ownBlock, Option.some.injEq] at hg; subst hg; exact .inl HGV.out, ?_, ?_, hp⟩
        · refine HO.out.kept (fun g hg => ?_)
          simp only [Value.ownBlock, Option.some.injEq] at hg
          subst hg
          exact (hK.block gm (.inl HGV.out)).trans ((bl1 _).block gm hgm)
        · have hsz := HBE.out.size
          have hBu : B ≤ wr.heap.size := by rw [← HBB.out]; exact hsz
          exact (HBE.out.alloc hBu _).trans (hK.below (fun j hj => .inl (HGB.out j hj)))
      have FIN : Hid (∀ W, Keep (fun j => G j ∨ j = wr.heap.size) (wr.alloc (.cells #[.string tx, .slice c0 bs.length c'] 46)) W → ((lenK l (k + 1) ≤ 1048576 ∧ Pc W B (fun j => G j ∨ j = wr.heap.size) (stB l (k + 1))) ∨ (1048576 < lenK l (k + 1) ∧ Pl W B (fun j => G j ∨ j = wr.heap.size) ((mkz l.length).drop (k + 1)))) → PkI B u W B (.slice (some ⟨gm, 0, none⟩) l.length cm) l (k + 1)) := fin
      clear fin
      have hr2 : ∀ W, Keep (fun j => G j ∨ j = wr.heap.size) (wr.alloc (.cells #[.string tx, .slice c0 bs.length c'] 46)) W → Rb W c0 c' bs ∧ W.cell? ⟨wr.heap.size, 1, none⟩ = some (.slice c0 bs.length c') := by
        intro W hK
        exact ⟨hr1.kept' hK (fun hx b o e => .inl (HGB.out b (by rw [← HBB.out]; exact HG.out hx b o e))), (hK.cell (p := ⟨wr.heap.size, 1, none⟩) (.inr rfl)).trans t1⟩
      have HR2 : Hid (∀ W, Keep (fun j => G j ∨ j = wr.heap.size) (wr.alloc (.cells #[.string tx, .slice c0 bs.length c'] 46)) W → Rb W c0 c' bs ∧ W.cell? ⟨wr.heap.size, 1, none⟩ = some (.slice c0 bs.length c')) := hr2
      clear hr2 hr1 t1
      rcases hpg with ⟨hsh, hP⟩ | ⟨hlo, hP⟩
      · have hP1 := hP.more (.cells #[.string tx, .slice c0 bs.length c'] 46)
        have HSH : Hid (lenK l k ≤ 1048576) := hsh
        clear hP hsh
        go_wp2_with fail
        refine (now_any B _ _ z 0 _ hP1 ⟨by omega, by omega⟩ ⟨by decide, by decide⟩ (by rw [HSL.out]; exact HSH.out)).mono ?_
        rintro e v1 ⟨rfl, hP2, hK1⟩
        rw [← HZ.out, HNW.out] at hP2
        obtain ⟨hr3, t3⟩ := HR2.out _ hK1
        clear hP1 hcm1
        by_cases hov : lenK l k + bs.length ≤ 1048576
        · have HOV : Hid (lenK l k + bs.length ≤ 1048576) := hov
          clear hov
          go_wp2_with fail
          refine (putBytes_any B _ _ c0 c' bs _ hP2 hr3 (by rw [HNL.out]; exact HOV.out)).mono ?_
          rintro e v2 ⟨rfl, hP3, hK2⟩
          have HL3 : Hid (((stN l k).app bs).bs.length ≤ 1048576) := by
            have := St.app_len (stN l k) bs
            have e1 := HNL.out
            have e2 := HOV.out
            show _ ≤ _
            omega
          go_wp2_with fail
          refine (pad4_any B _ _ _ hP3 HL3.out (by rw [St.app_no]; rfl)).mono ?_
          rintro e v3 ⟨rfl, hP4, hK3⟩
          rw [HNX.out] at hP4
          have hK4 := (hK1.trans hK2).trans hK3
          have hle : lenK l (k + 1) ≤ 1048576 := by
            have e1 := HLK.out
            have e2 := HOV.out
            have e3 := HLM.out
            rw [e1]
            unfold padN
            omega
          have HI : Hid (PkI B u v3 B (.slice (some ⟨gm, 0, none⟩) l.length cm) l (k + 1)) := FIN.out _ hK4 (.inl ⟨hle, hP4⟩)
          clear hP2 hP3 hP4 hK1 hK2 hK3 hK4 hr3 t3 hle
          go_wp2
          go_roundw
          case rel => exact ⟨k + 1, by omega, by go_num, HI.out⟩
          case measure => simp [intOf]; omega
        · have HOV : Hid (1048576 < lenK l k + bs.length) := by show _ < _; omega
          clear hov
          go_wp2_with fail
          refine (putBytes_over B _ _ c0 c' bs _ hP2 rfl (by rw [HNL.out]; exact HSH.out) (by rw [HNL.out]; exact HOV.out) (by rw [HNL.out]; have := HSH.out; omega)).mono ?_
          rintro e v2 ⟨rfl, hP3, hK2⟩
          go_wp2_with fail
          refine (pad_l B _ _ _ hP3).mono ?_
          rintro e v3 ⟨rfl, rfl⟩
          have hK4 := hK1.trans hK2
          have hlt : 1048576 < lenK l (k + 1) := by
            have e1 := HLK.out
            have e2 := HOV.out
            rw [e1]
            omega
          have HI : Hid (PkI B u v2 B (.slice (some ⟨gm, 0, none⟩) l.length cm) l (k + 1)) := FIN.out _ hK4 (.inr ⟨hlt, hP3⟩)
          clear hP2 hP3 hK1 hK2 hK4 hr3 t3 hlt
          go_wp2
          go_roundw
          case rel => exact ⟨k + 1, by omega, by go_num, HI.out⟩
          case measure => simp [intOf]; omega
      · have hP1 := hP.more (.cells #[.string tx, .slice c0 bs.length c'] 46)
        have HLO : Hid (1048576 < lenK l k) := hlo
        have hmem : z ∈ (mkz l.length).drop k := by rw [mkz_drop hkn, HZ.out]; exact List.mem_cons_self
        have HLE : Hid (_) := mkz_less hkn
        clear hP hlo
        go_wp2_with fail
        refine (now_l B _ _ z _ hP1 ⟨by omega, by omega⟩ hmem).mono ?_
        rintro e v1 ⟨rfl, hP2, hK1⟩
        rw [← HZ.out, HLE.out] at hP2
        obtain ⟨hr3, t3⟩ := HR2.out _ hK1
        clear hP1 hcm1 hmem
        go_wp2_with fail
        refine (putBytes_l B _ _ _ _ hP2).mono ?_
        rintro e v2 ⟨rfl, rfl⟩
        go_wp2_with fail
        refine (pad_l B _ _ _ hP2).mono ?_
        rintro e v3 ⟨rfl, rfl⟩
        have hlt : 1048576 < lenK l (k + 1) := by
          have e1 := HLK.out
          have e2 := HLO.out
          rw [e1]
          omega
        have HI : Hid (PkI B u v1 B (.slice (some ⟨gm, 0, none⟩) l.length cm) l (k + 1)) := FIN.out _ hK1 (.inr ⟨hlt, hP2⟩)
        clear hP2 hK1 hr3 t3 hlt
        go_wp2
        go_roundw
        case rel => exact ⟨k + 1, by omega, by go_num, HI.out⟩
        case measure => simp [intOf]; omega
    · obtain rfl : k = l.length := by omega
      have HLE : Hid (_) := lenK_end (fun t ht => HF.out.tag ht)
      have hBw : Below w.heap.size w wr := by
        have := hbU.size
        rw [HBB.out] at this
        exact hbU.trans (hbe.mono this)
      rcases hpg with ⟨hsh, hP⟩ | ⟨hlo, hP⟩
      · rw [HLE.out] at hsh
        have e1 : pckE l0 = 0 := by rw [HPE.out, HFS.out, if_neg (Nat.not_lt.2 hsh)]
        have e2 : pckB l0 = fileR l := by rw [HPB.out, HFS.out, if_neg (Nat.not_lt.2 hsh)]
        have HE1 : Hid (pckE l0 = 0) := e1
        have HE2 : Hid (pckB l0 = fileR l) := e2
        rw [stB_end] at hP
        have hall := all_any B G _ _ hP hsh
        have ea : allB ⟨fileR l, [], false⟩ = fileR l := rfl
        have eb : allE ⟨fileR l, [], false⟩ = 0 := rfl
        rw [ea, eb] at hall
        clear hI hP e1 e2 hsh hgb hgv ho
        generalize fileR l = fl at *
        go_wp2_with fail
        refine hall.mono ?_
        rintro e u9 ⟨a9, c9, rfl, hr9, hb9⟩
        have hB9 := hBw.trans (hb9.mono hBw.size)
        clear hall
        go_wp2
        go_ret2
        exact ⟨a9, c9, by rw [HE1.out, HE2.out]; rfl, by rw [HE2.out]; exact hr9.rd, hB9⟩
      · rw [HLE.out] at hlo
        have e1 : pckE l0 = 3 := by rw [HPE.out, HFS.out, if_pos hlo]
        have e2 : pckB l0 = [] := by rw [HPB.out, HFS.out, if_pos hlo]
        have HE1 : Hid (pckE l0 = 3) := e1
        have HE2 : Hid (pckB l0 = []) := e2
        have ed : (mkz l.length).drop l.length = [] := List.drop_eq_nil_of_le (by rw [mkz_len]; exact Nat.le_refl _)
        rw [ed] at hP
        have hall := all_l B G _ hP
        clear hI hP e1 e2 hlo hgb hgv ho ed
        go_wp2_with fail
        refine hall.mono ?_
        rintro e u9 ⟨rfl, rfl⟩
        clear hall
        go_wp2
        go_ret2
        exact ⟨none, 0, by rw [HE1.out, HE2.out]; rfl, by rw [HE2.out]; exact Rb.nil _ _ _ (Nat.zero_le _) (fun _ => rfl), hBw⟩

end Go.Proofs.Ytijehnfadpoapaa
