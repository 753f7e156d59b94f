/-
  Laws on append for the pages of the reference; a page whose bytes have grown.
  foundryref04.Page: put, Put8, Put16, Put32, PutBytes, PutTag, Pad, All: the walks.
  Pages: what is put, in plain words; new pages.
-/
import Derived.Test.YtfpeioccnpinkaaZ27
import Derived.Test.YtfpeioccnpinkaaZ16
import Derived.Lib.AppendStr
import Derived.Test.YtfpeioccnpinkaaZ12
namespace Go.Proofs.Ytfpeioccnpinkaa
open Go.RowKit Go.Maps
set_option linter.unusedSimpArgs false
set_option linter.unusedVariables false

/-- .. as 'hTake', 'hCons' of <Name>Reg, for regions under no fact that is held. -/
theorem aTake {P : Program} {md : Region.Mode} {l : List Oper} {Q : Exit → Act → World → Prop} {i : Nat} {o : Oper} {v : Value} {fuel : Nat} {listed : Array Bool} {a : Act} {w : World} (hi : nth l i = some o)
    (hs : Region.noSelect l.toArray = true) (hf : Region.free md l.toArray listed i = true) (hr : (Region.ready md l.toArray listed).contains i = true)
    (hQ : ∀ c a w, Q (.panic c) (a.put o.dst v) w → Q (.panic c) a w) (hy : Yields P l.toArray o v a)
    (h : wpAny P md l.toArray Q fuel (listed.setIfInBounds i true) (a.put o.dst v) w) : wpAny P md l.toArray Q (fuel + 1) listed a w :=
  wpAny_take ((nth_eq l i).symm.trans hi) hs hf hr hQ hy h
theorem aCons {P : Program} {md : Region.Mode} {l : List Oper} {Q : Exit → Act → World → Prop} {i : Nat} {o : Oper} {fuel : Nat} {listed : Array Bool} {a : Act} {w : World} {rs : List Nat} (hi : nth l i = some o)
    (hw : Region.wanted o (yielded l.toArray a.tmps) = true)
    (h : ∀ K : Act → World → Prop, Shut (∀ a w, wpAny P md l.toArray Q fuel (listed.setIfInBounds i true) a w → K a w) → Oper.wp P o a w K Q)
    (hs : AllReady P md l.toArray Q fuel listed a w rs) : AllReady P md l.toArray Q fuel listed a w (i :: rs) :=
  AllReady.cons ((nth_eq l i).symm.trans hi) (fun K hK => by rw [if_pos hw]; exact h K hK) hs
theorem drewRegion {P : Program} {ops : Array Oper} {Q : Exit → Act → World → Prop} {id : Nat} {a : Act} {w : World} (hm : P.follows .mixedOrders = true)
    (h : wpAny P .any ops Q ops.size (Array.replicate ops.size false) a w.drew) : (Code.region id ops true).wp P Q a w := wp_region_any hm h

/-- 'append(out, src...)' as one operation: src is read and isn't empty, out is the call's own. -/
theorem wp_append_rb {P : Program} {w : World} {o : Oper} {a : Act} {K : Act → World → Prop} {Q : Exit → Act → World → Prop} (s x : Operand) (t : TypeId) (ho : o.op = .call { callee := .builtin .append, args := #[s, x], argTypes := #[t, t] })
    (e : TypeId) (i : TypeInfo) (ht : P.underlying t = some (.slice e)) (hi : P.info? e = some i) (hz : i.zero = some (.int .u8 0)) (hsize : i.size = 1) (hby : i.bytes = 1)
    (v : Value) (n : Nat) (ys : List Nat) (hs : a.eval s = v) (hown : w.ownsRow 0 e 1 v n (ys.map Y))
    (ad : Option Addr) (c m : Nat) (zs : List Nat) (hx : a.eval x = .slice ad m c) (hm : m = zs.length) (hne : zs ≠ []) (hrd : Rb w ad c zs) (hlen : n + zs.length ≤ 2000000000)
    (h : ∀ v' w', w'.ownsRow 0 e 1 v' (n + zs.length) ((ys ++ zs).map Y) → w.grownBy w' v.ownBlock → (v'.ownBlock = v.ownBlock ∨ v'.ownBlock = some w.heap.size) → K (a.put o.dst v') w') : o.wp P a w K Q := by
  subst hm
  rcases hrd.fm with h0 | ⟨b, off, rfl, hb, hc⟩
  · exact absurd h0 hne
  · obtain ⟨v', w', hr, h2, h3, h4, h5⟩ := run_append_own_at (P := P) w 0 t o.type e i (.int .u8 0) 1 1 ht hi hz hsize hby rfl (by decide) v n (ys.map Y) hown ⟨b, off, none⟩ zs.length c (zs.map Y) (by simp) (by
      intro j u hj
      have hjl : j < zs.length := by
        rcases Nat.lt_or_ge j zs.length with h1 | h1
        · exact h1
        · rw [List.getElem?_eq_none (by simpa using h1)] at hj; cases hj
      have hadd : (⟨b, off, none⟩ : Addr).add j = ⟨b, off + j, none⟩ := by unfold Addr.add; split <;> simp_all
      rw [hadd, hc j hjl]
      rw [List.getElem?_map, List.getElem?_eq_getElem hjl] at hj
      simp at hj
      rw [← hj]
      simp [List.getD, hjl, Y]) (oneCell_Y zs) (by unfold maxLen; omega) (by omega) (Nat.zero_le _)
    unfold Oper.wp execOp
    simp only [ho, resolve, invoke, builtin, Sem.run_bind, Sem.run_pure, Result.andThen_ok, List.map_toArray, List.map_cons, List.map_nil, hs, hx, hr]
    exact h v' w' (by rw [List.map_append]; exact h2) h3 h5

/-- 'append(out, text...)': where the new slice lies. -/
theorem wpList_append_str {P : Program} {w : World} {ops : Array Oper} {rest : List Oper} {o : Oper} {a : Act} {Q : Exit → Act → World → Prop} (hgd : o.guard = none) (sl x : Operand) (t u : TypeId)
    (ho : o.op = .call { callee := .builtin .append, args := #[sl, x], argTypes := #[t, u] })
    (e : TypeId) (i : TypeInfo) (ht : P.underlying t = some (.slice e)) (hu : P.underlying u = some .string) (hi : P.info? e = some i) (hz : i.zero = some (.int .u8 0))
    (hsize : i.size = 1) (hby : i.bytes = 1)
    (v : Value) (n : Nat) (ys : List Nat) (hs : a.eval sl = v) (hown : w.ownsRow 0 e 1 v n (ys.map Y)) (s : ByteArray) (hx : a.eval x = .string s) (hlen : n + s.size ≤ 2000000000)
    (h : ∀ v' w', w'.ownsRow 0 e 1 v' (n + s.size) ((ys ++ sb s).map Y) → w.grownBy w' v.ownBlock → (v'.ownBlock = v.ownBlock ∨ v'.ownBlock = some w.heap.size) → wpList P ops Q rest (a.put o.dst v') w') : wpList P ops Q (o :: rest) a w := by
  refine wpList_plain hgd fun K hK => ?_
  obtain ⟨v', w', hr, h2, h3, h4⟩ := Lib.run_append_own_string (P := P) w 0 t u o.type e i ht hu hi hz hsize hby v n (ys.map Y) hown s (by unfold maxLen; omega) (by omega) (Nat.zero_le _)
  have hat : v'.ownBlock = v.ownBlock ∨ v'.ownBlock = some w.heap.size := by
    rcases hown.2 with ⟨rfl, rfl⟩ | ⟨g, cap, cur, rfl, hbg, hg, hnc, hcm, hcs, htake⟩
    · by_cases hm : s.size = 0
      · have := h4.2 ⟨rfl, hm⟩
        subst this
        exact .inl rfl
      · have hr' := run_append_nil_string (P := P) w t u o.type e i (.int .u8 0) ht hu hi hz s (by omega) (by omega) (by rw [hby]; omega)
        rw [hr'] at hr
        injection hr with e1 e2
        subst e1
        exact .inr rfl
    · by_cases hroom : n + s.size ≤ cap
      · have hr' := Lib.run_append_room_string (P := P) w t u o.type e i ht hu hi hsize g n cap cur hg s hroom (by simp at hcs; omega)
        rw [hr'] at hr
        injection hr with e1 e2
        subst e1
        exact .inl rfl
      · have holds : ∀ j u, (ys.map Y)[j]? = some u → w.cell? ((⟨g, 0, none⟩ : Addr).add j) = some u := hown.cells (g := g) rfl
        have hr' := Lib.run_append_grow_string (P := P) w t u o.type e i (.int .u8 0) ht hu hi hz ⟨g, 0, none⟩ n cap (ys.map Y) (by rw [hsize]; have := hown.1; omega) holds s (by omega) (by omega) (by rw [hby]; exact growslice_fits (by omega) (by omega))
        rw [hr'] at hr
        injection hr with e1 e2
        subst e1
        exact .inr rfl
  unfold Oper.wp execOp
  simp only [ho, resolve, invoke, builtin, Sem.run_bind, Sem.run_pure, Result.andThen_ok, List.map_toArray, List.map_cons, List.map_nil, hs, hx, hr]
  refine hK _ _ (h v' w' ?_ h3 hat)
  rw [List.map_append]
  have e1 : (sb s).map Y = Lib.strCells s := by
    simp only [sb, Lib.strCells, List.map_map]
    rfl
  rw [e1]
  exact h2

/-- A page of the reference whose bytes have grown. -/
theorem Ps.appd {w w1 : World} {B : Nat} {G : Nat → Prop} {s : St} {vb vw v' : Value} {ts : List Nat} (h1 : ∀ k, G k → k < w.heap.size) (h2 : ¬ G B) (h4 : Bx3 w B vb vw (.bool s.no)) (h5 : Row w G vb s.bs) (h6 : RowI w G vw s.ws)
    (hown : w1.ownsRow 0 5 1 v' ts.length (ts.map Y)) (hgrow : w.grownBy w1 vb.ownBlock) (hat : v'.ownBlock = vb.ownBlock ∨ v'.ownBlock = some w.heap.size) (hw : Wf { s with bs := ts }) :
    Ps (w1.setCell ⟨B, 0, none⟩ v') B G { s with bs := ts } ∧ Keep G w (w1.setCell ⟨B, 0, none⟩ v') := by
  have hoff : ∀ k, k < w1.heap.size → k ≠ B → (w1.setCell ⟨B, 0, none⟩ v').heap[k]? = w1.heap[k]? := fun k _ hk => Below.heap_setCell _ ⟨B, 0, none⟩ v' k hk
  have h42 := h4.grown h5 hgrow
  have h62 := h6.grown h5 hgrow
  have hnG : ∀ g, v'.ownBlock = some g → ¬ G g := by
    intro g hg hGg
    rcases hat with hat | hat
    · exact h5.2 g (by rw [← hat]; exact hg) hGg
    · rw [hat] at hg
      have := h1 g hGg
      simp at hg
      omega
  have hR2 : Row w1 G v' ts := ⟨hown, hnG⟩
  have hK := ((Keep.refl G w).grown hgrow h1 (fun k hk => h5.2 k hk)).setCell (p := ⟨B, 0, none⟩) h2 v'
  exact ⟨⟨fun k hk => Nat.lt_of_lt_of_le (h1 k hk) hK.size, h2, hw, v', vw, h42.set0 v', hR2.off h42 (by decide) hoff, h62.off h42 (by decide) hoff⟩, hK⟩
/-- .. which has failed. -/
theorem Ps.failed {w : World} {B : Nat} {G : Nat → Prop} {s : St} {vb vw : Value} (h1 : ∀ k, G k → k < w.heap.size) (h2 : ¬ G B) (hw : Wf s) (h4 : Bx3 w B vb vw (.bool s.no)) (h5 : Row w G vb s.bs) (h6 : RowI w G vw s.ws) (b : Bool) :
    Ps (w.setCell ⟨B, 2, none⟩ (.bool b)) B G { s with no := b } ∧ Keep G w (w.setCell ⟨B, 2, none⟩ (.bool b)) := by
  have hoff : ∀ k, k < w.heap.size → k ≠ B → (w.setCell ⟨B, 2, none⟩ (.bool b)).heap[k]? = w.heap[k]? := fun k _ hk => Below.heap_setCell _ ⟨B, 2, none⟩ _ k hk
  have hK := (Keep.refl G w).setCell (p := ⟨B, 2, none⟩) h2 (.bool b)
  exact ⟨⟨fun k hk => Nat.lt_of_lt_of_le (h1 k hk) hK.size, h2, hw, vb, vw, h4.set2 _, h5.off h4 (by decide) hoff, h6.off h4 (by decide) hoff⟩, hK⟩
theorem Rb.off3 {w : World} {B : Nat} {x0 x1 x2 : Value} (hB : Bx3 w B x0 x1 x2) (h0 : ∀ z, x0 ≠ .int .u8 z) (h1 : ∀ z, x1 ≠ .int .u8 z) (h2 : ∀ z, x2 ≠ .int .u8 z)
    {w' : World} {a : Option Addr} {cap : Nat} {xs : List Nat} (h : Rb w a cap xs) (hs : w.heap.size ≤ w'.heap.size) (hw : ∀ k, k < w.heap.size → k ≠ B → w'.heap[k]? = w.heap[k]?) : Rb w' a cap xs := by
  obtain ⟨k1, k2, k3, k5, k4⟩ := h
  refine ⟨k1, k2, k3, k5, ?_⟩
  by_cases hx : xs = []
  · exact .inl hx
  rcases k4 with k4 | ⟨g, off, e, hg, hc⟩
  · exact .inl k4
  · refine .inr ⟨g, off, e, Nat.lt_of_lt_of_le hg hs, fun i hi => ?_⟩
    have hne : g ≠ B := by
      rintro rfl
      have hc0 := hc 0 (List.length_pos_iff.2 hx)
      have hb := cell_of_row w g (off + 0) _ _ (0, 0) hB
      rw [hc0] at hb
      match off, hb with
      | 0, hb => simp at hb; exact h0 _ hb.symm
      | 1, hb => simp at hb; exact h1 _ hb.symm
      | 2, hb => simp at hb; exact h2 _ hb.symm
      | (k + 3), hb => simp at hb
    exact (World.cell?_of_block (w := w) (a := ⟨g, off + i, none⟩) (hw g hg hne)).trans (hc i hi)

end Go.Proofs.Ytfpeioccnpinkaa

namespace Go.Proofs.Ytfpeioccnpinkaa
open Go.RowKit Go.Maps
set_option linter.unusedSimpArgs false
set_option linter.unusedVariables false
set_option maxHeartbeats 1000000 in
set_option maxRecDepth 100000 in
theorem sputTag_any (B : Nat) (G : Nat → Prop) (s : St) (t : ByteArray) (w : World) (h : Ps w B G s) (ht : t.size ≤ maxLen) (hl : s.bs.length + 4 ≤ 1048576) :
    Calls Try.prog 28 #[pg B, .string t] w fun e w' => e = .returned (.tuple #[]) ∧ Ps w' B G (s.tag (sb t)) ∧ Keep G w w' := by
  obtain ⟨i0, hi, hz0, hz1, hz2⟩ := info_parts info_byte
  have hP := h
  obtain ⟨h1, h2, h3, vb, vw, h4, h5, h6⟩ := h
  go_enter Try.func28, Try.ntmps28
  go_wp2_with fail
  refine (done_any B G s _ hP (by omega)).mono ?_
  rintro e u ⟨rfl, rfl⟩
  by_cases hno : s.no = true
  · rw [hno]
    go_wp2
    (try simp only [Exit.inBlock, Exit.then]); refine bodyPost_ret (results_none rfl _ _ _) rfl ?_
    refine ⟨rfl, ?_, Keep.refl _ _⟩
    have e : s.tag (sb t) = s := by unfold St.tag; split; exact St.app_bad hno _; exact St.fail_bad hno
    rw [e]
    exact hP
  · have hno : s.no = false := by simpa using hno
    rw [hno]
    obtain ⟨c0, c1, c2, f0, f1, f2⟩ := h4.cells
    go_wp2_with fail
    refine (sgood_any t _ ht).mono ?_
    rintro e u ⟨rfl, rfl⟩
    by_cases hg : gd (sb t) = true
    · rw [hg]
      have hs : Hid (s.tag (sb t) = s.app (sb t)) := by show s.tag (sb t) = _; simp [St.tag, hg]
      have hsz : t.size = 4 := by rw [← len_sb]; simp [gd] at hg; exact hg.1
      have Hsz : Hid (t.size = 4) := hsz
      clear hsz hg
      obtain ⟨hP2, hK2⟩ := Ps.failed h1 h2 h3 h4 h5 h6 false
      obtain ⟨W, hW⟩ : ∃ W, W = w.setCell ⟨B, 2, none⟩ (.bool false) := ⟨_, rfl⟩
      have h4' := h4.set2 (.bool false)
      have hoff : ∀ k, k < w.heap.size → k ≠ B → (w.setCell ⟨B, 2, none⟩ (.bool false)).heap[k]? = w.heap[k]? := fun k _ hk => Below.heap_setCell _ ⟨B, 2, none⟩ _ k hk
      have h5' := h5.off h4 (by decide) hoff
      have h6' := h6.off h4 (by decide) hoff
      have h1' : ∀ k, G k → k < (w.setCell ⟨B, 2, none⟩ (.bool false)).heap.size := fun k hk => Nat.lt_of_lt_of_le (h1 k hk) hK2.size
      clear hW W hP2
      go_wp2_with (at_builtin; refine wpList_append_str rfl _ _ 37 9 rfl 5 i0 Try.underlying37 Try.underlying9 hi hz0 hz1 hz2 _ s.bs.length s.bs rfl h5'.1 t rfl (by rw [Hsz.out]; omega) ?_)
      intro v' w1 hown hgrow hat
      obtain ⟨ts, hts⟩ : ∃ ts, s.bs ++ sb t = ts := ⟨_, rfl⟩
      have htl : s.bs.length + t.size = ts.length := by rw [← hts, List.length_append, len_sb]
      rw [← List.map_append, hts, htl] at hown
      have HT : Hid (s.bs ++ sb t = ts) := hts
      have hBt : Byt ts := hts ▸ h3.1.append (byt_sb t)
      have h4n : Bx3 (w.setCell ⟨B, 2, none⟩ (.bool false)) B vb vw (.bool s.no) := by rw [hno]; exact h4'
      have hfin := Ps.appd (s := s) h1' h2 h4n h5' h6' hown hgrow (by simpa [World.setCell] using hat) (by have := h3.app (byt_sb t); rw [St.app_ok hno, hts] at this; exact this)
      have h42 := h4'.grown h5' hgrow
      obtain ⟨a2, cap2, rfl, _⟩ := Rw.of hBt hown
      obtain ⟨d0, d1, d2, g0, g1, g2⟩ := h42.cells
      clear hts htl
      go_wp2
      go_end0
      refine ⟨rfl, ?_, hK2.trans hfin.2⟩
      rw [hs.out, St.app_ok hno, HT.out]
      exact hfin.1
    · have hg : gd (sb t) = false := by simpa using hg
      have hs : Hid (s.tag (sb t) = s.fail) := by show s.tag (sb t) = _; simp [St.tag, hg]
      rw [hg]
      clear hg
      obtain ⟨hP2, hK2⟩ := Ps.failed h1 h2 h3 h4 h5 h6 true
      go_wp2
      go_end0
      exact ⟨rfl, by rw [hs.out]; exact hP2, hK2⟩

set_option maxHeartbeats 1000000 in
set_option maxRecDepth 100000 in
theorem sall_any (B : Nat) (G : Nat → Prop) (s : St) (w : World) (h : Ps w B G s) (hl : s.bs.length ≤ 1048576) :
    Calls Try.prog 29 #[pg B] w fun e w' => ∃ a' cap', e = .returned (.tuple #[.slice a' (allB s).length cap', .int .i64 (allE s)]) ∧ Rw 5 w.heap.size w' a' cap' (allB s) ∧ Below w.heap.size w w' := by
  obtain ⟨i0, hi, hz0, hz1, hz2⟩ := info_parts info_byte
  obtain ⟨h1, h2, h3, vb, vw, h4, h5, h6⟩ := h
  obtain ⟨c0, c1, c2, f0, f1, f2⟩ := h4.cells
  obtain ⟨a, c, rfl⟩ := h5.slice
  obtain ⟨aw, cw, rfl, q1, q2, _⟩ := h6.1.slice
  have hrb := h5.rb h3.1
  unfold maxLen at q2
  by_cases hno : s.no = true
  · have HE : Hid (allE s = 4) := by show allE s = 4; simp [allE, hno]
    have HB : Hid (allB s = []) := by show allB s = []; simp [allB, hno]
    rw [hno] at c2
    clear h1 h2 h3 h4 h5 h6 hno
    go_enter Try.func29, Try.ntmps29
    go_wp2
    go_ret2
    refine ⟨none, 0, rt_two (by rw [HB.out]; rfl) (by rw [HE.out]; rfl), ?_, Below.refl _ _⟩
    rw [HB.out]
    exact Rw.nil _ _
  · have hno : s.no = false := by simpa using hno
    rw [hno] at c2
    by_cases hws : s.ws = []
    · have HE : Hid (allE s = 0) := by show allE s = 0; simp [allE, hno, hws]
      have HB : Hid (allB s = s.bs) := by show allB s = s.bs; simp [allB, hno, hws]
      rw [hws] at c1
      generalize s.bs = bs at *
      clear h1 h2 h3 h4 h5 h6 hno hws
      go_enter Try.func29, Try.ntmps29
      go_wp2_with (at_builtin; refine wpList_append_rb rfl _ _ 37 rfl w.heap.size 5 i0 Try.underlying37 hi hz0 hz1 hz2 _ 0 [] rfl (World.ownsRow_nil w _ _ 1) a c _ bs rfl rfl hrb (by omega) (Nat.le_refl _) ?_)
      intro v' w1 hown hgrow hat
      obtain ⟨a', cap', rfl, hres⟩ := Rw.of hrb.lim hown
      go_wp2
      go_ret2
      refine ⟨a', cap', rt_two (by rw [HB.out]; rfl) (by rw [HE.out]; rfl), ?_, (Below.refl _ _).grown hgrow (Nat.le_refl _) (fun k hk => by simp [Value.ownBlock] at hk)⟩
      rw [HB.out]
      exact hres
    · have HE : Hid (allE s = 1) := by show allE s = 1; simp [allE, hno, hws]
      have HB : Hid (allB s = []) := by show allB s = []; simp [allB, hno, hws]
      have hpos : 0 < s.ws.length := List.length_pos_iff.2 hws
      have hpos' : 0 < (s.ws.length : Int) := by omega
      clear h1 h2 h3 h4 h5 h6 hno hws
      go_enter Try.func29, Try.ntmps29
      go_wp2
      go_ret2
      refine ⟨none, 0, rt_two (by rw [HB.out]; rfl) (by rw [HE.out]; rfl), ?_, Below.refl _ _⟩
      rw [HB.out]
      exact Rw.nil _ _

set_option maxHeartbeats 4000000 in
set_option maxRecDepth 100000 in
theorem sput_any (n lo hi1 : Int) (be : Int → List Nat) (hbyt : ∀ x, Byt (be x)) (hlen : ∀ x, (be x).length ≤ 4) (hne : ∀ x, be x ≠ []) (hper : ∀ x, be (x + (hi1 + 1)) = be x)
    (hbig : ∀ (x : Int) (w : World), 0 ≤ x → x ≤ 9223372036854775807 → Calls Try.prog 66 #[.int .i64 x, .int .i64 n] w fun e w' => ∃ a cap, e = .returned (.slice a (be x).length cap) ∧ Rb w' a cap (be x) ∧ Below w.heap.size w w')
    (hlo : lo = -(hi1 + 1) / 2) (hh0 : 0 ≤ hi1) (hh1 : hi1 ≤ 4294967295) (put : St → Int → St) (hput : ∀ s x, put s x = if lo ≤ x ∧ x ≤ hi1 then s.app (be x) else s.fail)
    (B : Nat) (G : Nat → Prop) (s : St) (x : Int) (w : World) (h : Ps w B G s) (hx : I64 x) (hl : s.bs.length + 4 ≤ 1048576) :
    Calls Try.prog 47 #[pg B, .int .i64 x, .int .i64 n, .int .i64 lo, .int .i64 hi1] w fun e w' => e = .returned (.tuple #[]) ∧ Ps w' B G (put s x) ∧ Keep G w w' := by
  obtain ⟨i0, hi, hz0, hz1, hz2⟩ := info_parts info_byte
  have hP := h
  obtain ⟨h1, h2, h3, vb, vw, h4, h5, h6⟩ := h
  obtain ⟨x1, x2⟩ := hx
  obtain ⟨c0, c1, c2, f0, f1, f2⟩ := h4.cells
  have HPER : Hid (∀ x, be (x + (hi1 + 1)) = be x) := hper
  clear hper
  have hlo1 : -2147483648 ≤ lo := by omega
  have hlo2 : lo ≤ 0 := by omega
  by_cases hno : s.no = true
  · have hst : Hid (put s x = s) := by
      show put s x = s
      rw [hput]
      split
      · exact St.app_bad hno _
      · exact St.fail_bad hno
    clear hput
    go_enter Try.func47, Try.ntmps47
    go_wp2_with fail
    refine (done_any B G s _ hP (by omega)).mono ?_
    rintro e u ⟨rfl, rfl⟩
    rw [hno]
    go_wp2
    (try simp only [Exit.inBlock, Exit.then]); refine bodyPost_ret (results_none rfl _ _ _) rfl ?_
    exact ⟨rfl, by rw [hst.out]; exact hP, Keep.refl _ _⟩
  have hno : s.no = false := by simpa using hno
  by_cases hr : lo ≤ x ∧ x ≤ hi1
  rotate_left
  · have hst : Hid (put s x = s.fail) := by show put s x = _; rw [hput, if_neg hr]
    obtain ⟨hP2, hK2⟩ := Ps.failed h1 h2 h3 h4 h5 h6 true
    have hor : x < lo ∨ (lo ≤ x ∧ hi1 < x) := by omega
    clear hr hput
    rcases hor with r1 | ⟨r1, r2⟩
    all_goals
      go_enter Try.func47, Try.ntmps47
      go_wp2_with fail
      refine (done_any B G s _ hP (by omega)).mono ?_
      rintro e u ⟨rfl, rfl⟩
      rw [hno]
      go_wp2
      (try simp only [Exit.inBlock, Exit.then]); refine bodyPost_ret (results_none rfl _ _ _) rfl ?_
      exact ⟨rfl, by rw [hst.out]; exact hP2, hK2⟩
  have hst : Hid (put s x = s.app (be x)) := by show put s x = _; rw [hput, if_pos hr]
  obtain ⟨r1, r2⟩ := hr
  clear hput
  by_cases hneg : x < 0
  · have hX0 : 0 ≤ x + (hi1 + 1) := by omega
    have hX1 : x + (hi1 + 1) ≤ 9223372036854775807 := by omega
    clear hlo
    go_enter Try.func47, Try.ntmps47
    go_wp2_with fail
    refine (done_any B G s _ hP (by omega)).mono ?_
    rintro e u ⟨rfl, rfl⟩
    rw [hno]
    go_wp2_with fail
    refine drewRegion (by kernel_rfl) ?_
    have hbw : Below w.heap.size w w.drew := Below.drew (Below.refl _ _)
    have hQ : Bx3 w.drew B vb vw (.bool false) := by rw [← hno]; exact h4.below hbw
    have hR := h5.stay (w' := w.drew) (fun k hk _ => hbw.block k hk)
    have hI := h6.stay (w' := w.drew) (fun k hk _ => hbw.block k hk)
    generalize w.drew = u3 at hbw hQ hR hI ⊢
    have d0 := hQ.cells.1
    have g0 := hQ.cells.2.2.2.1
    refine aTake (i := 0) (v := ?v1) rfl (by kernel_rfl) (by kernel_rfl) (by kernel_rfl) (fun _ _ _ h => h) (Or.inl ⟨by rfl, ?y1⟩) ?r1
    case y1 =>
      intro w9
      go_simp
      try with_reducible rfl
    try simp only [Act.put, List.setIfInBounds_toArray, List.set_cons_zero, List.set_cons_succ]
    refine aTake (i := 1) (v := ?v2) rfl (by kernel_rfl) (by kernel_rfl) (by kernel_rfl) (fun _ _ _ h => h) (Or.inl ⟨by rfl, ?y2⟩) ?r2
    case y2 =>
      intro w9
      go_simp
      try with_reducible rfl
    try simp only [Act.put, List.setIfInBounds_toArray, List.set_cons_zero, List.set_cons_succ]
    refine aTake (i := 2) (v := ?v3) rfl (by kernel_rfl) (by kernel_rfl) (by kernel_rfl) (fun _ _ _ h => h) (Or.inl ⟨by rfl, ?y3⟩) ?r3
    case y3 =>
      intro w9
      go_simp
      try with_reducible rfl
    try simp only [Act.put, List.setIfInBounds_toArray, List.set_cons_zero, List.set_cons_succ]
    refine aTake (i := 3) (v := ?v4) rfl (by kernel_rfl) (by kernel_rfl) (by kernel_rfl) (fun _ _ _ h => h) (Or.inl ⟨by rfl, ?y4⟩) ?r4
    case y4 =>
      intro w9
      go_simp
      try with_reducible rfl
    try simp only [Act.put, List.setIfInBounds_toArray, List.set_cons_zero, List.set_cons_succ]
    refine aTake (i := 5) (v := ?v5) rfl (by kernel_rfl) (by kernel_rfl) (by kernel_rfl) (fun _ _ _ h => h) (Or.inl ⟨by rfl, ?y5⟩) ?r5
    case y5 =>
      intro w9
      go_simp
      try with_reducible rfl
    try simp only [Act.put, List.setIfInBounds_toArray, List.set_cons_zero, List.set_cons_succ]
    refine aTake (i := 6) (v := ?v6) rfl (by kernel_rfl) (by kernel_rfl) (by kernel_rfl) (fun _ _ _ h => h) (Or.inl ⟨by rfl, ?y6⟩) ?r6
    case y6 =>
      intro w9
      go_simp
      try with_reducible rfl
    try simp only [Act.put, List.setIfInBounds_toArray, List.set_cons_zero, List.set_cons_succ]
    refine wpAny_ready (rs := [4, 7]) (by kernel_rfl) (by simp) (aCons (i := 4) rfl (by rfl) (fun K hK => ?_) (aCons (i := 7) rfl (by rfl) (fun K hK => ?_) AllReady.nil))
    · go_simp
      refine hK.out _ _ ?_
      clear hK K
      try simp only [Act.put, List.setIfInBounds_toArray, List.set_cons_zero, List.set_cons_succ]
      refine wpAny_ready (rs := [7]) (by kernel_rfl) (by simp) (aCons (i := 7) rfl (by rfl) (fun K hK => ?_) AllReady.nil)
      go_simp
      refine (hbig (x + (hi1 + 1)) _ hX0 hX1).mono ?_
      rintro e u4 ⟨a4, c4, rfl, hr4, hb4⟩
      go_wp2_with fail
      have hQ := hQ.below hb4
      have hR := hR.stay (fun k hk _ => hb4.block k hk)
      have hI := hI.stay (fun k hk _ => hb4.block k hk)
      have hbw := hbw.trans (hb4.mono hbw.size)
      have d0 := hQ.cells.1
      have g0 := hQ.cells.2.2.2.1
      refine hK.out _ _ ?_
      clear hK K
      try simp only [Act.put, List.setIfInBounds_toArray, List.set_cons_zero, List.set_cons_succ]
      refine wpAny_ready (rs := [8]) (by kernel_rfl) (by simp) (aCons (i := 8) rfl (by rfl) (fun K hK => ?_) AllReady.nil)
      refine wp_append_rb (.tmp 33) (.tmp 36) 37 rfl 5 i0 Try.underlying37 hi hz0 hz1 hz2 _ s.bs.length s.bs rfl hR.1 a4 c4 _ (be (x + (hi1 + 1))) rfl rfl (hne (x + (hi1 + 1))) hr4 (by have := hlen (x + (hi1 + 1)); omega) ?_
      intro v' w1 hown hgrow hat
      obtain ⟨ts, hts⟩ : ∃ ts, s.bs ++ be (x + (hi1 + 1)) = ts := ⟨_, rfl⟩
      have htl : s.bs.length + (be (x + (hi1 + 1))).length = ts.length := by rw [← hts, List.length_append]
      rw [hts, htl] at hown
      have hBt : Byt ts := hts ▸ h3.1.append (hbyt (x + (hi1 + 1)))
      have HT : Hid (s.bs ++ be (x + (hi1 + 1)) = ts) := hts
      have h1' : ∀ k, G k → k < u4.heap.size := fun k hk => Nat.lt_of_lt_of_le (h1 k hk) hbw.size
      have hfin := Ps.appd (s := s) h1' h2 (by rw [hno]; exact hQ) hR hI hown hgrow hat (by have := h3.app (hbyt (x + (hi1 + 1))); rw [St.app_ok hno, hts] at this; exact this)
      have h42 := hQ.grown hR hgrow
      obtain ⟨a2, cap2, rfl, _⟩ := Rw.of hBt hown
      have d0 := h42.cells.1
      have g0 := h42.cells.2.2.2.1
      clear hts htl
      refine hK.out _ _ ?_
      clear hK K
      try simp only [Act.put, List.setIfInBounds_toArray, List.set_cons_zero, List.set_cons_succ]
      refine aTake (i := 9) (v := ?v7) rfl (by kernel_rfl) (by kernel_rfl) (by kernel_rfl) (fun _ _ _ h => h) (Or.inl ⟨by rfl, ?y7⟩) ?r7
      case y7 =>
        intro w9
        go_simp
        try with_reducible rfl
      try simp only [Act.put, List.setIfInBounds_toArray, List.set_cons_zero, List.set_cons_succ]
      refine aTake (i := 10) (v := ?v8) rfl (by kernel_rfl) (by kernel_rfl) (by kernel_rfl) (fun _ _ _ h => h) (Or.inl ⟨by rfl, ?y8⟩) ?r8
      case y8 =>
        intro w9
        go_simp
        try with_reducible rfl
      try simp only [Act.put, List.setIfInBounds_toArray, List.set_cons_zero, List.set_cons_succ]
      refine wpAny_ready (rs := [11]) (by kernel_rfl) (by simp) (aCons (i := 11) rfl (by rfl) (fun K hK => ?_) AllReady.nil)
      go_simp
      refine hK.out _ _ ?_
      clear hK K
      try simp only [Act.put, List.setIfInBounds_toArray, List.set_cons_zero, List.set_cons_succ]
      refine wpAny_done (by kernel_rfl) ?_ _
      go_wp2
      go_end0
      have hKz := (Keep.of_below hbw h1).trans hfin.2
      refine ⟨rfl, ?_, hKz⟩
      rw [hst.out, ← HPER.out x, St.app_ok hno, HT.out]
      exact hfin.1
    · go_simp
      refine (hbig (x + (hi1 + 1)) _ hX0 hX1).mono ?_
      rintro e u4 ⟨a4, c4, rfl, hr4, hb4⟩
      go_wp2_with fail
      have hQ := hQ.below hb4
      have hR := hR.stay (fun k hk _ => hb4.block k hk)
      have hI := hI.stay (fun k hk _ => hb4.block k hk)
      have hbw := hbw.trans (hb4.mono hbw.size)
      have d0 := hQ.cells.1
      have g0 := hQ.cells.2.2.2.1
      refine hK.out _ _ ?_
      clear hK K
      try simp only [Act.put, List.setIfInBounds_toArray, List.set_cons_zero, List.set_cons_succ]
      refine wpAny_ready (rs := [4]) (by kernel_rfl) (by simp) (aCons (i := 4) rfl (by rfl) (fun K hK => ?_) AllReady.nil)
      go_simp
      refine hK.out _ _ ?_
      clear hK K
      try simp only [Act.put, List.setIfInBounds_toArray, List.set_cons_zero, List.set_cons_succ]
      refine wpAny_ready (rs := [8]) (by kernel_rfl) (by simp) (aCons (i := 8) rfl (by rfl) (fun K hK => ?_) AllReady.nil)
      refine wp_append_rb (.tmp 33) (.tmp 36) 37 rfl 5 i0 Try.underlying37 hi hz0 hz1 hz2 _ s.bs.length s.bs rfl hR.1 a4 c4 _ (be (x + (hi1 + 1))) rfl rfl (hne (x + (hi1 + 1))) hr4 (by have := hlen (x + (hi1 + 1)); omega) ?_
      intro v' w1 hown hgrow hat
      obtain ⟨ts, hts⟩ : ∃ ts, s.bs ++ be (x + (hi1 + 1)) = ts := ⟨_, rfl⟩
      have htl : s.bs.length + (be (x + (hi1 + 1))).length = ts.length := by rw [← hts, List.length_append]
      rw [hts, htl] at hown
      have hBt : Byt ts := hts ▸ h3.1.append (hbyt (x + (hi1 + 1)))
      have HT : Hid (s.bs ++ be (x + (hi1 + 1)) = ts) := hts
      have h1' : ∀ k, G k → k < u4.heap.size := fun k hk => Nat.lt_of_lt_of_le (h1 k hk) hbw.size
      have hfin := Ps.appd (s := s) h1' h2 (by rw [hno]; exact hQ) hR hI hown hgrow hat (by have := h3.app (hbyt (x + (hi1 + 1))); rw [St.app_ok hno, hts] at this; exact this)
      have h42 := hQ.grown hR hgrow
      obtain ⟨a2, cap2, rfl, _⟩ := Rw.of hBt hown
      have d0 := h42.cells.1
      have g0 := h42.cells.2.2.2.1
      clear hts htl
      refine hK.out _ _ ?_
      clear hK K
      try simp only [Act.put, List.setIfInBounds_toArray, List.set_cons_zero, List.set_cons_succ]
      refine aTake (i := 9) (v := ?v9) rfl (by kernel_rfl) (by kernel_rfl) (by kernel_rfl) (fun _ _ _ h => h) (Or.inl ⟨by rfl, ?y9⟩) ?r9
      case y9 =>
        intro w9
        go_simp
        try with_reducible rfl
      try simp only [Act.put, List.setIfInBounds_toArray, List.set_cons_zero, List.set_cons_succ]
      refine aTake (i := 10) (v := ?v10) rfl (by kernel_rfl) (by kernel_rfl) (by kernel_rfl) (fun _ _ _ h => h) (Or.inl ⟨by rfl, ?y10⟩) ?r10
      case y10 =>
        intro w9
        go_simp
        try with_reducible rfl
      try simp only [Act.put, List.setIfInBounds_toArray, List.set_cons_zero, List.set_cons_succ]
      refine wpAny_ready (rs := [11]) (by kernel_rfl) (by simp) (aCons (i := 11) rfl (by rfl) (fun K hK => ?_) AllReady.nil)
      go_simp
      refine hK.out _ _ ?_
      clear hK K
      try simp only [Act.put, List.setIfInBounds_toArray, List.set_cons_zero, List.set_cons_succ]
      refine wpAny_done (by kernel_rfl) ?_ _
      go_wp2
      go_end0
      have hKz := (Keep.of_below hbw h1).trans hfin.2
      refine ⟨rfl, ?_, hKz⟩
      rw [hst.out, ← HPER.out x, St.app_ok hno, HT.out]
      exact hfin.1
  · have hX0 : 0 ≤ x := by omega
    have hX1 : x ≤ 9223372036854775807 := x2
    clear hlo
    go_enter Try.func47, Try.ntmps47
    go_wp2_with fail
    refine (done_any B G s _ hP (by omega)).mono ?_
    rintro e u ⟨rfl, rfl⟩
    rw [hno]
    go_wp2_with fail
    refine drewRegion (by kernel_rfl) ?_
    have hbw : Below w.heap.size w w.drew := Below.drew (Below.refl _ _)
    have hQ : Bx3 w.drew B vb vw (.bool false) := by rw [← hno]; exact h4.below hbw
    have hR := h5.stay (w' := w.drew) (fun k hk _ => hbw.block k hk)
    have hI := h6.stay (w' := w.drew) (fun k hk _ => hbw.block k hk)
    generalize w.drew = u3 at hbw hQ hR hI ⊢
    have d0 := hQ.cells.1
    have g0 := hQ.cells.2.2.2.1
    refine aTake (i := 0) (v := ?v11) rfl (by kernel_rfl) (by kernel_rfl) (by kernel_rfl) (fun _ _ _ h => h) (Or.inl ⟨by rfl, ?y11⟩) ?r11
    case y11 =>
      intro w9
      go_simp
      try with_reducible rfl
    try simp only [Act.put, List.setIfInBounds_toArray, List.set_cons_zero, List.set_cons_succ]
    refine aTake (i := 1) (v := ?v12) rfl (by kernel_rfl) (by kernel_rfl) (by kernel_rfl) (fun _ _ _ h => h) (Or.inl ⟨by rfl, ?y12⟩) ?r12
    case y12 =>
      intro w9
      go_simp
      try with_reducible rfl
    try simp only [Act.put, List.setIfInBounds_toArray, List.set_cons_zero, List.set_cons_succ]
    refine aTake (i := 2) (v := ?v13) rfl (by kernel_rfl) (by kernel_rfl) (by kernel_rfl) (fun _ _ _ h => h) (Or.inl ⟨by rfl, ?y13⟩) ?r13
    case y13 =>
      intro w9
      go_simp
      try with_reducible rfl
    try simp only [Act.put, List.setIfInBounds_toArray, List.set_cons_zero, List.set_cons_succ]
    refine aTake (i := 3) (v := ?v14) rfl (by kernel_rfl) (by kernel_rfl) (by kernel_rfl) (fun _ _ _ h => h) (Or.inl ⟨by rfl, ?y14⟩) ?r14
    case y14 =>
      intro w9
      go_simp
      try with_reducible rfl
    try simp only [Act.put, List.setIfInBounds_toArray, List.set_cons_zero, List.set_cons_succ]
    refine aTake (i := 5) (v := ?v15) rfl (by kernel_rfl) (by kernel_rfl) (by kernel_rfl) (fun _ _ _ h => h) (Or.inl ⟨by rfl, ?y15⟩) ?r15
    case y15 =>
      intro w9
      go_simp
      try with_reducible rfl
    try simp only [Act.put, List.setIfInBounds_toArray, List.set_cons_zero, List.set_cons_succ]
    refine aTake (i := 6) (v := ?v16) rfl (by kernel_rfl) (by kernel_rfl) (by kernel_rfl) (fun _ _ _ h => h) (Or.inl ⟨by rfl, ?y16⟩) ?r16
    case y16 =>
      intro w9
      go_simp
      try with_reducible rfl
    try simp only [Act.put, List.setIfInBounds_toArray, List.set_cons_zero, List.set_cons_succ]
    refine wpAny_ready (rs := [4, 7]) (by kernel_rfl) (by simp) (aCons (i := 4) rfl (by rfl) (fun K hK => ?_) (aCons (i := 7) rfl (by rfl) (fun K hK => ?_) AllReady.nil))
    · go_simp
      refine hK.out _ _ ?_
      clear hK K
      try simp only [Act.put, List.setIfInBounds_toArray, List.set_cons_zero, List.set_cons_succ]
      refine wpAny_ready (rs := [7]) (by kernel_rfl) (by simp) (aCons (i := 7) rfl (by rfl) (fun K hK => ?_) AllReady.nil)
      go_simp
      refine (hbig x _ hX0 hX1).mono ?_
      rintro e u4 ⟨a4, c4, rfl, hr4, hb4⟩
      go_wp2_with fail
      have hQ := hQ.below hb4
      have hR := hR.stay (fun k hk _ => hb4.block k hk)
      have hI := hI.stay (fun k hk _ => hb4.block k hk)
      have hbw := hbw.trans (hb4.mono hbw.size)
      have d0 := hQ.cells.1
      have g0 := hQ.cells.2.2.2.1
      refine hK.out _ _ ?_
      clear hK K
      try simp only [Act.put, List.setIfInBounds_toArray, List.set_cons_zero, List.set_cons_succ]
      refine wpAny_ready (rs := [8]) (by kernel_rfl) (by simp) (aCons (i := 8) rfl (by rfl) (fun K hK => ?_) AllReady.nil)
      refine wp_append_rb (.tmp 33) (.tmp 36) 37 rfl 5 i0 Try.underlying37 hi hz0 hz1 hz2 _ s.bs.length s.bs rfl hR.1 a4 c4 _ (be x) rfl rfl (hne x) hr4 (by have := hlen x; omega) ?_
      intro v' w1 hown hgrow hat
      obtain ⟨ts, hts⟩ : ∃ ts, s.bs ++ be x = ts := ⟨_, rfl⟩
      have htl : s.bs.length + (be x).length = ts.length := by rw [← hts, List.length_append]
      rw [hts, htl] at hown
      have hBt : Byt ts := hts ▸ h3.1.append (hbyt x)
      have HT : Hid (s.bs ++ be x = ts) := hts
      have h1' : ∀ k, G k → k < u4.heap.size := fun k hk => Nat.lt_of_lt_of_le (h1 k hk) hbw.size
      have hfin := Ps.appd (s := s) h1' h2 (by rw [hno]; exact hQ) hR hI hown hgrow hat (by have := h3.app (hbyt x); rw [St.app_ok hno, hts] at this; exact this)
      have h42 := hQ.grown hR hgrow
      obtain ⟨a2, cap2, rfl, _⟩ := Rw.of hBt hown
      have d0 := h42.cells.1
      have g0 := h42.cells.2.2.2.1
      clear hts htl
      refine hK.out _ _ ?_
      clear hK K
      try simp only [Act.put, List.setIfInBounds_toArray, List.set_cons_zero, List.set_cons_succ]
      refine aTake (i := 9) (v := ?v17) rfl (by kernel_rfl) (by kernel_rfl) (by kernel_rfl) (fun _ _ _ h => h) (Or.inl ⟨by rfl, ?y17⟩) ?r17
      case y17 =>
        intro w9
        go_simp
        try with_reducible rfl
      try simp only [Act.put, List.setIfInBounds_toArray, List.set_cons_zero, List.set_cons_succ]
      refine aTake (i := 10) (v := ?v18) rfl (by kernel_rfl) (by kernel_rfl) (by kernel_rfl) (fun _ _ _ h => h) (Or.inl ⟨by rfl, ?y18⟩) ?r18
      case y18 =>
        intro w9
        go_simp
        try with_reducible rfl
      try simp only [Act.put, List.setIfInBounds_toArray, List.set_cons_zero, List.set_cons_succ]
      refine wpAny_ready (rs := [11]) (by kernel_rfl) (by simp) (aCons (i := 11) rfl (by rfl) (fun K hK => ?_) AllReady.nil)
      go_simp
      refine hK.out _ _ ?_
      clear hK K
      try simp only [Act.put, List.setIfInBounds_toArray, List.set_cons_zero, List.set_cons_succ]
      refine wpAny_done (by kernel_rfl) ?_ _
      go_wp2
      go_end0
      have hKz := (Keep.of_below hbw h1).trans hfin.2
      refine ⟨rfl, ?_, hKz⟩
      rw [hst.out, St.app_ok hno, HT.out]
      exact hfin.1
    · go_simp
      refine (hbig x _ hX0 hX1).mono ?_
      rintro e u4 ⟨a4, c4, rfl, hr4, hb4⟩
      go_wp2_with fail
      have hQ := hQ.below hb4
      have hR := hR.stay (fun k hk _ => hb4.block k hk)
      have hI := hI.stay (fun k hk _ => hb4.block k hk)
      have hbw := hbw.trans (hb4.mono hbw.size)
      have d0 := hQ.cells.1
      have g0 := hQ.cells.2.2.2.1
      refine hK.out _ _ ?_
      clear hK K
      try simp only [Act.put, List.setIfInBounds_toArray, List.set_cons_zero, List.set_cons_succ]
      refine wpAny_ready (rs := [4]) (by kernel_rfl) (by simp) (aCons (i := 4) rfl (by rfl) (fun K hK => ?_) AllReady.nil)
      go_simp
      refine hK.out _ _ ?_
      clear hK K
      try simp only [Act.put, List.setIfInBounds_toArray, List.set_cons_zero, List.set_cons_succ]
      refine wpAny_ready (rs := [8]) (by kernel_rfl) (by simp) (aCons (i := 8) rfl (by rfl) (fun K hK => ?_) AllReady.nil)
      refine wp_append_rb (.tmp 33) (.tmp 36) 37 rfl 5 i0 Try.underlying37 hi hz0 hz1 hz2 _ s.bs.length s.bs rfl hR.1 a4 c4 _ (be x) rfl rfl (hne x) hr4 (by have := hlen x; omega) ?_
      intro v' w1 hown hgrow hat
      obtain ⟨ts, hts⟩ : ∃ ts, s.bs ++ be x = ts := ⟨_, rfl⟩
      have htl : s.bs.length + (be x).length = ts.length := by rw [← hts, List.length_append]
      rw [hts, htl] at hown
      have hBt : Byt ts := hts ▸ h3.1.append (hbyt x)
      have HT : Hid (s.bs ++ be x = ts) := hts
      have h1' : ∀ k, G k → k < u4.heap.size := fun k hk => Nat.lt_of_lt_of_le (h1 k hk) hbw.size
      have hfin := Ps.appd (s := s) h1' h2 (by rw [hno]; exact hQ) hR hI hown hgrow hat (by have := h3.app (hbyt x); rw [St.app_ok hno, hts] at this; exact this)
      have h42 := hQ.grown hR hgrow
      obtain ⟨a2, cap2, rfl, _⟩ := Rw.of hBt hown
      have d0 := h42.cells.1
      have g0 := h42.cells.2.2.2.1
      clear hts htl
      refine hK.out _ _ ?_
      clear hK K
      try simp only [Act.put, List.setIfInBounds_toArray, List.set_cons_zero, List.set_cons_succ]
      refine aTake (i := 9) (v := ?v19) rfl (by kernel_rfl) (by kernel_rfl) (by kernel_rfl) (fun _ _ _ h => h) (Or.inl ⟨by rfl, ?y19⟩) ?r19
      case y19 =>
        intro w9
        go_simp
        try with_reducible rfl
      try simp only [Act.put, List.setIfInBounds_toArray, List.set_cons_zero, List.set_cons_succ]
      refine aTake (i := 10) (v := ?v20) rfl (by kernel_rfl) (by kernel_rfl) (by kernel_rfl) (fun _ _ _ h => h) (Or.inl ⟨by rfl, ?y20⟩) ?r20
      case y20 =>
        intro w9
        go_simp
        try with_reducible rfl
      try simp only [Act.put, List.setIfInBounds_toArray, List.set_cons_zero, List.set_cons_succ]
      refine wpAny_ready (rs := [11]) (by kernel_rfl) (by simp) (aCons (i := 11) rfl (by rfl) (fun K hK => ?_) AllReady.nil)
      go_simp
      refine hK.out _ _ ?_
      clear hK K
      try simp only [Act.put, List.setIfInBounds_toArray, List.set_cons_zero, List.set_cons_succ]
      refine wpAny_done (by kernel_rfl) ?_ _
      go_wp2
      go_end0
      have hKz := (Keep.of_below hbw h1).trans hfin.2
      refine ⟨rfl, ?_, hKz⟩
      rw [hst.out, St.app_ok hno, HT.out]
      exact hfin.1

theorem per1 (x : Int) : be1 (x + (255 + 1)) = be1 x := by
  simp only [be1, List.cons.injEq, and_true]
  omega
theorem per2 (x : Int) : be2 (x + (65535 + 1)) = be2 x := by
  simp only [be2, List.cons.injEq, and_true]
  omega
theorem sput16_any (B : Nat) (G : Nat → Prop) (s : St) (x : Int) (w : World) (h : Ps w B G s) (hx : I64 x) (hl : s.bs.length + 4 ≤ 1048576) :
    Calls Try.prog 27 #[pg B, .int .i64 x] w fun e w' => e = .returned (.tuple #[]) ∧ Ps w' B G (s.put16 x) ∧ Keep G w w' := by
  go_enter Try.func27, Try.ntmps27
  go_wp2_with fail
  refine (sput_any 2 (-32768) 65535 be2 byt_be2 (fun x => by simp [be2]) (fun x => by simp [be2]) per2 big2_any (by decide) (by decide) (by decide) St.put16 (fun _ _ => rfl) B G s x _ h hx hl).mono ?_
  rintro e u ⟨rfl, hP, hK⟩
  go_wp2
  go_end0
  exact ⟨rfl, hP, hK⟩

theorem per4 (x : Int) : be4 (x + (4294967295 + 1)) = be4 x := by
  simp only [be4, List.cons.injEq, and_true]
  omega
end Go.Proofs.Ytfpeioccnpinkaa

namespace Go.Proofs.Ytfpeioccnpinkaa
open Go.RowKit Go.Maps
set_option linter.unusedSimpArgs false
set_option linter.unusedVariables false

theorem put32A {bs : List Nat} {ws : List Int} {n : Int} (h1 : -2147483648 ≤ n) (h2 : n ≤ 4294967295) : (St.mk bs ws false).put32 n = ⟨bs ++ be4 n, ws, false⟩ := by simp [St.put32, h1, h2, St.app]
theorem put16A {bs : List Nat} {ws : List Int} {n : Int} (h1 : -32768 ≤ n) (h2 : n ≤ 65535) : (St.mk bs ws false).put16 n = ⟨bs ++ be2 n, ws, false⟩ := by simp [St.put16, h1, h2, St.app]
theorem tagA {bs : List Nat} {ws : List Int} {xs : List Nat} (h : gd xs = true) : (St.mk bs ws false).tag xs = ⟨bs ++ xs, ws, false⟩ := by simp [St.tag, h, St.app]
theorem ps_newA (w : World) (G : Nat → Prop) (hG : ∀ k, G k → k < w.heap.size) : Ps (w.alloc (.cells #[.slice none 0 0, .slice none 0 0, .bool false] 62)) w.heap.size G St.zero := by
  refine ⟨fun k hk => by have := hG k hk; simp; omega, fun h => by have := hG _ h; omega, Wf.zero, .slice none 0 0, .slice none 0 0, heap_alloc_new w _, ⟨World.ownsRow_nil _ 0 _ 1, fun g hg => by cases hg⟩, ⟨OwnI.nil _, fun g hg => by cases hg⟩⟩
theorem pc_newA (w : World) (G : Nat → Prop) (hG : ∀ k, G k → k < w.heap.size) : Pc (w.alloc (.cells #[.slice none 0 0, .int .i64 0, .map none, .bool false] 56)) w.heap.size G St.zero := by
  refine ⟨fun k hk => by have := hG k hk; simp; omega, fun h => by have := hG _ h; omega, Wf.zero, .slice none 0 0, .map none, heap_alloc_new w _, (fun h => by cases h), fun _ => ⟨⟨World.ownsRow_nil _ 0 _ 1, fun g hg => by cases hg⟩, .inl ⟨rfl, rfl⟩⟩⟩
theorem Pc.moreA {w : World} {B : Nat} {G : Nat → Prop} {s : St} (h : Pc w B G s) (o : Obj) : Pc (w.alloc o) B (fun k => G k ∨ k = w.heap.size) s := by
  refine h.guard_new (by simp) (fun k hk _ => (bl1 o).block k hk) ?_
  rintro k (hk | rfl)
  · exact ⟨by have := h.1 k hk; simp; omega, fun _ => hk⟩
  · exact ⟨by simp, fun hlt => absurd hlt (Nat.lt_irrefl _)⟩

end Go.Proofs.Ytfpeioccnpinkaa
