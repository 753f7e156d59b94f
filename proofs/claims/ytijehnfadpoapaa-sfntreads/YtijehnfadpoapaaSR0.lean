/-
  How tables lie in a world (Ts: read; To: a row of the call's own); foundryref05: filled, Sum, Find: the walks.
-/
import Derived.Test.YtijehnfadpoapaaSP2
import Derived.Test.YtijehnfadpoapaaOF
namespace Go.Proofs.Ytijehnfadpoapaa
open Go.RowKit Go.Maps
set_option linter.unusedSimpArgs false
set_option linter.unusedVariables false

/-- Tables that are read. -/
def Ts (w : World) (a : Option Addr) (cap : Nat) (l : List Tb) : Prop :=
  l.length ≤ cap ∧ cap ≤ maxLen ∧ (∀ t ∈ l, t.tx.size ≤ maxLen) ∧
  ∀ i, i < l.length → ∃ b off c0 c, a = some ⟨b, off, none⟩ ∧ b < w.heap.size ∧ w.cell? ⟨b, off + i * 2, none⟩ = some (.string (l.getD i Tb.none).tx) ∧
    w.cell? ⟨b, off + i * 2 + 1, none⟩ = some (.slice c0 (l.getD i Tb.none).bs.length c) ∧ Rb w c0 c (l.getD i Tb.none).bs
theorem Ts.at {w wr : World} {a : Option Addr} {cap : Nat} {l : List Tb} (h : Ts w a cap l) (hb : Below w.heap.size w wr) (k : Nat) (hk : k < l.length) :
    ∃ b off c0 c, a = some ⟨b, off, none⟩ ∧ b < w.heap.size ∧ wr.cell? ⟨b, off + k * 2, none⟩ = some (.string (l.getD k Tb.none).tx) ∧
    wr.cell? ⟨b, off + k * 2 + 1, none⟩ = some (.slice c0 (l.getD k Tb.none).bs.length c) ∧ Rb wr c0 c (l.getD k Tb.none).bs := by
  obtain ⟨b, off, c0, c, h1, h2, h3, h4, h5⟩ := h.2.2.2 k hk
  exact ⟨b, off, c0, c, h1, h2, (hb.cell (p := ⟨b, off + k * 2, none⟩) h2).trans h3, (hb.cell (p := ⟨b, off + k * 2 + 1, none⟩) h2).trans h4, h5.below hb⟩
theorem Ts.below {w w' : World} {a : Option Addr} {cap : Nat} {l : List Tb} (h : Ts w a cap l) (hb : Below w.heap.size w w') : Ts w' a cap l := by
  refine ⟨h.1, h.2.1, h.2.2.1, fun i hi => ?_⟩
  obtain ⟨b, off, c0, c, h1, h2, h3⟩ := h.at hb i hi
  exact ⟨b, off, c0, c, h1, Nat.lt_of_lt_of_le h2 hb.size, h3⟩
theorem getD_mem {l : List Tb} {k : Nat} (hk : k < l.length) : l.getD k Tb.none ∈ l := by
  rw [List.getD_eq_getElem?_getD, List.getElem?_eq_getElem hk]
  exact List.getElem_mem hk
theorem Ts.tx {w : World} {a : Option Addr} {cap : Nat} {l : List Tb} (h : Ts w a cap l) {k : Nat} (hk : k < l.length) : (l.getD k Tb.none).tx.size ≤ maxLen := h.2.2.1 _ (getD_mem hk)
theorem Ts.bs {w : World} {a : Option Addr} {cap : Nat} {l : List Tb} (h : Ts w a cap l) : ∀ t ∈ l, Byt t.bs ∧ t.bs.length ≤ maxLen := by
  intro t ht
  obtain ⟨i, hi, e⟩ := List.getElem_of_mem ht
  obtain ⟨b, off, c0, c, h1, h2, h3, h4, h5⟩ := h.2.2.2 i hi
  rw [List.getD_eq_getElem?_getD, List.getElem?_eq_getElem hi] at h5
  simp only [Option.getD_some, e] at h5
  exact ⟨h5.lim, Nat.le_trans h5.le h5.cap⟩
theorem Ts.nil (w : World) (a : Option Addr) (cap : Nat) (h : cap ≤ maxLen) : Ts w a cap [] := ⟨Nat.zero_le _, h, (fun t ht => by cases ht), fun i hi => by simp at hi⟩

/-- The cells of tables whose bytes lie in the blocks of G. -/
def Cs (G : Nat → Prop) (w : World) (xs : List Value) (l : List Tb) : Prop :=
  xs.length = l.length * 2 ∧ (∀ t ∈ l, t.tx.size ≤ maxLen) ∧ ∀ i, i < l.length → ∃ c0 c, xs[i * 2]? = some (.string (l.getD i Tb.none).tx) ∧ xs[i * 2 + 1]? = some (.slice c0 (l.getD i Tb.none).bs.length c) ∧
    Rb w c0 c (l.getD i Tb.none).bs ∧ ((l.getD i Tb.none).bs ≠ [] → ∀ b o, c0 = some ⟨b, o, none⟩ → G b)
theorem Rb.kept' {G : Nat → Prop} {w w' : World} {a : Option Addr} {cap : Nat} {xs : List Nat} (h : Rb w a cap xs) (hk : Keep G w w') (hG : xs ≠ [] → ∀ b o, a = some ⟨b, o, none⟩ → G b) : Rb w' a cap xs := by
  by_cases hx : xs = []
  · subst hx
    exact ⟨h.1, h.2.1, h.2.2.1, h.2.2.2.1, .inl rfl⟩
  · exact h.kept hk (hG hx)
theorem Cs.kept {G : Nat → Prop} {w w' : World} {xs : List Value} {l : List Tb} (h : Cs G w xs l) (hk : Keep G w w') : Cs G w' xs l := by
  refine ⟨h.1, h.2.1, fun i hi => ?_⟩
  obtain ⟨c0, c, h1, h2, h3, h4⟩ := h.2.2 i hi
  exact ⟨c0, c, h1, h2, h3.kept' hk h4, h4⟩
theorem Cs.mono {G G' : Nat → Prop} {w : World} {xs : List Value} {l : List Tb} (h : Cs G w xs l) (hG : ∀ k, G k → G' k) : Cs G' w xs l := by
  refine ⟨h.1, h.2.1, fun i hi => ?_⟩
  obtain ⟨c0, c, h1, h2, h3, h4⟩ := h.2.2 i hi
  exact ⟨c0, c, h1, h2, h3, fun hx b o e => hG b (h4 hx b o e)⟩
theorem Cs.nil (G : Nat → Prop) (w : World) : Cs G w [] [] := ⟨rfl, (fun t ht => by cases ht), fun i hi => by simp at hi⟩
theorem Cs.snoc {G : Nat → Prop} {w : World} {xs : List Value} {l : List Tb} (h : Cs G w xs l) (t : Tb) (c0 : Option Addr) (c : Nat) (ht : t.tx.size ≤ maxLen) (hr : Rb w c0 c t.bs) (hG : t.bs ≠ [] → ∀ b o, c0 = some ⟨b, o, none⟩ → G b) :
    Cs G w (xs ++ [.string t.tx, .slice c0 t.bs.length c]) (l ++ [t]) := by
  refine ⟨by simp [h.1]; omega, ?_, fun i hi => ?_⟩
  · intro s hs
    rcases List.mem_append.1 hs with hs | hs
    · exact h.2.1 s hs
    · rw [List.mem_singleton.1 hs]; exact ht
  · have hl := h.1
    by_cases hi' : i < l.length
    · obtain ⟨c0, c, h1, h2, h3, h4⟩ := h.2.2 i hi'
      have e : (l ++ [t]).getD i Tb.none = l.getD i Tb.none := by simp [List.getD, List.getElem?_append_left hi']
      rw [e]
      exact ⟨c0, c, by rw [List.getElem?_append_left (by omega)]; exact h1, by rw [List.getElem?_append_left (by omega)]; exact h2, h3, h4⟩
    · have e : i = l.length := by simp at hi; omega
      subst e
      have e : (l ++ [t]).getD l.length Tb.none = t := by simp [List.getD]
      rw [e]
      exact ⟨c0, c, by rw [List.getElem?_append_right (by omega), hl]; simp, by rw [List.getElem?_append_right (by omega), hl]; simp, hr, hG⟩

/-- A row of tables of the call's own. -/
def To (e : TypeId) (base : Nat) (G : Nat → Prop) (w : World) (v : Value) (l : List Tb) : Prop :=
  (∀ k, G k → k < w.heap.size) ∧ (∀ g, v.ownBlock = some g → ¬ G g) ∧ ∃ xs, w.ownsRow base e 2 v l.length xs ∧ Cs G w xs l
theorem To.nil (e : TypeId) (base : Nat) (G : Nat → Prop) (w : World) (hG : ∀ k, G k → k < w.heap.size) : To e base G w (.slice none 0 0) [] :=
  ⟨hG, (fun g hg => by cases hg), [], World.ownsRow_nil w base _ 2, Cs.nil G w⟩
theorem To.slice {e : TypeId} {base : Nat} {G : Nat → Prop} {w : World} {v : Value} {l : List Tb} (h : To e base G w v l) : ∃ a cap, v = .slice a l.length cap ∧ Ts w a cap l ∧ (∀ b o, a = some ⟨b, o, none⟩ → base ≤ b) := by
  obtain ⟨h1, h2, xs, h3, h4⟩ := h
  rcases h3.2 with ⟨rfl, h0⟩ | ⟨g, cap, cur, rfl, hb, hg, hc1, hc2, hc3, ht⟩
  · have : l = [] := List.length_eq_zero_iff.1 h0
    subst this
    exact ⟨none, 0, rfl, Ts.nil _ _ _ (Nat.zero_le _), fun b o hb => by cases hb⟩
  · refine ⟨_, cap, rfl, ⟨hc1, hc2, h4.2.1, fun i hi => ?_⟩, fun b o hbo => by cases hbo; exact hb⟩
    obtain ⟨c0, c, k1, k2, k3, k4⟩ := h4.2.2 i hi
    have hadd : ∀ j, (⟨g, 0, none⟩ : Addr).add j = ⟨g, 0 + j, none⟩ := by intro j; unfold Addr.add; split <;> simp_all
    have d1 := h3.cells (g := g) rfl (i * 2) _ k1
    have d2 := h3.cells (g := g) rfl (i * 2 + 1) _ k2
    rw [hadd] at d1 d2
    exact ⟨g, 0, c0, c, rfl, (Array.getElem?_eq_some_iff.1 hg).1, d1, d2, k3⟩
theorem To.below {e : TypeId} {base : Nat} {G : Nat → Prop} {w w' : World} {v : Value} {l : List Tb} (h : To e base G w v l) (hb : Below w.heap.size w w') : To e base G w' v l := by
  obtain ⟨h1, h2, xs, h3, h4⟩ := h
  refine ⟨fun k hk => Nat.lt_of_lt_of_le (h1 k hk) hb.size, h2, xs, ⟨h3.1, ?_⟩, h4.kept (Keep.of_below hb h1)⟩
  rcases h3.2 with h0 | ⟨g, cap', cur, k1, k2, k3, k4⟩
  · exact .inl h0
  · exact .inr ⟨g, cap', cur, k1, k2, (hb.block g (Array.getElem?_eq_some_iff.1 k3).1).trans k3, k4⟩
theorem To.lt {e : TypeId} {base : Nat} {G : Nat → Prop} {w : World} {v : Value} {l : List Tb} (h : To e base G w v l) {g : Nat} (hg : v.ownBlock = some g) : g < w.heap.size ∧ base ≤ g := by
  obtain ⟨h1, h2, xs, h3, h4⟩ := h
  rcases h3.2 with ⟨rfl, _⟩ | ⟨g', cap', cur, rfl, k2, k3, k4⟩
  · cases hg
  · simp only [Value.ownBlock, Option.some.injEq] at hg
    subst hg
    exact ⟨(Array.getElem?_eq_some_iff.1 k3).1, k2⟩
/-- Blocks made since may be counted to G. -/
theorem To.wide {e : TypeId} {base : Nat} {G : Nat → Prop} {w w' : World} {v : Value} {l : List Tb} (h : To e base G w v l) (hb : Below w.heap.size w w') : To e base (fun k => G k ∨ (w.heap.size ≤ k ∧ k < w'.heap.size)) w' v l := by
  have hl := fun g hg => (h.lt (g := g) hg).1
  obtain ⟨h1, h2, xs, h3, h4⟩ := h.below hb
  refine ⟨fun k hk => ?_, fun g hg => ?_, xs, h3, h4.mono (fun k hk => .inl hk)⟩
  · rcases hk with hk | hk
    · exact h1 k hk
    · exact hk.2
  · rintro (hk | hk)
    · exact h2 g hg hk
    · have := hl g hg; omega

def lenOf : Value → Nat
  | .slice _ n _ => n
  | _ => 0

set_option maxHeartbeats 1000000 in
set_option maxRecDepth 100000 in
theorem filled_any (a : Option Addr) (cap : Nat) (xs : List Nat) (w : World) (h : Rb w a cap xs) (hl : xs.length ≤ 1000000000) :
    Calls Try.prog 36 #[.slice a xs.length cap] w fun e w' => ∃ a' cap', e = .returned (.slice a' (fil xs).length cap') ∧ Rw 5 w.heap.size w' a' cap' (fil xs) ∧ Below w.heap.size w w' := by
  obtain ⟨i0, hi, hz0, hz1, hz2⟩ := info_parts info_byte
  go_enter Try.func36, Try.ntmps36
  go_wp2_with (at_builtin; refine wpList_append_rb rfl _ _ 23 rfl w.heap.size 5 i0 Try.underlying23 hi hz0 hz1 hz2 _ 0 [] rfl (World.ownsRow_nil w _ _ 1) a cap _ xs rfl rfl h (by omega) (Nat.le_refl _) ?_)
  intro v' w1 hown hgrow hat
  obtain ⟨a1, c1, rfl, hr1⟩ := Rw.of h.lim hown
  have hb1 : Below w.heap.size w w1 := (Below.refl w.heap.size w).grown hgrow (Nat.le_refl _) (by intro k hk; cases hk)
  clear hown hgrow hat
  go_wp2
  go_loopw [3] (fun v wr => ∃ j : Nat, j + padN (xs.length + j) 4 = padN xs.length 4 ∧ Below w.heap.size w wr ∧ ∃ a c, v = .slice a (xs ++ List.replicate j 0).length c ∧ Rw 5 w.heap.size wr a c (xs ++ List.replicate j 0)) (fun v _ => padN (lenOf v) 4)
  case atStart => exact ⟨0, by simp, hb1, a1, c1, by simp, by simpa using hr1⟩
  case round =>
    obtain ⟨j, hj, hB, a2, c2, rfl, hr⟩ := hrel
    have hjm : j < 4 := by have := padN_lt (l := xs.length) (n := 4) (by decide); omega
    have hlen : (xs ++ List.replicate j 0).length = xs.length + j := by simp
    rw [hlen]
    have HR : Hid (Rw 5 w.heap.size wr a2 c2 (xs ++ List.replicate j 0)) := hr
    obtain ⟨L, hL⟩ : ∃ L, xs.length + j = L := ⟨_, rfl⟩
    rw [hL] at hj hlen ⊢
    obtain ⟨r, hrr⟩ : ∃ r, L % 4 = r := ⟨_, rfl⟩
    have hrem : (L : Int).tmod 4 = (r : Int) := by rw [show (4 : Int) = ((4 : Nat) : Int) from rfl, ← Int.ofNat_tmod, hrr]
    have HJ : Hid (j + padN L 4 = padN xs.length 4) := hj
    have HRR : Hid (L % 4 = r) := hrr
    have HL : Hid (xs.length + j = L) := hL
    have HLN : Hid ((xs ++ List.replicate j 0).length = L) := hlen
    have hLb : L ≤ 1000000004 := by omega
    clear hj hrr hL hlen hr hr1
    by_cases hr0 : r = 0
    · subst hr0
      go_wp2
      go_ret
      have e := HJ.out
      rw [padN_zero (by decide) HRR.out] at e
      have e2 : fil xs = xs ++ List.replicate j 0 := by rw [fil, ← e]; rfl
      refine ⟨a2, c2, ?_, ?_, hB⟩
      · rw [e2, HLN.out]; rfl
      · rw [e2]; exact HR.out
    · have hr1 : ((r : Int) != 0) = true := by simp; omega
      go_wp2_with (at_builtin; refine wpList_append_oneB rfl _ _ 23 rfl w.heap.size 5 i0 Try.underlying23 hi hz0 hz1 hz2 _ L (xs ++ List.replicate j 0) rfl ?_ wr.heap.size 0 rfl ?_ (by omega) ?_ ?_)
      · have hr2 := (HR.out.below (bl1 (.cells #[.int .u8 0] 5))).2
        rw [HLN.out] at hr2
        exact hr2
      · exact cell_of_row _ _ 0 _ _ (0, 0) (heap_alloc_new wr _)
      · have := hB.size
        simp
        omega
      · intro v' w2 hown hgrow hat
        have e1 : xs ++ List.replicate j 0 ++ [0] = xs ++ List.replicate (j + 1) 0 := by rw [List.append_assoc, List.replicate_succ']
        have hown : w2.ownsRow w.heap.size 5 1 v' (L + 1) ((xs ++ List.replicate (j + 1) 0).map Y) := by rw [← e1]; simpa using hown
        obtain ⟨a3, c3, rfl, hr3⟩ := Rw.of ((h.lim).append (byt_zeros _)) hown
        have hlow : ∀ k, (Value.slice a2 L c2).ownBlock = some k → w.heap.size ≤ k := by
          intro k hk
          rcases HR.out.2.2 with ⟨e0, _⟩ | ⟨g, cap', cur, e0, hbg, _⟩
          · rw [HLN.out] at e0; rw [e0] at hk; cases hk
          · rw [HLN.out] at e0; rw [e0] at hk; cases hk; exact hbg
        have hB2 : Below w.heap.size w w2 := (hB.alloc hB.size _).grown hgrow (by have := hB.size; simp; omega) hlow
        clear hown hgrow hat
        go_wp2
        go_roundw
        case rel =>
          refine ⟨j + 1, ?_, hB2, a3, c3, rfl, hr3⟩
          have e := HJ.out
          rw [padN_succ (by decide) (by rw [HRR.out]; exact hr0)] at e
          rw [← Nat.add_assoc, HL.out]
          omega
        case measure =>
          have e : (xs ++ List.replicate (j + 1) 0).length = L + 1 := by have := HL.out; simp; omega
          rw [e]
          show padN (L + 1) 4 < padN L 4
          rw [padN_succ (l := L) (by decide) (by rw [HRR.out]; exact hr0)]
          omega

theorem sum4_step (ys : List Nat) (k : Nat) (hk : 4 * (k + 1) ≤ ys.length) : sum4 (ys.take (4 * (k + 1))) = sum4 (ys.take (4 * k)) + nmV ys ((4 * k : Nat) : Int) 4 := by
  have e : ys.take (4 * (k + 1)) = ys.take (4 * k) ++ (ys.drop (4 * k)).take 4 := by rw [show 4 * (k + 1) = 4 * k + 4 by omega, List.take_add]
  have hi : inB ys.length ((4 * k : Nat) : Int) ((4 : Nat) : Int) = true := by simp [inB]; omega
  rw [e, sum4_append (by simp; omega), nmV, if_pos hi, Int.toNat_natCast]
  congr 1
  have hl : ((ys.drop (4 * k)).take 4).length = 4 := by simp; omega
  generalize (ys.drop (4 * k)).take 4 = zs at hl
  match zs, hl with
  | [a, b, c, d], _ => simp [sum4]

set_option maxHeartbeats 1000000 in
set_option maxRecDepth 100000 in
theorem ssum_any (a : Option Addr) (cap : Nat) (xs : List Nat) (w : World) (h : Rb w a cap xs) (hl : xs.length ≤ 1000000000) :
    Calls Try.prog 18 #[.slice a xs.length cap] w fun e w' => e = .returned (.int .u32 (sm xs : Nat)) ∧ Below w.heap.size w w' := by
  go_enter Try.func18, Try.ntmps18
  go_wp2_with fail
  refine (filled_any a cap xs _ h hl).mono ?_
  rintro e u ⟨a2, c2, rfl, hr, hB⟩
  have hlen := fil_len xs
  have hp4 := padN4_lt xs.length
  have hmod := fil_mod xs
  have hsm : Hid (sm xs = sum4 (fil xs) % 4294967296) := rfl
  have hrd := hr.rd
  generalize fil xs = ys at *
  have hyl : ys.length ≤ 1000000004 := by omega
  have HL : Hid (ys.length % 4 = 0) := hmod
  clear hlen hp4 hmod hr
  go_wp2
  go_loop [4, 5] (fun n i => ∃ k : Nat, 4 * k ≤ ys.length ∧ i = .int .i64 ((4 * k : Nat) : Int) ∧ n = .int .i64 ((sum4 (ys.take (4 * k)) % 4294967296 : Nat) : Int)) (fun _ i => ys.length - (intOf i).toNat)
  case atStart => exact ⟨0, Nat.zero_le _, rfl, by simp [sum4]⟩
  case round =>
    obtain ⟨k, hk, rfl, rfl⟩ := hrel
    obtain ⟨n, hnn⟩ : ∃ n, sum4 (ys.take (4 * k)) % 4294967296 = n := ⟨_, rfl⟩
    have hn := Nat.mod_lt (sum4 (ys.take (4 * k))) (show 0 < 4294967296 by decide)
    rw [hnn] at hn ⊢
    have HN : Hid (sum4 (ys.take (4 * k)) % 4294967296 = n) := hnn
    clear hnn
    obtain ⟨q, hq⟩ : ∃ q, 4 * k = q := ⟨_, rfl⟩
    rw [hq] at hk ⊢
    have HQ : Hid (4 * k = q) := hq
    clear hq
    by_cases hkn : q < ys.length
    · have hk4 : 4 * (k + 1) ≤ ys.length := by have := HL.out; have := HQ.out; omega
      have hst := sum4_step ys k hk4
      have hv := nmV_lt hrd.lim ((4 * k : Nat) : Int) 4
      rw [HQ.out] at hst hv
      go_wp2_with fail
      refine (su32_any a2 c2 ys (q : Int) _ hrd ⟨by omega, by omega⟩).mono ?_
      rintro e u' ⟨rfl, rfl⟩
      obtain ⟨v, hvv⟩ : ∃ v, nmV ys (q : Int) 4 = v := ⟨_, rfl⟩
      rw [hvv] at hst hv ⊢
      have HST : Hid (sum4 (ys.take (4 * (k + 1))) = sum4 (ys.take q) + v) := hst
      clear hst hvv
      have hv' : v < 4294967296 := hv
      clear hv
      have hmod : ((n : Int) + (v : Int)).tmod 4294967296 = (((n + v) % 4294967296 : Nat) : Int) := by
        rw [Int.tmod_eq_emod_of_nonneg (by omega)]
        omega
      go_wp2
      go_round
      case rel =>
        refine ⟨k + 1, hk4, ?_, ?_⟩
        · have := HQ.out; simp; omega
        · rw [HST.out]
          have h1 := HN.out
          rw [HQ.out] at h1
          have e : (sum4 (ys.take q) + v) % 4294967296 = (n + v) % 4294967296 := by omega
          rw [e]
          simp
      case measure => simp [intOf]; omega
    · obtain rfl : q = ys.length := by omega
      have hn32 : (n : Int) % 4294967296 = n := by omega
      go_wp2
      go_ret
      refine ⟨rt_int ?_, hB⟩
      have h1 := HN.out
      rw [HQ.out, List.take_length] at h1
      rw [hsm.out, h1]

end Go.Proofs.Ytijehnfadpoapaa
