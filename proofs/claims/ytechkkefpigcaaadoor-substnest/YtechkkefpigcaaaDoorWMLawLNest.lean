/-
  foundrylaw20.SubstNest: the walk.
-/
import Derived.Test.YtechkkefpigcaaaDoorZM9
import Derived.Test.YtechkkefpigcaaaDoorZM10
import Derived.Test.YtechkkefpigcaaaDoorZM11
namespace Go.Proofs.YtechkkefpigcaaaDoor
open Go.RowKit Go.Maps
set_option linter.unusedSimpArgs false
set_option linter.unusedVariables false

theorem info_lk : (Tryd.prog.info? 41).map (fun i => (i.zero, i.size, i.bytes)) = some (some (.agg #[.int .i64 0, .bool false, .slice none 0 0]), LkE.sz, 40) := by kernel_rfl
theorem rowS {α : Type} {E : El α} {S : Nat → Prop} {w : World} {a : Option Addr} {c : Nat} {l : List α} (h : Gr E S w a c l) (hS : ∀ b o, a = some ⟨b, o, none⟩ → l ≠ [] → S b) (hl : l.length ≤ 1000) : E.row.rep S w [.slice a l.length c] l := ⟨a, c, rfl, hS, h, by omega⟩
theorem ru0_repS {S : Nat → Prop} {w : World} {a : Option Addr} {ca : Nat} {b : Option Addr} {cb : Nat} {inn out : List Int} {lk : Int} (h1 : Gr El.int S w a ca inn) (h2 : Gr El.int S w b cb out) (s1 : ∀ g o, a = some ⟨g, o, none⟩ → inn ≠ [] → S g) (s2 : ∀ g o, b = some ⟨g, o, none⟩ → out ≠ [] → S g) (hl : I64 lk) (l1 : inn.length ≤ 1000) (l2 : out.length ≤ 1000) :
    RuE.rep S w [.slice a inn.length ca, .slice b out.length cb, .int .i64 0, .int .i64 lk, .int .i64 0, .int .i64 0, .int .i64 0, .int .i64 0, .int .i64 0, .int .i64 0] (ru0 inn out lk) := by
  have z : I64 0 := ⟨by omega, by omega⟩
  exact RuE_rep.2 ⟨a, ca, b, cb, rfl, rowS h1 s1 l1, rowS h2 s2 l2, z, hl, ⟨z, z⟩, ⟨z, z⟩, z, z⟩
theorem lk0_repS {S : Nat → Prop} {w : World} {a : Option Addr} {c : Nat} {kd : Int} {sk : Bool} {rs : List Ru} (h : Gr RuE S w a c rs) (hS : ∀ b o, a = some ⟨b, o, none⟩ → rs ≠ [] → S b) (hk : I64 kd) (hl : rs.length ≤ 1000) : LkE.rep S w [.int .i64 kd, .bool sk, .slice a rs.length c] ⟨kd, sk, rs⟩ := LkE_rep.2 ⟨a, c, rfl, hk, rowS h hS hl⟩
/-- Contexts within contexts. -/
def preN (n : Nat) : List Lk := (List.range n).map (fun (i : Nat) => (⟨4, false, [ru0 [1] [] ((i + 1 : Nat) : Int)]⟩ : Lk))
theorem preN_succ (n : Nat) : preN (n + 1) = preN n ++ [⟨4, false, [ru0 [1] [] ((n : Int) + 1)]⟩] := by
  unfold preN
  rw [List.range_succ, List.map_append]
  rfl
theorem preN_len (n : Nat) : (preN n).length = n := by simp [preN]
theorem lsN_pre (n : Nat) : lsN n = preN n ++ [⟨1, false, [ru0 [1] [2] 0]⟩] := rfl
theorem lsN_all : ∀ n, n < 9 → liL (lsN n) [] 0 [1, 1] = (if 8 ≤ n then [1, 1] else [2, 2]) ∧ liE (lsN n) [] 0 [1, 1] = 0 := fun n hn => by
  have hp : puB ((lsN n).getD 0 Lk.none).kd = true := by revert hn; revert n; decide +kernel
  exact li_through (k := 0) (lsN_fo n hn) (by decide) (by simp [lsN]) hp (lsN_li n hn)

set_option maxHeartbeats 8000000 in
set_option maxRecDepth 100000 in
theorem substNest_any (d : Int) (w : World) (hd : 0 ≤ d ∧ d < 256) (hT : Spn w) :
    Calls Tryd.prog 8 #[.int .u8 d] w fun e w' => e = .returned (.bool true) ∧ Below w.heap.size w w' := by
  obtain ⟨hd1, hd2⟩ := hd
  obtain ⟨k, hk⟩ : ∃ k : Nat, d.tmod 9 = (k : Int) := ⟨(d.tmod 9).toNat, by rw [Int.tmod_eq_emod_of_nonneg hd1]; omega⟩
  have hk9 : k < 9 := by rw [Int.tmod_eq_emod_of_nonneg hd1] at hk; omega
  have HT : Hid (∀ U, Below w.heap.size w U → Spn U) := fun U hU => hT.below hU
  have haw := awake20_any w hT
  clear hT
  go_enter Tryd.func8, Tryd.ntmps8
  go_wp2_with fail
  refine haw.mono ?_
  rintro e w1 ⟨rfl, hb1⟩
  have HB1 : Hid (Below w.heap.size w w1) := hb1
  obtain ⟨base, hbase⟩ : ∃ b, w1.heap.size = b := ⟨_, rfl⟩
  have HBA : Hid (w1.heap.size = base) := hbase
  have hw8 : IntKind.i64.wrap (k : Int) = (k : Int) := wrapi64y (by omega) (by omega)
  clear haw hb1 hbase
  go_upto_region 5 with fail
  clear hw8 hk
  go_wp2
  go_loopw [4, 5] (fun v i wr => ∃ (j : Nat), j ≤ k ∧ i = .int .i64 j ∧ Gw LkE 41 base (fun q => base ≤ q) wr v (preN j) ∧ Below w1.heap.size w1 wr) (fun _ i _ => k - (intOf i).toNat)
  case atStart => exact ⟨0, Nat.zero_le _, rfl, Gw.nil _ _ _ _ _, Below.refl _ _⟩
  case round =>
    obtain ⟨j, hj, rfl, hGw, hB⟩ := hrel
    obtain ⟨av, cv, rfl, hgr0, -⟩ := hGw.slice
    rw [preN_len] at hGw ⊢
    have hBs : base ≤ wr.heap.size := by have h1 := hB.size; have h2 := HBA.out; omega
    have HLO : Hid (∀ q, (Value.slice av j cv).ownBlock = some q → base ≤ q ∧ q < wr.heap.size) := fun q hq => hGw.lo hq
    have hS : ∀ q, wr.heap.size ≤ q → base ≤ q ∧ (Value.slice av j cv).ownBlock ≠ some q := fun q hq => ⟨by omega, fun e => by have := (HLO.out q e).2; omega⟩
    clear hgr0
    by_cases hjk : j < k
    · have g1 : (j : Int) < (k : Int) := by omega
      have HNL : Hid (preN (j + 1) = preN j ++ [⟨4, false, [ru0 [1] [] ((j : Int) + 1)]⟩]) := preN_succ j
      obtain ⟨V0, hV0⟩ : ∃ V0, V0 = wr.alloc (.cells #[.int .i64 1] 3) := ⟨_, rfl⟩
      have sV0 : V0.heap.size = wr.heap.size + 1 := by rw [hV0, World.size_alloc]
      have dV0 : Below wr.heap.size wr V0 := by rw [hV0]; exact bl1 _
      have cV0 : Below wr.heap.size wr V0 := dV0
      have BV0 : Bk 3 V0 (wr.heap.size) [.int .i64 1] := by rw [hV0]; exact Bk.new _ _ _
      obtain ⟨V1, hV1⟩ : ∃ V1, V1 = V0.alloc (.cells #[.slice (some ⟨wr.heap.size, 0, none⟩) 1 1, .slice none 0 0, .int .i64 0, .int .i64 ((j : Int) + 1), .int .i64 0, .int .i64 0, .int .i64 0, .int .i64 0, .int .i64 0, .int .i64 0] 46) := ⟨_, rfl⟩
      have sV1 : V1.heap.size = wr.heap.size + 1 + 1 := by rw [hV1, World.size_alloc, sV0]
      have dV1 : Below V0.heap.size V0 V1 := by rw [hV1]; exact bl1 _
      have cV1 : Below wr.heap.size wr V1 := cV0.trans (dV1.mono cV0.size)
      have BV1 : Bk 46 V1 (wr.heap.size + 1) [.slice (some ⟨wr.heap.size, 0, none⟩) 1 1, .slice none 0 0, .int .i64 0, .int .i64 ((j : Int) + 1), .int .i64 0, .int .i64 0, .int .i64 0, .int .i64 0, .int .i64 0, .int .i64 0] := by rw [hV1, ← sV0]; exact Bk.new _ _ _
      replace BV0 := BV0.below dV1
      obtain ⟨V2, hV2⟩ : ∃ V2, V2 = V1.alloc (.cells #[.int .i64 4, .bool false, .slice (some ⟨wr.heap.size + 1, 0, none⟩) 1 1] 41) := ⟨_, rfl⟩
      have sV2 : V2.heap.size = wr.heap.size + 1 + 1 + 1 := by rw [hV2, World.size_alloc, sV1]
      have dV2 : Below V1.heap.size V1 V2 := by rw [hV2]; exact bl1 _
      have cV2 : Below wr.heap.size wr V2 := cV1.trans (dV2.mono cV1.size)
      have BV2 : Bk 41 V2 (wr.heap.size + 1 + 1) [.int .i64 4, .bool false, .slice (some ⟨wr.heap.size + 1, 0, none⟩) 1 1] := by rw [hV2, ← sV1]; exact Bk.new _ _ _
      replace BV0 := BV0.below dV2
      replace BV1 := BV1.below dV2
      have s0 : Gr El.int (fun q => base ≤ q ∧ (Value.slice av j cv).ownBlock ≠ some q) V2 (some ⟨wr.heap.size, 0, none⟩) 1 [1] := (grI_of_bk (zs := [1]) BV0 (by intro z hz; simp at hz; subst hz; exact ⟨by omega, by omega⟩) (by simp)).anyI
      have s1 : Gr RuE (fun q => base ≤ q ∧ (Value.slice av j cv).ownBlock ≠ some q) V2 (some ⟨wr.heap.size + 1, 0, none⟩) 1 [ru0 [1] [] ((j : Int) + 1)] := gr1_of_bk BV1 (ru0_repS s0 (Gr.nil _ _ _ none 0 (Nat.zero_le _) (fun _ => rfl)) (fun g o e _ => by cases e; exact hS _ (by omega)) (fun g o e _ => by cases e) ⟨by omega, by omega⟩ (by simp) (by simp))
      have hrows : Gr LkE (fun q => base ≤ q ∧ (Value.slice av j cv).ownBlock ≠ some q) V2 (some ⟨wr.heap.size + 1 + 1, 0, none⟩) 1 [⟨4, false, [ru0 [1] [] ((j : Int) + 1)]⟩] := gr1_of_bk BV2 (lk0_repS s1 (fun g o e _ => by cases e; exact hS _ (by omega)) ⟨by omega, by omega⟩ (by simp))
      have hGV := hGw.below cV2
      have hBV := hB.trans (cV2.mono hB.size)
      have hvs := cV2.size
      have hlb : base ≤ V2.heap.size := by omega
      have hll : (preN j).length + 1 ≤ 1000000 := by rw [preN_len]; omega
      have HFO : Hid (∀ P : World → Prop, P V2 → P (((wr.alloc (.cells #[.int .i64 1] 3)).alloc (.cells #[.slice (some ⟨wr.heap.size, 0, none⟩) 1 1, .slice none 0 0, .int .i64 0, .int .i64 ((j : Int) + 1), .int .i64 0, .int .i64 0, .int .i64 0, .int .i64 0, .int .i64 0, .int .i64 0] 46)).alloc (.cells #[.int .i64 4, .bool false, .slice (some ⟨wr.heap.size + 1, 0, none⟩) 1 1] 41))) := fun P h => by rw [← hV0, ← hV1, ← hV2]; exact h
      clear s0 s1 BV0 BV1 BV2 hGw hB hS cV0 cV1 cV2 dV0 dV1 dV2 sV0 sV1 sV2
      go_wp2_with (at_builtin; rw [← hV0, ← hV1, ← hV2]; refine wpList_append_el (E := LkE) 22 41 Tryd.underlying22 info_lk rfl (by decide) (by decide) rfl _ _ rfl base (fun q => base ≤ q) _ (preN j) rfl hGV (some ⟨wr.heap.size + 1 + 1, 0, none⟩) 1 1 [⟨4, false, [ru0 [1] [] ((j : Int) + 1)]⟩] rfl rfl hrows hll hlb ?_)
      intro v9 w9 hT9 hgrow _
      rw [← HNL.out] at hT9
      have hB9 : Below w1.heap.size w1 w9 := by
        try rw [← hV0, ← hV1, ← hV2] at hgrow
        exact hBV.grown hgrow hBV.size (fun q hq => by have h1 := (HLO.out q hq).1; have h2 := HBA.out; omega)
      clear hV0 hV1 hV2 hGV hrows hgrow hBV hlb hll hvs HFO
      go_wp2
      go_roundw
      case rel => exact ⟨j + 1, by omega, by go_num, hT9, hB9⟩
      case measure => simp [intOf]; omega
    · have hjj : j = k := by omega
      subst hjj
      have g1 : ¬ (j : Int) < (j : Int) := by omega
      obtain ⟨V0, hV0⟩ : ∃ V0, V0 = wr.alloc (.cells #[.int .i64 1] 3) := ⟨_, rfl⟩
      have sV0 : V0.heap.size = wr.heap.size + 1 := by rw [hV0, World.size_alloc]
      have dV0 : Below wr.heap.size wr V0 := by rw [hV0]; exact bl1 _
      have cV0 : Below wr.heap.size wr V0 := dV0
      have BV0 : Bk 3 V0 (wr.heap.size) [.int .i64 1] := by rw [hV0]; exact Bk.new _ _ _
      obtain ⟨V1, hV1⟩ : ∃ V1, V1 = V0.alloc (.cells #[.int .i64 2] 3) := ⟨_, rfl⟩
      have sV1 : V1.heap.size = wr.heap.size + 1 + 1 := by rw [hV1, World.size_alloc, sV0]
      have dV1 : Below V0.heap.size V0 V1 := by rw [hV1]; exact bl1 _
      have cV1 : Below wr.heap.size wr V1 := cV0.trans (dV1.mono cV0.size)
      have BV1 : Bk 3 V1 (wr.heap.size + 1) [.int .i64 2] := by rw [hV1, ← sV0]; exact Bk.new _ _ _
      replace BV0 := BV0.below dV1
      obtain ⟨V2, hV2⟩ : ∃ V2, V2 = V1.alloc (.cells #[.slice (some ⟨wr.heap.size, 0, none⟩) 1 1, .slice (some ⟨wr.heap.size + 1, 0, none⟩) 1 1, .int .i64 0, .int .i64 0, .int .i64 0, .int .i64 0, .int .i64 0, .int .i64 0, .int .i64 0, .int .i64 0] 46) := ⟨_, rfl⟩
      have sV2 : V2.heap.size = wr.heap.size + 1 + 1 + 1 := by rw [hV2, World.size_alloc, sV1]
      have dV2 : Below V1.heap.size V1 V2 := by rw [hV2]; exact bl1 _
      have cV2 : Below wr.heap.size wr V2 := cV1.trans (dV2.mono cV1.size)
      have BV2 : Bk 46 V2 (wr.heap.size + 1 + 1) [.slice (some ⟨wr.heap.size, 0, none⟩) 1 1, .slice (some ⟨wr.heap.size + 1, 0, none⟩) 1 1, .int .i64 0, .int .i64 0, .int .i64 0, .int .i64 0, .int .i64 0, .int .i64 0, .int .i64 0, .int .i64 0] := by rw [hV2, ← sV1]; exact Bk.new _ _ _
      replace BV0 := BV0.below dV2
      replace BV1 := BV1.below dV2
      obtain ⟨V3, hV3⟩ : ∃ V3, V3 = V2.alloc (.cells #[.int .i64 1, .bool false, .slice (some ⟨wr.heap.size + 1 + 1, 0, none⟩) 1 1] 41) := ⟨_, rfl⟩
      have sV3 : V3.heap.size = wr.heap.size + 1 + 1 + 1 + 1 := by rw [hV3, World.size_alloc, sV2]
      have dV3 : Below V2.heap.size V2 V3 := by rw [hV3]; exact bl1 _
      have cV3 : Below wr.heap.size wr V3 := cV2.trans (dV3.mono cV2.size)
      have BV3 : Bk 41 V3 (wr.heap.size + 1 + 1 + 1) [.int .i64 1, .bool false, .slice (some ⟨wr.heap.size + 1 + 1, 0, none⟩) 1 1] := by rw [hV3, ← sV2]; exact Bk.new _ _ _
      replace BV0 := BV0.below dV3
      replace BV1 := BV1.below dV3
      replace BV2 := BV2.below dV3
      have s0 : Gr El.int (fun q => base ≤ q ∧ (Value.slice av j cv).ownBlock ≠ some q) V3 (some ⟨wr.heap.size, 0, none⟩) 1 [1] := (grI_of_bk (zs := [1]) BV0 (by intro z hz; simp at hz; subst hz; exact ⟨by omega, by omega⟩) (by simp)).anyI
      have s1 : Gr El.int (fun q => base ≤ q ∧ (Value.slice av j cv).ownBlock ≠ some q) V3 (some ⟨wr.heap.size + 1, 0, none⟩) 1 [2] := (grI_of_bk (zs := [2]) BV1 (by intro z hz; simp at hz; subst hz; exact ⟨by omega, by omega⟩) (by simp)).anyI
      have s2 : Gr RuE (fun q => base ≤ q ∧ (Value.slice av j cv).ownBlock ≠ some q) V3 (some ⟨wr.heap.size + 1 + 1, 0, none⟩) 1 [ru0 [1] [2] 0] := gr1_of_bk BV2 (ru0_repS s0 s1 (fun g o e _ => by cases e; exact hS _ (by omega)) (fun g o e _ => by cases e; exact hS _ (by omega)) ⟨by omega, by omega⟩ (by simp) (by simp))
      have hrows : Gr LkE (fun q => base ≤ q ∧ (Value.slice av j cv).ownBlock ≠ some q) V3 (some ⟨wr.heap.size + 1 + 1 + 1, 0, none⟩) 1 [⟨1, false, [ru0 [1] [2] 0]⟩] := gr1_of_bk BV3 (lk0_repS s2 (fun g o e _ => by cases e; exact hS _ (by omega)) ⟨by omega, by omega⟩ (by simp))
      have hGV := hGw.below cV3
      have hBV := hB.trans (cV3.mono hB.size)
      have hvs := cV3.size
      have hlb : base ≤ V3.heap.size := by omega
      have hll : (preN j).length + 1 ≤ 1000000 := by rw [preN_len]; omega
      have HLP : Hid (lsN j = preN j ++ [⟨1, false, [ru0 [1] [2] 0]⟩]) := lsN_pre j
      clear s0 s1 s2 BV0 BV1 BV2 BV3 hGw hB hS cV0 cV1 cV2 cV3 dV0 dV1 dV2 dV3 sV0 sV1 sV2 sV3
      go_wp2_with (at_builtin; rw [← hV0, ← hV1, ← hV2, ← hV3]; refine wpList_append_el (E := LkE) 22 41 Tryd.underlying22 info_lk rfl (by decide) (by decide) rfl _ _ rfl base (fun q => base ≤ q) _ (preN j) rfl hGV (some ⟨wr.heap.size + 1 + 1 + 1, 0, none⟩) 1 1 [⟨1, false, [ru0 [1] [2] 0]⟩] rfl rfl hrows hll hlb ?_)
      intro v9 w9 hT9 hgrow _
      rw [← HLP.out] at hT9
      have hB9 : Below w1.heap.size w1 w9 := by
        try rw [← hV0, ← hV1, ← hV2, ← hV3] at hgrow
        exact hBV.grown hgrow hBV.size (fun q hq => by have h1 := (HLO.out q hq).1; have h2 := HBA.out; omega)
      have hw9 := HB1.out.trans (hB9.mono HB1.out.size)
      obtain ⟨a9, c9, rfl, hg9, -⟩ := hT9.slice
      obtain ⟨e1, e2⟩ := lsN_all j hk9
      clear hV0 hV1 hV2 hV3 hGV hrows hgrow hBV hlb hll hvs HLO HLP hT9 hBs hB9
      obtain ⟨U, hU, BU, hbU⟩ : ∃ U, U = w9.alloc (.cells #[.int .i64 1, .int .i64 1] 3) ∧ Bk 3 U w9.heap.size [.int .i64 1, .int .i64 1] ∧ Below w9.heap.size w9 U := ⟨_, rfl, Bk.new _ _ _, bl1 _⟩
      have hwU := hw9.trans (hbU.mono hw9.size)
      have sl := grI_of_bk (zs := [1, 1]) BU (by intro z hz; simp at hz; subst hz; exact ⟨by omega, by omega⟩) (by simp)
      have hli : Calls Tryd.prog 18 #[.slice a9 (lsN j).length c9, .int .i64 0, .slice none 0 0, .slice (some ⟨w9.heap.size, 0, none⟩) 2 2] U fun e w' => LiA (lsN j) [] 0 [1, 1] w' e ∧ Below U.heap.size U w' :=
        clineU_any (lsN j) [] _ (fun _ => True) (fun _ => True) a9 c9 none 0 0 _ 2 [1, 1] U (hg9.below hbU) (Gr.nil _ _ _ _ _ (Nat.zero_le _) (fun _ => rfl)) sl ⟨by omega, by omega⟩ (by simp) (HT.out _ hwU)
      generalize (lsN j).length = ln at hli
      clear hg9 sl BU hbU
      go_wp2_with fail
      rw [← hU]
      clear hU
      refine hli.mono ?_
      rintro e u ⟨⟨oa, oc, he, hgr⟩, hbu⟩
      rw [e1, e2] at he
      rw [e1] at hgr
      have hfin := hwU.trans (hbu.mono hwU.size)
      clear hli e1 e2 hbu
      by_cases m8 : 8 ≤ j
      · rw [if_pos m8] at he hgr
        have g2 : decide ((8 : Int) ≤ (j : Int)) = true := decide_eq_true (by omega)
        have g3 : (8 : Int) ≤ (j : Int) := by omega
        obtain rfl : e = .returned (.tuple #[.slice oa 2 oc, .int .i64 0]) := he
        obtain ⟨ob, oo, rfl, _, x0⟩ := hgr.ri.at (Below.refl _ _) 0 (by decide)
        obtain ⟨ob2, oo2, e9, _, x1⟩ := hgr.ri.at (Below.refl _ _) 1 (by decide)
        cases e9
        rw [Nat.add_zero] at x0
        replace x0 : u.cell? ⟨ob, oo, none⟩ = some (.int .i64 1) := x0
        replace x1 : u.cell? ⟨ob, oo + 1, none⟩ = some (.int .i64 1) := x1
        clear hgr m8
        go_wp2
        go_ret
        exact ⟨rfl, hfin⟩
      · rw [if_neg m8] at he hgr
        have g2 : decide ((8 : Int) ≤ (j : Int)) = false := decide_eq_false (by omega)
        have g3 : ¬ (8 : Int) ≤ (j : Int) := by omega
        obtain rfl : e = .returned (.tuple #[.slice oa 2 oc, .int .i64 0]) := he
        obtain ⟨ob, oo, rfl, _, x0⟩ := hgr.ri.at (Below.refl _ _) 0 (by decide)
        obtain ⟨ob2, oo2, e9, _, x1⟩ := hgr.ri.at (Below.refl _ _) 1 (by decide)
        cases e9
        rw [Nat.add_zero] at x0
        replace x0 : u.cell? ⟨ob, oo, none⟩ = some (.int .i64 2) := x0
        replace x1 : u.cell? ⟨ob, oo + 1, none⟩ = some (.int .i64 2) := x1
        clear hgr m8
        go_wp2
        go_ret
        exact ⟨rfl, hfin⟩

end Go.Proofs.YtechkkefpigcaaaDoor
