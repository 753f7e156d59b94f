/-
  store.sum: the walk.
  One cell of a block. Nothing here is a walk.
  store.Change: the walk.
  store.Value, store.Rounded: the walks.
  glyphs.Depth, Size, Advance, Formed: the walks.
-/
import Derived.Test.YtkmcodofnckdmaaGreatZQ12
import Derived.Test.YtkmcodofnckdmaaGreatZQ5
import Derived.Test.YtkmcodofnckdmaaGreatZQ17
import Derived.Test.YtkmcodofnckdmaaGreatZQ15
import Derived.Deep.CutRange
import Derived.Test.YtkmcodofnckdmaaGreatZQ1
import Derived.Test.YtkmcodofnckdmaaGreatZQ26
import Derived.Test.YtkmcodofnckdmaaGreatZQ23
import Derived.Test.YtkmcodofnckdmaaGreatZQ18
set_option maxHeartbeats 2000000
set_option maxRecDepth 100000
set_option linter.unusedSimpArgs false
set_option linter.unusedVariables false
namespace Go.Proofs.YtkmcodofnckdmaaGreat
open Go.RowKit Go.Maps
theorem of_none {l : List Gl} {g : Int} (h : ∀ k, dq l 6 g = some k → 6 < k + 0) : dq l 6 g = none := by
 cases hd : dq l 6 g with
 | none => rfl
 | some k =>
  have h1 := h k hd
  have h2 := dq_le hd
  omega
theorem dpG_some {l : List Gl} {g : Int} {k : Nat} (h : dq l 6 g = some k) : dpG l g = (k : Int) := by unfold dpG; rw [h]; rfl
theorem dpG_none {l : List Gl} {g : Int} (h : dq l 6 g = none) : dpG l g = -1 := by unfold dpG; rw [h]; rfl
theorem gask_any (S : Nat → Prop) (a : Option Addr) (ca : Nat) (l : List Gl) (g : Int) (w U : World) (hl : Gr GlE S w a ca l) (hps : ∀ x ∈ l, x.o.ps.length ≤ 12) (hg : I64 g) (hS : Bk 119 U (w.heap.size + 1) [.slice a l.length ca, .map (some w.heap.size)]) (hM : Mp U w.heap.size 0 (fun _ => none)) (hB : Below w.heap.size w U) :
    Calls Tryz.prog 32 #[.pointer (some ⟨w.heap.size + 1, 0, none⟩), .int .i64 g, .int .i64 0] U fun e w' => ((∃ k : Nat, dq l 6 g = some k ∧ e = .returned (.tuple #[.agg #[.int .i64 (k : Int), .int .i64 ((szG l g : Nat) : Int)], .bool true])) ∨ (dq l 6 g = none ∧ e = .returned (.tuple #[.agg #[.int .i64 0, .int .i64 0], .bool false]))) ∧ Below w.heap.size w w' := by
 refine (gof_any w S a ca l hl hps (w.heap.size + 1) w.heap.size (Nat.le_refl _) (by omega) 7 0 rfl g 0 _ U hg (by have := tk_le (Nat.le_refl 7); omega) hB hS hM (KnG.nil l)).mono ?_
 rintro e w' ⟨h1, h2, h3⟩
 refine ⟨?_, hB.trans (h3.below hB.size (Nat.le_refl _))⟩
 rcases h1 with h1 | ⟨h1, h4⟩
 · exact .inl h1
 · exact .inr ⟨of_none h1, h4⟩
theorem gdepth_any (S : Nat → Prop) (a : Option Addr) (ca : Nat) (l : List Gl) (g : Int) (w : World) (hl : Gr GlE S w a ca l) (hps : ∀ x ∈ l, x.o.ps.length ≤ 12) (hg : I64 g) :
    Calls Tryz.prog 11 #[.slice a l.length ca, .int .i64 g] w fun e w' => e = .returned (.int .i64 (dpG l g)) ∧ Below w.heap.size w w' := by
 have kl := hl.lenB
 go_enter Tryz.func11, Tryz.ntmps11
 go_wp2_with fail
 refine (gsurvey_any a l.length ca w).mono ?_
 rintro e U ⟨rfl, hS, hM, hB⟩
 have hask := gask_any S a ca l g w U hl hps hg hS hM hB
 clear hS hM hl
 go_wp2_with fail
 refine hask.mono ?_
 rintro e u ⟨hans, hb⟩; clear hask
 rcases hans with ⟨k, hk, rfl⟩ | ⟨hk, rfl⟩
 · have HD : Hid (_) := dpG_some hk
   obtain ⟨V, hV, X, hbV⟩ : ∃ V, V = u.alloc (.cells #[.int .i64 (k : Int), .int .i64 ((szG l g : Nat) : Int)] 71) ∧ Bk 71 V u.heap.size [.int .i64 (k : Int), .int .i64 ((szG l g : Nat) : Int)] ∧ Below u.heap.size u V := ⟨_, rfl, Bk.new _ _ _, bl1 _⟩
   replace hb := hb.trans (hbV.mono hb.size)
   obtain ⟨x0, x1, _⟩ := X.two; clear hk hbV X
   go_upto_region 2 with fail
   rw [← hV]; clear hV; go_wp2
   go_ret
   exact ⟨by rw [HD.out]; rfl, hb⟩
 · have HD : Hid (_) := dpG_none hk
   have hb2 : Below w.heap.size w (u.alloc (.cells #[.int .i64 0, .int .i64 0] 71)) := hb.trans ((bl1 _).mono hb.size)
   clear hk hb; go_wp2
   go_ret
   exact ⟨by rw [HD.out]; rfl, hb2⟩
theorem gsize_any (S : Nat → Prop) (a : Option Addr) (ca : Nat) (l : List Gl) (g : Int) (w : World) (hl : Gr GlE S w a ca l) (hps : ∀ x ∈ l, x.o.ps.length ≤ 12) (hg : I64 g) :
    Calls Tryz.prog 13 #[.slice a l.length ca, .int .i64 g] w fun e w' => e = .returned (.int .i64 ((szG l g : Nat) : Int)) ∧ Below w.heap.size w w' := by
 have kl := hl.lenB
 go_enter Tryz.func13, Tryz.ntmps13
 go_wp2_with fail
 refine (gsurvey_any a l.length ca w).mono ?_
 rintro e U ⟨rfl, hS, hM, hB⟩
 have hask := gask_any S a ca l g w U hl hps hg hS hM hB
 clear hS hM hl
 go_wp2_with fail
 refine hask.mono ?_
 rintro e u ⟨hans, hb⟩; clear hask
 rcases hans with ⟨k, hk, rfl⟩ | ⟨hk, rfl⟩
 · obtain ⟨V, hV, X, hbV⟩ : ∃ V, V = u.alloc (.cells #[.int .i64 (k : Int), .int .i64 ((szG l g : Nat) : Int)] 71) ∧ Bk 71 V u.heap.size [.int .i64 (k : Int), .int .i64 ((szG l g : Nat) : Int)] ∧ Below u.heap.size u V := ⟨_, rfl, Bk.new _ _ _, bl1 _⟩
   replace hb := hb.trans (hbV.mono hb.size)
   obtain ⟨x0, x1, _⟩ := X.two; clear hk hbV X
   go_upto_region 2 with fail
   rw [← hV]; clear hV; go_wp2
   go_ret
   exact ⟨rfl, hb⟩
 · have HD : Hid (szG l g = 0) := szG_none hk
   obtain ⟨V, hV, X, hbV⟩ : ∃ V, V = u.alloc (.cells #[.int .i64 0, .int .i64 0] 71) ∧ Bk 71 V u.heap.size [.int .i64 0, .int .i64 0] ∧ Below u.heap.size u V := ⟨_, rfl, Bk.new _ _ _, bl1 _⟩
   replace hb := hb.trans (hbV.mono hb.size)
   obtain ⟨x0, x1, _⟩ := X.two; clear hk hbV X
   go_upto_region 2 with fail
   rw [← hV]; clear hV; go_wp2
   go_ret
   exact ⟨by rw [HD.out]; rfl, hb⟩
end Go.Proofs.YtkmcodofnckdmaaGreat
