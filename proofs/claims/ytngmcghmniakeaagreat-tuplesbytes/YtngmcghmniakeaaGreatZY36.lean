/-
  foundryref13.Count, foundryref13.Spread: the walks.
-/
import Derived.Test.YtngmcghmniakeaaGreatZY35
import Derived.Test.YtngmcghmniakeaaGreatZY19
import Derived.Test.YtngmcghmniakeaaGreatZY32
import Derived.Test.YtngmcghmniakeaaGreatZY22
set_option maxHeartbeats 1000000
set_option maxRecDepth 100000
set_option linter.unusedSimpArgs false
set_option linter.unusedVariables false
namespace Go.Proofs.YtngmcghmniakeaaGreat
open Go.RowKit Go.Maps
theorem wrap_ok13 {z : Int} (h1 : -9223372036854775808 ≤ z) (h2 : z ≤ 9223372036854775807) : IntKind.i64.wrap z = z := by
 unfold IntKind.wrap
 simp [IntKind.bits, IntKind.signed]
 omega
theorem rt_intQ13 {x y : Int} (h : x = y) : Ending.returned (.int .i64 x) = Ending.returned (.int .i64 y) := by rw [h]
def R2 (T : TypeId) (base : Nat) (w : World) (vx vy : Value) (qx qy : List Rat) : Prop := Ro T base w vx 7 qx ∧ Ro T base w vy 7 qy ∧ ∀ g, vx.ownBlock = some g → vy.ownBlock ≠ some g
theorem scount13_any (S : Nat → Prop) (a : Option Addr) (ca : Nat) (b : Option Addr) (cb : Nat) (o : Ol) (w : World) (hc : Gr PnE.row S w a ca o.cs) (hl : o.cs.flatten.length ≤ 100000) (hl2 : o.ps.length ≤ 100000) :
    Calls Tryz.prog 54 #[.agg #[.slice a o.cs.length ca, .slice b o.ps.length cb]] w fun e w' => e = .returned (.int .i64 (cntO o : Int)) ∧ Below w.heap.size w w' := by
 obtain ⟨W, hW, X1, hbW⟩ : ∃ W, W = w.alloc (.cells #[.slice a o.cs.length ca, .slice b o.ps.length cb] 25) ∧ Bk 25 W w.heap.size [.slice a o.cs.length ca, .slice b o.ps.length cb] ∧ Below w.heap.size w W := ⟨_, rfl, Bk.new _ _ _, bl1 _⟩
 obtain ⟨p0, p1, _⟩ := X1.two
 have hlt := X1.lt
 have hB : Below W.heap.size W W := Below.refl _ _
 have hpt := fun U (hb : Below W.heap.size W U) => spointsO_any S a ca (.slice b o.ps.length cb) o.cs U ((hc.below hbW).below hb) hl rfl
 have HE : Hid ((o.ps.length : Int) + (o.cs.flatten.length : Int) = (cntO o : Int)) := by show _ = _; unfold cntO; omega
 have hw1 : IntKind.i64.wrap ((o.ps.length : Int) + (o.cs.flatten.length : Int)) = (o.ps.length : Int) + (o.cs.flatten.length : Int) := wrap_ok13 (by omega) (by omega)
 clear hc X1
 generalize o.cs.flatten.length = N at *
 generalize cntO o = M at *
 go_enter Tryz.func54, Tryz.ntmps54
 go_upto_region 1 with fail
 rw [← hW]; clear hW
 refine wp_region_held_drew (S := fun w9 => w9.cell? ⟨w.heap.size, 0, none⟩ = some (.slice a o.cs.length ca) ∧ w9.cell? ⟨w.heap.size, 1, none⟩ = some (.slice b o.ps.length cb)) (by kernel_rfl) ?_ (fun hHeld => ?_)
 · (try dsimp only)
   go_keep
 have hdr : Below W.heap.size W W.drew := Below.drew1
 generalize W.drew = Z1 at hdr hHeld ⊢
 replace hB := hB.trans (hdr.mono hB.size)
 clear hdr; refine hT 0 hHeld ?_; refine hT 1 hHeld ?_; refine hT 2 hHeld ?_; refine hT 3 hHeld ?_
 refine hCall (i := 4) rfl (by kernel_rfl) (by rfl) (fun K hK => ?_)
 go_simp
 refine (hpt _ hB).mono ?_
 rintro e u1 ⟨a1, c1, rfl, -, -, hbc⟩
 have hHz : u1.cell? ⟨w.heap.size, 0, none⟩ = some (.slice a o.cs.length ca) ∧ u1.cell? ⟨w.heap.size, 1, none⟩ = some (.slice b o.ps.length cb) := ⟨(hbc.cell (p := ⟨w.heap.size, 0, none⟩) (Nat.lt_of_lt_of_le hlt hB.size)).trans hHeld.1, (hbc.cell (p := ⟨w.heap.size, 1, none⟩) (Nat.lt_of_lt_of_le hlt hB.size)).trans hHeld.2⟩
 replace hB := hB.trans (hbc.mono hB.size)
 clear hbc
 go_wp2_with fail
 refine hK.out _ _ ?_ (fun hHeld => ?_)
 · (try dsimp only)
   exact hHz
 clear hK K hHz
 try simp only [Act.put, pZ]
 refine hT 5 hHeld ?_; refine hT 6 hHeld ?_; refine hT 7 hHeld ?_
 refine wpAnyH_done (by kernel_rfl) ?_ _
 clear hHeld; go_wp2
 go_ret
 exact ⟨rt_intQ13 HE.out, hbW.trans (hB.mono hbW.size)⟩
end Go.Proofs.YtngmcghmniakeaaGreat
