/-
  feats.putList, what Write hands to it, Write: the walks.
-/
import Derived.Test.YtaejlopkdkaphaaZE9
import Derived.Test.YtaejlopkdkaphaaZE14
import Derived.Test.YtaejlopkdkaphaaZE3
namespace Go.Proofs.Ytaejlopkdkaphaa
open Go.RowKit Go.Maps
set_option linter.unusedSimpArgs false
set_option linter.unusedVariables false

theorem flatF_len {α : Type} {e : α → List Nat} {m : Nat} : ∀ {l : List α}, (∀ x ∈ l, (e x).length ≤ m) → (l.flatMap e).length ≤ m * l.length := by
  intro l
  induction l with
  | nil => intro _; simp
  | cons x l ih =>
    intro h
    have h1 := h x (List.mem_cons_self ..)
    have h2 := ih (fun y hy => h y (List.mem_cons_of_mem _ hy))
    rw [List.flatMap_cons, List.length_append, List.length_cons, Nat.mul_succ]
    omega
theorem flatF_take {α : Type} {e : α → List Nat} {m n : Nat} {l : List α} (h : ∀ x ∈ l, (e x).length ≤ m) (hn : l.length ≤ n) (k : Nat) : ((l.take k).flatMap e).length ≤ m * n := by
  have h1 := flatF_len (e := e) (m := m) (l := l.take k) (fun x hx => h x (List.mem_of_mem_take hx))
  have h2 : m * (l.take k).length ≤ m * n := Nat.mul_le_mul_left _ (by rw [List.length_take]; omega)
  omega
theorem flatF_snoc {α : Type} {e : α → List Nat} {l : List α} {d : α} {k : Nat} (hk : k < l.length) (P : List Nat) : P ++ (l.take k).flatMap e ++ e (l.getD k d) = P ++ (l.take (k + 1)).flatMap e := by
  rw [take_snocF (d := d) hk, List.flatMap_append, List.flatMap_singleton, List.append_assoc]
theorem lsE_app {α : Type} (e : α → List Nat) (b : List Nat) (l : List α) : b ++ be2 ((l.length : Nat) : Int) ++ l.flatMap e = b ++ lsE e l := by rw [lsE, List.append_assoc]
theorem lsE_len {α : Type} {e : α → List Nat} {m n : Nat} {l : List α} (h : ∀ x ∈ l, (e x).length ≤ m) (hn : l.length ≤ n) : (lsE e l).length ≤ 2 + m * n := by
  have := flatF_take h hn l.length
  rw [List.take_length] at this
  rw [lsE, List.length_append, be2L]
  omega
theorem nlE_len {l : List Int} (h : l.length ≤ 10) : (nlE l).length ≤ 22 := lsE_len (m := 2) (n := 10) (fun x _ => by rw [be2L]; omega) h
theorem cnE_len (c : Cn) : (cnE c).length = 6 := rfl
theorem csE_len {l : List Cn} (h : l.length ≤ 4) : (csE l).length ≤ 26 := lsE_len (m := 6) (n := 4) (fun x _ => by rw [cnE_len]; omega) h
theorem ftE_len {f : Ft} (h1 : gd (sb f.tg) = true) (h : f.lk.length ≤ 10) : (ftE f).length ≤ 26 := by
  have h2 := nlE_len h
  rw [ftE, List.length_append, gd_len h1]
  omega
theorem swE_len {s : Sw} (h1 : s.cn.length ≤ 4) (h : s.lk.length ≤ 10) : (swE s).length ≤ 50 := by
  have h2 := nlE_len h
  have h3 := csE_len h1
  rw [swE, List.length_append, List.length_append, be2L]
  omega
theorem two_newF {w W : World} (hW : W = (w.alloc (.cells #[.slice none 0 0, .int .i64 0, .map none, .bool false] 66)).alloc (.cells #[pg w.heap.size] 64)) :
    Pc W w.heap.size (fun k => k < w.heap.size ∨ k = w.heap.size + 1) ⟨[], [], false⟩ ∧ W.cell? ⟨w.heap.size + 1, 0, none⟩ = some (pg w.heap.size) ∧ Below w.heap.size w W := by
  have h1 := pc_newA w (· < w.heap.size) (fun _ h => h)
  have hs : (w.alloc (.cells #[.slice none 0 0, .int .i64 0, .map none, .bool false] 66)).heap.size = w.heap.size + 1 := by simp
  have h2 := h1.moreA (.cells #[pg w.heap.size] 64)
  have hN := heap_alloc_new (w.alloc (.cells #[.slice none 0 0, .int .i64 0, .map none, .bool false] 66)) (.cells #[pg w.heap.size] 64)
  rw [hs, ← hW] at hN
  rw [hs, ← hW] at h2
  refine ⟨h2, cell_of_row _ (w.heap.size + 1) 0 _ _ (0, 0) hN, ?_⟩
  rw [hW]
  exact bl2 _ _
/-- What may be put. -/
def NuP (x : Int) : Prop := 0 ≤ x ∧ x ≤ 65535
def CnP (x : Cn) : Prop := NuP x.ax ∧ (-16384 ≤ x.ls ∧ x.ls ≤ 16384) ∧ (-16384 ≤ x.ms ∧ x.ms ≤ 16384)
def FtP (x : Ft) : Prop := gd (sb x.tg) = true ∧ x.lk.length ≤ 10 ∧ ∀ y ∈ x.lk, NuP y
def SwP (x : Sw) : Prop := x.cn.length ≤ 4 ∧ (∀ y ∈ x.cn, CnP y) ∧ NuP x.ft ∧ x.lk.length ≤ 10 ∧ ∀ y ∈ x.lk, NuP y

set_option maxHeartbeats 2000000 in
set_option maxRecDepth 100000 in
theorem putIntsF_any (G : Nat → Prop) (B : Nat) (b : List Nat) (xa : Option Addr) (xc : Nat) (l : List Int) (w : World) (hP : Pc w B G ⟨b, [], false⟩) (hx : El.int.row.rep G w [.slice xa l.length xc] l) (hp : ∀ x ∈ l, NuP x) (hn : l.length ≤ 10) (hl : b.length ≤ 100000) :
    Calls Try.prog 35 #[pg B, .slice xa l.length xc, .func (.func 36) #[pg B] #[]] w fun e w' => e = .returned (.tuple #[]) ∧ Pc w' B G ⟨b ++ lsE be2 l, [], false⟩ ∧ Keep G w w' := by
  have kl := (rowF_rep hx).1.lenB
  have HGL : Hid (∀ k, G k → k < w.heap.size) := hP.1
  have HX : Hid (El.int.row.rep G w [.slice xa l.length xc] l) := hx
  have HPX : Hid (∀ x ∈ l, NuP x) := hp
  have HEL : Hid (∀ k, ((l.take k).flatMap be2).length ≤ 2 * 10) := flatF_take (fun x hx => by rw [be2L]; omega) hn
  have HAP : Hid (b ++ be2 ((l.length : Nat) : Int) ++ l.flatMap be2 = b ++ lsE be2 l) := lsE_app _ _ _
  clear hx hp
  go_enter Try.func35, Try.ntmps35
  go_wp2_with fail
  refine (put16_any B G _ (l.length : Int) _ hP ⟨by omega, by omega⟩ (by show b.length + 4 ≤ _; omega)).mono ?_
  rintro e v1 ⟨rfl, hP1, hK1⟩
  rw [put16A (by omega) (by omega)] at hP1
  obtain ⟨Q, hQ⟩ : ∃ Q, b ++ be2 (l.length : Int) = Q := ⟨_, rfl⟩
  have HQL : Hid (Q.length ≤ 100002) := by show _ ≤ 100002; rw [← hQ, List.length_append, be2L]; omega
  rw [hQ] at hP1 HAP
  have hP2 : Pc v1 B G ⟨Q ++ (l.take 0).flatMap be2, [], false⟩ := by rw [List.take_zero, List.flatMap_nil, List.append_nil]; exact hP1
  clear hQ hP hP1
  go_wp2
  go_loopw [14] (fun i wr => ∃ k : Nat, k ≤ l.length ∧ i = .int .i64 k ∧ Pc wr B G ⟨Q ++ (l.take k).flatMap be2, [], false⟩ ∧ Keep G w wr) (fun i _ => l.length - (intOf i).toNat)
  case atStart => exact ⟨0, Nat.zero_le _, rfl, hP2, hK1⟩
  case round =>
    clear hP2 hK1
    obtain ⟨k, hk, rfl, hP, hK⟩ := hrel
    by_cases hkn : k < l.length
    rotate_left
    · obtain rfl : k = l.length := by omega
      rw [List.take_length, HAP.out] at hP
      have g1 : ¬ (l.length : Int) < (l.length : Int) := by omega
      have HPP : Hid (Pc wr B G ⟨b ++ lsE be2 l, [], false⟩) := hP
      clear hP
      go_wp2
      go_end0
      exact ⟨rfl, HPP.out, hK⟩
    have hrow := El.int.row.stay HX.out hK.size (S' := G) (fun k hk _ => ⟨hk, hK.block k hk⟩)
    obtain ⟨b1, off, rfl, hb, hI, d0⟩ := (rowF_rep hrow).1.in1 (Below.refl _ _) k hkn
    have hpx := HPX.out _ (getF_mem (d := (0 : Int)) hkn)
    have HS : Hid (_) := flatF_snoc (e := be2) (d := (0 : Int)) hkn Q
    have hlk : (Q ++ (l.take k).flatMap be2).length ≤ 100800 := by
      have h1 := HQL.out
      have h2 := HEL.out k
      rw [List.length_append]
      omega
    generalize l.getD k (0 : Int) = x at *
    obtain ⟨b2, hb2⟩ : ∃ b2, Q ++ (l.take k).flatMap be2 = b2 := ⟨_, rfl⟩
    rw [hb2] at hP HS hlk
    clear hb2 hrow
    have i1 : (0 : Int) ≤ (k : Int) := by omega
    have i2 : (k : Int) < (l.length : Int) := by omega
    have hq := put16_any B G _ x wr hP hI (by show b2.length + 4 ≤ _; omega)
    rw [put16A (by have := hpx.1; omega) (by have := hpx.2; omega), HS.out] at hq
    clear hP hpx HS
    go_wp2_with fail
    refine hq.mono ?_
    rintro e u1 ⟨rfl, hP2, hK2⟩
    replace hK := hK.trans hK2
    clear hq hK2 d0
    go_wp2
    go_roundw
    case rel => exact ⟨k + 1, by omega, by go_num, hP2, hK⟩
    case measure => simp [intOf]; omega

set_option maxHeartbeats 2000000 in
set_option maxRecDepth 100000 in
theorem putCondF_any (G : Nat → Prop) (B c : Nat) (b : List Nat) (x : Cn) (w : World) (hP : Pc w B G ⟨b, [], false⟩) (hc : w.cell? ⟨c, 0, none⟩ = some (pg B)) (hGc : G c) (hw : CnW x) (hp : CnP x) (hl : b.length ≤ 101000) :
    Calls Try.prog 40 #[.agg #[.int .i64 x.ax, .int .i64 x.ls, .int .i64 x.ms], pg c] w fun e w' => e = .returned (.tuple #[]) ∧ Pc w' B G ⟨b ++ cnE x, [], false⟩ ∧ Keep G w w' := by
  obtain ⟨W, hW, X1, hbW⟩ : ∃ W, W = w.alloc (.cells #[.int .i64 x.ax, .int .i64 x.ls, .int .i64 x.ms] 46) ∧ Bk 46 W w.heap.size [.int .i64 x.ax, .int .i64 x.ls, .int .i64 x.ms] ∧ Below w.heap.size w W := ⟨_, rfl, Bk.new _ _ _, bl1 _⟩
  have HGL : Hid (∀ k, G k → k < w.heap.size) := hP.1
  have hP1 : Pc W B (fun k => G k ∨ k = w.heap.size) ⟨b, [], false⟩ := by rw [hW]; exact hP.moreA _
  have hK0 : Keep G w W := by rw [hW]; exact hP.kal _
  have hcW := (hK0.cell (p := ⟨c, 0, none⟩) hGc).trans hc
  obtain ⟨q0, q1, q2, -⟩ := X1.three
  obtain ⟨gt, hgt⟩ : ∃ g, w.heap.size = g := ⟨_, rfl⟩
  have HGC : Hid (G c) := hGc
  have HE : Hid (b ++ be2 x.ax ++ be2 x.ls ++ be2 x.ms = b ++ cnE x) := by show _ = _; rw [cnE]; simp only [List.append_assoc]
  obtain ⟨⟨m1a, m1b⟩, ⟨m2a, m2b⟩, ⟨m3a, m3b⟩⟩ := hp
  obtain ⟨e1, e2, e3⟩ := hw
  go_enter Try.func40, Try.ntmps40
  go_upto_region 1 with fail
  rw [← hW]
  rw [hgt] at hP1 q0 q1 q2
  try rw [hgt]
  clear hW hP hbW X1 hc hGc
  go_wp2_with fail
  refine (put16_any B _ _ x.ax _ hP1 e1 (by show b.length + 4 ≤ _; omega)).mono ?_
  rintro e v1 ⟨rfl, hP2, hk2⟩
  rw [put16A (by omega) (by omega)] at hP2
  replace q1 := (hk2.cell (p := ⟨gt, 1, none⟩) (.inr rfl)).trans q1
  replace q2 := (hk2.cell (p := ⟨gt, 2, none⟩) (.inr rfl)).trans q2
  replace hcW := (hk2.cell (p := ⟨c, 0, none⟩) (.inl HGC.out)).trans hcW
  replace hK0 := hK0.trans (hk2.mono (fun k hk => .inl hk))
  clear q0 hk2 hP1
  go_wp2_with fail
  refine (put16_any B _ _ x.ls _ hP2 e2 (by show (b ++ be2 x.ax).length + 4 ≤ _; rw [List.length_append, be2L]; omega)).mono ?_
  rintro e v2 ⟨rfl, hP3, hk3⟩
  rw [put16A (by omega) (by omega)] at hP3
  replace q2 := (hk3.cell (p := ⟨gt, 2, none⟩) (.inr rfl)).trans q2
  replace hcW := (hk3.cell (p := ⟨c, 0, none⟩) (.inl HGC.out)).trans hcW
  replace hK0 := hK0.trans (hk3.mono (fun k hk => .inl hk))
  clear q1 hk3 hP2
  go_wp2_with fail
  refine (put16_any B _ _ x.ms _ hP3 e3 (by show (b ++ be2 x.ax ++ be2 x.ls).length + 4 ≤ _; rw [List.length_append, List.length_append, be2L, be2L]; omega)).mono ?_
  rintro e v3 ⟨rfl, hP4, hk4⟩
  rw [put16A (by omega) (by omega), HE.out] at hP4
  replace hK0 := hK0.trans (hk4.mono (fun k hk => .inl hk))
  have hP5 : Pc v3 B G ⟨b ++ cnE x, [], false⟩ := hP4.guard (fun j hj => ⟨Nat.lt_of_lt_of_le (HGL.out j hj) hK0.size, .inl hj⟩)
  clear q2 hk4 hP3 hP4 hcW
  go_wp2
  go_end0
  exact ⟨rfl, hP5, hK0⟩

set_option maxHeartbeats 2000000 in
set_option maxRecDepth 100000 in
theorem putCondsF_any (G : Nat → Prop) (B c : Nat) (b : List Nat) (xa : Option Addr) (xc : Nat) (l : List Cn) (w : World) (hP : Pc w B G ⟨b, [], false⟩) (hx : CnE.row.rep G w [.slice xa l.length xc] l) (hc : w.cell? ⟨c, 0, none⟩ = some (pg B)) (hGc : G c) (hp : ∀ x ∈ l, CnP x) (hn : l.length ≤ 4) (hl : b.length ≤ 100000) :
    Calls Try.prog 39 #[pg B, .slice xa l.length xc, .func (.func 40) #[] #[pg c]] w fun e w' => e = .returned (.tuple #[]) ∧ Pc w' B G ⟨b ++ lsE cnE l, [], false⟩ ∧ Keep G w w' := by
  have kl := (rowF_rep hx).1.lenB
  have HGL : Hid (∀ k, G k → k < w.heap.size) := hP.1
  have HX : Hid (CnE.row.rep G w [.slice xa l.length xc] l) := hx
  have HPX : Hid (∀ x ∈ l, CnP x) := hp
  have HEL : Hid (∀ k, ((l.take k).flatMap cnE).length ≤ 6 * 4) := flatF_take (fun x hx => by rw [cnE_len]; omega) hn
  have HAP : Hid (b ++ be2 ((l.length : Nat) : Int) ++ l.flatMap cnE = b ++ lsE cnE l) := lsE_app _ _ _
  have HC : Hid (w.cell? ⟨c, 0, none⟩ = some (pg B)) := hc
  have HGC : Hid (G c) := hGc
  clear hx hp hc hGc
  go_enter Try.func39, Try.ntmps39
  go_wp2_with fail
  refine (put16_any B G _ (l.length : Int) _ hP ⟨by omega, by omega⟩ (by show b.length + 4 ≤ _; omega)).mono ?_
  rintro e v1 ⟨rfl, hP1, hK1⟩
  rw [put16A (by omega) (by omega)] at hP1
  obtain ⟨Q, hQ⟩ : ∃ Q, b ++ be2 (l.length : Int) = Q := ⟨_, rfl⟩
  have HQL : Hid (Q.length ≤ 100002) := by show _ ≤ 100002; rw [← hQ, List.length_append, be2L]; omega
  rw [hQ] at hP1 HAP
  have hP2 : Pc v1 B G ⟨Q ++ (l.take 0).flatMap cnE, [], false⟩ := by rw [List.take_zero, List.flatMap_nil, List.append_nil]; exact hP1
  clear hQ hP hP1
  go_wp2
  go_loopw [14] (fun i wr => ∃ k : Nat, k ≤ l.length ∧ i = .int .i64 k ∧ Pc wr B G ⟨Q ++ (l.take k).flatMap cnE, [], false⟩ ∧ Keep G w wr) (fun i _ => l.length - (intOf i).toNat)
  case atStart => exact ⟨0, Nat.zero_le _, rfl, hP2, hK1⟩
  case round =>
    clear hP2 hK1
    obtain ⟨k, hk, rfl, hP, hK⟩ := hrel
    by_cases hkn : k < l.length
    rotate_left
    · obtain rfl : k = l.length := by omega
      rw [List.take_length, HAP.out] at hP
      have g1 : ¬ (l.length : Int) < (l.length : Int) := by omega
      have HPP : Hid (Pc wr B G ⟨b ++ lsE cnE l, [], false⟩) := hP
      clear hP
      go_wp2
      go_end0
      exact ⟨rfl, HPP.out, hK⟩
    have hrow := CnE.row.stay HX.out hK.size (S' := G) (fun k hk _ => ⟨hk, hK.block k hk⟩)
    obtain ⟨b1, off, rfl, hb, hW, d0, d1, d2⟩ := (rowF_rep hrow).1.cn (Below.refl _ _) k hkn
    have hpx := HPX.out _ (getF_mem (d := Cn.none) hkn)
    have HS : Hid (_) := flatF_snoc (e := cnE) (d := Cn.none) hkn Q
    have hlk : (Q ++ (l.take k).flatMap cnE).length ≤ 100800 := by
      have h1 := HQL.out
      have h2 := HEL.out k
      rw [List.length_append]
      omega
    generalize l.getD k Cn.none = x at *
    obtain ⟨b2, hb2⟩ : ∃ b2, Q ++ (l.take k).flatMap cnE = b2 := ⟨_, rfl⟩
    rw [hb2] at hP HS hlk
    clear hb2 hrow
    have i1 : (0 : Int) ≤ (k : Int) := by omega
    have i2 : (k : Int) < (l.length : Int) := by omega
    obtain ⟨V, hV, X0, hb0⟩ : ∃ V, V = wr.alloc (.cells #[.int .i64 x.ax, .int .i64 x.ls, .int .i64 x.ms] 46) ∧ Bk 46 V wr.heap.size [.int .i64 x.ax, .int .i64 x.ls, .int .i64 x.ms] ∧ Below wr.heap.size wr V := ⟨_, rfl, Bk.new _ _ _, bl1 _⟩
    have hPV : Pc V B G ⟨b2, [], false⟩ := by rw [hV]; exact hP.al _
    have hKV : Keep G w V := hK.trans (by rw [hV]; exact hP.kal _)
    have hcV := (hKV.cell (p := ⟨c, 0, none⟩) HGC.out).trans HC.out
    obtain ⟨y0, y1, y2, -⟩ := X0.three
    have hq := putCondF_any G B c b2 x V hPV hcV HGC.out hW hpx (by omega)
    rw [HS.out] at hq
    go_upto_region 4 with fail
    rw [← hV]
    clear hV hP hK hPV hb0 X0 hpx HS hcV d0 d1 d2
    go_wp2_with fail
    refine hq.mono ?_
    rintro e u1 ⟨rfl, hP2, hK2⟩
    replace hKV := hKV.trans hK2
    clear hq hK2 y0 y1 y2
    go_wp2
    go_roundw
    case rel => exact ⟨k + 1, by omega, by go_num, hP2, hKV⟩
    case measure => simp [intOf]; omega

set_option maxHeartbeats 2000000 in
set_option maxRecDepth 100000 in
theorem putFeatF_any (G : Nat → Prop) (B c : Nat) (b : List Nat) (x : Ft) (xa : Option Addr) (xc : Nat) (w : World) (hP : Pc w B G ⟨b, [], false⟩) (hc : w.cell? ⟨c, 0, none⟩ = some (pg B)) (hGc : G c) (hw : x.tg.size ≤ maxLen) (hr : El.int.row.rep G w [.slice xa x.lk.length xc] x.lk) (hp : FtP x) (hl : b.length ≤ 99900) :
    Calls Try.prog 33 #[.agg #[.string x.tg, .slice xa x.lk.length xc], pg c] w fun e w' => e = .returned (.tuple #[]) ∧ Pc w' B G ⟨b ++ ftE x, [], false⟩ ∧ Keep G w w' := by
  obtain ⟨W, hW, X1, hbW⟩ : ∃ W, W = w.alloc (.cells #[.string x.tg, .slice xa x.lk.length xc] 49) ∧ Bk 49 W w.heap.size [.string x.tg, .slice xa x.lk.length xc] ∧ Below w.heap.size w W := ⟨_, rfl, Bk.new _ _ _, bl1 _⟩
  have HGL : Hid (∀ k, G k → k < w.heap.size) := hP.1
  have hP1 : Pc W B (fun k => G k ∨ k = w.heap.size) ⟨b, [], false⟩ := by rw [hW]; exact hP.moreA _
  have hK0 : Keep G w W := by rw [hW]; exact hP.kal _
  have hcW := (hK0.cell (p := ⟨c, 0, none⟩) hGc).trans hc
  obtain ⟨q0, q1, -⟩ := X1.two
  obtain ⟨gt, hgt⟩ : ∃ g, w.heap.size = g := ⟨_, rfl⟩
  have HGC : Hid (G c) := hGc
  have HR : Hid (El.int.row.rep G w [.slice xa x.lk.length xc] x.lk) := hr
  obtain ⟨p1, p2, p3⟩ := hp
  have h4 := gd_len p1
  have HP3 : Hid (∀ y ∈ x.lk, NuP y) := p3
  have HE : Hid (b ++ sb x.tg ++ lsE be2 x.lk = b ++ ftE x) := by show _ = _; rw [ftE, List.append_assoc]; rfl
  go_enter Try.func33, Try.ntmps33
  go_upto_region 1 with fail
  rw [← hW]
  rw [hgt] at hP1 q0 q1
  try rw [hgt]
  clear hW hP hbW X1 hc hGc hr p3
  go_wp2_with fail
  refine (putTag_any B _ _ x.tg _ hP1 hw (by show b.length + 4 ≤ _; omega)).mono ?_
  rintro e v1 ⟨rfl, hP2, hk2⟩
  rw [tagA p1] at hP2
  replace q1 := (hk2.cell (p := ⟨gt, 1, none⟩) (.inr rfl)).trans q1
  replace hcW := (hk2.cell (p := ⟨c, 0, none⟩) (.inl HGC.out)).trans hcW
  replace hK0 := hK0.trans (hk2.mono (fun k hk => .inl hk))
  have hr1 := El.int.row.stay HR.out hK0.size (S' := fun k => G k ∨ k = gt) (fun k hk _ => ⟨.inl hk, hK0.block k hk⟩)
  have hq := putIntsF_any _ B _ xa xc x.lk v1 hP2 hr1 HP3.out p2 (by show (b ++ sb x.tg).length ≤ _; rw [List.length_append, h4]; omega)
  clear q0 hk2 hP1 hr1
  go_wp2_with fail
  refine hq.mono ?_
  rintro e v2 ⟨rfl, hP3, hk3⟩
  rw [HE.out] at hP3
  replace hK0 := hK0.trans (hk3.mono (fun k hk => .inl hk))
  have hP5 : Pc v2 B G ⟨b ++ ftE x, [], false⟩ := hP3.guard (fun j hj => ⟨Nat.lt_of_lt_of_le (HGL.out j hj) hK0.size, .inl hj⟩)
  clear q1 hk3 hP3 hP2 hcW hq
  go_wp2
  go_end0
  exact ⟨rfl, hP5, hK0⟩

set_option maxHeartbeats 2000000 in
set_option maxRecDepth 100000 in
theorem putFeatsF_any (G : Nat → Prop) (B c : Nat) (b : List Nat) (xa : Option Addr) (xc : Nat) (l : List Ft) (w : World) (hP : Pc w B G ⟨b, [], false⟩) (hx : FtE.row.rep G w [.slice xa l.length xc] l) (hc : w.cell? ⟨c, 0, none⟩ = some (pg B)) (hGc : G c) (hp : ∀ x ∈ l, FtP x) (hn : l.length ≤ 10) (hl : b.length ≤ 90000) :
    Calls Try.prog 32 #[pg B, .slice xa l.length xc, .func (.func 33) #[] #[pg c]] w fun e w' => e = .returned (.tuple #[]) ∧ Pc w' B G ⟨b ++ lsE ftE l, [], false⟩ ∧ Keep G w w' := by
  have kl := (rowF_rep hx).1.lenB
  have HGL : Hid (∀ k, G k → k < w.heap.size) := hP.1
  have HX : Hid (FtE.row.rep G w [.slice xa l.length xc] l) := hx
  have HPX : Hid (∀ x ∈ l, FtP x) := hp
  have HEL : Hid (∀ k, ((l.take k).flatMap ftE).length ≤ 26 * 10) := flatF_take (fun x hx => ftE_len (HPX.out x hx).1 (HPX.out x hx).2.1) hn
  have HAP : Hid (b ++ be2 ((l.length : Nat) : Int) ++ l.flatMap ftE = b ++ lsE ftE l) := lsE_app _ _ _
  have HC : Hid (w.cell? ⟨c, 0, none⟩ = some (pg B)) := hc
  have HGC : Hid (G c) := hGc
  clear hx hp hc hGc
  go_enter Try.func32, Try.ntmps32
  go_wp2_with fail
  refine (put16_any B G _ (l.length : Int) _ hP ⟨by omega, by omega⟩ (by show b.length + 4 ≤ _; omega)).mono ?_
  rintro e v1 ⟨rfl, hP1, hK1⟩
  rw [put16A (by omega) (by omega)] at hP1
  obtain ⟨Q, hQ⟩ : ∃ Q, b ++ be2 (l.length : Int) = Q := ⟨_, rfl⟩
  have HQL : Hid (Q.length ≤ 90002) := by show _ ≤ 90002; rw [← hQ, List.length_append, be2L]; omega
  rw [hQ] at hP1 HAP
  have hP2 : Pc v1 B G ⟨Q ++ (l.take 0).flatMap ftE, [], false⟩ := by rw [List.take_zero, List.flatMap_nil, List.append_nil]; exact hP1
  clear hQ hP hP1
  go_wp2
  go_loopw [14] (fun i wr => ∃ k : Nat, k ≤ l.length ∧ i = .int .i64 k ∧ Pc wr B G ⟨Q ++ (l.take k).flatMap ftE, [], false⟩ ∧ Keep G w wr) (fun i _ => l.length - (intOf i).toNat)
  case atStart => exact ⟨0, Nat.zero_le _, rfl, hP2, hK1⟩
  case round =>
    clear hP2 hK1
    obtain ⟨k, hk, rfl, hP, hK⟩ := hrel
    by_cases hkn : k < l.length
    rotate_left
    · obtain rfl : k = l.length := by omega
      rw [List.take_length, HAP.out] at hP
      have g1 : ¬ (l.length : Int) < (l.length : Int) := by omega
      have HPP : Hid (Pc wr B G ⟨b ++ lsE ftE l, [], false⟩) := hP
      clear hP
      go_wp2
      go_end0
      exact ⟨rfl, HPP.out, hK⟩
    have hrow := FtE.row.stay HX.out hK.size (S' := G) (fun k hk _ => ⟨hk, hK.block k hk⟩)
    obtain ⟨b1, off, a2, c2, rfl, hb, hsz, d0, d1, hr2⟩ := (rowF_rep hrow).1.ft (Below.refl _ _) k hkn
    have hpx := HPX.out _ (getF_mem (d := Ft.none) hkn)
    have HS : Hid (_) := flatF_snoc (e := ftE) (d := Ft.none) hkn Q
    have hlk : (Q ++ (l.take k).flatMap ftE).length ≤ 90800 := by
      have h1 := HQL.out
      have h2 := HEL.out k
      rw [List.length_append]
      omega
    generalize l.getD k Ft.none = x at *
    obtain ⟨b2, hb2⟩ : ∃ b2, Q ++ (l.take k).flatMap ftE = b2 := ⟨_, rfl⟩
    rw [hb2] at hP HS hlk
    clear hb2 hrow
    have i1 : (0 : Int) ≤ (k : Int) := by omega
    have i2 : (k : Int) < (l.length : Int) := by omega
    obtain ⟨V, hV, X0, hb0⟩ : ∃ V, V = wr.alloc (.cells #[.string x.tg, .slice a2 x.lk.length c2] 49) ∧ Bk 49 V wr.heap.size [.string x.tg, .slice a2 x.lk.length c2] ∧ Below wr.heap.size wr V := ⟨_, rfl, Bk.new _ _ _, bl1 _⟩
    have hPV : Pc V B G ⟨b2, [], false⟩ := by rw [hV]; exact hP.al _
    have hKV : Keep G w V := hK.trans (by rw [hV]; exact hP.kal _)
    have hcV := (hKV.cell (p := ⟨c, 0, none⟩) HGC.out).trans HC.out
    obtain ⟨y0, y1, -⟩ := X0.two
    have hq := putFeatF_any G B c b2 x a2 c2 V hPV hcV HGC.out hsz (El.int.row.stay hr2 hb0.size (S' := G) (fun k hk hlt => ⟨hk, hb0.block k hlt⟩)) hpx (by omega)
    rw [HS.out] at hq
    go_upto_region 4 with fail
    rw [← hV]
    clear hV hP hK hPV hb0 X0 hpx HS hcV d0 d1
    go_wp2_with fail
    refine hq.mono ?_
    rintro e u1 ⟨rfl, hP2, hK2⟩
    replace hKV := hKV.trans hK2
    clear hq hK2 y0 y1
    go_wp2
    go_roundw
    case rel => exact ⟨k + 1, by omega, by go_num, hP2, hKV⟩
    case measure => simp [intOf]; omega

set_option maxHeartbeats 2000000 in
set_option maxRecDepth 100000 in
theorem putSwapF_any (G : Nat → Prop) (B c : Nat) (b : List Nat) (x : Sw) (xa : Option Addr) (xc : Nat) (ya : Option Addr) (yc : Nat) (w : World) (hP : Pc w B G ⟨b, [], false⟩) (hc : w.cell? ⟨c, 0, none⟩ = some (pg B)) (hGc : G c) (hw : I64 x.ft) (hr : CnE.row.rep G w [.slice xa x.cn.length xc] x.cn) (hy : El.int.row.rep G w [.slice ya x.lk.length yc] x.lk) (hp : SwP x) (hl : b.length ≤ 99900) :
    Calls Try.prog 38 #[.agg #[.slice xa x.cn.length xc, .int .i64 x.ft, .slice ya x.lk.length yc], pg c] w fun e w' => e = .returned (.tuple #[]) ∧ Pc w' B G ⟨b ++ swE x, [], false⟩ ∧ Keep G w w' := by
  obtain ⟨W, hW, X1, hbW⟩ : ∃ W, W = w.alloc (.cells #[.slice xa x.cn.length xc, .int .i64 x.ft, .slice ya x.lk.length yc] 53) ∧ Bk 53 W w.heap.size [.slice xa x.cn.length xc, .int .i64 x.ft, .slice ya x.lk.length yc] ∧ Below w.heap.size w W := ⟨_, rfl, Bk.new _ _ _, bl1 _⟩
  have HGL : Hid (∀ k, G k → k < w.heap.size) := hP.1
  have hP1 : Pc W B (fun k => G k ∨ k = w.heap.size) ⟨b, [], false⟩ := by rw [hW]; exact hP.moreA _
  have hK0 : Keep G w W := by rw [hW]; exact hP.kal _
  have hcW := (hK0.cell (p := ⟨c, 0, none⟩) hGc).trans hc
  obtain ⟨q0, q1, q2, -⟩ := X1.three
  obtain ⟨gt, hgt⟩ : ∃ g, w.heap.size = g := ⟨_, rfl⟩
  have HGC : Hid (G c) := hGc
  have HY : Hid (El.int.row.rep G w [.slice ya x.lk.length yc] x.lk) := hy
  obtain ⟨p1, p2, ⟨p3, p4⟩, p5, p6⟩ := hp
  have h3 := csE_len p1
  have HP6 : Hid (∀ y ∈ x.lk, NuP y) := p6
  have HE : Hid (b ++ lsE cnE x.cn ++ be2 x.ft ++ lsE be2 x.lk = b ++ swE x) := by show _ = _; rw [swE]; simp only [List.append_assoc]; rfl
  go_enter Try.func38, Try.ntmps38
  go_upto_region 1 with fail
  rw [← hW]
  rw [hgt] at hP1 q0 q1 q2
  try rw [hgt]
  have hr1 := CnE.row.stay hr hK0.size (S' := fun k => G k ∨ k = gt) (fun k hk _ => ⟨.inl hk, hK0.block k hk⟩)
  have hq := putCondsF_any _ B c _ xa xc x.cn W hP1 hr1 hcW (.inl HGC.out) p2 p1 (by omega)
  clear hW hP hbW X1 hc hGc hr hy p6 hr1 p2
  go_wp2_with fail
  refine hq.mono ?_
  rintro e v1 ⟨rfl, hP2, hk2⟩
  replace q1 := (hk2.cell (p := ⟨gt, 1, none⟩) (.inr rfl)).trans q1
  replace q2 := (hk2.cell (p := ⟨gt, 2, none⟩) (.inr rfl)).trans q2
  replace hcW := (hk2.cell (p := ⟨c, 0, none⟩) (.inl HGC.out)).trans hcW
  replace hK0 := hK0.trans (hk2.mono (fun k hk => .inl hk))
  have h5 : (b ++ lsE cnE x.cn).length ≤ 99926 := by rw [List.length_append]; have h6 : (lsE cnE x.cn).length ≤ 26 := h3; omega
  obtain ⟨b2, hb2⟩ : ∃ b2, b ++ lsE cnE x.cn = b2 := ⟨_, rfl⟩
  rw [hb2] at h5 hP2 HE
  clear q0 hk2 hP1 hq hb2
  go_wp2_with fail
  refine (put16_any B _ _ x.ft _ hP2 hw (by show b2.length + 4 ≤ _; omega)).mono ?_
  rintro e v2 ⟨rfl, hP3, hk3⟩
  rw [put16A (by omega) (by omega)] at hP3
  replace q2 := (hk3.cell (p := ⟨gt, 2, none⟩) (.inr rfl)).trans q2
  replace hcW := (hk3.cell (p := ⟨c, 0, none⟩) (.inl HGC.out)).trans hcW
  replace hK0 := hK0.trans (hk3.mono (fun k hk => .inl hk))
  have hr2 := El.int.row.stay HY.out hK0.size (S' := fun k => G k ∨ k = gt) (fun k hk _ => ⟨.inl hk, hK0.block k hk⟩)
  have hq := putIntsF_any _ B _ ya yc x.lk v2 hP3 hr2 HP6.out p5 (by show (b2 ++ be2 x.ft).length ≤ _; rw [List.length_append, be2L]; omega)
  clear q1 hk3 hP2 hr2
  go_wp2_with fail
  refine hq.mono ?_
  rintro e v3 ⟨rfl, hP4, hk4⟩
  rw [HE.out] at hP4
  replace hK0 := hK0.trans (hk4.mono (fun k hk => .inl hk))
  have hP5 : Pc v3 B G ⟨b ++ swE x, [], false⟩ := hP4.guard (fun j hj => ⟨Nat.lt_of_lt_of_le (HGL.out j hj) hK0.size, .inl hj⟩)
  clear q2 hk4 hP3 hP4 hcW hq
  go_wp2
  go_end0
  exact ⟨rfl, hP5, hK0⟩

set_option maxHeartbeats 2000000 in
set_option maxRecDepth 100000 in
theorem putSwapsF_any (G : Nat → Prop) (B c : Nat) (b : List Nat) (xa : Option Addr) (xc : Nat) (l : List Sw) (w : World) (hP : Pc w B G ⟨b, [], false⟩) (hx : SwE.row.rep G w [.slice xa l.length xc] l) (hc : w.cell? ⟨c, 0, none⟩ = some (pg B)) (hGc : G c) (hp : ∀ x ∈ l, SwP x) (hn : l.length ≤ 6) (hl : b.length ≤ 90000) :
    Calls Try.prog 37 #[pg B, .slice xa l.length xc, .func (.func 38) #[] #[pg c]] w fun e w' => e = .returned (.tuple #[]) ∧ Pc w' B G ⟨b ++ lsE swE l, [], false⟩ ∧ Keep G w w' := by
  have kl := (rowF_rep hx).1.lenB
  have HGL : Hid (∀ k, G k → k < w.heap.size) := hP.1
  have HX : Hid (SwE.row.rep G w [.slice xa l.length xc] l) := hx
  have HPX : Hid (∀ x ∈ l, SwP x) := hp
  have HEL : Hid (∀ k, ((l.take k).flatMap swE).length ≤ 50 * 6) := flatF_take (fun x hx => swE_len (HPX.out x hx).1 (HPX.out x hx).2.2.2.1) hn
  have HAP : Hid (b ++ be2 ((l.length : Nat) : Int) ++ l.flatMap swE = b ++ lsE swE l) := lsE_app _ _ _
  have HC : Hid (w.cell? ⟨c, 0, none⟩ = some (pg B)) := hc
  have HGC : Hid (G c) := hGc
  clear hx hp hc hGc
  go_enter Try.func37, Try.ntmps37
  go_wp2_with fail
  refine (put16_any B G _ (l.length : Int) _ hP ⟨by omega, by omega⟩ (by show b.length + 4 ≤ _; omega)).mono ?_
  rintro e v1 ⟨rfl, hP1, hK1⟩
  rw [put16A (by omega) (by omega)] at hP1
  obtain ⟨Q, hQ⟩ : ∃ Q, b ++ be2 (l.length : Int) = Q := ⟨_, rfl⟩
  have HQL : Hid (Q.length ≤ 90002) := by show _ ≤ 90002; rw [← hQ, List.length_append, be2L]; omega
  rw [hQ] at hP1 HAP
  have hP2 : Pc v1 B G ⟨Q ++ (l.take 0).flatMap swE, [], false⟩ := by rw [List.take_zero, List.flatMap_nil, List.append_nil]; exact hP1
  clear hQ hP hP1
  go_wp2
  go_loopw [14] (fun i wr => ∃ k : Nat, k ≤ l.length ∧ i = .int .i64 k ∧ Pc wr B G ⟨Q ++ (l.take k).flatMap swE, [], false⟩ ∧ Keep G w wr) (fun i _ => l.length - (intOf i).toNat)
  case atStart => exact ⟨0, Nat.zero_le _, rfl, hP2, hK1⟩
  case round =>
    clear hP2 hK1
    obtain ⟨k, hk, rfl, hP, hK⟩ := hrel
    by_cases hkn : k < l.length
    rotate_left
    · obtain rfl : k = l.length := by omega
      rw [List.take_length, HAP.out] at hP
      have g1 : ¬ (l.length : Int) < (l.length : Int) := by omega
      have HPP : Hid (Pc wr B G ⟨b ++ lsE swE l, [], false⟩) := hP
      clear hP
      go_wp2
      go_end0
      exact ⟨rfl, HPP.out, hK⟩
    have hrow := SwE.row.stay HX.out hK.size (S' := G) (fun k hk _ => ⟨hk, hK.block k hk⟩)
    obtain ⟨b1, off, a1, c1, a2, c2, rfl, hb, hsz, d0, d1, d2, hr1, hr2⟩ := (rowF_rep hrow).1.sw (Below.refl _ _) k hkn
    have hpx := HPX.out _ (getF_mem (d := Sw.none) hkn)
    have HS : Hid (_) := flatF_snoc (e := swE) (d := Sw.none) hkn Q
    have hlk : (Q ++ (l.take k).flatMap swE).length ≤ 90800 := by
      have h1 := HQL.out
      have h2 := HEL.out k
      rw [List.length_append]
      omega
    generalize l.getD k Sw.none = x at *
    obtain ⟨b2, hb2⟩ : ∃ b2, Q ++ (l.take k).flatMap swE = b2 := ⟨_, rfl⟩
    rw [hb2] at hP HS hlk
    clear hb2 hrow
    have i1 : (0 : Int) ≤ (k : Int) := by omega
    have i2 : (k : Int) < (l.length : Int) := by omega
    obtain ⟨V, hV, X0, hb0⟩ : ∃ V, V = wr.alloc (.cells #[.slice a1 x.cn.length c1, .int .i64 x.ft, .slice a2 x.lk.length c2] 53) ∧ Bk 53 V wr.heap.size [.slice a1 x.cn.length c1, .int .i64 x.ft, .slice a2 x.lk.length c2] ∧ Below wr.heap.size wr V := ⟨_, rfl, Bk.new _ _ _, bl1 _⟩
    have hPV : Pc V B G ⟨b2, [], false⟩ := by rw [hV]; exact hP.al _
    have hKV : Keep G w V := hK.trans (by rw [hV]; exact hP.kal _)
    have hcV := (hKV.cell (p := ⟨c, 0, none⟩) HGC.out).trans HC.out
    obtain ⟨y0, y1, y2, -⟩ := X0.three
    have hq := putSwapF_any G B c b2 x a1 c1 a2 c2 V hPV hcV HGC.out hsz (CnE.row.stay hr1 hb0.size (S' := G) (fun k hk hlt => ⟨hk, hb0.block k hlt⟩)) (El.int.row.stay hr2 hb0.size (S' := G) (fun k hk hlt => ⟨hk, hb0.block k hlt⟩)) hpx (by omega)
    rw [HS.out] at hq
    go_upto_region 4 with fail
    rw [← hV]
    clear hV hP hK hPV hb0 X0 hpx HS hcV d0 d1 d2
    go_wp2_with fail
    refine hq.mono ?_
    rintro e u1 ⟨rfl, hP2, hK2⟩
    replace hKV := hKV.trans hK2
    clear hq hK2 y0 y1 y2
    go_wp2
    go_roundw
    case rel => exact ⟨k + 1, by omega, by go_num, hP2, hKV⟩
    case measure => simp [intOf]; omega

theorem nuP_of {n : Int} (hn : n ≤ 65536) {l : List Int} (h : nlF n l = true) : l.length ≤ 10 ∧ ∀ y ∈ l, NuP y := ⟨(nlF_iff.1 h).1, fun y hy => by
  have := nlF_mem h y hy
  unfold NuP
  omega⟩
theorem cnP_of {ax : Int} (hax : ax ≤ 65536) {c : Cn} (h : cnF ax c = true) : CnP c := by
  obtain ⟨h1, h2, _⟩ := cnF_iff.1 h
  exact ⟨⟨h1.1, by omega⟩, h2⟩
theorem ftP_of {n : Int} (hn : n ≤ 65536) {x : Ft} (h : ftF n x = true) : FtP x := by
  obtain ⟨h1, h2⟩ := ftF_iff.1 h
  exact ⟨h1, nuP_of hn h2⟩
theorem swP_of {nf n ax : Int} (hnf : nf ≤ 65536) (hn : n ≤ 65536) (hax : ax ≤ 65536) {x : Sw} (h : swF nf n ax x = true) : SwP x := by
  obtain ⟨⟨h1, _⟩, h3, h4⟩ := swF_iff.1 h
  exact ⟨h1, fun y hy => cnP_of hax (swF_mem h y hy), ⟨h3.1, by omega⟩, nuP_of hn h4⟩

set_option maxHeartbeats 4000000 in
set_option maxRecDepth 100000 in
theorem cwriteF_any (S : Nat → Prop) (a : Option Addr) (ca : Nat) (l : List Ft) (b : Option Addr) (cb : Nat) (s : List Sw) (n ax : Int) (w : World) (hS : ∀ k, S k → k < w.heap.size) (hl : FtE.row.rep S w [.slice a l.length ca] l) (hs : SwE.row.rep S w [.slice b s.length cb] s) :
    Calls Try.prog 15 #[.slice a l.length ca, .slice b s.length cb, .int .i64 n, .int .i64 ax] w fun e w' => ∃ a' c', e = .returned (.tuple #[.slice a' (wrFB l s n ax).length c', .int .i64 (wrFE l s n ax)]) ∧ Rw 5 w.heap.size w' a' c' (wrFB l s n ax) ∧ Below w.heap.size w w' := by
  have hf1 := cfoF_any S a ca l b cb s n ax w (rowF_rep hl).1 (rowF_rep hs).1
  have HNO : Hid (¬ (foFt l s n ax = true ∧ n ≤ 65536 ∧ ax ≤ 65536) → wrFE l s n ax = 1 ∧ wrFB l s n ax = []) := wr22_no
  cases hfo : foFt l s n ax with
  | false =>
    rw [hfo] at hf1
    have HN : Hid (_) := HNO.out (fun h => by rw [hfo] at h; cases h.1)
    clear hfo HNO
    go_enter Try.func15, Try.ntmps15
    go_wp2_with fail
    refine hf1.mono ?_
    rintro e u ⟨rfl, hb1⟩
    clear hf1
    go_wp2
    go_ret2
    exact ⟨none, 0, by rw [HN.out.1, HN.out.2]; rfl, by rw [HN.out.2]; exact Rw.nil _ _, hb1⟩
  | true =>
  rw [hfo] at hf1
  by_cases hbig : 65536 < n
  · have g1 : decide (65536 < n) = true := decide_eq_true hbig
    have HN : Hid (_) := HNO.out (fun h => by omega)
    clear hfo HNO
    go_enter Try.func15, Try.ntmps15
    go_wp2_with fail
    refine hf1.mono ?_
    rintro e u ⟨rfl, hb1⟩
    clear hf1
    go_wp2
    go_ret2
    exact ⟨none, 0, by rw [HN.out.1, HN.out.2]; rfl, by rw [HN.out.2]; exact Rw.nil _ _, hb1⟩
  have g1 : decide (65536 < n) = false := decide_eq_false hbig
  by_cases hbig2 : 65536 < ax
  · have g2 : decide (65536 < ax) = true := decide_eq_true hbig2
    have HN : Hid (_) := HNO.out (fun h => by omega)
    clear hfo HNO
    go_enter Try.func15, Try.ntmps15
    go_wp2_with fail
    refine hf1.mono ?_
    rintro e u ⟨rfl, hb1⟩
    clear hf1
    go_wp2
    go_ret2
    exact ⟨none, 0, by rw [HN.out.1, HN.out.2]; rfl, by rw [HN.out.2]; exact Rw.nil _ _, hb1⟩
  have g2 : decide (65536 < ax) = false := decide_eq_false hbig2
  have HN : Hid (_) := wr22_yes (l := l) (s := s) (n := n) (ax := ax) ⟨hfo, by omega, by omega⟩
  have HN2 : Hid (frE22 l s = [] ++ lsE ftE l ++ lsE swE s) := rfl
  obtain ⟨⟨h10, h6⟩, _⟩ := foFt_iff.1 hfo
  obtain ⟨hm1, hm2⟩ := foFt_mem hfo
  have HM1 : Hid (∀ x ∈ l, FtP x) := fun x hx => ftP_of (by omega) (hm1 x hx)
  have HM2 : Hid (∀ x ∈ s, SwP x) := fun x hx => swP_of (nf := (l.length : Int)) (by omega) (by omega) (by omega) (hm2 x hx)
  have HL1 : Hid ((lsE ftE l).length ≤ 262) := lsE_len (m := 26) (n := 10) (fun x hx => ftE_len (HM1.out x hx).1 (HM1.out x hx).2.1) h10
  have HL2 : Hid ((lsE swE s).length ≤ 302) := lsE_len (m := 50) (n := 6) (fun x hx => swE_len (HM2.out x hx).1 (HM2.out x hx).2.2.2.1) h6
  have HRL : Hid (FtE.row.rep S w [.slice a l.length ca] l) := hl
  have HRS : Hid (SwE.row.rep S w [.slice b s.length cb] s) := hs
  have HSS : Hid (∀ k, S k → k < w.heap.size) := hS
  clear hfo HNO hm1 hm2 hl hs hS
  go_enter Try.func15, Try.ntmps15
  go_wp2_with fail
  refine hf1.mono ?_
  rintro e u ⟨rfl, hb1⟩
  clear hf1
  obtain ⟨W, hW⟩ : ∃ W, W = (u.alloc (.cells #[.slice none 0 0, .int .i64 0, .map none, .bool false] 66)).alloc (.cells #[pg u.heap.size] 64) := ⟨_, rfl⟩
  obtain ⟨hP, hcl, hB⟩ := two_newF hW
  have hBW : Below w.heap.size w W := hb1.trans (hB.mono hb1.size)
  obtain ⟨B, hBe⟩ : ∃ B, u.heap.size = B := ⟨_, rfl⟩
  have HBS : Hid (w.heap.size ≤ B) := by have := hb1.size; rw [hBe] at this; exact this
  have hsW : W.heap.size = B + 2 := by rw [hW, ← hBe]; simp
  have hr1 := FtE.row.stay HRL.out hBW.size (S' := fun k => k < B ∨ k = B + 1) (fun k hk hlt => ⟨.inl (by have := HBS.out; omega), hBW.block k hlt⟩)
  rw [hBe] at hP hcl
  have hq := putFeatsF_any (fun k => k < B ∨ k = B + 1) B (B + 1) [] a ca l W hP hr1 hcl (.inr rfl) HM1.out h10 (by simp)
  go_upto_region 4 with fail
  try rw [World.size_alloc]
  try rw [hBe]
  rw [hBe] at hW
  rw [← hW]
  clear hW hP hb1 hB hr1
  go_wp2_with fail
  refine hq.mono ?_
  rintro e v1 ⟨rfl, hP2, hK2⟩
  replace hcl := (hK2.cell (p := ⟨B + 1, 0, none⟩) (.inr rfl)).trans hcl
  replace hBW := hBW.trans (hK2.below (fun k hk => .inl (by have := HBS.out; omega)))
  have hr2 := SwE.row.stay HRS.out hBW.size (S' := fun k => k < B ∨ k = B + 1) (fun k hk hlt => ⟨.inl (by have := HBS.out; omega), hBW.block k hlt⟩)
  have hq2 := putSwapsF_any (fun k => k < B ∨ k = B + 1) B (B + 1) _ b cb s v1 hP2 hr2 hcl (.inr rfl) HM2.out h6 (by have := HL1.out; rw [List.nil_append]; omega)
  rw [← HN2.out] at hq2
  clear hq hP2 hK2 hr2 hsW
  go_wp2_with fail
  refine hq2.mono ?_
  rintro e v2 ⟨rfl, hP3, hK3⟩
  replace hcl := (hK3.cell (p := ⟨B + 1, 0, none⟩) (.inr rfl)).trans hcl
  replace hBW := hBW.trans (hK3.below (fun k hk => .inl (by have := HBS.out; omega)))
  have hall := all_any B _ _ v2 hP3 (by
    show (frE22 l s).length ≤ _
    have h1 := HL1.out
    have h2 := HL2.out
    rw [frE22, List.length_append]
    omega)
  have ea : allB ⟨frE22 l s, [], false⟩ = frE22 l s := by simp [allB]
  have eb : allE ⟨frE22 l s, [], false⟩ = 0 := rfl
  rw [ea, eb] at hall
  have hbz := hBW.size
  clear hq2 hP3 hK3 ea eb
  go_wp2_with fail
  refine hall.mono ?_
  rintro e u9 ⟨a9, c9, rfl, hr9, hb9⟩
  replace hBW := hBW.trans (hb9.mono hbz)
  have HR9 : Hid (Rw 5 w.heap.size u9 a9 c9 (frE22 l s)) := hr9.mono hbz
  clear hall hr9 hb9 hcl
  go_wp2
  go_ret2
  exact ⟨a9, c9, by rw [HN.out.1, HN.out.2]; rfl, by rw [HN.out.2]; exact HR9.out, hBW⟩

end Go.Proofs.Ytaejlopkdkaphaa
