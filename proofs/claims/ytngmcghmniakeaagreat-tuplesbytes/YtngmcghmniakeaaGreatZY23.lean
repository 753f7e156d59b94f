/-
  Packed lists: changes and point numbers, their bytes, what bytes are read as; there and back, cut, short (plain mathematics).
  Point numbers and changes, number by number (plain mathematics).
  Tuples: their bytes; what is written is read (plain mathematics).
  One cell of a block. Nothing here is a walk.
  foundryref11.points, changes, wide, sort: the walks.
  foundrylaw04.awake; OctetsReads: the walks.
  octets.Page: Later: the walk.
-/
import Derived.Test.YtngmcghmniakeaaGreatZY22
import Derived.Test.YtngmcghmniakeaaGreatZY14
import Derived.Test.YtngmcghmniakeaaGreatZY1
import Derived.Test.YtngmcghmniakeaaGreatZY6
import Derived.Test.YtngmcghmniakeaaGreatZY7
import Derived.Deep.CutRange
import Derived.Test.YtngmcghmniakeaaGreatZY11
import Derived.WalkSpells
set_option maxHeartbeats 2000000
set_option maxRecDepth 100000
set_option linter.unusedSimpArgs false
set_option linter.unusedVariables false
namespace Go.Proofs.YtngmcghmniakeaaGreat
theorem V8_be1 {z : Int} (h1 : 0 ≤ z) (h2 : z ≤ 255) : ((V8 (be1 z) : Nat) : Int) = z := by
 simp only [be1, V8, List.foldl_cons, List.foldl_nil]
 omega
theorem V8_be2i {z : Int} (h1 : 0 ≤ z) (h2 : z ≤ 65535) : ((V8 (be2 z) : Nat) : Int) = z := by
 simp only [be2, V8, List.foldl_cons, List.foldl_nil]
 omega
def sx8 (v : Nat) : Int := if 128 ≤ v then (v : Int) - 256 else v
theorem sx_be1 {z : Int} (h1 : -128 ≤ z) (h2 : z ≤ 127) : sx8 (V8 (be1 z)) = z := by
 simp only [be1, V8, List.foldl_cons, List.foldl_nil]
 unfold sx8
 split <;> omega
def kdC (n : Int) : Nat := if n = 0 then 2 else if n < -128 ∨ 127 < n then 1 else 0
def enC (kd : Nat) (n : Int) : List Nat := if kd = 0 then be1 n else if kd = 1 then be2 n else []
def PC : Pk := ⟨kdC, 64, enC⟩
def szC (kd : Nat) : Nat := if kd = 0 then 1 else if kd = 1 then 2 else 0
def vlC (b : List Nat) (kd p : Nat) : Int := if kd = 0 then sx8 (nmV b (p : Int) 1) else if kd = 1 then sx16 (nmV b (p : Int) 2) else 0
def RC : Rp := ⟨64, 192, szC, vlC⟩
def DC (x : Int) : Prop := -32768 ≤ x ∧ x ≤ 32767
theorem kdC_cases (x : Int) : (x = 0 ∧ kdC x = 2) ∨ (x ≠ 0 ∧ (x < -128 ∨ 127 < x) ∧ kdC x = 1) ∨ (x ≠ 0 ∧ (-128 ≤ x ∧ x ≤ 127) ∧ kdC x = 0) := by
 unfold kdC
 by_cases h0 : x = 0
 · exact .inl ⟨h0, if_pos h0⟩
 · by_cases h1 : x < -128 ∨ 127 < x
   · exact .inr (.inl ⟨h0, h1, by rw [if_neg h0, if_pos h1]⟩)
   · exact .inr (.inr ⟨h0, by omega, by rw [if_neg h0, if_neg h1]⟩)
theorem fitC : Fit PC RC DC where
 hM := by decide
 eM := rfl
 top := fun x _ => by
  have : kdC x ≤ 2 := by rcases kdC_cases x with h | h | h <;> omega
  show 64 * kdC x + 64 ≤ 192 ∧ 64 * kdC x + 64 ≤ 256
  omega
 sz := fun x _ => by
  show (enC (kdC x) x).length = szC (kdC x)
  rcases kdC_cases x with h | h | h
  · rw [h.2]; rfl
  · rw [h.2.2]; rfl
  · rw [h.2.2]; rfl
 vl := fun b A Z x hx hb => by
  change b = A ++ (enC (kdC x) x ++ Z) at hb
  show vlC b (kdC x) A.length = x
  rcases kdC_cases x with h | h | h
  · rw [h.2, h.1]; rfl
  · rw [h.2.2] at hb ⊢
    have := nmV_at (q := A.length) (n := 2) (X := be2 x) hb rfl rfl
    show sx16 (nmV b (A.length : Int) 2) = x
    rw [this]
    exact sx_be2 hx.1 hx.2
  · rw [h.2.2] at hb ⊢
    have := nmV_at (q := A.length) (n := 1) (X := be1 x) hb rfl rfl
    show sx8 (nmV b (A.length : Int) 1) = x
    rw [this]
    exact sx_be1 h.2.1.1 h.2.1.2
 by' := fun x _ => by
  show Byt (enC (kdC x) x)
  rcases kdC_cases x with h | h | h
  · rw [h.2]; exact Byt.nil
  · rw [h.2.2]; exact byt_be2 _
  · rw [h.2.2]; exact byt_be1 _
def chB (l : List Int) : Bool := l.all (fun z => decide (-32768 ≤ z ∧ z ≤ 32767)) && decide (l.length ≤ 2000)
theorem chB_iff {l : List Int} : chB l = true ↔ (∀ z ∈ l, DC z) ∧ l.length ≤ 2000 := by
 unfold chB DC
 simp only [Bool.and_eq_true, List.all_eq_true, decide_eq_true_iff]
def pcB (l : List Int) : List Nat := if chB l then pk PC l else []
def pcE (l : List Int) : Int := if chB l then 0 else 1
def rcO (b : List Nat) (n : Int) : Option (List Int × Nat) := if 0 ≤ n ∧ n ≤ 2000 then rdF RC b n.toNat 0 n.toNat else none
def rcL (b : List Nat) (n : Int) : List Int := match rcO b n with | some p => p.1 | none => []
def rcN (b : List Nat) (n : Int) : Int := match rcO b n with | some p => (p.2 : Int) | none => 0
def rcE (b : List Nat) (n : Int) : Int := match rcO b n with | some _ => 0 | none => if 0 ≤ n ∧ n ≤ 2000 then 2 else 4
theorem pc_short {l : List Int} (h : chB l = true) : (pcB l).length ≤ 3 * l.length := by
 rw [pcB, if_pos h]
 exact pk_short fitC (m := 3) (fun x _ => by show szC (kdC x) + 1 ≤ 3; unfold szC; split <;> (try split) <;> omega) _ l rfl (chB_iff.1 h).1
def kdP (n : Int) : Nat := if 255 < n then 1 else 0
def enP (kd : Nat) (n : Int) : List Nat := if kd = 0 then be1 n else be2 n
def PP : Pk := ⟨kdP, 128, enP⟩
def szP (kd : Nat) : Nat := if kd = 0 then 1 else 2
def vlP (b : List Nat) (kd p : Nat) : Int := if kd = 0 then ((nmV b (p : Int) 1 : Nat) : Int) else ((nmV b (p : Int) 2 : Nat) : Int)
def RPt : Rp := ⟨128, 256, szP, vlP⟩
def DP (x : Int) : Prop := 0 ≤ x ∧ x ≤ 65535
theorem kdP_cases (x : Int) : (255 < x ∧ kdP x = 1) ∨ (x ≤ 255 ∧ kdP x = 0) := by
 unfold kdP
 by_cases h : 255 < x
 · exact .inl ⟨h, if_pos h⟩
 · exact .inr ⟨by omega, if_neg h⟩
theorem fitP : Fit PP RPt DP where
 hM := by decide
 eM := rfl
 top := fun x _ => by
  have : kdP x ≤ 1 := by rcases kdP_cases x with h | h <;> omega
  show 128 * kdP x + 128 ≤ 256 ∧ 128 * kdP x + 128 ≤ 256
  omega
 sz := fun x _ => by
  show (enP (kdP x) x).length = szP (kdP x)
  rcases kdP_cases x with h | h <;> rw [h.2] <;> rfl
 vl := fun b A Z x hx hb => by
  change b = A ++ (enP (kdP x) x ++ Z) at hb
  show vlP b (kdP x) A.length = x
  rcases kdP_cases x with h | h
  · rw [h.2] at hb ⊢
    have := nmV_at (q := A.length) (n := 2) (X := be2 x) hb rfl rfl
    show ((nmV b (A.length : Int) 2 : Nat) : Int) = x
    rw [this]
    exact V8_be2i hx.1 hx.2
  · rw [h.2] at hb ⊢
    have := nmV_at (q := A.length) (n := 1) (X := be1 x) hb rfl rfl
    show ((nmV b (A.length : Int) 1 : Nat) : Int) = x
    rw [this]
    exact V8_be1 hx.1 h.1
 by' := fun x _ => by
  show Byt (enP (kdP x) x)
  rcases kdP_cases x with h | h <;> rw [h.2]
  · exact byt_be2 _
  · exact byt_be1 _
def stps (a : Int) : List Int → List Int
 | [] => []
 | x :: t => (x - a) :: stps x t
def sums (a : Int) : List Int → List Int
 | [] => []
 | d :: t => (a + d) :: sums (a + d) t
theorem stps_len (a : Int) (l : List Int) : (stps a l).length = l.length := by
 induction l generalizing a with
 | nil => rfl
 | cons x t ih => rw [stps, List.length_cons, ih, List.length_cons]
theorem sums_len (a : Int) (l : List Int) : (sums a l).length = l.length := by
 induction l generalizing a with
 | nil => rfl
 | cons x t ih => rw [sums, List.length_cons, ih, List.length_cons]
def lastS (a : Int) : List Int → Int
 | [] => a
 | d :: t => lastS (a + d) t
theorem sums_append (a : Int) (d e : List Int) : sums a (d ++ e) = sums a d ++ sums (lastS a d) e := by
 induction d generalizing a with
 | nil => rfl
 | cons x t ih => rw [List.cons_append, sums, sums, ih, List.cons_append]; rfl
theorem lastS_append (a : Int) (d e : List Int) : lastS a (d ++ e) = lastS (lastS a d) e := by
 induction d generalizing a with
 | nil => rfl
 | cons x t ih => rw [List.cons_append, lastS, lastS, ih]
def ptF (a : Int) : List Int → Bool
 | [] => true
 | x :: t => decide (a < x ∧ x ≤ 65535) && ptF x t
def ptB (l : List Int) : Bool := ptF (-1) l && decide (l.length ≤ 2000)
theorem ptF_steps : ∀ (l : List Int) (a : Int), -1 ≤ a → ptF a l = true → ∀ z ∈ stps (max a 0) l, DP z := by
 intro l
 induction l with
 | nil => intro a _ _ z hz; cases hz
 | cons x t ih =>
  intro a ha h z hz
  rw [ptF, Bool.and_eq_true, decide_eq_true_iff] at h; rw [stps] at hz
  rcases List.mem_cons.1 hz with hz | hz
  · rw [hz]
    unfold DP
    omega
  · have := ih x (by omega) h.2 z
    rw [show max x 0 = x by omega] at this
    exact this hz
theorem ptB_steps {l : List Int} (h : ptB l = true) : (∀ z ∈ stps 0 l, DP z) ∧ l.length ≤ 2000 := by
 unfold ptB at h
 rw [Bool.and_eq_true, decide_eq_true_iff] at h
 have := ptF_steps l (-1) (by omega) h.1
 rw [show max (-1 : Int) 0 = 0 by omega] at this
 exact ⟨this, h.2⟩
def cnE (n : Nat) : List Nat := if n < 128 then [n] else [128 + n / 256, n % 256]
def ppB (l : List Int) : List Nat := if ptB l then cnE l.length ++ pk PP (stps 0 l) else []
def ppE (l : List Int) : Int := if ptB l then 0 else 1
def ptN (b : List Nat) : Nat := if 128 ≤ nmV b 0 1 then (nmV b 0 1 - 128) * 256 + nmV b 1 1 else nmV b 0 1
def ptA (b : List Nat) : Nat := if 128 ≤ nmV b 0 1 then 2 else 1
def ptO (b : List Nat) : Bool := decide (ptA b ≤ b.length)
def rpO (b : List Nat) : Option (List Int × Nat) := if ptO b then (match rdF RPt b (ptN b) (ptA b) (ptN b) with | some p => if ptB (sums 0 p.1) then some (sums 0 p.1, p.2) else none | none => none) else none
def rpL (b : List Nat) : List Int := match rpO b with | some p => p.1 | none => []
def rpN (b : List Nat) : Int := match rpO b with | some p => (p.2 : Int) | none => 0
def rpE (b : List Nat) : Int := match rpO b with | some _ => 0 | none => 2
theorem ptF_iff : ∀ (l : List Int) (a : Int), ptF a l = true ↔ ∀ i, i < l.length → (if i = 0 then a else l.getD (i - 1) 0) < l.getD i 0 ∧ l.getD i 0 ≤ 65535 := by
 intro l
 induction l with
 | nil => intro a; exact ⟨fun _ i hi => by simp at hi, fun _ => rfl⟩
 | cons x t ih =>
  intro a
  rw [ptF, Bool.and_eq_true, decide_eq_true_iff, ih]
  constructor
  · rintro ⟨h1, h2⟩ i hi
    cases i with
    | zero => simpa using h1
    | succ i =>
     have := h2 i (by simpa using hi)
     cases i with
     | zero => simpa using this
     | succ i => simpa using this
  · intro h
    refine ⟨by simpa using h 0 (by simp), fun i hi => ?_⟩
    have := h (i + 1) (by simpa using hi)
    cases i with
    | zero => simpa using this
    | succ i => simpa using this
theorem ptB_yes {l : List Int} (h : ∀ i, i < l.length → 0 ≤ l.getD i 0 ∧ l.getD i 0 ≤ 65535 ∧ (0 < i → l.getD (i - 1) 0 < l.getD i 0)) : ptB l = decide (l.length ≤ 2000) := by
 unfold ptB
 rw [(ptF_iff l (-1)).2 (fun i hi => by
  obtain ⟨h1, h2, h3⟩ := h i hi
  split
  · omega
  · exact ⟨h3 (by omega), h2⟩), Bool.true_and]
theorem ptB_at {l : List Int} (h : ptB l = true) {i : Nat} (hi : i < l.length) : 0 ≤ l.getD i 0 ∧ l.getD i 0 ≤ 65535 ∧ (0 < i → l.getD (i - 1) 0 < l.getD i 0) := by
 unfold ptB at h
 rw [Bool.and_eq_true] at h
 have key := (ptF_iff l (-1)).1 h.1
 have hge : ∀ j, j < l.length → 0 ≤ l.getD j 0 := by
  intro j
  induction j with
  | zero => intro hj; have := key 0 hj; rw [if_pos rfl] at this; omega
  | succ j ih => intro hj; have := key (j + 1) hj; have h2 := ih (by omega); rw [if_neg (by omega)] at this; simp only [Nat.add_sub_cancel] at this; omega
 have := key i hi
 refine ⟨hge i hi, this.2, fun h0 => ?_⟩
 rw [if_neg (by omega)] at this
 exact this.1
theorem ptB_no {l : List Int} {i : Nat} (hi : i < l.length) (h : l.getD i 0 < 0 ∨ 65535 < l.getD i 0 ∨ (0 < i ∧ l.getD i 0 ≤ l.getD (i - 1) 0)) : ptB l = false := by
 rw [Bool.eq_false_iff]
 intro e
 obtain ⟨h1, h2, h3⟩ := ptB_at e hi
 rcases h with h | h | ⟨h, h4⟩
 · omega
 · omega
 · have := h3 h
   omega
theorem chB_no {l : List Int} {i : Nat} (hi : i < l.length) (h : l.getD i 0 < -32768 ∨ 32767 < l.getD i 0) : chB l = false := by
 rw [Bool.eq_false_iff]
 intro e
 have := (chB_iff.1 e).1 (l.getD i 0) (by rw [List.getD_eq_getElem?_getD, List.getElem?_eq_getElem hi]; exact List.getElem_mem hi)
 unfold DC at this
 omega
theorem chB_yes {l : List Int} (h : ∀ i, i < l.length → -32768 ≤ l.getD i 0 ∧ l.getD i 0 ≤ 32767) : chB l = decide (l.length ≤ 2000) := by
 unfold chB
 have : l.all (fun z => decide (-32768 ≤ z ∧ z ≤ 32767)) = true := by
  rw [List.all_eq_true]
  intro z hz
  obtain ⟨i, hi, e⟩ := List.getElem_of_mem hz
  have := h i hi
  rw [List.getD_eq_getElem?_getD, List.getElem?_eq_getElem hi] at this
  rw [← e]
  exact decide_eq_true this
 rw [this, Bool.true_and]
def stpK (l : List Int) (k : Nat) : List Int := (List.range k).map (fun i => if i = 0 then l.getD 0 0 else l.getD i 0 - l.getD (i - 1) 0)
theorem stpK_len (l : List Int) (k : Nat) : (stpK l k).length = k := by simp [stpK]
theorem stpK_succ (l : List Int) (k : Nat) : stpK l (k + 1) = stpK l k ++ [if k = 0 then l.getD 0 0 else l.getD k 0 - l.getD (k - 1) 0] := by simp [stpK, List.range_succ]
theorem stps_get : ∀ (l : List Int) (a : Int) (i : Nat), i < l.length → (stps a l).getD i 0 = if i = 0 then l.getD 0 0 - a else l.getD i 0 - l.getD (i - 1) 0 := by
 intro l
 induction l with
 | nil => intro a i hi; simp at hi
 | cons x t ih =>
  intro a i hi
  cases i with
  | zero => rfl
  | succ i =>
   rw [stps, List.getD_cons_succ, ih x i (by simpa using hi)]
   cases i with
   | zero => simp
   | succ i => simp
theorem stpK_eq (l : List Int) : stpK l l.length = stps 0 l := by
 apply List.ext_getElem
 · rw [stpK_len, stps_len]
 · intro i h1 h2
   rw [stps_len] at h2
   have h := stps_get l 0 i h2
   rw [List.getD_eq_getElem?_getD, List.getElem?_eq_getElem (by rw [stps_len]; exact h2)] at h
   simp only [Option.getD_some] at h
   rw [h]
   simp only [stpK, List.getElem_map, List.getElem_range]
   split <;> simp
def tuE (t : Tu) : List Nat := tesE t.rg ++ (ppB t.pts ++ (pcB t.dx ++ pcB t.dy))
def tusE : List Tu → List Nat
 | [] => []
 | t :: l => tuE t ++ tusE l
theorem tusE_append (l m : List Tu) : tusE (l ++ m) = tusE l ++ tusE m := by
 induction l with
 | nil => rfl
 | cons t l ih => rw [List.cons_append, tusE, tusE, ih, List.append_assoc]
theorem tusE_one (t : Tu) : tusE [t] = tuE t := by rw [tusE, tusE, List.append_nil]
def tuBt (l : List Tu) : List Nat := be2 ((l.length : Nat) : Int) ++ tusE l
def wrTE (o : Ol) (l : List Tu) (ax : Int) : Int := if foT o l ax then 0 else 1
def wrTB (o : Ol) (l : List Tu) (ax : Int) : List Nat := if foT o l ax then tuBt l else []
theorem ris_ptB {pts : List Int} {n : Nat} (h : risB pts n = true) (hn : n ≤ 2000) : ptB pts = true := by
 have hl := rise_le h
 rw [ptB_yes (fun i hi => ?_), decide_eq_true_iff]
 · omega
 · have h1 := risP_nonneg i (fun j hj => risB_iff.1 h j (by omega))
   refine ⟨h1.1, by omega, fun h0 => ?_⟩
   have h2 := risB_iff.1 h i hi
   unfold risP lastI at h2
   rw [if_neg (by omega)] at h2
   exact h2.1
theorem tu_pts {t : Tu} {n : Nat} {ax : Int} (h : tuB t n ax = true) (hn : n ≤ 2000) : ptB t.pts = true ∧ t.pts.length ≤ n ∧ t.al = decide (t.pts.length = 0) := by
 obtain ⟨_, h2, _⟩ := tuB_iff.1 h
 cases ha : t.al with
 | true =>
  obtain ⟨k1, _⟩ := (nmB_all ha).1 h2
  rw [k1]
  exact ⟨rfl, Nat.zero_le _, rfl⟩
 | false =>
  obtain ⟨k0, k1, _⟩ := (nmB_some ha).1 h2
  exact ⟨ris_ptB k1 hn, rise_le k1, (decide_eq_false (by omega)).symm⟩
theorem fd_chB {l : List Int} (h : l.all fdB = true) (hl : l.length ≤ 2000) : chB l = true := chB_iff.2 ⟨fun z hz => fdB_iff.1 (List.all_eq_true.1 h z hz), hl⟩
def cnN (cnt : Nat) (ps : List Int) : Nat := if ps.length = 0 then cnt else ps.length
theorem tu_chs {t : Tu} {n : Nat} {ax : Int} (h : tuB t n ax = true) (hn : n ≤ 2000) : chB t.dx = true ∧ chB t.dy = true ∧ t.dx.length = cnN n t.pts ∧ t.dy.length = cnN n t.pts ∧ t.dx.length ≤ n ∧ t.dy.length ≤ n := by
 obtain ⟨_, h2, h3, h4⟩ := tuB_iff.1 h
 have hc : t.dx.length = cnN n t.pts ∧ t.dy.length = cnN n t.pts ∧ cnN n t.pts ≤ n := by
  cases ha : t.al with
  | true =>
   obtain ⟨k1, k2, k3⟩ := (nmB_all ha).1 h2
   unfold cnN
   rw [k1]
   exact ⟨by rw [k2]; rfl, by rw [k3]; rfl, Nat.le_refl _⟩
  | false =>
   obtain ⟨k0, k1, k2, k3⟩ := (nmB_some ha).1 h2
   have := rise_le k1
   unfold cnN
   rw [if_neg (by omega)]
   exact ⟨k2, k3, this⟩
 obtain ⟨c1, c2, c3⟩ := hc
 exact ⟨fd_chB h3 (by omega), fd_chB h4 (by omega), c1, c2, by omega, by omega⟩
theorem pp_short' {l : List Int} (h : ptB l = true) : (ppB l).length ≤ 3 * l.length + 2 := by
 obtain ⟨h1, h2⟩ := ptB_steps h
 have := pk_short fitP (m := 3) (fun x _ => by show szP (kdP x) + 1 ≤ 3; unfold szP; split <;> omega) _ (stps 0 l) rfl h1
 have h3 : (cnE l.length).length ≤ 2 := by unfold cnE; split <;> simp
 rw [stps_len] at this; rw [ppB, if_pos h, List.length_append]
 omega
theorem rg_len {l : List Te} {ax : Int} (h : rgB l ax = true) : (l.length : Int) = ax ∧ l.all tfB = true := by
 unfold rgB at h
 rw [Bool.and_eq_true, decide_eq_true_iff] at h
 exact ⟨h.2, h.1⟩
theorem tuE_le {t : Tu} {n : Nat} {ax : Int} (h : tuB t n ax = true) (hn : n ≤ 86) (hax : ax ≤ 4) : (tuE t).length ≤ 800 := by
 obtain ⟨p1, p2, _⟩ := tu_pts h (by omega)
 obtain ⟨c1, c2, _, _, c3, c4⟩ := tu_chs h (by omega)
 have h1 := (rg_len (tuB_iff.1 h).1).1
 have h2 := pp_short' p1
 have h3 := pc_short c1
 have h4 := pc_short c2
 unfold tuE
 rw [List.length_append, List.length_append, List.length_append, tesE_len]
 omega
theorem tusE_le {o : Ol} {ax : Int} (ho : foB o = true) (hax : ax ≤ 4) : ∀ {l : List Tu}, (∀ t ∈ l, tuB t (cntO o) ax = true) → (tusE l).length ≤ 800 * l.length := by
 intro l
 induction l with
 | nil => intro _; exact Nat.zero_le _
 | cons t l ih =>
  intro h
  have h1 := ih (fun x hx => h x (by simp [hx]))
  have h2 := tuE_le (h t (by simp)) (cnt_le ho) hax
  rw [tusE, List.length_append, List.length_cons]
  omega
theorem tuBt_le {o : Ol} {l : List Tu} {ax : Int} (h : foT o l ax = true) : (tuBt l).length ≤ 33000 := by
 obtain ⟨h1, h2, h3, h4⟩ := foT_iff.1 h
 have := tusE_le h1 h2.2 (l := l) (fun t ht => by
  obtain ⟨k, hk, e⟩ := List.getElem_of_mem ht
  have := h4 k hk
  rw [List.getD_eq_getElem?_getD, List.getElem?_eq_getElem hk, Option.getD_some, e] at this
  exact this)
 unfold tuBt
 rw [List.length_append]
 have : (be2 ((l.length : Nat) : Int)).length = 2 := rfl
 omega
def rdTu (b : List Nat) (ax cnt p : Nat) : Option (Tu × Nat) :=
 if p + 6 * ax ≤ b.length then
  (rpO (b.drop (p + 6 * ax))).bind fun r =>
   (rcO (b.drop (p + 6 * ax + r.2)) (cnN cnt r.1 : Int)).bind fun x =>
    (rcO (b.drop (p + 6 * ax + r.2 + x.2)) (cnN cnt r.1 : Int)).bind fun y =>
     some (⟨tesAt b p ax, decide (r.1.length = 0), r.1, x.1, y.1⟩, p + 6 * ax + r.2 + x.2 + y.2)
 else none
def rdK (b : List Nat) (ax cnt : Nat) : Nat → Option (List Tu × Nat)
 | 0 => some ([], 2)
 | k + 1 => (rdK b ax cnt k).bind fun r => (rdTu b ax cnt r.2).bind fun t => some (r.1 ++ [t.1], t.2)
theorem rdK_none {b : List Nat} {ax cnt k : Nat} (h : rdK b ax cnt k = none) : ∀ m, k ≤ m → rdK b ax cnt m = none := by
 intro m
 induction m with
 | zero => intro hm; rw [show k = 0 by omega] at h; exact h
 | succ m ih =>
  intro hm
  by_cases e : k = m + 1
  · rw [← e]; exact h
  · rw [rdK, ih (by omega)]; rfl
theorem rdK_len {b : List Nat} {ax cnt : Nat} : ∀ {k : Nat} {l : List Tu} {p : Nat}, rdK b ax cnt k = some (l, p) → l.length = k := by
 intro k
 induction k with
 | zero => intro l p h; rw [rdK] at h; injection h with h; injection h with h1 h2; rw [← h1]; rfl
 | succ k ih =>
  intro l p h
  rw [rdK] at h
  cases hr : rdK b ax cnt k with
  | none => rw [hr] at h; cases h
  | some r =>
   rw [hr] at h
   cases ht : rdTu b ax cnt r.2 with
   | none => rw [Option.bind_some, ht] at h; cases h
   | some t =>
    rw [Option.bind_some, ht, Option.bind_some] at h; injection h with h; injection h with h1 h2
    rw [← h1, List.length_append, ih (l := r.1) (p := r.2) (by rw [hr])]
    rfl
def rdTOk (b : List Nat) (o : Ol) (ax : Int) : Bool := foT o [] ax && (decide (nmV b 0 2 ≤ 40) && (match rdK b ax.toNat (cntO o) (nmV b 0 2) with | some r => foT o r.1 ax && decide (tuBt r.1 = b) | none => false))
def rdTL (b : List Nat) (o : Ol) (ax : Int) : List Tu := if rdTOk b o ax = true then (match rdK b ax.toNat (cntO o) (nmV b 0 2) with | some r => r.1 | none => []) else []
def rdTE (b : List Nat) (o : Ol) (ax : Int) : Int := if rdTOk b o ax = true then 0 else 2
theorem rdT_no {b : List Nat} {o : Ol} {ax : Int} (h : rdTOk b o ax = false) : rdTL b o ax = [] ∧ rdTE b o ax = 2 := by
 unfold rdTL rdTE
 rw [h]
 exact ⟨rfl, rfl⟩
theorem rdT_bad1 {b : List Nat} {o : Ol} {ax : Int} (h : foT o [] ax = false) : rdTOk b o ax = false := by unfold rdTOk; rw [h]; rfl
theorem rdT_bad2 {b : List Nat} {o : Ol} {ax : Int} (h : ¬ nmV b 0 2 ≤ 40) : rdTOk b o ax = false := by unfold rdTOk; rw [decide_eq_false h]; simp
theorem rdT_bad3 {b : List Nat} {o : Ol} {ax : Int} {k : Nat} (h : rdK b ax.toNat (cntO o) k = none) (hk : k ≤ nmV b 0 2) : rdTOk b o ax = false := by unfold rdTOk; rw [rdK_none h _ hk]; simp
theorem rdT_bad4 {b : List Nat} {o : Ol} {ax : Int} {l : List Tu} {p : Nat} (h : rdK b ax.toNat (cntO o) (nmV b 0 2) = some (l, p)) (hn : foT o l ax = false ∨ tuBt l ≠ b) : rdTOk b o ax = false := by
 unfold rdTOk
 rw [h]
 rcases hn with hn | hn
 · simp [hn]
 · simp [decide_eq_false hn]
theorem foT_nil {o : Ol} {l : List Tu} {ax : Int} (h : foT o l ax = true) : foT o [] ax = true := by
 obtain ⟨h1, h2, h3, h4⟩ := foT_iff.1 h
 exact foT_iff.2 ⟨h1, h2, by simp, fun k hk => by simp at hk⟩
theorem rdT_good {b : List Nat} {o : Ol} {ax : Int} {l : List Tu} {p : Nat} (h : rdK b ax.toNat (cntO o) (nmV b 0 2) = some (l, p)) (hf : foT o l ax = true) (hb : tuBt l = b) : rdTL b o ax = l ∧ rdTE b o ax = 0 := by
 have hl := rdK_len h
 have h3 := (foT_iff.1 hf).2.2.1
 have hk : rdTOk b o ax = true := by
  unfold rdTOk
  rw [foT_nil hf, decide_eq_true (by omega), h]
  simp [hf, hb]
 unfold rdTL rdTE
 rw [if_pos hk, if_pos hk, h]
 exact ⟨rfl, rfl⟩
theorem nmV_tus {l : List Tu} (h : l.length ≤ 40) : nmV (tuBt l) 0 2 = l.length := by
 have := nmV_at (b := tuBt l) (A := []) (X := be2 ((l.length : Nat) : Int)) (Z := tusE l) (q := 0) (n := 2) rfl rfl rfl
 rw [show ((0 : Nat) : Int) = 0 from rfl] at this
 rw [this]
 have := V8_be2i (z := ((l.length : Nat) : Int)) (by omega) (by omega)
 omega
theorem rdT_of {b : List Nat} {o : Ol} {ax : Int} (h : rdTOk b o ax = true) : foT o (rdTL b o ax) ax = true ∧ tuBt (rdTL b o ax) = b := by
 unfold rdTL
 rw [if_pos h]
 unfold rdTOk at h
 rw [Bool.and_eq_true, Bool.and_eq_true] at h
 cases hr : rdK b ax.toNat (cntO o) (nmV b 0 2) with
 | none => rw [hr] at h; cases h.2.2
 | some r =>
  rw [hr] at h
  have h5 := h.2.2
  simp only [Bool.and_eq_true, decide_eq_true_iff] at h5
  exact h5
open Go.RowKit
def Cl (w : World) (g o : Nat) (v : Value) : Prop := g < w.heap.size ∧ w.cell? ⟨g, o, none⟩ = some v
theorem Cl.below {w w' : World} {g o : Nat} {v : Value} (h : Cl w g o v) (hb : Below w.heap.size w w') : Cl w' g o v := ⟨Nat.lt_of_lt_of_le h.1 hb.size, (hb.cell (p := ⟨g, o, none⟩) h.1).trans h.2⟩
open Go.Maps
theorem swide_any (z : Int) (w : World) : Calls Tryz.prog 98 #[.int .i64 z] w fun e w' => e = .returned (.int .i64 ((kdP z : Nat) : Int)) ∧ w = w' := by
 rcases kdP_cases z with ⟨h1, h2⟩ | ⟨h1, h2⟩
 · have HE : Hid (((kdP z : Nat) : Int) = 1) := by show _ = _; rw [h2]; rfl
   clear h2
   go_enter Tryz.func98, Tryz.ntmps98
   go_wp2
   go_ret
   exact ⟨by rw [HE.out]; rfl, rfl⟩
 · have HE : Hid (((kdP z : Nat) : Int) = 0) := by show _ = _; rw [h2]; rfl
   have g1 : ¬ 255 < z := by omega
   clear h2
   go_enter Tryz.func98, Tryz.ntmps98
   go_wp2
   go_ret
   exact ⟨by rw [HE.out]; rfl, rfl⟩
theorem ssort_any (z : Int) (w : World) : Calls Tryz.prog 100 #[.int .i64 z] w fun e w' => e = .returned (.int .i64 ((kdC z : Nat) : Int)) ∧ w = w' := by
 rcases kdC_cases z with ⟨h1, h2⟩ | ⟨h0, h1, h2⟩ | ⟨h0, h1, h2⟩
 · have HE : Hid (((kdC z : Nat) : Int) = 2) := by show _ = _; rw [h2]; rfl
   have g1 : (z == 0) = true := by simp [h1]
   clear h2 h1
   go_enter Tryz.func100, Tryz.ntmps100
   go_wp2
   go_ret
   exact ⟨by rw [HE.out]; rfl, rfl⟩
 · have HE : Hid (((kdC z : Nat) : Int) = 1) := by show _ = _; rw [h2]; rfl
   have g1 : (z == 0) = false := by simp [h0]
   clear h2
   by_cases h3 : z < -128
   · have g2 : decide (z < -128) = true := decide_eq_true h3
     clear h0 h1
     go_enter Tryz.func100, Tryz.ntmps100
     go_wp2
     go_ret
     exact ⟨by rw [HE.out]; rfl, rfl⟩
   · have g2 : decide (z < -128) = false := decide_eq_false h3
     have g3 : decide (127 < z) = true := decide_eq_true (by omega)
     clear h0 h1
     go_enter Tryz.func100, Tryz.ntmps100
     go_wp2
     go_ret
     exact ⟨by rw [HE.out]; rfl, rfl⟩
 · have HE : Hid (((kdC z : Nat) : Int) = 0) := by show _ = _; rw [h2]; rfl
   have g1 : (z == 0) = false := by simp [h0]
   have g2 : decide (z < -128) = false := decide_eq_false (by omega)
   have g3 : decide (127 < z) = false := decide_eq_false (by omega)
   clear h0 h2
   go_enter Tryz.func100, Tryz.ntmps100
   go_wp2
   go_ret
   exact ⟨by rw [HE.out]; rfl, rfl⟩
theorem wrapi64' {z : Int} (h1 : -9223372036854775808 ≤ z) (h2 : z ≤ 9223372036854775807) : IntKind.i64.wrap z = z := by
 simp only [IntKind.wrap, IntKind.bits, IntKind.signed]
 simp
 omega
theorem spoints_any (a : Option Addr) (cap : Nat) (l : List Int) (w : World) (h : Ri w a cap l) :
    Calls Tryz.prog 97 #[.slice a l.length cap] w fun e w' => e = .returned (.bool (ptB l)) ∧ Below w.heap.size w w' := by
 have k2 := h.lenB
 have HH : Hid (Ri w a cap l) := h
 clear h
 go_enter Tryz.func97, Tryz.ntmps97
 go_wp2
 go_loopw [3] (fun i wr => ∃ k : Nat, k ≤ l.length ∧ i = .int .i64 k ∧ (∀ i, i < k → 0 ≤ l.getD i 0 ∧ l.getD i 0 ≤ 65535 ∧ (0 < i → l.getD (i - 1) 0 < l.getD i 0)) ∧ Below w.heap.size w wr) (fun i _ => l.length - (intOf i).toNat)
 case atStart => exact ⟨0, Nat.zero_le _, rfl, (fun j hj => by omega), Below.refl _ _⟩
 case round =>
  obtain ⟨k, hk, rfl, hok, hbW⟩ := hrel
  have HOK : Hid (∀ i, i < k → 0 ≤ l.getD i 0 ∧ l.getD i 0 ≤ 65535 ∧ (0 < i → l.getD (i - 1) 0 < l.getD i 0)) := hok
  clear hok
  by_cases hkn : k < l.length
  rotate_left
  · obtain rfl : k = l.length := by omega
    have HE : Hid (ptB l = decide ((l.length : Int) ≤ 2000)) := by show _ = _; rw [ptB_yes HOK.out]; exact decide_eq_decide.2 ⟨fun h => by omega, fun h => by omega⟩
    have g1 : ¬ (l.length : Int) < (l.length : Int) := by omega
    clear HOK; go_wp2
    go_ret
    exact ⟨rt_bool HE.out.symm, hbW⟩
  obtain ⟨b, off, ea, hb, d0⟩ := HH.out.at hbW k hkn
  have hzi := HH.out.i64 hkn
  have HNO : Hid ((l.getD k 0 < 0 ∨ 65535 < l.getD k 0 ∨ (0 < k ∧ l.getD k 0 ≤ l.getD (k - 1) 0)) → ptB l = false) := fun h => ptB_no hkn h
  have HY : Hid ((0 ≤ l.getD k 0 ∧ l.getD k 0 ≤ 65535 ∧ (0 < k → l.getD (k - 1) 0 < l.getD k 0)) → ∀ i, i < k + 1 → 0 ≤ l.getD i 0 ∧ l.getD i 0 ≤ 65535 ∧ (0 < i → l.getD (i - 1) 0 < l.getD i 0)) := fun h i hi => by
   rcases Nat.lt_or_ge i k with h1 | h1
   · exact HOK.out i h1
   · rw [show i = k by omega]; exact h
  have HP : Hid (0 < k → ∃ m, k = m + 1 ∧ Cl wr b (off + m) (.int .i64 (l.getD m 0))) := fun h0 => by
   obtain ⟨b', off', ea', _, d1⟩ := HH.out.at hbW (k - 1) (by omega)
   rw [ea] at ea'
   cases ea'
   exact ⟨k - 1, by omega, Nat.lt_of_lt_of_le hb hbW.size, d1⟩
  obtain ⟨x, hx⟩ : ∃ x, l.getD k 0 = x := ⟨_, rfl⟩
  rw [hx] at d0 HNO HY; subst ea
  have A0 : Cl wr b (off + k) (.int .i64 x) := ⟨Nat.lt_of_lt_of_le hb hbW.size, d0⟩
  clear d0 hx
  have q0 := A0.2
  have i1 : (0 : Int) ≤ (k : Int) := by omega
  have i2 : (k : Int) < (l.length : Int) := by omega
  by_cases h1 : x < 0
  · have g1 : decide (x < 0) = true := decide_eq_true h1
    have HE : Hid (ptB l = false) := HNO.out (.inl h1)
    clear h1 HOK HY HP
    go_upto_region 4 with fail
    refine wp_region_held_drew (S := (fun u => u.cell? ⟨b, off + k, none⟩ = some (.int .i64 x))) (by kernel_rfl) ?_ (fun hHeld => ?_)
    · (try dsimp only)
      go_keep
    have hdr : Below wr.heap.size wr wr.drew := Below.drew1
    generalize wr.drew = ud1 at hdr hHeld ⊢
    replace A0 := A0.below hdr
    replace hbW : Below w.heap.size w ud1 := hbW.trans (hdr.mono hbW.size)
    clear hdr; refine hT 0 hHeld ?_; refine hT 1 hHeld ?_; refine hT 2 hHeld ?_; refine hT 3 hHeld ?_; refine hT 4 hHeld ?_; refine hT 5 hHeld ?_; refine hN 6 hHeld ?_; refine hN 7 hHeld ?_; refine hN 8 hHeld ?_; refine hN 9 hHeld ?_; refine hN 10 hHeld ?_; refine hT 11 hHeld ?_; refine hT 12 hHeld ?_
    refine hN 13 hHeld ?_; refine hN 14 hHeld ?_; refine hN 15 hHeld ?_; refine hN 16 hHeld ?_; refine hN 17 hHeld ?_; refine hN 18 hHeld ?_; refine hN 19 hHeld ?_; refine hN 20 hHeld ?_; refine hN 21 hHeld ?_; refine hN 22 hHeld ?_; refine hN 23 hHeld ?_; refine hN 24 hHeld ?_; refine hN 25 hHeld ?_
    refine hN 26 hHeld ?_; refine hT 27 hHeld ?_
    refine wpAnyH_done (by kernel_rfl) ?_ _
    clear hHeld; go_wp2
    go_ret
    exact ⟨rt_bool HE.out.symm, hbW⟩
  have g1 : decide (x < 0) = false := decide_eq_false h1
  by_cases h2 : 65535 < x
  · have g2 : decide (65535 < x) = true := decide_eq_true h2
    have HE : Hid (ptB l = false) := HNO.out (.inr (.inl h2))
    clear h1 h2 HOK HY HP
    go_upto_region 4 with fail
    refine wp_region_held_drew (S := (fun u => u.cell? ⟨b, off + k, none⟩ = some (.int .i64 x))) (by kernel_rfl) ?_ (fun hHeld => ?_)
    · (try dsimp only)
      go_keep
    have hdr : Below wr.heap.size wr wr.drew := Below.drew1
    generalize wr.drew = ud2 at hdr hHeld ⊢
    replace A0 := A0.below hdr
    replace hbW : Below w.heap.size w ud2 := hbW.trans (hdr.mono hbW.size)
    clear hdr; refine hT 0 hHeld ?_; refine hT 1 hHeld ?_; refine hT 2 hHeld ?_; refine hT 3 hHeld ?_; refine hT 4 hHeld ?_; refine hT 5 hHeld ?_; refine hT 6 hHeld ?_; refine hT 7 hHeld ?_; refine hT 8 hHeld ?_; refine hT 9 hHeld ?_; refine hT 10 hHeld ?_; refine hT 11 hHeld ?_; refine hT 12 hHeld ?_
    refine hN 13 hHeld ?_; refine hN 14 hHeld ?_; refine hN 15 hHeld ?_; refine hN 16 hHeld ?_; refine hN 17 hHeld ?_; refine hN 18 hHeld ?_; refine hN 19 hHeld ?_; refine hN 20 hHeld ?_; refine hN 21 hHeld ?_; refine hN 22 hHeld ?_; refine hN 23 hHeld ?_; refine hN 24 hHeld ?_; refine hN 25 hHeld ?_
    refine hN 26 hHeld ?_; refine hT 27 hHeld ?_
    refine wpAnyH_done (by kernel_rfl) ?_ _
    clear hHeld; go_wp2
    go_ret
    exact ⟨rt_bool HE.out.symm, hbW⟩
  have g2 : decide (65535 < x) = false := decide_eq_false h2
  by_cases h3 : k = 0
  · have g3 : decide (0 < k) = false := decide_eq_false (by omega)
    have HOK2 : Hid (_) := HY.out ⟨by omega, by omega, fun h => by omega⟩
    clear h1 h2 h3 HOK HNO HP
    go_upto_region 4 with fail
    refine wp_region_held_drew (S := (fun u => u.cell? ⟨b, off + k, none⟩ = some (.int .i64 x))) (by kernel_rfl) ?_ (fun hHeld => ?_)
    · (try dsimp only)
      go_keep
    have hdr : Below wr.heap.size wr wr.drew := Below.drew1
    generalize wr.drew = ud3 at hdr hHeld ⊢
    replace A0 := A0.below hdr
    replace hbW : Below w.heap.size w ud3 := hbW.trans (hdr.mono hbW.size)
    clear hdr; refine hT 0 hHeld ?_; refine hT 1 hHeld ?_; refine hT 2 hHeld ?_; refine hT 3 hHeld ?_; refine hT 4 hHeld ?_; refine hT 5 hHeld ?_; refine hT 6 hHeld ?_; refine hT 7 hHeld ?_; refine hT 8 hHeld ?_; refine hT 9 hHeld ?_; refine hT 10 hHeld ?_; refine hT 11 hHeld ?_; refine hT 12 hHeld ?_
    refine hT 13 hHeld ?_; refine hT 14 hHeld ?_; refine hT 15 hHeld ?_; refine hN 16 hHeld ?_; refine hN 17 hHeld ?_; refine hN 18 hHeld ?_; refine hN 19 hHeld ?_; refine hN 20 hHeld ?_; refine hN 21 hHeld ?_; refine hN 22 hHeld ?_; refine hN 23 hHeld ?_; refine hN 24 hHeld ?_; refine hN 25 hHeld ?_
    refine hT 26 hHeld ?_; refine hT 27 hHeld ?_
    refine wpAnyH_done (by kernel_rfl) ?_ _
    clear hHeld; go_wp2
    go_roundw
    case rel => exact ⟨k + 1, by omega, by go_num, HOK2.out, hbW⟩
    case measure => simp [intOf]; omega
  obtain ⟨m, hm, A1⟩ := HP.out (by omega)
  have hmk : (k : Int) - 1 = (m : Int) := by omega
  have hwm : IntKind.i64.wrap (m : Int) = (m : Int) := wrapi64' (by omega) (by omega)
  have i3 : (0 : Int) ≤ (m : Int) := by omega
  have i4 : (m : Int) < (l.length : Int) := by omega
  have g3 : decide (0 < k) = true := decide_eq_true (by omega)
  have hk1 : k - 1 = m := by omega
  rw [hk1] at HNO HY
  obtain ⟨y, hy⟩ : ∃ y, l.getD m 0 = y := ⟨_, rfl⟩
  rw [hy] at A1 HNO HY; clear hy hk1 HP
  have q1 := A1.2
  by_cases h4 : x ≤ y
  · have g4 : decide (x ≤ y) = true := decide_eq_true h4
    have HE : Hid (ptB l = false) := HNO.out (.inr (.inr ⟨by omega, h4⟩))
    clear h1 h2 h3 h4 HOK HY hm
    go_upto_region 4 with fail
    refine wp_region_held_drew (S := (fun u => u.cell? ⟨b, off + k, none⟩ = some (.int .i64 x) ∧ u.cell? ⟨b, off + m, none⟩ = some (.int .i64 y))) (by kernel_rfl) ?_ (fun hHeld => ?_)
    · (try dsimp only)
      go_keep
    have hdr : Below wr.heap.size wr wr.drew := Below.drew1
    generalize wr.drew = ud4 at hdr hHeld ⊢
    replace A0 := A0.below hdr; replace A1 := A1.below hdr
    replace hbW : Below w.heap.size w ud4 := hbW.trans (hdr.mono hbW.size)
    clear hdr; refine hT 0 hHeld ?_; refine hT 1 hHeld ?_; refine hT 2 hHeld ?_; refine hT 3 hHeld ?_; refine hT 4 hHeld ?_; refine hT 5 hHeld ?_; refine hT 6 hHeld ?_; refine hT 7 hHeld ?_; refine hT 8 hHeld ?_; refine hT 9 hHeld ?_; refine hT 10 hHeld ?_; refine hT 11 hHeld ?_; refine hT 12 hHeld ?_
    refine hT 13 hHeld ?_; refine hT 14 hHeld ?_; refine hT 15 hHeld ?_; refine hT 16 hHeld ?_; refine hT 17 hHeld ?_; refine hT 18 hHeld ?_; refine hT 19 hHeld ?_; refine hT 20 hHeld ?_; refine hT 21 hHeld ?_; refine hT 22 hHeld ?_; refine hT 23 hHeld ?_; refine hT 24 hHeld ?_; refine hT 25 hHeld ?_
    refine hT 26 hHeld ?_; refine hT 27 hHeld ?_
    refine wpAnyH_done (by kernel_rfl) ?_ _
    clear hHeld; go_wp2
    go_ret
    exact ⟨rt_bool HE.out.symm, hbW⟩
  · have g4 : decide (x ≤ y) = false := decide_eq_false h4
    have HOK2 : Hid (_) := HY.out ⟨by omega, by omega, fun _ => by omega⟩
    clear h1 h2 h3 h4 HOK HNO hm
    go_upto_region 4 with fail
    refine wp_region_held_drew (S := (fun u => u.cell? ⟨b, off + k, none⟩ = some (.int .i64 x) ∧ u.cell? ⟨b, off + m, none⟩ = some (.int .i64 y))) (by kernel_rfl) ?_ (fun hHeld => ?_)
    · (try dsimp only)
      go_keep
    have hdr : Below wr.heap.size wr wr.drew := Below.drew1
    generalize wr.drew = ud5 at hdr hHeld ⊢
    replace A0 := A0.below hdr; replace A1 := A1.below hdr
    replace hbW : Below w.heap.size w ud5 := hbW.trans (hdr.mono hbW.size)
    clear hdr; refine hT 0 hHeld ?_; refine hT 1 hHeld ?_; refine hT 2 hHeld ?_; refine hT 3 hHeld ?_; refine hT 4 hHeld ?_; refine hT 5 hHeld ?_; refine hT 6 hHeld ?_; refine hT 7 hHeld ?_; refine hT 8 hHeld ?_; refine hT 9 hHeld ?_; refine hT 10 hHeld ?_; refine hT 11 hHeld ?_; refine hT 12 hHeld ?_
    refine hT 13 hHeld ?_; refine hT 14 hHeld ?_; refine hT 15 hHeld ?_; refine hT 16 hHeld ?_; refine hT 17 hHeld ?_; refine hT 18 hHeld ?_; refine hT 19 hHeld ?_; refine hT 20 hHeld ?_; refine hT 21 hHeld ?_; refine hT 22 hHeld ?_; refine hT 23 hHeld ?_; refine hT 24 hHeld ?_; refine hT 25 hHeld ?_
    refine hT 26 hHeld ?_; refine hT 27 hHeld ?_
    refine wpAnyH_done (by kernel_rfl) ?_ _
    clear hHeld; go_wp2
    go_roundw
    case rel => exact ⟨k + 1, by omega, by go_num, HOK2.out, hbW⟩
    case measure => simp [intOf]; omega
theorem schanges_any (a : Option Addr) (cap : Nat) (l : List Int) (w : World) (h : Ri w a cap l) :
    Calls Tryz.prog 99 #[.slice a l.length cap] w fun e w' => e = .returned (.bool (chB l)) ∧ Below w.heap.size w w' := by
 have k2 := h.lenB
 have HH : Hid (Ri w a cap l) := h
 clear h
 go_enter Tryz.func99, Tryz.ntmps99
 go_wp2
 go_loopw [3] (fun i wr => ∃ k : Nat, k ≤ l.length ∧ i = .int .i64 k ∧ (∀ i, i < k → -32768 ≤ l.getD i 0 ∧ l.getD i 0 ≤ 32767) ∧ Below w.heap.size w wr) (fun i _ => l.length - (intOf i).toNat)
 case atStart => exact ⟨0, Nat.zero_le _, rfl, (fun j hj => by omega), Below.refl _ _⟩
 case round =>
  obtain ⟨k, hk, rfl, hok, hbW⟩ := hrel
  have HOK : Hid (∀ i, i < k → -32768 ≤ l.getD i 0 ∧ l.getD i 0 ≤ 32767) := hok
  clear hok
  by_cases hkn : k < l.length
  · obtain ⟨b, off, ea, hb, d0⟩ := HH.out.at hbW k hkn
    obtain ⟨x, hx⟩ : ∃ x, l.getD k 0 = x := ⟨_, rfl⟩
    have HX : Hid (l.getD k 0 = x) := hx
    rw [hx] at d0; subst ea; clear hx
    by_cases h1 : x < -32768
    · have g1 : decide (x < -32768) = true := decide_eq_true h1
      have HE : Hid (chB l = false) := chB_no hkn (by rw [HX.out]; exact .inl h1)
      clear h1 HOK HX; go_wp2
      go_ret
      exact ⟨rt_bool HE.out.symm, hbW⟩
    have g1 : decide (x < -32768) = false := decide_eq_false h1
    by_cases h2 : 32767 < x
    · have g2 : decide (32767 < x) = true := decide_eq_true h2
      have HE : Hid (chB l = false) := chB_no hkn (by rw [HX.out]; exact .inr h2)
      clear h1 h2 HOK HX; go_wp2
      go_ret
      exact ⟨rt_bool HE.out.symm, hbW⟩
    have g2 : decide (32767 < x) = false := decide_eq_false h2
    have HOK2 : Hid (∀ i, i < k + 1 → -32768 ≤ l.getD i 0 ∧ l.getD i 0 ≤ 32767) := fun i hi => by
     rcases Nat.lt_or_ge i k with h1 | h1
     · exact HOK.out i h1
     · rw [show i = k by omega, HX.out]; omega
    clear h1 h2 HOK HX; go_wp2
    go_roundw
    case rel => exact ⟨k + 1, by omega, by go_num, HOK2.out, hbW⟩
    case measure => simp [intOf]; omega
  · obtain rfl : k = l.length := by omega
    have HE : Hid (chB l = decide ((l.length : Int) ≤ 2000)) := by show _ = _; rw [chB_yes HOK.out]; exact decide_eq_decide.2 ⟨fun h => by omega, fun h => by omega⟩
    have g1 : ¬ (l.length : Int) < (l.length : Int) := by omega
    clear HOK; go_wp2
    go_ret
    exact ⟨rt_bool HE.out.symm, hbW⟩
end Go.Proofs.YtngmcghmniakeaaGreat
