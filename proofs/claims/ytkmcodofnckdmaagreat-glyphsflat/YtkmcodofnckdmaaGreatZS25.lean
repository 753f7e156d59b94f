/-
  Glyphs: their contours at coordinates (plain mathematics).
  Stores: their bytes; what is written is read (plain mathematics).
  Packed lists: what is packed is read (plain mathematics).
  Packed lists: changes and point numbers, their bytes, what bytes are read as; there and back, cut, short (plain mathematics).
-/
import Derived.Test.YtkmcodofnckdmaaGreatZS16
import Derived.Test.YtkmcodofnckdmaaGreatZS24
import Derived.Test.YtkmcodofnckdmaaGreatZS12
import Derived.Test.YtkmcodofnckdmaaGreatZS8
set_option linter.unusedSimpArgs false
set_option linter.unusedVariables false
namespace Go.Proofs.YtkmcodofnckdmaaGreat
def mvQ (dx dy : Int) (p : Pn) : Pn := ⟨p.x + dx, p.y + dy, p.on⟩
def mvC (dx dy : Int) (cs : List (List Pn)) : List (List Pn) := cs.map (fun c => c.map (mvQ dx dy))
theorem mvC_append (dx dy : Int) (a b : List (List Pn)) : mvC dx dy (a ++ b) = mvC dx dy a ++ mvC dx dy b := List.map_append
theorem mvC_len (dx dy : Int) (cs : List (List Pn)) : (mvC dx dy cs).length = cs.length := List.length_map ..
theorem mvC_flat (dx dy : Int) : ∀ cs : List (List Pn), (mvC dx dy cs).flatten.length = cs.flatten.length := by
 intro cs
 induction cs with
 | nil => rfl
 | cons c cs ih =>
  show ((c.map (mvQ dx dy)) ++ (mvC dx dy cs).flatten).length = (c ++ cs.flatten).length
  rw [List.length_append, List.length_append, List.length_map, ih]
abbrev Fl := List (List Pn) × Int
def flP (f : Int → Fl) : List Pa → Fl
 | [] => ([], 0)
 | p :: ps => if (f p.g).2 = 0 then (if (flP f ps).2 = 0 then (mvC p.dx p.dy (f p.g).1 ++ (flP f ps).1, 0) else ([], (flP f ps).2)) else ([], (f p.g).2)
theorem flP_bad {f : Int → Fl} : ∀ {ps : List Pa}, (flP f ps).2 ≠ 0 → flP f ps = ([], (flP f ps).2) := by
 intro ps
 cases ps with
 | nil => intro h; exact absurd rfl h
 | cons p ps =>
  intro h
  rw [flP] at h ⊢
  by_cases h1 : (f p.g).2 = 0
  · rw [if_pos h1] at h ⊢
    by_cases h2 : (flP f ps).2 = 0
    · rw [if_pos h2] at h; exact absurd rfl h
    · rw [if_neg h2]
  · rw [if_neg h1]
theorem flP_append (f : Int → Fl) : ∀ a b : List Pa, flP f (a ++ b) = if (flP f a).2 = 0 then (if (flP f b).2 = 0 then ((flP f a).1 ++ (flP f b).1, 0) else ([], (flP f b).2)) else ([], (flP f a).2) := by
 intro a b
 induction a with
 | nil =>
  rw [List.nil_append, flP, if_pos rfl, List.nil_append]
  by_cases h : (flP f b).2 = 0
  · rw [if_pos h]; exact Prod.ext rfl h
  · rw [if_neg h]; exact flP_bad h
 | cons p a ih =>
  rw [List.cons_append, flP, ih, flP]
  by_cases h1 : (f p.g).2 = 0
  · rw [if_pos h1, if_pos h1]
    by_cases h2 : (flP f a).2 = 0
    · rw [if_pos h2, if_pos h2]
      by_cases h3 : (flP f b).2 = 0
      · rw [if_pos h3, if_pos rfl, if_pos rfl, if_pos h3, List.append_assoc]
      · rw [if_neg h3, if_neg h3, if_pos rfl, if_neg h3]
    · rw [if_neg h2, if_neg h2, if_neg h2, if_neg h2]
  · rw [if_neg h1, if_neg h1, if_neg h1]
theorem flP_one (f : Int → Fl) (p : Pa) : flP f [p] = if (f p.g).2 = 0 then (mvC p.dx p.dy (f p.g).1, 0) else ([], (f p.g).2) := by
 rw [flP]
 by_cases h : (f p.g).2 = 0
 · rw [if_pos h, if_pos h, flP, if_pos rfl, List.append_nil]
 · rw [if_neg h, if_neg h]
theorem flP_congr {f f' : Int → Fl} : ∀ {ps : List Pa}, (∀ p ∈ ps, f p.g = f' p.g) → flP f ps = flP f' ps := by
 intro ps
 induction ps with
 | nil => intro _; rfl
 | cons p ps ih => intro h; rw [flP, flP, h p (by simp), ih (fun q hq => h q (by simp [hq]))]
def flX (f : Int → Fl) (x : Gl) (cs : List Int) : Fl :=
 if atE x.o x.ts cs = 0 then (if (flP f (atO x.o x.ts cs).ps).2 = 0 then ((atO x.o x.ts cs).cs ++ (flP f (atO x.o x.ts cs).ps).1, 0) else ([], (flP f (atO x.o x.ts cs).ps).2)) else ([], atE x.o x.ts cs)
def flG (l : List Gl) (cs : List Int) : Nat → Int → Fl
 | 0, g => match gAt l g with | none => ([], 5) | some x => flX (fun _ => ([], 6)) x cs
 | n + 1, g => match gAt l g with | none => ([], 5) | some x => flX (flG l cs n) x cs
def flf (l : List Gl) (cs : List Int) : Nat → Int → Fl
 | 0 => fun _ => ([], 6)
 | n + 1 => flG l cs n
theorem flG_at {l : List Gl} {cs : List Int} {n : Nat} {g : Int} {x : Gl} (h : gAt l g = some x) : flG l cs n g = flX (flf l cs n) x cs := by
 cases n with
 | zero => rw [flG, h]; rfl
 | succ n => rw [flG, h]; rfl
theorem flX_bad {f : Int → Fl} {x : Gl} {cs : List Int} (h : (flX f x cs).2 ≠ 0) : flX f x cs = ([], (flX f x cs).2) := by
 unfold flX at h ⊢
 by_cases h1 : atE x.o x.ts cs = 0
 · rw [if_pos h1] at h ⊢
   by_cases h2 : (flP f (atO x.o x.ts cs).ps).2 = 0
   · rw [if_pos h2] at h; exact absurd rfl h
   · rw [if_neg h2]
 · rw [if_neg h1]
theorem flG_bad {l : List Gl} {cs : List Int} {n : Nat} {g : Int} (h : (flG l cs n g).2 ≠ 0) : flG l cs n g = ([], (flG l cs n g).2) := by
 cases hx : gAt l g with
 | none =>
  have e : flG l cs n g = ([], 5) := by cases n <;> rw [flG, hx]
  rw [e]
 | some x =>
  rw [flG_at hx] at h ⊢
  exact flX_bad h
theorem at_ok {o : Ol} {l : List Tu} {cs : List Int} (h : atE o l cs = 0) : foT o l (cs.length : Int) = true ∧ atO o l cs = reO o ((exL Pn.x Pa.dx Tu.dx o l cs).map rnN) ((exL Pn.y Pa.dy Tu.dy o l cs).map rnN) := by
 unfold atE at h
 by_cases h1 : foT o l (cs.length : Int) = true
 · rw [if_pos h1] at h
   by_cases h2 : atOk o l cs = true
   · refine ⟨h1, ?_⟩
     unfold atO
     rw [if_pos h2]
   · rw [if_neg h2] at h; exact absurd h (by decide)
 · rw [if_neg h1] at h; exact absurd h (by decide)
theorem at_parts {o : Ol} {l : List Tu} {cs : List Int} (h : atE o l cs = 0) {p : Pa} (hp : p ∈ (atO o l cs).ps) : ∃ q ∈ o.ps, q.g = p.g := by
 rw [(at_ok h).2] at hp
 have hp' : p ∈ (List.range o.ps.length).map (reA o.cs.flatten.length o.ps ((exL Pn.x Pa.dx Tu.dx o l cs).map rnN) ((exL Pn.y Pa.dy Tu.dy o l cs).map rnN)) := hp
 obtain ⟨k, hk, e⟩ := List.mem_map.1 hp'
 have hk' : k < o.ps.length := List.mem_range.1 hk
 refine ⟨o.ps.getD k Pa.none, ?_, ?_⟩
 · rw [List.getD_eq_getElem?_getD, List.getElem?_eq_getElem hk', Option.getD_some]
   exact List.getElem_mem hk'
 · rw [← e]; rfl
theorem flat_lens {α β : Type} : ∀ {a : List (List α)} {b : List (List β)}, a.map List.length = b.map List.length → a.flatten.length = b.flatten.length := by
 intro a
 induction a with
 | nil =>
  intro b h
  cases b with
  | nil => rfl
  | cons x b => simp at h
 | cons x a ih =>
  intro b h
  cases b with
  | nil => simp at h
  | cons y b =>
   simp only [List.map_cons, List.cons.injEq] at h
   show (x ++ a.flatten).length = (y ++ b.flatten).length
   rw [List.length_append, List.length_append, h.1, ih h.2]
theorem re_flat (o : Ol) (nx ny : List Int) : (reO o nx ny).cs.flatten.length = o.cs.flatten.length := by
 refine flat_lens ?_
 show ((List.range o.cs.length).map (reC o.cs nx ny)).map List.length = o.cs.map List.length
 refine List.ext_getElem (by simp) (fun i h1 h2 => ?_)
 have hi : i < o.cs.length := by simpa using h2
 simp [reC, List.getD, hi]
theorem at_flat {o : Ol} {l : List Tu} {cs : List Int} (h : atE o l cs = 0) : (atO o l cs).cs.flatten.length = o.cs.flatten.length := by
 rw [(at_ok h).2]
 exact re_flat _ _ _
theorem flG_more {l : List Gl} {cs : List Int} : ∀ {d m : Nat} {g : Int}, dq l d g = some d → d ≤ m → flG l cs m g = flG l cs d g := by
 intro d
 induction d using Nat.strongRecOn with
 | ind d ih =>
  intro m g h hm
  obtain ⟨x, h1, h2⟩ := dq_some.1 h
  rw [flG_at h1, flG_at h1]
  unfold flX
  by_cases he : atE x.o x.ts cs = 0
  · rw [if_pos he, if_pos he]
    rw [flP_congr (f := flf l cs m) (f' := flf l cs d) (fun p hp => ?_)]
    obtain ⟨q, hq, e⟩ := at_parts he hp
    obtain ⟨k, h3, h4⟩ := dq_part h h1 q hq
    rw [e] at h3
    obtain ⟨d', rfl⟩ : ∃ k, d = k + 1 := ⟨d - 1, by omega⟩
    obtain ⟨m', rfl⟩ : ∃ k, m = k + 1 := ⟨m - 1, by omega⟩
    show flG l cs m' p.g = flG l cs d' p.g
    have k1 : flG l cs m' p.g = flG l cs k p.g := ih k h4 h3 (by omega)
    have k2 : flG l cs d' p.g = flG l cs k p.g := ih k h4 h3 (by omega)
    rw [k1, k2]
  · rw [if_neg he, if_neg he]
theorem flP_flat {f : Int → Fl} {s : Int → Nat} : ∀ {ps : List Pa}, (∀ p ∈ ps, (f p.g).2 = 0 → (f p.g).1.flatten.length = s p.g) → (flP f ps).2 = 0 → (flP f ps).1.flatten.length = sqs s ps := by
 intro ps
 induction ps with
 | nil => intro _ _; rfl
 | cons p ps ih =>
  intro hm h
  rw [flP] at h ⊢
  by_cases h1 : (f p.g).2 = 0
  · rw [if_pos h1] at h ⊢
    by_cases h2 : (flP f ps).2 = 0
    · rw [if_pos h2]
      show (mvC p.dx p.dy (f p.g).1 ++ (flP f ps).1).flatten.length = _
      rw [List.flatten_append, List.length_append, mvC_flat, hm p (by simp) h1, ih (fun q hq => hm q (by simp [hq])) h2, sqs]
    · rw [if_neg h2] at h; exact absurd h h2
  · rw [if_neg h1] at h; exact absurd h h1
theorem sqs_gs {f : Int → Nat} : ∀ {a b : List Pa}, a.map Pa.g = b.map Pa.g → sqs f a = sqs f b := by
 intro a
 induction a with
 | nil =>
  intro b h
  cases b with
  | nil => rfl
  | cons x b => simp at h
 | cons x a ih =>
  intro b h
  cases b with
  | nil => simp at h
  | cons y b =>
   simp only [List.map_cons, List.cons.injEq] at h
   rw [sqs, sqs, h.1, ih h.2]
theorem at_gs {o : Ol} {l : List Tu} {cs : List Int} (h : atE o l cs = 0) : (atO o l cs).ps.map Pa.g = o.ps.map Pa.g := by
 rw [(at_ok h).2]
 show ((List.range o.ps.length).map (reA _ o.ps _ _)).map Pa.g = _
 refine List.ext_getElem (by simp) (fun i h1 h2 => ?_)
 have hi : i < o.ps.length := by simpa using h2
 simp [reA, List.getD, hi]
theorem flG_flat {l : List Gl} {cs : List Int} : ∀ {n : Nat} {g : Int}, (flG l cs n g).2 = 0 → (flG l cs n g).1.flatten.length = sq l n g := by
 intro n
 induction n with
 | zero =>
  intro g h
  cases hx : gAt l g with
  | none => rw [flG, hx] at h; exact absurd (show (5 : Int) = 0 from h) (by decide)
  | some x =>
   rw [flG_at hx] at h ⊢; rw [sq_at hx]
   unfold flX at h ⊢
   by_cases he : atE x.o x.ts cs = 0
   · rw [if_pos he] at h ⊢
     by_cases h2 : (flP (flf l cs 0) (atO x.o x.ts cs).ps).2 = 0
     · rw [if_pos h2]
       show ((atO x.o x.ts cs).cs ++ _).flatten.length = _
       rw [List.flatten_append, List.length_append, at_flat he, flP_flat (f := flf l cs 0) (s := sqf l 0) (fun p _ hp => absurd hp (by show ¬ (6 : Int) = 0; decide)) h2, sqs_gs (at_gs he)]
       rfl
     · rw [if_neg h2] at h; exact absurd h h2
   · rw [if_neg he] at h; exact absurd h he
 | succ n ih =>
  intro g h
  cases hx : gAt l g with
  | none => rw [flG, hx] at h; exact absurd (show (5 : Int) = 0 from h) (by decide)
  | some x =>
   rw [flG_at hx] at h ⊢; rw [sq_at hx]
   unfold flX at h ⊢
   by_cases he : atE x.o x.ts cs = 0
   · rw [if_pos he] at h ⊢
     by_cases h2 : (flP (flf l cs (n + 1)) (atO x.o x.ts cs).ps).2 = 0
     · rw [if_pos h2]
       show ((atO x.o x.ts cs).cs ++ _).flatten.length = _
       rw [List.flatten_append, List.length_append, at_flat he, flP_flat (f := flf l cs (n + 1)) (s := sqf l (n + 1)) (fun p _ hp => ih hp) h2, sqs_gs (at_gs he)]
       rfl
     · rw [if_neg h2] at h; exact absurd h h2
   · rw [if_neg he] at h; exact absurd h he
def glE (l : List Gl) (g : Int) (cs : List Int) : Int := if (gAt l g).isNone then 5 else if (dq l 6 g).isNone then 6 else if 2000 < szG l g then 3 else (flG l cs 6 g).2
def glC (l : List Gl) (g : Int) (cs : List Int) : List (List Pn) := if glE l g cs = 0 then (flG l cs 6 g).1 else []
theorem dq_gAt {l : List Gl} {n : Nat} {g : Int} {d : Nat} (h : dq l n g = some d) : (gAt l g).isNone = false := by
 obtain ⟨x, h1, _⟩ := dq_some.1 h
 rw [h1]
 rfl
theorem glE_some {l : List Gl} {g : Int} {d : Nat} {cs : List Int} (h : dq l 6 g = some d) (hs : szG l g ≤ 2000) : glE l g cs = (flG l cs 6 g).2 ∧ glC l g cs = (flG l cs 6 g).1 := by
 have e : glE l g cs = (flG l cs 6 g).2 := by
  unfold glE
  rw [dq_gAt h, h, if_neg (by decide), if_neg (by simp), if_neg (by omega)]
 refine ⟨e, ?_⟩
 unfold glC
 rw [e]
 by_cases h0 : (flG l cs 6 g).2 = 0
 · rw [if_pos h0]
 · rw [if_neg h0, flG_bad h0]
theorem glE_none {l : List Gl} {g : Int} {cs : List Int} (h : gAt l g = none) : glE l g cs = 5 ∧ glC l g cs = [] := by
 have e : glE l g cs = 5 := by unfold glE; rw [h]; rfl
 exact ⟨e, by unfold glC; rw [e]; rfl⟩
theorem glE_deep {l : List Gl} {g : Int} {x : Gl} {cs : List Int} (hx : gAt l g = some x) (h : dq l 6 g = none) : glE l g cs = 6 ∧ glC l g cs = [] := by
 have e : glE l g cs = 6 := by unfold glE; rw [hx, h]; rfl
 exact ⟨e, by unfold glC; rw [e]; rfl⟩
theorem glE_long {l : List Gl} {g : Int} {d : Nat} {cs : List Int} (h : dq l 6 g = some d) (hs : 2000 < szG l g) : glE l g cs = 3 ∧ glC l g cs = [] := by
 have e : glE l g cs = 3 := by
  unfold glE
  rw [dq_gAt h, h, if_neg (by decide), if_neg (by simp), if_pos hs]
 exact ⟨e, by unfold glC; rw [e]; rfl⟩
theorem gl_part {l : List Gl} {g : Int} {d : Nat} {x : Gl} (hx : gAt l g = some x) (h : dq l 6 g = some d) (hs : szG l g ≤ 2000) {p : Pa} (hp : p ∈ x.o.ps) : ∃ e, dq l 6 p.g = some e ∧ e < d ∧ szG l p.g ≤ 2000 := by
 obtain ⟨e, h1, h2⟩ := dq_part h hx p hp
 have hd := dq_le h
 have h3 : dq l 6 p.g = some e := dq_more h1 (by omega)
 refine ⟨e, h3, h2, ?_⟩
 rw [szG_some h] at hs; rw [szG_some h3]
 have h4 : sq l 5 p.g ≤ sq l 6 g := sq_part hx hp
 have h5 : sq l 6 p.g = sq l 5 p.g := (sq_more h1 (by omega)).trans (sq_more h1 (by omega)).symm
 omega
end Go.Proofs.YtkmcodofnckdmaaGreat
