import Derived.Test.YtgbhidcokobmmaaGreatDoorZL6
import Derived.Laws.BytesArg
set_option linter.unusedSimpArgs false
set_option linter.unusedVariables false
namespace Go.Proofs.YtgbhidcokobmmaaGreatDoor
open Go.RowKit Go.Maps
theorem toList_inj{a b:ByteArray}(h:a.toList=b.toList):a=b:=by
 rw[ByteArray.toList_eq,ByteArray.toList_eq]at h
 cases a;cases b
 simp only at h
 rw[Array.toList_inj.1 h]
def pw(n:Nat):Nat:=if n<2 then 1 else if n<4 then 2 else if n<8 then 4 else if n<16 then 8 else if n<32 then 16 else 32
def lg(n:Nat):Nat:=if n<2 then 0 else if n<4 then 1 else if n<8 then 2 else if n<16 then 3 else if n<32 then 4 else 5
def hdr(n:Nat):List Nat:=be4 65536++(be2 n++(be2 ((16*pw n:Nat):Int)++(be2 ((lg n:Nat):Int)++be2 ((16*n-16*pw n:Nat):Int))))
structure Rn where
 fr:Int
 tq:Int
 gl:Int
def Rn.none:Rn:=⟨0,0,0⟩
def inR(x:Rn)(c:Int):Bool:=decide (x.fr<=c/\c<=x.tq)
def glR(c:Int):List Rn->Int
 | []=>0
 | x::l=>if inR x c then x.gl+(c-x.fr)else glR c l
theorem zut{c:Int}:∀ {l:List Rn},(∀j,j<l.length->inR (l.getD j Rn.none) c=false)->glR c l=0:=by
 intro l
 induction l with
 | nil=>intro _;rfl
 | cons x l ih =>
  intro h
  rw[glR,show inR x c=false from h 0 (by simp),if_neg (by decide)]
  exact ih (fun j hj=>h (j+1) (by simpa using hj))
theorem zuu{c:Int}:∀ {l:List Rn} {n:Nat},n<l.length->(∀j,j<n->inR (l.getD j Rn.none) c=false)->inR (l.getD n Rn.none) c=true->glR c l=(l.getD n Rn.none).gl+(c-(l.getD n Rn.none).fr):=by
 intro l
 induction l with
 | nil=>intro n h;simp at h
 | cons x l ih =>
  intro n hn h he
  cases n with
  | zero=>rw[glR,show inR x c=true from he,if_pos rfl];rfl
  | succ n =>
   rw[glR,show inR x c=false from h 0 (by omega),if_neg (by decide)]
   exact ih (n:=n) (by simpa using hn) (fun j hj=>h (j+1) (by omega)) he
