/- The canonical forms of terms, types, goals and items, in plain words: bytes. No program stands in this text but the things' form; no conditions. -/
/- How long the form of what is read can be: 20000 bytes for each token that a reading takes. No program stands in this text but the things' form. Conditions: a token's text, and its number's digits, have at most 16384 bytes. -/
/- The numbers of what is read are a machine's: plain. No program stands in this text but the things' form. Conditions: the tokens' numbers are. -/
import Derived.Test.YtiljemkglhloeaaGreatDoorItemA
import Derived.Test.YtiljemkglhloeaaGreatDoorItemC
import Derived.Lib.ItoaLen
namespace Go.Proofs.YtiljemkglhloeaaGreatDoor
set_option linter.unusedSimpArgs false
set_option linter.unusedVariables false
namespace Lx
open Go Go.RowKit
/-- Words with a mark between each two. -/
def joinF (m:List UInt8):List (List UInt8)→List UInt8
 | []=>[]
 | [x]=>x
 | x :: y :: l=>x++(m++joinF m (y :: l))
theorem joinF_snoc (m:List UInt8):∀ (l:List (List UInt8)) (x:List UInt8),joinF m (l++[x])=if l=[] then x else joinF m l++(m++x)
 | [],_=>rfl
 | [y],x=>by simp [joinF]
 | y :: z :: l,x=>by
  have h:=joinF_snoc m (z :: l) x
  simp only [List.cons_append,joinF,reduceCtorEq,if_false] at h ⊢
  rw [h]
  simp [List.append_assoc]
theorem joinF_take (m:List UInt8) (ws:List (List UInt8)) (k:Nat) (h:k < ws.length):joinF m (ws.take (k+1))=if k=0 then ws[k] else joinF m (ws.take k)++(m++ws[k]):=by
 rw [List.take_succ_eq_append_getElem h,joinF_snoc]
 by_cases h0:k=0
 ·simp [h0]
 ·have:¬ ws.take k=[]:=by
   intro e
   rcases List.take_eq_nil_iff.1 e with h1 | h1
   ·exact h0 h1
   ·rw [h1] at h
    simp at h
  simp [h0,this]
/-- Words in parentheses, if there are any. -/
def argsF (ws:List (List UInt8)):List UInt8:=if ws=[] then [] else 40 :: (joinF [44,32] ws++[41])
mutual
def termF:TermT→List UInt8
 | .mk k s z l=>(if k=2 then Lib.itoa z else s)++argsF (termsF l)
def termsF:List TermT→List (List UInt8)
 | []=>[]
 | x :: l=>termF x :: termsF l
end
theorem termsF_map:∀ l,termsF l=l.map termF
 | []=>rfl
 | x :: l=>by rw [termsF,termsF_map l];rfl
mutual
def typeF:TypeT→List UInt8
 | .mk _ s l=>s++argsF (typesF l)
def typesF:List TypeT→List (List UInt8)
 | []=>[]
 | x :: l=>typeF x :: typesF l
end
def parenF (s:List UInt8):List UInt8:=40 :: (s++[41])
/-- A goal's form (its kind with it) where a conj stands, and where a prim stands. -/
def conjW (p:Int × List UInt8):List UInt8:=if p.1=6 then parenF p.2 else p.2
def primW (p:Int × List UInt8):List UInt8:=if p.1=5 then parenF p.2 else conjW p
def partW (G:List (Int × List UInt8)) (i:Nat):List UInt8:=match G[i]? with
 | some p=>primW p
 | none=>[]
def goalW (k:Int) (a b:List UInt8) (s:List UInt8) (l:List (List UInt8)) (G:List (Int × List UInt8)):List UInt8 :=
 if k=1 then [116,114,117,101] else if k=2 then [102,97,105,108] else if k=3 then a++([32,61,32]++b) else if k=4 then s++argsF l
 else if k=5 then joinF [44,32] (G.map primW) else if k=6 then joinF [32,59,32] (G.map conjW) else if k=7 then [110,111,116,32]++partW G 0
 else if k=8 then [116,104,114,111,119,32]++a else if k=9 then [116,114,121,32]++(partW G 0++([32,99,97,116,99,104,32]++(s++([32,116,104,101,110,32]++partW G 1)))) else []
def kindG:GoalT→Int
 | .mk k _ _ _ _ _=>k
mutual
def goalF:GoalT→List UInt8
 | .mk k a b s l gs=>goalW k (termF a) (termF b) s (termsF l) (goalsF gs)
def goalsF:List GoalT→List (Int × List UInt8)
 | []=>[]
 | g :: l=>(kindG g,goalF g) :: goalsF l
end
end Lx
end Go.Proofs.YtiljemkglhloeaaGreatDoor
namespace Go.Proofs.YtiljemkglhloeaaGreatDoor
set_option linter.unusedSimpArgs false
set_option linter.unusedVariables false
namespace Lx
open Go Go.RowKit
def SmallT (ts:List Tok):Prop:=∀ t ∈ ts,t.text.length≤16384∧(Lib.itoa t.num).length≤16384
theorem SmallT.peek {ts:List Tok} (h:SmallT ts) (k:Nat):(peekT ts k).text.length≤16384∧(k < ts.length→(Lib.itoa (peekT ts k).num).length≤16384):=by
 unfold peekT
 rcases Nat.lt_or_ge k ts.length with h1 | h1
 ·rw [List.getElem?_eq_getElem h1]
  exact ⟨(h _ (List.getElem_mem h1)).1,fun _=>(h _ (List.getElem_mem h1)).2⟩
 ·rw [List.getElem?_eq_none h1]
  exact ⟨by simp,fun hk=>by omega⟩
/-- What a reading takes pays for the form of what it gives, with this much left. -/
def Pays {α:Type} (e:Nat) (rd:Nat→Out α) (F:α→List UInt8):Prop:=∀ k x k',rd k=.ok x k'→(F x).length+e+20000 * k≤20000 * k'
theorem Pays.mono {α:Type} {e e':Nat} {rd:Nat→Out α} {F:α→List UInt8} (h:Pays e rd F) (he:e'≤e):Pays e' rd F:=fun k x k' hx=>by have:=h k x k' hx;omega
theorem Pays.add {α:Type} {e n:Nat} {rd:Nat→Out α} {F G:α→List UInt8} (h:Pays (e+n) rd F) (hG:∀ x,(G x).length≤(F x).length+n):Pays e rd G:=fun k x k' hx=>by have:=h k x k' hx;have:=hG x;omega
end Lx
end Go.Proofs.YtiljemkglhloeaaGreatDoor
namespace Go.Proofs.YtiljemkglhloeaaGreatDoor
set_option linter.unusedSimpArgs false
set_option linter.unusedVariables false
namespace Lx
open Go Go.RowKit
def numOk (z:Int):Prop:=-9223372036854775808≤z∧z≤9223372036854775807
mutual
def termOk:TermT→Prop
 | .mk _ _ z l=>numOk z∧termsOk l
def termsOk:List TermT→Prop
 | []=>True
 | x :: l=>termOk x∧termsOk l
end
theorem termsOk_iff:∀ l,termsOk l ↔ ∀ x ∈ l,termOk x
 | []=>by simp [termsOk]
 | x :: l=>by rw [termsOk,termsOk_iff l];simp
mutual
def goalOk:GoalT→Prop
 | .mk _ a b _ l gs=>termOk a∧termOk b∧termsOk l∧goalsOk gs
def goalsOk:List GoalT→Prop
 | []=>True
 | g :: l=>goalOk g∧goalsOk l
end
def NumsT (ts:List Tok):Prop:=∀ t ∈ ts,numOk t.num
theorem NumsT.peek {ts:List Tok} (h:NumsT ts) (k:Nat):numOk (peekT ts k).num:=by
 unfold peekT
 rcases Nat.lt_or_ge k ts.length with h1 | h1
 ·rw [List.getElem?_eq_getElem h1]
  exact h _ (List.getElem_mem h1)
 ·rw [List.getElem?_eq_none h1]
  simp [numOk]
/-- All that a reading gives is so. -/
def Gives {α:Type} (rd:Nat→Out α) (P:α→Prop):Prop:=∀ k x k',rd k=.ok x k'→P x
theorem rowLoop_gives {α:Type} {rd:Nat→Out α} {P:α→Prop} {ts:List Tok} {mark:List UInt8} {most:Nat} (hr:Gives rd P):∀ (n k:Nat) (acc l:List α) (k':Nat),rowLoop rd ts mark most n k acc=.ok l k'→(∀ x ∈ acc,P x)→∀ x ∈ l,P x
 | 0,_,_,_,_,h,_=>by simp [rowLoop] at h
 | n+1,k,acc,l,k',h,h0=>by
  rw [rowLoop] at h
  split at h
  ·split at h
   ·cases h
   ·split at h
    ·cases h
    ·rename_i x k2 he
     refine rowLoop_gives hr n k2 _ _ _ h (fun y hy=>?_)
     rcases List.mem_append.1 hy with hy | hy
     ·exact h0 y hy
     ·obtain rfl:y=x:=by simpa using hy
      exact hr _ _ _ he
  ·injection h with h1 h2
   subst h1
   exact h0
theorem rowO_gives {α:Type} {rd:Nat→Out α} {P:α→Prop} {ts:List Tok} {mark:List UInt8} {most:Nat} (hr:Gives rd P):Gives (rowO rd ts mark most) (fun l=>∀ x ∈ l,P x):=by
 intro k l k' h
 unfold rowO at h
 split at h
 ·cases h
 ·rename_i x k2 he
  exact rowLoop_gives hr _ _ _ _ _ h (fun y hy=>(show y=x by simpa using hy) ▸ hr _ _ _ he)
theorem argsO_gives {α:Type} {rd:Nat→Out α} {P:α→Prop} {ts:List Tok} (hr:Gives rd P) {k:Nat} {l:List α} {k':Nat} (h:argsO rd ts k=.ok l k'):∀ x ∈ l,P x:=by
 unfold argsO at h
 split at h
 ·split at h
  ·cases h
  ·rename_i l1 k1 he
   have h1:=rowO_gives hr _ _ _ he
   split at h
   ·cases h
   ·injection h with h3 h4
    subst h3
    exact h1
 ·injection h with h1 h2
  subst h1
  simp
end Lx
end Go.Proofs.YtiljemkglhloeaaGreatDoor
