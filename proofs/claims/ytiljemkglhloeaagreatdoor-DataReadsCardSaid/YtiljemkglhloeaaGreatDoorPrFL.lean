/- The canonical forms of terms, types, goals and items, in plain words: bytes. No program stands in this text but the things' form; no conditions. -/
/- How long the form of what is read can be: 20000 bytes for each token that a reading takes. No program stands in this text but the things' form. Conditions: a token's text, and its number's digits, have at most 16384 bytes. -/
/- The numbers of what is read are a machine's: plain. No program stands in this text but the things' form. Conditions: the tokens' numbers are. -/
import Derived.Test.YtiljemkglhloeaaGreatDoorItemA
import Derived.Test.YtiljemkglhloeaaGreatDoorItemC
import Derived.Lib.ItoaLen
namespace Go.Proofs.YtiljemkglhloeaaGreatDoor
set_option linter.unusedSimpArgs false
set_option linter.unusedVariables false
namespace Lx
open Go Go.RowKit
/-- Words with a mark between each two. -/
def joinF (m:List UInt8):List (List UInt8)→List UInt8
 | []=>[]
 | [x]=>x
 | x :: y :: l=>x++(m++joinF m (y :: l))
theorem joinF_snoc (m:List UInt8):∀ (l:List (List UInt8)) (x:List UInt8),joinF m (l++[x])=if l=[] then x else joinF m l++(m++x)
 | [],_=>rfl
 | [y],x=>by simp [joinF]
 | y :: z :: l,x=>by
  have h:=joinF_snoc m (z :: l) x
  simp only [List.cons_append,joinF,reduceCtorEq,if_false] at h ⊢
  rw [h]
  simp [List.append_assoc]
theorem joinF_take (m:List UInt8) (ws:List (List UInt8)) (k:Nat) (h:k < ws.length):joinF m (ws.take (k+1))=if k=0 then ws[k] else joinF m (ws.take k)++(m++ws[k]):=by
 rw [List.take_succ_eq_append_getElem h,joinF_snoc]
 by_cases h0:k=0
 ·simp [h0]
 ·have:¬ ws.take k=[]:=by
   intro e
   rcases List.take_eq_nil_iff.1 e with h1 | h1
   ·exact h0 h1
   ·rw [h1] at h
    simp at h
  simp [h0,this]
/-- Words in parentheses, if there are any. -/
def argsF (ws:List (List UInt8)):List UInt8:=if ws=[] then [] else 40 :: (joinF [44,32] ws++[41])
mutual
def termF:TermT→List UInt8
 | .mk k s z l=>(if k=2 then Lib.itoa z else s)++argsF (termsF l)
def termsF:List TermT→List (List UInt8)
 | []=>[]
 | x :: l=>termF x :: termsF l
end
theorem termsF_map:∀ l,termsF l=l.map termF
 | []=>rfl
 | x :: l=>by rw [termsF,termsF_map l];rfl
mutual
def typeF:TypeT→List UInt8
 | .mk _ s l=>s++argsF (typesF l)
def typesF:List TypeT→List (List UInt8)
 | []=>[]
 | x :: l=>typeF x :: typesF l
end
theorem typesF_map:∀ l,typesF l=l.map typeF
 | []=>rfl
 | x :: l=>by rw [typesF,typesF_map l];rfl
def parenF (s:List UInt8):List UInt8:=40 :: (s++[41])
/-- A goal's form (its kind with it) where a conj stands, and where a prim stands. -/
def conjW (p:Int × List UInt8):List UInt8:=if p.1=6 then parenF p.2 else p.2
def primW (p:Int × List UInt8):List UInt8:=if p.1=5 then parenF p.2 else conjW p
def partW (G:List (Int × List UInt8)) (i:Nat):List UInt8:=match G[i]? with
 | some p=>primW p
 | none=>[]
def goalW (k:Int) (a b:List UInt8) (s:List UInt8) (l:List (List UInt8)) (G:List (Int × List UInt8)):List UInt8 :=
 if k=1 then [116,114,117,101] else if k=2 then [102,97,105,108] else if k=3 then a++([32,61,32]++b) else if k=4 then s++argsF l
 else if k=5 then joinF [44,32] (G.map primW) else if k=6 then joinF [32,59,32] (G.map conjW) else if k=7 then [110,111,116,32]++partW G 0
 else if k=8 then [116,104,114,111,119,32]++a else if k=9 then [116,114,121,32]++(partW G 0++([32,99,97,116,99,104,32]++(s++([32,116,104,101,110,32]++partW G 1)))) else []
def kindG:GoalT→Int
 | .mk k _ _ _ _ _=>k
mutual
def goalF:GoalT→List UInt8
 | .mk k a b s l gs=>goalW k (termF a) (termF b) s (termsF l) (goalsF gs)
def goalsF:List GoalT→List (Int × List UInt8)
 | []=>[]
 | g :: l=>(kindG g,goalF g) :: goalsF l
end
theorem goalsF_map:∀ l,goalsF l=l.map fun g=>(kindG g,goalF g)
 | []=>rfl
 | x :: l=>by rw [goalsF,goalsF_map l];rfl
def primF (g:GoalT):List UInt8:=primW (kindG g,goalF g)
def conjF (g:GoalT):List UInt8:=conjW (kindG g,goalF g)
def ctorF:CtorT→List UInt8
 | .mk n l=>n++argsF (typesF l)
def wayF (b:Bool):List UInt8:=if b=true then [105,110] else [111,117,116]
def detF (d:Int):List UInt8:=if d=1 then [100,101,116] else if d=2 then [115,101,109,105,100,101,116] else if d=3 then [109,117,108,116,105] else if d=4 then [110,111,110,100,101,116] else []
def bodyF (g:GoalT):List UInt8:=if kindG g=1 then [] else [32,58,45,32]++goalF g
def itemF (x:ItemT):List UInt8 :=
 (if x.kind=1 then [116,121,112,101,32]++(x.name++(argsF x.vars++([32,61,32]++joinF [32,124,32] (x.ctors.map ctorF))))
  else if x.kind=2 then [112,114,101,100,32]++(x.name++argsF (typesF x.types))
  else if x.kind=3 then [109,111,100,101,32]++(x.name++(argsF (x.ins.map wayF)++([32,105,115,32]++detF x.det)))
  else if x.kind=4 then x.name++(argsF (termsF x.args)++bodyF x.body) else [])++[46,10]
def sourceF (l:List ItemT):List UInt8:=joinF [] (l.map itemF)
theorem joinF_nil:∀ l:List (List UInt8),joinF [] l=l.flatten
 | []=>rfl
 | [x]=>by simp [joinF]
 | x :: y :: l=>by rw [joinF,joinF_nil (y :: l)];simp
end Lx
end Go.Proofs.YtiljemkglhloeaaGreatDoor
namespace Go.Proofs.YtiljemkglhloeaaGreatDoor
set_option linter.unusedSimpArgs false
set_option linter.unusedVariables false
namespace Lx
open Go Go.RowKit
def SmallT (ts:List Tok):Prop:=∀ t ∈ ts,t.text.length≤16384∧(Lib.itoa t.num).length≤16384
theorem SmallT.peek {ts:List Tok} (h:SmallT ts) (k:Nat):(peekT ts k).text.length≤16384∧(k < ts.length→(Lib.itoa (peekT ts k).num).length≤16384):=by
 unfold peekT
 rcases Nat.lt_or_ge k ts.length with h1 | h1
 ·rw [List.getElem?_eq_getElem h1]
  exact ⟨(h _ (List.getElem_mem h1)).1,fun _=>(h _ (List.getElem_mem h1)).2⟩
 ·rw [List.getElem?_eq_none h1]
  exact ⟨by simp,fun hk=>by omega⟩
/-- What a reading takes pays for the form of what it gives, with this much left. -/
def Pays {α:Type} (e:Nat) (rd:Nat→Out α) (F:α→List UInt8):Prop:=∀ k x k',rd k=.ok x k'→(F x).length+e+20000 * k≤20000 * k'
theorem Pays.mono {α:Type} {e e':Nat} {rd:Nat→Out α} {F:α→List UInt8} (h:Pays e rd F) (he:e'≤e):Pays e' rd F:=fun k x k' hx=>by have:=h k x k' hx;omega
theorem Pays.add {α:Type} {e n:Nat} {rd:Nat→Out α} {F G:α→List UInt8} (h:Pays (e+n) rd F) (hG:∀ x,(G x).length≤(F x).length+n):Pays e rd G:=fun k x k' hx=>by have:=h k x k' hx;have:=hG x;omega
theorem rowLoop_pays {α:Type} {e:Nat} {rd:Nat→Out α} {F:α→List UInt8} {ts:List Tok} {mark:List UInt8} {most:Nat} {m:List UInt8} (hm:m.length≤10) (hr:Pays e rd F) (k0:Nat):∀ (n k:Nat) (acc l:List α) (k':Nat),rowLoop rd ts mark most n k acc=.ok l k'→acc ≠ []→(joinF m (acc.map F)).length+e+20000 * k0≤20000 * k→(joinF m (l.map F)).length+e+20000 * k0≤20000 * k'
 | 0,_,_,_,_,h,_,_=>by simp [rowLoop] at h
 | n+1,k,acc,l,k',h,h0,hk=>by
  rw [rowLoop] at h
  split at h
  ·split at h
   ·cases h
   ·split at h
    ·cases h
    ·rename_i x k2 he
     have h1:=hr _ _ _ he
     refine rowLoop_pays hm hr k0 n k2 _ _ _ h (by simp) ?_
     rw [List.map_append,List.map_cons,List.map_nil,joinF_snoc,if_neg (by simpa using h0)]
     simp only [List.length_append]
     omega
  ·injection h with h1 h2
   subst h1 h2
   exact hk
theorem rowO_pays {α:Type} {e:Nat} {rd:Nat→Out α} {F:α→List UInt8} {ts:List Tok} {mark:List UInt8} {most:Nat} {m:List UInt8} (hm:m.length≤10) (hr:Pays e rd F):Pays e (rowO rd ts mark most) (fun l=>joinF m (l.map F)):=by
 intro k l k' h
 unfold rowO at h
 split at h
 ·cases h
 ·rename_i x k2 he
  exact rowLoop_pays hm hr k _ _ _ _ _ h (by simp) (hr _ _ _ he)
theorem expO_next {ts:List Tok} {k k':Nat} {s:List UInt8} {u:Unit} (h:expO ts k s=.ok u k'):k'=k+1:=by
 unfold expO at h
 split at h
 ·injection h with _ h2
  exact h2.symm
 ·cases h
theorem argsF_le (ws:List (List UInt8)):(argsF ws).length≤(joinF [44,32] ws).length+2:=by
 unfold argsF
 split
 ·simp
 ·simp
theorem argsO_pays {α:Type} {e:Nat} {rd:Nat→Out α} {F:α→List UInt8} {ts:List Tok} (hr:Pays e rd F) {k:Nat} {l:List α} {k':Nat} (h:argsO rd ts k=.ok l k'):(argsF (l.map F)).length+20000 * k≤20000 * k':=by
 unfold argsO at h
 split at h
 ·split at h
  ·cases h
  ·rename_i l1 k1 he
   have h1:=rowO_pays (m:=[44,32]) (by decide) hr _ _ _ he
   have h1:(joinF [44,32] (l1.map F)).length+e+20000 * (k+1)≤20000 * k1:=h1
   split at h
   ·cases h
   ·rename_i u k2 he2
    have:=expO_next he2
    injection h with h3 h4
    subst h3
    have:=argsF_le (l1.map F)
    omega
 ·injection h with h1 h2
  subst h1 h2
  simp [argsF]
theorem nameO_pays {ts:List Tok} (hS:SmallT ts) {k:Nat} {s:List UInt8} {k':Nat} (h:nameO ts k=.ok s k'):s.length≤16384∧k'=k+1:=by
 unfold nameO at h
 split at h
 ·injection h with h1 h2
  exact ⟨by rw [← h1];exact (hS.peek k).1,h2.symm⟩
 ·cases h
theorem varO_pays {ts:List Tok} (hS:SmallT ts):Pays 100 (varO ts) (fun s=>s):=by
 intro k s k' h
 unfold varO at h
 split at h
 ·injection h with h1 h2
  have:=(hS.peek k).1
  rw [h1] at this
  show s.length+_+_≤_
  omega
 ·cases h
theorem termO_pays {ts:List Tok} (hS:SmallT ts):∀ (m:Nat) (ne:Int),Pays 100 (termO ts m ne) termF
 | 0,_,_,_,_,h=>by simp [termO] at h
 | m+1,ne,k,x,k',h=>by
  have hp:=hS.peek k
  rw [termO] at h
  split at h
  ·cases h
  ·split at h
   ·injection h with h1 h2
    subst h1
    simp [termF,termsF,argsF]
    omega
   ·split at h
    ·rename_i hk
     have hp2:=hp.2 (peek_kind (ts:=ts) (k:=k) (by rw [hk];decide))
     injection h with h1 h2
     subst h1
     simp [termF,termsF,argsF]
     omega
    ·split at h
     ·cases h
     ·rename_i s k1 he
      have h1:=nameO_pays hS he
      split at h
      ·cases h
      ·rename_i l k2 he2
       have h2:=argsO_pays (termO_pays hS m (ne+1)) he2
       injection h with h3 h4
       subst h3
       rw [termF,termsF_map]
       simp only [show ¬ ((3:Int)=2) by decide,if_false,List.length_append]
       omega
theorem typeO_pays {ts:List Tok} (hS:SmallT ts):∀ (m:Nat) (ne:Int),Pays 100 (typeO ts m ne) typeF
 | 0,_,_,_,_,h=>by simp [typeO] at h
 | m+1,ne,k,x,k',h=>by
  have hp:=hS.peek k
  rw [typeO] at h
  split at h
  ·cases h
  ·split at h
   ·injection h with h1 h2
    subst h1
    simp [typeF,typesF,argsF]
    omega
   ·split at h
    ·injection h with h1 h2
     subst h1
     simp [typeF,typesF,argsF]
     omega
    ·split at h
     ·cases h
     ·rename_i s k1 he
      have h1:=nameO_pays hS he
      split at h
      ·cases h
      ·rename_i l k2 he2
       have h2:=argsO_pays (typeO_pays hS m (ne+1)) he2
       injection h with h3 h4
       subst h3
       rw [typeF,typesF_map]
       simp only [List.length_append]
       omega
theorem conjW_le (p:Int × List UInt8):(conjW p).length≤p.2.length+2:=by
 unfold conjW parenF
 split <;> simp
theorem primW_le (p:Int × List UInt8):(primW p).length≤p.2.length+2:=by
 unfold primW
 split
 ·simp [parenF]
 ·exact conjW_le p
theorem joinG_le (kind:Int) (hk:kind=5 ∨ kind=6) (l:List GoalT) (e k0 k':Nat) (m:List UInt8) (G:GoalT→List UInt8) (hG:(kind=5∧m=[44,32]∧G=primF) ∨ (kind=6∧m=[32,59,32]∧G=conjF)) (h1:∀ g,l=[g]→(goalF g).length+e+20000 * k0≤20000 * k') (h2:(joinF m (l.map G)).length+e+20000 * k0≤20000 * k'):(goalF (joinG kind l)).length+e+20000 * k0≤20000 * k':=by
 have hmany:joinG kind l=.mk kind zeroT zeroT [] [] l→(goalF (joinG kind l)).length+e+20000 * k0≤20000 * k':=by
  intro hj
  rw [hj]
  rcases hG with ⟨rfl,rfl,rfl⟩ | ⟨rfl,rfl,rfl⟩
  ·rw [goalF,goalsF_map]
   simp only [goalW,show ¬ ((5:Int)=1) by decide,show ¬ ((5:Int)=2) by decide,show ¬ ((5:Int)=3) by decide,show ¬ ((5:Int)=4) by decide,if_false,if_true,List.map_map]
   exact h2
  ·rw [goalF,goalsF_map]
   simp only [goalW,show ¬ ((6:Int)=1) by decide,show ¬ ((6:Int)=2) by decide,show ¬ ((6:Int)=3) by decide,show ¬ ((6:Int)=4) by decide,show ¬ ((6:Int)=5) by decide,if_false,if_true,List.map_map]
   exact h2
 match l,h1,h2,hmany with
 | [],_,_,hm=>exact hm rfl
 | [g],h1,_,_=>exact h1 g rfl
 | _ :: _ :: _,_,_,hm=>exact hm rfl
theorem rowO_one {α:Type} {e:Nat} {rd:Nat→Out α} {F:α→List UInt8} {ts:List Tok} {mark:List UInt8} {most:Nat} (hr:Pays e rd F) {k:Nat} {l:List α} {k':Nat} (h:rowO rd ts mark most k=.ok l k') (x:α) (hx:l=[x]):(F x).length+e+20000 * k≤20000 * k':=by
 have:=rowO_pays (m:=[]) (by decide) hr _ _ _ h
 subst hx
 exact this
theorem joinO_pays {e:Nat} {rd:Nat→Out GoalT} {ts:List Tok} {mark:List UInt8} {kind:Int} (m:List UInt8) (G:GoalT→List UInt8) (hG:(kind=5∧m=[44,32]∧G=primF) ∨ (kind=6∧m=[32,59,32]∧G=conjF)) (hr:Pays (e+2) rd goalF):Pays e (joinO rd ts mark kind) goalF:=by
 intro k x k' h
 have hGl:∀ g,(G g).length≤(goalF g).length+2:=by
  rcases hG with ⟨_,_,rfl⟩ | ⟨_,_,rfl⟩
  ·exact fun g=>primW_le _
  ·exact fun g=>conjW_le _
 have hm:m.length≤10:=by rcases hG with ⟨_,rfl,_⟩ | ⟨_,rfl,_⟩ <;> decide
 have hk:kind=5 ∨ kind=6:=by rcases hG with ⟨h,_⟩ | ⟨h,_⟩ <;> simp [h]
 unfold joinO at h
 split at h
 ·cases h
 ·rename_i l k2 he
  injection h with h1 h2
  subst h1 h2
  have hr2:Pays e rd G:=hr.add hGl
  exact joinG_le kind hk l e k _ m G hG (fun g hg=>by have:=rowO_one hr he g hg;omega) (rowO_pays hm hr2 _ _ _ he)
theorem goalO_pays {e:Nat} {rd:Nat→Out GoalT} {ts:List Tok} (hr:Pays (e+4) rd goalF):Pays e (goalO rd ts) goalF :=
 joinO_pays [32,59,32] conjF (.inr ⟨rfl,rfl,rfl⟩) (joinO_pays [44,32] primF (.inl ⟨rfl,rfl,rfl⟩) hr)
theorem partW_one (p:Int × List UInt8):partW [p] 0=primW p:=rfl
theorem primO_pays {ts:List Tok} (hS:SmallT ts):∀ (m:Nat) (ne:Int),Pays 100 (primO ts m ne) goalF
 | 0,_,_,_,_,h=>by simp [primO] at h
 | m+1,ne,k,x,k',h=>by
  have IH:=primO_pays hS m (ne+1)
  rw [primO] at h
  split at h
  ·cases h
  ·split at h
   ·injection h with h1 h2
    subst h1
    simp [goalF,goalW]
    omega
   ·split at h
    ·injection h with h1 h2
     subst h1
     simp [goalF,goalW]
     omega
    ·split at h
     ·split at h
      ·cases h
      ·rename_i g k1 e1
       have h1:=IH _ _ _ e1
       have h2:=primW_le (kindG g,goalF g)
       injection h with h3 h4
       subst h3
       rw [goalF,goalsF,goalsF]
       simp only [goalW,show ¬ ((7:Int)=1) by decide,show ¬ ((7:Int)=2) by decide,show ¬ ((7:Int)=3) by decide,show ¬ ((7:Int)=4) by decide,show ¬ ((7:Int)=5) by decide,show ¬ ((7:Int)=6) by decide,if_false,if_true,List.length_append,partW_one,List.length_cons,List.length_nil]
       simp only at h2
       omega
     ·split at h
      ·split at h
       ·cases h
       ·rename_i t k1 e1
        have h1:=termO_pays hS 66 (ne+1) _ _ _ e1
        injection h with h3 h4
        subst h3
        rw [goalF]
        simp only [goalW,show ¬ ((8:Int)=1) by decide,show ¬ ((8:Int)=2) by decide,show ¬ ((8:Int)=3) by decide,show ¬ ((8:Int)=4) by decide,show ¬ ((8:Int)=5) by decide,show ¬ ((8:Int)=6) by decide,show ¬ ((8:Int)=7) by decide,if_false,if_true,List.length_append,List.length_cons,List.length_nil]
        omega
      ·split at h
       ·unfold guardO at h
        split at h
        ·cases h
        ·rename_i g k1 e1
         have h1:=IH _ _ _ e1
         split at h
         ·cases h
         ·rename_i u k2 e2
          have h2:=expO_next e2
          split at h
          ·cases h
          ·rename_i s k3 e3
           have h3:=varO_pays hS _ _ _ e3
           have h3:s.length+100+20000 * k2≤20000 * k3:=h3
           split at h
           ·cases h
           ·rename_i u2 k4 e4
            have h4:=expO_next e4
            split at h
            ·cases h
            ·rename_i g2 k5 e5
             have h5:=IH _ _ _ e5
             have q1:=primW_le (kindG g,goalF g)
             have q2:=primW_le (kindG g2,goalF g2)
             injection h with h6 h7
             subst h6
             rw [goalF,goalsF,goalsF,goalsF]
             simp only [goalW,show ¬ ((9:Int)=1) by decide,show ¬ ((9:Int)=2) by decide,show ¬ ((9:Int)=3) by decide,show ¬ ((9:Int)=4) by decide,show ¬ ((9:Int)=5) by decide,show ¬ ((9:Int)=6) by decide,show ¬ ((9:Int)=7) by decide,show ¬ ((9:Int)=8) by decide,if_false,if_true,List.length_append,List.length_cons,List.length_nil]
             rw [show partW [(kindG g,goalF g),(kindG g2,goalF g2)] 0=primW (kindG g,goalF g) from rfl,show partW [(kindG g,goalF g),(kindG g2,goalF g2)] 1=primW (kindG g2,goalF g2) from rfl]
             simp only at q1 q2
             omega
       ·split at h
        ·split at h
         ·cases h
         ·rename_i g k1 e1
          have h1:=goalO_pays (e:=96) IH _ _ _ e1
          split at h
          ·cases h
          ·rename_i u k2 e2
           have h2:=expO_next e2
           injection h with h6 h7
           subst h6
           omega
        ·unfold uocO at h
         split at h
         ·cases h
         ·rename_i t k1 e1
          have h1:=termO_pays hS 66 (ne+1) _ _ _ e1
          split at h
          ·split at h
           ·cases h
           ·rename_i u k2 e2
            have h2:=termO_pays hS 66 (ne+1) _ _ _ e2
            injection h with h3 h4
            subst h3
            rw [goalF]
            simp only [goalW,show ¬ ((3:Int)=1) by decide,show ¬ ((3:Int)=2) by decide,if_false,if_true,List.length_append,List.length_cons,List.length_nil]
            omega
          ·split at h
           ·rename_i hk3
            obtain ⟨tk,tn,tz,tl⟩:=t
            have hk3:tk=3:=hk3
            subst hk3
            injection h with h3 h4
            subst h3
            rw [termF] at h1
            rw [goalF]
            simp only [goalW,show ¬ ((4:Int)=1) by decide,show ¬ ((4:Int)=2) by decide,show ¬ ((4:Int)=3) by decide,show ¬ ((3:Int)=2) by decide,if_false,if_true,List.length_append,List.length_cons,List.length_nil,TermT.name,TermT.args] at h1 ⊢
            omega
           ·cases h
theorem wayO_pays (ts:List Tok):Pays 100 (wayO ts) wayF:=by
 intro k x k' h
 unfold wayO at h
 split at h
 ·injection h with h1 h2
  subst h1
  simp [wayF]
  omega
 ·split at h
  ·injection h with h1 h2
   subst h1
   simp [wayF]
   omega
  ·cases h
theorem ctorO_pays {ts:List Tok} (hS:SmallT ts) (ne:Int):Pays 100 (ctorO ts ne) ctorF:=by
 intro k x k' h
 unfold ctorO at h
 split at h
 ·cases h
 ·rename_i s k1 e1
  have h1:=nameO_pays hS e1
  split at h
  ·cases h
  ·rename_i l k2 e2
   have h2:=argsO_pays (typeO_pays hS 66 ne) e2
   injection h with h3 h4
   subst h3
   rw [ctorF,typesF_map,List.length_append]
   omega
theorem detF_le (d:Int):(detF d).length≤7:=by
 unfold detF
 repeat' split
 all_goals decide
theorem detO_next {ts:List Tok} {k:Nat} {d:Int} {k':Nat} (h:detO ts k=.ok d k'):k < k':=(detO_fwd ts _ _ _ h).1
theorem itemO_pays {ts:List Tok} (hS:SmallT ts) (ne:Int):Pays 50 (itemO ts ne) itemF:=by
 intro k x k' h
 unfold itemO at h
 split at h
 ·unfold typeItemO at h
  split at h
  ·cases h
  ·rename_i s k1 e1
   have h1:=nameO_pays hS e1
   split at h
   ·cases h
   ·rename_i vs k2 e2
    have h2:=argsO_pays (varO_pays hS) e2
    rw [List.map_id'] at h2
    split at h
    ·cases h
    ·rename_i u k3 e3
     have h3:=expO_next e3
     split at h
     ·cases h
     ·rename_i cs k4 e4
      have h4:=rowO_pays (m:=[32,124,32]) (by decide) (ctorO_pays hS ne) _ _ _ e4
      have h4:(joinF [32,124,32] (cs.map ctorF)).length+100+20000 * k3≤20000 * k4:=h4
      injection h with h5 h6
      subst h5
      simp only [itemF,if_true,List.length_append,List.length_cons,List.length_nil]
      omega
 ·split at h
  ·unfold predO at h
   split at h
   ·cases h
   ·rename_i s k1 e1
    have h1:=nameO_pays hS e1
    split at h
    ·cases h
    ·rename_i l k2 e2
     have h2:=argsO_pays (typeO_pays hS 66 ne) e2
     injection h with h5 h6
     subst h5
     simp only [itemF,show ¬ ((2:Int)=1) by decide,if_true,if_false,List.length_append,List.length_cons,List.length_nil,typesF_map]
     omega
  ·split at h
   ·unfold modeItemO at h
    split at h
    ·cases h
    ·rename_i s k1 e1
     have h1:=nameO_pays hS e1
     split at h
     ·cases h
     ·rename_i ws k2 e2
      have h2:=argsO_pays (wayO_pays ts) e2
      split at h
      ·cases h
      ·rename_i u k3 e3
       have h3:=expO_next e3
       split at h
       ·cases h
       ·rename_i d k4 e4
        have h4:=detO_next e4
        have h7:=detF_le d
        injection h with h5 h6
        subst h5
        simp only [itemF,show ¬ ((3:Int)=1) by decide,show ¬ ((3:Int)=2) by decide,if_true,if_false,List.length_append,List.length_cons,List.length_nil]
        omega
   ·unfold clauseO at h
    split at h
    ·cases h
    ·rename_i s k1 e1
     have h1:=nameO_pays hS e1
     split at h
     ·cases h
     ·rename_i l k2 e2
      have h2:=argsO_pays (termO_pays hS 66 ne) e2
      split at h
      ·split at h
       ·cases h
       ·rename_i g k3 e3
        have h3:=goalO_pays (e:=96) (primO_pays hS 66 ne) _ _ _ e3
        have hb:(bodyF g).length≤(goalF g).length+4:=by unfold bodyF;split <;> simp
        injection h with h5 h6
        subst h5
        simp only [itemF,show ¬ ((4:Int)=1) by decide,show ¬ ((4:Int)=2) by decide,show ¬ ((4:Int)=3) by decide,if_true,if_false,List.length_append,List.length_cons,List.length_nil,termsF_map]
        omega
      ·injection h with h5 h6
       subst h5
       simp only [itemF,bodyF,trueG,kindG,show ¬ ((4:Int)=1) by decide,show ¬ ((4:Int)=2) by decide,show ¬ ((4:Int)=3) by decide,if_true,if_false,List.length_append,List.length_cons,List.length_nil,termsF_map]
       omega
theorem srcLoop_pays {ts:List Tok} (hS:SmallT ts) (ne:Int):∀ (m k:Nat) (acc l:List ItemT) (k':Nat),srcLoop ts ne m k acc=.ok l k'→(acc.map itemF).flatten.length≤20000 * k→(l.map itemF).flatten.length≤20000 * k'∧k≤k'
 | 0,_,_,_,_,h,_=>by simp [srcLoop] at h
 | m+1,k,acc,l,k',h,hk=>by
  rw [srcLoop] at h
  split at h
  ·split at h
   ·cases h
   ·split at h
    ·cases h
    ·rename_i x k1 e1
     have h1:=itemO_pays hS ne _ _ _ e1
     split at h
     ·cases h
     ·rename_i u k2 e2
      have h2:=expO_next e2
      have h3:=srcLoop_pays hS ne m k2 _ _ _ h (by simp only [List.map_append,List.flatten_append,List.length_append,List.map_cons,List.map_nil,List.flatten_cons,List.flatten_nil,List.append_nil];omega)
      exact ⟨h3.1,by omega⟩
  ·injection h with h1 h2
   subst h1 h2
   exact ⟨hk,Nat.le_refl _⟩
theorem sourceO_pays {ts:List Tok} (hS:SmallT ts) (ne:Int) {l:List ItemT} {k':Nat} (h:sourceO ts ne 0=.ok l k'):(sourceF l).length≤20000 * k':=by
 unfold sourceF
 rw [joinF_nil]
 exact (srcLoop_pays hS ne _ _ _ _ _ h (by simp)).1
end Lx
end Go.Proofs.YtiljemkglhloeaaGreatDoor
namespace Go.Proofs.YtiljemkglhloeaaGreatDoor
set_option linter.unusedSimpArgs false
set_option linter.unusedVariables false
namespace Lx
open Go Go.RowKit
def numOk (z:Int):Prop:=-9223372036854775808≤z∧z≤9223372036854775807
mutual
def termOk:TermT→Prop
 | .mk _ _ z l=>numOk z∧termsOk l
def termsOk:List TermT→Prop
 | []=>True
 | x :: l=>termOk x∧termsOk l
end
theorem termsOk_iff:∀ l,termsOk l ↔ ∀ x ∈ l,termOk x
 | []=>by simp [termsOk]
 | x :: l=>by rw [termsOk,termsOk_iff l];simp
mutual
def goalOk:GoalT→Prop
 | .mk _ a b _ l gs=>termOk a∧termOk b∧termsOk l∧goalsOk gs
def goalsOk:List GoalT→Prop
 | []=>True
 | g :: l=>goalOk g∧goalsOk l
end
theorem goalsOk_iff:∀ l,goalsOk l ↔ ∀ x ∈ l,goalOk x
 | []=>by simp [goalsOk]
 | x :: l=>by rw [goalsOk,goalsOk_iff l];simp
def itemOk (x:ItemT):Prop:=(∀ t ∈ x.args,termOk t)∧goalOk x.body
theorem zeroT_ok:termOk zeroT:=by simp [zeroT,termOk,termsOk,numOk]
theorem zeroG_ok:goalOk zeroG:=by simp [zeroG,goalOk,goalsOk,termsOk,zeroT_ok]
theorem trueG_ok:goalOk trueG:=by simp [trueG,goalOk,goalsOk,termsOk,zeroT_ok]
def NumsT (ts:List Tok):Prop:=∀ t ∈ ts,numOk t.num
theorem NumsT.peek {ts:List Tok} (h:NumsT ts) (k:Nat):numOk (peekT ts k).num:=by
 unfold peekT
 rcases Nat.lt_or_ge k ts.length with h1 | h1
 ·rw [List.getElem?_eq_getElem h1]
  exact h _ (List.getElem_mem h1)
 ·rw [List.getElem?_eq_none h1]
  simp [numOk]
/-- All that a reading gives is so. -/
def Gives {α:Type} (rd:Nat→Out α) (P:α→Prop):Prop:=∀ k x k',rd k=.ok x k'→P x
theorem rowLoop_gives {α:Type} {rd:Nat→Out α} {P:α→Prop} {ts:List Tok} {mark:List UInt8} {most:Nat} (hr:Gives rd P):∀ (n k:Nat) (acc l:List α) (k':Nat),rowLoop rd ts mark most n k acc=.ok l k'→(∀ x ∈ acc,P x)→∀ x ∈ l,P x
 | 0,_,_,_,_,h,_=>by simp [rowLoop] at h
 | n+1,k,acc,l,k',h,h0=>by
  rw [rowLoop] at h
  split at h
  ·split at h
   ·cases h
   ·split at h
    ·cases h
    ·rename_i x k2 he
     refine rowLoop_gives hr n k2 _ _ _ h (fun y hy=>?_)
     rcases List.mem_append.1 hy with hy | hy
     ·exact h0 y hy
     ·obtain rfl:y=x:=by simpa using hy
      exact hr _ _ _ he
  ·injection h with h1 h2
   subst h1
   exact h0
theorem rowO_gives {α:Type} {rd:Nat→Out α} {P:α→Prop} {ts:List Tok} {mark:List UInt8} {most:Nat} (hr:Gives rd P):Gives (rowO rd ts mark most) (fun l=>∀ x ∈ l,P x):=by
 intro k l k' h
 unfold rowO at h
 split at h
 ·cases h
 ·rename_i x k2 he
  exact rowLoop_gives hr _ _ _ _ _ h (fun y hy=>(show y=x by simpa using hy) ▸ hr _ _ _ he)
theorem argsO_gives {α:Type} {rd:Nat→Out α} {P:α→Prop} {ts:List Tok} (hr:Gives rd P) {k:Nat} {l:List α} {k':Nat} (h:argsO rd ts k=.ok l k'):∀ x ∈ l,P x:=by
 unfold argsO at h
 split at h
 ·split at h
  ·cases h
  ·rename_i l1 k1 he
   have h1:=rowO_gives hr _ _ _ he
   split at h
   ·cases h
   ·injection h with h3 h4
    subst h3
    exact h1
 ·injection h with h1 h2
  subst h1
  simp
theorem termO_gives {ts:List Tok} (hS:NumsT ts):∀ (m:Nat) (ne:Int),Gives (termO ts m ne) termOk
 | 0,_,_,_,_,h=>by simp [termO] at h
 | m+1,ne,k,x,k',h=>by
  have hp:=hS.peek k
  rw [termO] at h
  split at h
  ·cases h
  ·split at h
   ·injection h with h1 h2
    subst h1
    simp [termOk,termsOk,numOk]
   ·split at h
    ·injection h with h1 h2
     subst h1
     simp [termOk,termsOk,hp]
    ·split at h
     ·cases h
     ·split at h
      ·cases h
      ·rename_i l k2 he2
       have h2:=argsO_gives (termO_gives hS m (ne+1)) he2
       injection h with h3 h4
       subst h3
       rw [termOk,termsOk_iff]
       exact ⟨by simp [numOk],h2⟩
theorem joinG_ok (kind:Int) (l:List GoalT) (h:∀ g ∈ l,goalOk g):goalOk (joinG kind l):=by
 have hm:goalOk (.mk kind zeroT zeroT [] [] l):=by
  rw [goalOk,goalsOk_iff]
  exact ⟨zeroT_ok,zeroT_ok,by simp [termsOk],h⟩
 match l,h,hm with
 | [],_,hm=>exact hm
 | [g],h,_=>exact h g (by simp)
 | _ :: _ :: _,_,hm=>exact hm
theorem joinO_gives {rd:Nat→Out GoalT} {ts:List Tok} {mark:List UInt8} {kind:Int} (hr:Gives rd goalOk):Gives (joinO rd ts mark kind) goalOk:=by
 intro k x k' h
 unfold joinO at h
 split at h
 ·cases h
 ·rename_i l k2 he
  injection h with h1 h2
  subst h1
  exact joinG_ok kind l (rowO_gives hr _ _ _ he)
theorem goalO_gives {rd:Nat→Out GoalT} {ts:List Tok} (hr:Gives rd goalOk):Gives (goalO rd ts) goalOk:=joinO_gives (joinO_gives hr)
theorem primO_gives {ts:List Tok} (hS:NumsT ts):∀ (m:Nat) (ne:Int),Gives (primO ts m ne) goalOk
 | 0,_,_,_,_,h=>by simp [primO] at h
 | m+1,ne,k,x,k',h=>by
  have IH:=primO_gives hS m (ne+1)
  have HT:=termO_gives hS 66 (ne+1)
  rw [primO] at h
  split at h
  ·cases h
  ·split at h
   ·injection h with h1 h2
    subst h1
    simp [goalOk,goalsOk,termsOk,zeroT_ok]
   ·split at h
    ·injection h with h1 h2
     subst h1
     simp [goalOk,goalsOk,termsOk,zeroT_ok]
    ·split at h
     ·split at h
      ·cases h
      ·rename_i g k1 e1
       have h1:=IH _ _ _ e1
       injection h with h3 h4
       subst h3
       simp [goalOk,goalsOk,termsOk,zeroT_ok,h1]
     ·split at h
      ·split at h
       ·cases h
       ·rename_i t k1 e1
        have h1:=HT _ _ _ e1
        injection h with h3 h4
        subst h3
        simp [goalOk,goalsOk,termsOk,zeroT_ok,h1]
      ·split at h
       ·unfold guardO at h
        split at h
        ·cases h
        ·rename_i g k1 e1
         have h1:=IH _ _ _ e1
         split at h
         ·cases h
         ·split at h
          ·cases h
          ·split at h
           ·cases h
           ·split at h
            ·cases h
            ·rename_i g2 k5 e5
             have h5:=IH _ _ _ e5
             injection h with h6 h7
             subst h6
             simp [goalOk,goalsOk,termsOk,zeroT_ok,h1,h5]
       ·split at h
        ·split at h
         ·cases h
         ·rename_i g k1 e1
          have h1:=goalO_gives IH _ _ _ e1
          split at h
          ·cases h
          ·injection h with h6 h7
           subst h6
           exact h1
        ·unfold uocO at h
         split at h
         ·cases h
         ·rename_i t k1 e1
          have h1:=HT _ _ _ e1
          split at h
          ·split at h
           ·cases h
           ·rename_i u k2 e2
            have h2:=HT _ _ _ e2
            injection h with h3 h4
            subst h3
            simp [goalOk,goalsOk,termsOk,h1,h2]
          ·split at h
           ·obtain ⟨tk,tn,tz,tl⟩:=t
            injection h with h3 h4
            subst h3
            rw [termOk] at h1
            simp [goalOk,goalsOk,zeroT_ok,TermT.args,h1.2]
           ·cases h
theorem itemO_gives {ts:List Tok} (hS:NumsT ts) (ne:Int):Gives (itemO ts ne) itemOk:=by
 intro k x k' h
 unfold itemO at h
 split at h
 ·unfold typeItemO at h
  repeat' split at h
  all_goals first
   | (cases h;done)
   | (injection h with h5 h6;subst h5;exact ⟨by simp,zeroG_ok⟩)
 ·split at h
  ·unfold predO at h
   repeat' split at h
   all_goals first
    | (cases h;done)
    | (injection h with h5 h6;subst h5;exact ⟨by simp,zeroG_ok⟩)
  ·split at h
   ·unfold modeItemO at h
    repeat' split at h
    all_goals first
     | (cases h;done)
     | (injection h with h5 h6;subst h5;exact ⟨by simp,zeroG_ok⟩)
   ·unfold clauseO at h
    split at h
    ·cases h
    ·split at h
     ·cases h
     ·rename_i l k2 e2
      have h2:=argsO_gives (termO_gives hS 66 ne) e2
      split at h
      ·split at h
       ·cases h
       ·rename_i g k3 e3
        have h3:=goalO_gives (primO_gives hS 66 ne) _ _ _ e3
        injection h with h5 h6
        subst h5
        exact ⟨h2,h3⟩
      ·injection h with h5 h6
       subst h5
       exact ⟨h2,trueG_ok⟩
theorem srcLoop_gives {ts:List Tok} (hS:NumsT ts) (ne:Int):∀ (m k:Nat) (acc l:List ItemT) (k':Nat),srcLoop ts ne m k acc=.ok l k'→(∀ x ∈ acc,itemOk x)→∀ x ∈ l,itemOk x
 | 0,_,_,_,_,h,_=>by simp [srcLoop] at h
 | m+1,k,acc,l,k',h,hk=>by
  rw [srcLoop] at h
  split at h
  ·split at h
   ·cases h
   ·split at h
    ·cases h
    ·rename_i x k1 e1
     have h1:=itemO_gives hS ne _ _ _ e1
     split at h
     ·cases h
     ·refine srcLoop_gives hS ne m _ _ _ _ h (fun y hy=>?_)
      rcases List.mem_append.1 hy with hy | hy
      ·exact hk y hy
      ·obtain rfl:y=x:=by simpa using hy
       exact h1
  ·injection h with h1 h2
   subst h1
   exact hk
theorem sourceO_gives {ts:List Tok} (hS:NumsT ts) (ne:Int) {l:List ItemT} {k':Nat} (h:sourceO ts ne 0=.ok l k'):∀ x ∈ l,itemOk x:=srcLoop_gives hS ne _ _ _ _ _ h (by simp)
end Lx
end Go.Proofs.YtiljemkglhloeaaGreatDoor
