/- What is read without brackets around goals has just the tokens that were read. No program stands in this text but the things' form. Conditions: each token is one by itself; no bracket stands but behind a name. -/
import Derived.Test.YtajomoclbpobhaaGreatDoorPWf
namespace Go.Proofs.YtajomoclbpobhaaGreatDoor
set_option linter.unusedSimpArgs false
set_option linter.unusedVariables false
namespace Lx
open Go Go.RowKit
def slc (ts:List Tok) (k k':Nat):List Tok:=(ts.drop k).take (k' - k)
theorem slc_app {ts:List Tok} {a b c:Nat} (h1:a≤b) (h2:b≤c):slc ts a c=slc ts a b++slc ts b c:=by
 unfold slc
 rw [show c - a=(b - a)+(c - b) by omega,List.take_add,List.drop_drop,show a+(b - a)=b by omega]
theorem slc_self (ts:List Tok) (k:Nat):slc ts k k=[]:=by simp [slc]
theorem slc_one {ts:List Tok} {k:Nat} (h:k < ts.length):slc ts k (k+1)=[peekT ts k]:=by
 unfold slc peekT
 rw [show k+1 - k=1 by omega,List.getElem?_eq_getElem h,List.drop_eq_getElem_cons h]
 rfl
theorem slc_all (ts:List Tok):slc ts 0 ts.length=ts:=by simp [slc]
theorem hasT_text {ts:List Tok} {k:Nat} {s:List UInt8} (h:hasT ts k s=true):(peekT ts k).text=s:=by simpa [hasT] using h
theorem hasT_tok {ts:List Tok} (hS:GoodT ts) {k:Nat} {s:List UInt8} {t:Tok} (h:hasT ts k s=true) (hs:s ≠ []) (ht:tokAt s=some t):k < ts.length∧peekT ts k=t∧slc ts k (k+1)=[t]:=by
 have hk:=hasT_in h hs
 have h1:=hS.peek hk
 rw [hasT_text h] at h1
 have h2:peekT ts k=t:=by
  have:=h1.1.symm.trans ht
  exact Option.some.inj this
 exact ⟨hk,h2,by rw [slc_one hk,h2]⟩
theorem expO_tok {ts:List Tok} (hS:GoodT ts) {k k':Nat} {s:List UInt8} {t:Tok} {u:Unit} (h:expO ts k s=.ok u k') (hs:s ≠ []) (ht:tokAt s=some t):k'=k+1∧k < ts.length∧peekT ts k=t∧slc ts k k'=[t]:=by
 unfold expO at h
 split at h
 ·rename_i hc
  injection h with _ h2
  subst h2
  obtain ⟨a,b,c⟩:=hasT_tok hS hc hs ht
  exact ⟨rfl,a,b,c⟩
 ·cases h
def Sl {α:Type} (ts:List Tok) (rd:Nat→Out α) (K:α→List Tok):Prop:=∀ k x k',rd k=.ok x k'→k≤k'∧K x=slc ts k k'
theorem joinT_snoc (M:List Tok):∀ (l:List (List Tok)) (x:List Tok),joinT M (l++[x])=if l=[] then x else joinT M l++(M++x)
 | [],_=>rfl
 | [y],x=>by simp [joinT]
 | y :: z :: l,x=>by
  have h:=joinT_snoc M (z :: l) x
  simp only [List.cons_append,joinT,reduceCtorEq,if_false] at h ⊢
  rw [h]
  simp [List.append_assoc]
theorem rowLoop_sl {α:Type} {rd:Nat→Out α} {K:α→List Tok} {ts:List Tok} (hS:GoodT ts) {mark:List UInt8} {t:Tok} (hm:mark ≠ []) (ht:tokAt mark=some t) {most:Nat} (hr:∀ k x k',peekT ts k=t→rd (k+1)=.ok x k'→k+1≤k'∧K x=slc ts (k+1) k') (k0:Nat):∀ (n k:Nat) (acc l:List α) (k':Nat),rowLoop rd ts mark most n k acc=.ok l k'→acc ≠ []→k0≤k→joinT [t] (acc.map K)=slc ts k0 k→k≤k'∧joinT [t] (l.map K)=slc ts k0 k'∧l ≠ []
 | 0,_,_,_,_,h,_,_,_=>by simp [rowLoop] at h
 | n+1,k,acc,l,k',h,h0,hk0,hk=>by
  rw [rowLoop] at h
  split at h
  ·rename_i hc
   obtain ⟨q1,q2,q3⟩:=hasT_tok hS hc hm ht
   split at h
   ·cases h
   ·split at h
    ·cases h
    ·rename_i x k2 he
     obtain ⟨h1,h2⟩:=hr _ _ _ q2 he
     have h3:=rowLoop_sl hS hm ht hr k0 n k2 _ _ _ h (by simp) (by omega) (by
      rw [List.map_append,List.map_cons,List.map_nil,joinT_snoc,if_neg (by simpa using h0),hk,h2,slc_app (a:=k0) (b:=k) (c:=k2) hk0 (by omega),slc_app (a:=k) (b:=k+1) (c:=k2) (by omega) h1,q3])
     exact ⟨by omega,h3.2⟩
  ·injection h with h1 h2
   subst h1 h2
   exact ⟨Nat.le_refl _,hk,h0⟩
theorem rowO_sl' {α:Type} {rd:Nat→Out α} {K:α→List Tok} {ts:List Tok} (hS:GoodT ts) {mark:List UInt8} {t:Tok} (hm:mark ≠ []) (ht:tokAt mark=some t) {most:Nat} {k:Nat} (h0:∀ x k',rd k=.ok x k'→k≤k'∧K x=slc ts k k') (hr:∀ k x k',peekT ts k=t→rd (k+1)=.ok x k'→k+1≤k'∧K x=slc ts (k+1) k') {l:List α} {k':Nat} (h:rowO rd ts mark most k=.ok l k'):k≤k'∧joinT [t] (l.map K)=slc ts k k'∧l ≠ []:=by
 unfold rowO at h
 split at h
 ·cases h
 ·rename_i x k2 he
  obtain ⟨h1,h2⟩:=h0 _ _ he
  have h3:=rowLoop_sl hS hm ht hr k _ _ _ _ _ h (by simp) h1 h2
  exact ⟨by omega,h3.2⟩
theorem rowO_sl {α:Type} {rd:Nat→Out α} {K:α→List Tok} {ts:List Tok} (hS:GoodT ts) {mark:List UInt8} {t:Tok} (hm:mark ≠ []) (ht:tokAt mark=some t) {most:Nat} (hr:Sl ts rd K) {k:Nat} {l:List α} {k':Nat} (h:rowO rd ts mark most k=.ok l k'):k≤k'∧joinT [t] (l.map K)=slc ts k k'∧l ≠ [] :=
 rowO_sl' hS hm ht (fun x k' e=>hr _ _ _ e) (fun k x k' _ e=>hr _ _ _ e) h
theorem argsO_sl {α:Type} {rd:Nat→Out α} {K:α→List Tok} {ts:List Tok} (hS:GoodT ts) (hr:Sl ts rd K) {k:Nat} {l:List α} {k':Nat} (h:argsO rd ts k=.ok l k'):k≤k'∧argsT (l.map K)=slc ts k k':=by
 unfold argsO at h
 split at h
 ·rename_i hc
  obtain ⟨q1,q2,q3⟩:=hasT_tok (t:=mkT [40]) hS hc (by simp) rfl
  split at h
  ·cases h
  ·rename_i l1 k1 he
   obtain ⟨h1,h2,h3⟩:=rowO_sl (t:=mkT [44]) hS (by simp) rfl hr he
   split at h
   ·cases h
   ·rename_i u k2 he2
    obtain ⟨e1,e2,e3,e4⟩:=expO_tok (t:=mkT [41]) hS he2 (by simp) rfl
    injection h with h5 h6
    subst h5 h6
    refine ⟨by omega,?_⟩
    unfold argsT
    rw [if_neg (by simpa using h3),h2,slc_app (a:=k) (b:=k+1) (c:=k2) (by omega) (by omega),slc_app (a:=k+1) (b:=k1) (c:=k2) h1 (by omega),q3,e4]
    rfl
 ·injection h with h1 h2
  subst h1 h2
  exact ⟨Nat.le_refl _,by rw [slc_self];rfl⟩
theorem nameO_sl {ts:List Tok} (hS:GoodT ts) {k:Nat} {s:List UInt8} {k':Nat} (h:nameO ts k=.ok s k'):k'=k+1∧slc ts k k'=[tokOf s]∧(peekT ts k).kind=1∧resv (bs (peekT ts k).text).toList=false:=by
 obtain ⟨h1,h2,h3,h4⟩:=nameO_W hS h
 subst h2
 refine ⟨rfl,?_,h3,?_⟩
 ·rw [slc_one (peek_kind (by rw [h3];decide)),(W.of h1).2]
 ·rw [h1.2]
  exact h4
theorem varO_sl {ts:List Tok} (hS:GoodT ts):Sl ts (varO ts) (fun s=>[tokOf s]):=by
 intro k s k' h
 have hf:=varO_fwd ts _ _ _ h
 obtain ⟨h1,h2⟩:=varO_W hS h
 subst h2
 refine ⟨by omega,?_⟩
 show [tokOf s]=_
 rw [slc_one (by omega),(W.of h1).2]
theorem termO_sl {ts:List Tok} (hS:GoodT ts):∀ (m:Nat) (ne:Int),Sl ts (termO ts m ne) termK
 | 0,_,_,_,_,h=>by simp [termO] at h
 | m+1,ne,k,x,k',h=>by
  rw [termO] at h
  split at h
  ·cases h
  ·split at h
   ·rename_i hk
    have hp:=hS.kind (ts:=ts) (k:=k) (by rw [hk];decide)
    injection h with h1 h2
    subst h1 h2
    refine ⟨by omega,?_⟩
    rw [termK,slc_one (peek_kind (by rw [hk];decide)),if_neg (by decide),(W.of hp).2]
    rfl
   ·split at h
    ·rename_i hk
     have hp:=hS.kind (ts:=ts) (k:=k) (by rw [hk];decide)
     have hn:=tok_numW hp.1 hk
     injection h with h1 h2
     subst h1 h2
     refine ⟨by omega,?_⟩
     rw [termK,slc_one (peek_kind (by rw [hk];decide)),if_pos rfl,← hn,(W.of hp).2]
     rfl
    ·split at h
     ·cases h
     ·rename_i s k1 e1
      obtain ⟨n1,n2,_⟩:=nameO_sl hS e1
      split at h
      ·cases h
      ·rename_i l k2 he2
       obtain ⟨h1,h2⟩:=argsO_sl hS (termO_sl hS m (ne+1)) he2
       injection h with h3 h4
       subst h3 h4
       refine ⟨by omega,?_⟩
       rw [termK,termsK_map,h2,if_neg (by decide),slc_app (a:=k) (b:=k1) (c:=k2) (by omega) h1,n2]
       rfl
theorem typeO_sl {ts:List Tok} (hS:GoodT ts):∀ (m:Nat) (ne:Int),Sl ts (typeO ts m ne) typeK
 | 0,_,_,_,_,h=>by simp [typeO] at h
 | m+1,ne,k,x,k',h=>by
  rw [typeO] at h
  split at h
  ·cases h
  ·split at h
   ·rename_i hk
    have hp:=hS.kind (ts:=ts) (k:=k) (by rw [hk];decide)
    injection h with h1 h2
    subst h1 h2
    refine ⟨by omega,?_⟩
    rw [typeK,slc_one (peek_kind (by rw [hk];decide)),(W.of hp).2]
    rfl
   ·split at h
    ·rename_i hc
     obtain ⟨q1,q2,q3⟩:=hasT_tok (t:=kwT [105,110,116]) hS hc (by simp) rfl
     injection h with h1 h2
     subst h1 h2
     refine ⟨by omega,?_⟩
     rw [typeK,q3,(W.of (t:=kwT [105,110,116]) (wt_kw rfl)).2]
     rfl
    ·split at h
     ·cases h
     ·rename_i s k1 e1
      obtain ⟨n1,n2,_⟩:=nameO_sl hS e1
      split at h
      ·cases h
      ·rename_i l k2 he2
       obtain ⟨h1,h2⟩:=argsO_sl hS (typeO_sl hS m (ne+1)) he2
       injection h with h3 h4
       subst h3 h4
       refine ⟨by omega,?_⟩
       rw [typeK,typesK_map,h2,slc_app (a:=k) (b:=k1) (c:=k2) (by omega) h1,n2]
       rfl
theorem ctorO_sl {ts:List Tok} (hS:GoodT ts) (ne:Int):Sl ts (ctorO ts ne) ctorK:=by
 intro k x k' h
 unfold ctorO at h
 split at h
 ·cases h
 ·rename_i s k1 e1
  obtain ⟨n1,n2,_⟩:=nameO_sl hS e1
  split at h
  ·cases h
  ·rename_i l k2 he2
   obtain ⟨h1,h2⟩:=argsO_sl hS (typeO_sl hS 66 ne) he2
   injection h with h3 h4
   subst h3 h4
   refine ⟨by omega,?_⟩
   rw [ctorK,typesK_map,h2,slc_app (a:=k) (b:=k1) (c:=k2) (by omega) h1,n2]
   rfl
theorem wayO_sl {ts:List Tok} (hS:GoodT ts):Sl ts (wayO ts) wayK:=by
 intro k x k' h
 unfold wayO at h
 split at h
 ·rename_i hc
  obtain ⟨q1,q2,q3⟩:=hasT_tok (t:=kwT [105,110]) hS hc (by simp) rfl
  injection h with h1 h2
  subst h1 h2
  exact ⟨by omega,by rw [q3];rfl⟩
 ·split at h
  ·rename_i hc
   obtain ⟨q1,q2,q3⟩:=hasT_tok (t:=kwT [111,117,116]) hS hc (by simp) rfl
   injection h with h1 h2
   subst h1 h2
   exact ⟨by omega,by rw [q3];rfl⟩
  ·cases h
/-- No bracket stands but behind a name that isn't reserved. -/
def NB (ts:List Tok):Prop:=∀ k,k < ts.length→(peekT ts k).text=[40]→∃ j,k=j+1∧(peekT ts j).kind=1∧resv (bs (peekT ts j).text).toList=false
/-- What stands ahead is no such name. -/
def PB (ts:List Tok) (k:Nat):Prop:=∀ j,k=j+1→¬ ((peekT ts j).kind=1∧resv (bs (peekT ts j).text).toList=false)
theorem pb_mark {ts:List Tok} {k:Nat} {s:List UInt8} (h:peekT ts k=mkT s):PB ts (k+1):=by
 rintro j e ⟨h1,_⟩
 obtain rfl:j=k:=by omega
 rw [h] at h1
 have h1:(4:Int)=1:=h1
 exact absurd h1 (by decide)
theorem pb_kw {ts:List Tok} {k:Nat} {s:List UInt8} (h:peekT ts k=kwT s) (hr:resv s=true):PB ts (k+1):=by
 rintro j e ⟨_,h1⟩
 obtain rfl:j=k:=by omega
 rw [h] at h1
 have e2:(bs (kwT s).text).toList=s:=by rw [ByteArray.toList_eq];rfl
 rw [e2,hr] at h1
 cases h1
def SlG (ts:List Tok) (rd:Nat→Out GoalT) (bad:List Int):Prop:=∀ k x k',PB ts k→rd k=.ok x k'→(k≤k'∧goalK x=slc ts k k')∧(∀ b ∈ bad,kindG x ≠ b)∧(kindG x=1→hasT ts k [116,114,117,101]=true)
theorem kindG_joinG (kind:Int) (l:List GoalT):(∃ g,l=[g]∧joinG kind l=g) ∨ joinG kind l=.mk kind zeroT zeroT [] [] l:=by
 match l with
 | []=>exact .inr rfl
 | [g]=>exact .inl ⟨g,rfl,rfl⟩
 | _ :: _ :: _=>exact .inr rfl
theorem rowLoop_all {α:Type} {rd:Nat→Out α} {P:α→Prop} {ts:List Tok} (hS:GoodT ts) {mark:List UInt8} {t:Tok} (hm:mark ≠ []) (ht:tokAt mark=some t) {most:Nat} (hr:∀ k x k',peekT ts k=t→rd (k+1)=.ok x k'→P x):∀ (n k:Nat) (acc l:List α) (k':Nat),rowLoop rd ts mark most n k acc=.ok l k'→(∀ x ∈ acc,P x)→∀ x ∈ l,P x
 | 0,_,_,_,_,h,_=>by simp [rowLoop] at h
 | n+1,k,acc,l,k',h,h0=>by
  rw [rowLoop] at h
  split at h
  ·rename_i hc
   obtain ⟨q1,q2,q3⟩:=hasT_tok hS hc hm ht
   split at h
   ·cases h
   ·split at h
    ·cases h
    ·rename_i x k2 he
     refine rowLoop_all hS hm ht hr n k2 _ _ _ h (fun y hy=>?_)
     rcases List.mem_append.1 hy with hy | hy
     ·exact h0 y hy
     ·obtain rfl:y=x:=by simpa using hy
      exact hr _ _ _ q2 he
  ·injection h with h1 h2
   subst h1
   exact h0
theorem rowO_all {α:Type} {rd:Nat→Out α} {P:α→Prop} {ts:List Tok} (hS:GoodT ts) {mark:List UInt8} {t:Tok} (hm:mark ≠ []) (ht:tokAt mark=some t) {most:Nat} {k:Nat} (h0:∀ x k',rd k=.ok x k'→P x) (hr:∀ k x k',peekT ts k=t→rd (k+1)=.ok x k'→P x) {l:List α} {k':Nat} (h:rowO rd ts mark most k=.ok l k'):∀ x ∈ l,P x:=by
 unfold rowO at h
 split at h
 ·cases h
 ·rename_i x k2 he
  exact rowLoop_all hS hm ht hr _ _ _ _ _ h (fun y hy=>by
   have e:y=x:=by simpa using hy
   rw [e]
   exact h0 _ _ he)
theorem rowO_first {α:Type} {rd:Nat→Out α} {ts:List Tok} {mark:List UInt8} {most k k':Nat} {g:α} (h:rowO rd ts mark most k=.ok [g] k'):∃ k2,rd k=.ok g k2:=by
 unfold rowO at h
 split at h
 ·cases h
 ·rename_i x k2 he
  have hl:∀ (n k:Nat) (acc l:List α) (k':Nat),rowLoop rd ts mark most n k acc=.ok l k'→acc ≠ []→l.head?=acc.head?:=by
   intro n
   induction n with
   | zero=>intro _ _ _ _ h;simp [rowLoop] at h
   | succ n ih =>
    intro k acc l k' h ha
    rw [rowLoop] at h
    split at h
    ·split at h
     ·cases h
     ·split at h
      ·cases h
      ·rw [ih _ _ _ _ h (by simp)]
       cases acc with
       | nil=>exact absurd rfl ha
       | cons a r=>rfl
    ·injection h with h1 h2
     rw [h1]
  have:=hl _ _ _ _ _ h (by simp)
  have e:g=x:=by simpa using this
  exact ⟨k2,by rw [he,e]⟩
theorem joinO_sl {rd:Nat→Out GoalT} {ts:List Tok} (hS:GoodT ts) {mark:List UInt8} {kind:Int} (KW:Int × List Tok→List Tok) (bad:List Int) (hc:(kind=5∧mark=[44]∧KW=primK∧bad=[5,6]) ∨ (kind=6∧mark=[59]∧KW=conjK∧bad=[6])) (hr:SlG ts rd bad):SlG ts (joinO rd ts mark kind) (if kind=5 then [6] else []):=by
 intro k x k' hpb h
 have hm:mark ≠ []:=by rcases hc with ⟨_,rfl,_⟩ | ⟨_,rfl,_⟩ <;> simp
 have ht:tokAt mark=some (mkT mark):=by rcases hc with ⟨_,rfl,_⟩ | ⟨_,rfl,_⟩ <;> rfl
 unfold joinO at h
 split at h
 ·cases h
 ·rename_i l k2 he
  injection h with h1 h2
  subst h1 h2
  obtain ⟨r1,r2,r3⟩:=rowO_sl' (K:=goalK) hS hm ht (fun x k' e=>(hr _ _ _ hpb e).1) (fun k x k' q e=>(hr _ _ _ (pb_mark q) e).1) he
  have hb:=rowO_all (P:=fun x=>∀ b ∈ bad,kindG x ≠ b) hS hm ht (fun x k' e=>(hr _ _ _ hpb e).2.1) (fun k x k' q e=>(hr _ _ _ (pb_mark q) e).2.1) he
  have hKW:∀ g ∈ l,KW (kindG g,goalK g)=goalK g:=by
   intro g hg
   have hb2:=hb g hg
   rcases hc with ⟨_,_,rfl,rfl⟩ | ⟨_,_,rfl,rfl⟩
   ·unfold primK conjK
    rw [if_neg (hb2 5 (by simp)),if_neg (hb2 6 (by simp))]
   ·unfold conjK
    rw [if_neg (hb2 6 (by simp))]
  rcases kindG_joinG kind l with ⟨g,rfl,hj⟩ | hj
  ·rw [hj]
   obtain ⟨k3,e3⟩:=rowO_first he
   obtain ⟨_,q2,q3⟩:=hr _ _ _ hpb e3
   refine ⟨⟨r1,?_⟩,?_,q3⟩
   ·exact r2
   ·intro b hbm
    rcases hc with ⟨rfl,_,_,rfl⟩ | ⟨rfl,_,_,rfl⟩
    ·simp only [if_true,List.mem_singleton] at hbm
     rw [hbm]
     exact q2 6 (by simp)
    ·simp at hbm
  ·rw [hj]
   have hk:goalK (.mk kind zeroT zeroT [] [] l)=joinT [mkT mark] (l.map goalK):=by
    have e1:((goalsK l).map KW)=l.map goalK:=by
     rw [goalsK_map,List.map_map]
     exact List.map_congr_left hKW
    rw [goalK]
    unfold goalKW
    rcases hc with ⟨rfl,rfl,rfl,_⟩ | ⟨rfl,rfl,rfl,_⟩
    ·simp only [show ¬ ((5:Int)=1) by decide,show ¬ ((5:Int)=2) by decide,show ¬ ((5:Int)=3) by decide,show ¬ ((5:Int)=4) by decide,if_false,if_true]
     rw [e1]
    ·simp only [show ¬ ((6:Int)=1) by decide,show ¬ ((6:Int)=2) by decide,show ¬ ((6:Int)=3) by decide,show ¬ ((6:Int)=4) by decide,show ¬ ((6:Int)=5) by decide,if_false,if_true]
     rw [e1]
   refine ⟨⟨r1,by rw [hk];exact r2⟩,?_,?_⟩
   ·intro b hbm
    rcases hc with ⟨rfl,_⟩ | ⟨rfl,_⟩
    ·simp only [if_true,List.mem_singleton] at hbm
     rw [hbm]
     exact (by decide:(5:Int) ≠ 6)
    ·simp at hbm
   ·intro e
    exfalso
    rcases hc with ⟨rfl,_⟩ | ⟨rfl,_⟩
    ·have e:(5:Int)=1:=e
     exact absurd e (by decide)
    ·have e:(6:Int)=1:=e
     exact absurd e (by decide)
theorem goalO_sl {rd:Nat→Out GoalT} {ts:List Tok} (hS:GoodT ts) (hr:SlG ts rd [5,6]):SlG ts (goalO rd ts) []:=by
 have h1:=joinO_sl (mark:=[44]) (kind:=5) hS primK [5,6] (.inl ⟨rfl,rfl,rfl,rfl⟩) hr
 have h2:=joinO_sl (mark:=[59]) (kind:=6) hS conjK [6] (.inr ⟨rfl,rfl,rfl,rfl⟩) h1
 exact h2
theorem primK_of {g:GoalT} (h:∀ b ∈ [(5:Int),6],kindG g ≠ b):primK (kindG g,goalK g)=goalK g:=by
 unfold primK conjK
 rw [if_neg (h 5 (by simp)),if_neg (h 6 (by simp))]
theorem primO_sl {ts:List Tok} (hS:GoodT ts) (hN:NB ts):∀ (m:Nat) (ne:Int),SlG ts (primO ts m ne) [5,6]
 | 0,_,_,_,_,_,h=>by simp [primO] at h
 | m+1,ne,k,x,k',hpb,h=>by
  have IH:=primO_sl hS hN m (ne+1)
  have HT:=termO_sl hS 66 (ne+1)
  rw [primO] at h
  split at h
  ·cases h
  ·split at h
   ·rename_i hc
    obtain ⟨q1,q2,q3⟩:=hasT_tok (t:=kwT [116,114,117,101]) hS hc (by simp) rfl
    injection h with h1 h2
    subst h1 h2
    exact ⟨⟨by omega,by rw [q3];rfl⟩,by simp [kindG],fun _=>hc⟩
   ·split at h
    ·rename_i hc
     obtain ⟨q1,q2,q3⟩:=hasT_tok (t:=kwT [102,97,105,108]) hS hc (by simp) rfl
     injection h with h1 h2
     subst h1 h2
     exact ⟨⟨by omega,by rw [q3];rfl⟩,by simp [kindG],fun e=>by simp [kindG] at e⟩
    ·split at h
     ·rename_i hc
      obtain ⟨q1,q2,q3⟩:=hasT_tok (t:=kwT [110,111,116]) hS hc (by simp) rfl
      split at h
      ·cases h
      ·rename_i g k1 e1
       obtain ⟨⟨h1,h2⟩,h3,_⟩:=IH _ _ _ (pb_kw q2 rfl) e1
       injection h with h5 h6
       subst h5 h6
       refine ⟨⟨by omega,?_⟩,by simp [kindG],fun e=>by simp [kindG] at e⟩
       rw [goalK,goalsK,goalsK]
       simp only [goalKW,show ¬ ((7:Int)=1) by decide,show ¬ ((7:Int)=2) by decide,show ¬ ((7:Int)=3) by decide,show ¬ ((7:Int)=4) by decide,show ¬ ((7:Int)=5) by decide,show ¬ ((7:Int)=6) by decide,if_false,if_true]
       rw [show partK [(kindG g,goalK g)] 0=primK (kindG g,goalK g) from rfl,primK_of h3,h2,slc_app (a:=k) (b:=k+1) (c:=k1) (by omega) h1,q3]
       rfl
     ·split at h
      ·rename_i hc
       obtain ⟨q1,q2,q3⟩:=hasT_tok (t:=kwT [116,104,114,111,119]) hS hc (by simp) rfl
       split at h
       ·cases h
       ·rename_i t k1 e1
        obtain ⟨h1,h2⟩:=HT _ _ _ e1
        injection h with h5 h6
        subst h5 h6
        refine ⟨⟨by omega,?_⟩,by simp [kindG],fun e=>by simp [kindG] at e⟩
        rw [goalK]
        simp only [goalKW,show ¬ ((8:Int)=1) by decide,show ¬ ((8:Int)=2) by decide,show ¬ ((8:Int)=3) by decide,show ¬ ((8:Int)=4) by decide,show ¬ ((8:Int)=5) by decide,show ¬ ((8:Int)=6) by decide,show ¬ ((8:Int)=7) by decide,if_false,if_true]
        rw [h2,slc_app (a:=k) (b:=k+1) (c:=k1) (by omega) h1,q3]
        rfl
      ·split at h
       ·rename_i hc
        obtain ⟨q1,q2,q3⟩:=hasT_tok (t:=kwT [116,114,121]) hS hc (by simp) rfl
        unfold guardO at h
        split at h
        ·cases h
        ·rename_i g k1 e1
         obtain ⟨⟨h1,h2⟩,h3,_⟩:=IH _ _ _ (pb_kw q2 rfl) e1
         split at h
         ·cases h
         ·rename_i u k2 e2
          obtain ⟨a1,a2,a3,a4⟩:=expO_tok (t:=kwT [99,97,116,99,104]) hS e2 (by simp) rfl
          split at h
          ·cases h
          ·rename_i s k3 e3
           obtain ⟨b1,b2⟩:=varO_sl hS _ _ _ e3
           have b2:[tokOf s]=slc ts k2 k3:=b2
           split at h
           ·cases h
           ·rename_i u2 k4 e4
            obtain ⟨c1,c2,c3,c4⟩:=expO_tok (t:=kwT [116,104,101,110]) hS e4 (by simp) rfl
            split at h
            ·cases h
            ·rename_i g2 k5 e5
             subst c1
             obtain ⟨⟨d1,d2⟩,d3,_⟩:=IH _ _ _ (pb_kw c3 rfl) e5
             injection h with h6 h7
             subst h6 h7
             refine ⟨⟨by omega,?_⟩,by simp [kindG],fun e=>by simp [kindG] at e⟩
             rw [goalK,goalsK,goalsK,goalsK]
             simp only [goalKW,show ¬ ((9:Int)=1) by decide,show ¬ ((9:Int)=2) by decide,show ¬ ((9:Int)=3) by decide,show ¬ ((9:Int)=4) by decide,show ¬ ((9:Int)=5) by decide,show ¬ ((9:Int)=6) by decide,show ¬ ((9:Int)=7) by decide,show ¬ ((9:Int)=8) by decide,if_false,if_true]
             rw [show partK [(kindG g,goalK g),(kindG g2,goalK g2)] 0=primK (kindG g,goalK g) from rfl,show partK [(kindG g,goalK g),(kindG g2,goalK g2)] 1=primK (kindG g2,goalK g2) from rfl,primK_of h3,primK_of d3,h2,d2]
             rw [slc_app (a:=k) (b:=k+1) (by omega) (by omega:k+1≤k5),slc_app (a:=k+1) (b:=k1) h1 (by omega:k1≤k5),slc_app (a:=k1) (b:=k2) (by omega) (by omega:k2≤k5),slc_app (a:=k2) (b:=k3) b1 (by omega:k3≤k5),slc_app (a:=k3) (b:=k3+1) (by omega) d1,q3,a4,← b2,c4]
             simp
       ·split at h
        ·rename_i hc
         exfalso
         have hk:=hasT_in hc (by simp)
         obtain ⟨j,e1,e2,e3⟩:=hN k hk (hasT_text hc)
         exact hpb j e1 ⟨e2,e3⟩
        ·unfold uocO at h
         split at h
         ·cases h
         ·rename_i t k1 e1
          obtain ⟨h1,h2⟩:=HT _ _ _ e1
          split at h
          ·rename_i hc
           obtain ⟨q1,q2,q3⟩:=hasT_tok (t:=mkT [61]) hS hc (by simp) rfl
           split at h
           ·cases h
           ·rename_i u k2 e2
            obtain ⟨d1,d2⟩:=HT _ _ _ e2
            injection h with h3 h4
            subst h3 h4
            refine ⟨⟨by omega,?_⟩,by simp [kindG],fun e=>by simp [kindG] at e⟩
            rw [goalK]
            simp only [goalKW,show ¬ ((3:Int)=1) by decide,show ¬ ((3:Int)=2) by decide,if_false,if_true]
            rw [h2,d2,slc_app (a:=k) (b:=k1) h1 (by omega:k1≤k2),slc_app (a:=k1) (b:=k1+1) (by omega) d1,q3]
            rfl
          ·split at h
           ·rename_i hk3
            obtain ⟨tk,tn,tz,tl⟩:=t
            have hk3:tk=3:=hk3
            subst hk3
            injection h with h3 h4
            subst h3 h4
            refine ⟨⟨h1,?_⟩,by simp [kindG],fun e=>by simp [kindG] at e⟩
            rw [goalK]
            simp only [goalKW,show ¬ ((4:Int)=1) by decide,show ¬ ((4:Int)=2) by decide,show ¬ ((4:Int)=3) by decide,if_false,if_true,TermT.name,TermT.args]
            rw [termK,if_neg (by decide)] at h2
            exact h2
           ·cases h
theorem detO_sl {ts:List Tok} (hS:GoodT ts):Sl ts (detO ts) detK:=by
 intro k x k' h
 have hf:=detO_fwd ts _ _ _ h
 refine ⟨by omega,?_⟩
 unfold detO at h
 repeat' split at h
 all_goals first
  | (cases h;done)
  | (rename_i hc;injection h with h1 h2;subst h1 h2;obtain ⟨q1,q2,q3⟩:=hasT_tok hS hc (by simp) (show tokAt _=some (kwT _) from rfl);rw [q3];rfl)
/-- No body is "true". -/
def NT (ts:List Tok):Prop:=∀ k,k < ts.length→(peekT ts k).text=[58,45]→hasT ts (k+1) [116,114,117,101]=false
theorem itemO_sl {ts:List Tok} (hS:GoodT ts) (hN:NB ts) (hT:NT ts) {k:Nat} {x:ItemT} {k1 k2:Nat} {u:Unit} (h:itemO ts 0 k=.ok x k1) (hd:expO ts k1 [46]=.ok u k2):k≤k2∧itemK x=slc ts k k2:=by
 obtain ⟨d1,d2,d3,d4⟩:=expO_tok (t:=mkT [46]) hS hd (by simp) rfl
 unfold itemO at h
 split at h
 ·rename_i hc
  obtain ⟨q1,q2,q3⟩:=hasT_tok (t:=kwT [116,121,112,101]) hS hc (by simp) rfl
  unfold typeItemO at h
  split at h
  ·cases h
  ·rename_i s k3 e1
   obtain ⟨n1,n2,_⟩:=nameO_sl hS e1
   split at h
   ·cases h
   ·rename_i vs k4 e2
    obtain ⟨a1,a2⟩:=argsO_sl hS (varO_sl hS) e2
    split at h
    ·cases h
    ·rename_i u3 k5 e3
     obtain ⟨b1,b2,b3,b4⟩:=expO_tok (t:=mkT [61]) hS e3 (by simp) rfl
     split at h
     ·cases h
     ·rename_i cs k6 e4
      obtain ⟨c1,c2,c3⟩:=rowO_sl (t:=mkT [124]) hS (by simp) rfl (ctorO_sl hS 0) e4
      injection h with h5 h6
      subst h5 h6
      refine ⟨by omega,?_⟩
      simp only [itemK,if_true]
      rw [a2,c2,slc_app (a:=k) (b:=k+1) (by omega) (by omega:k+1≤k2),slc_app (a:=k+1) (b:=k3) (by omega) (by omega:k3≤k2),slc_app (a:=k3) (b:=k4) a1 (by omega:k4≤k2),slc_app (a:=k4) (b:=k5) (by omega) (by omega:k5≤k2),slc_app (a:=k5) (b:=k6) c1 (by omega:k6≤k2),q3,n2,b4,d4]
      simp
 ·split at h
  ·rename_i hc
   obtain ⟨q1,q2,q3⟩:=hasT_tok (t:=kwT [112,114,101,100]) hS hc (by simp) rfl
   unfold predO at h
   split at h
   ·cases h
   ·rename_i s k3 e1
    obtain ⟨n1,n2,_⟩:=nameO_sl hS e1
    split at h
    ·cases h
    ·rename_i l k4 e2
     obtain ⟨a1,a2⟩:=argsO_sl hS (typeO_sl hS 66 0) e2
     injection h with h5 h6
     subst h5 h6
     refine ⟨by omega,?_⟩
     simp only [itemK,show ¬ ((2:Int)=1) by decide,if_true,if_false,typesK_map]
     rw [a2,slc_app (a:=k) (b:=k+1) (by omega) (by omega:k+1≤k2),slc_app (a:=k+1) (b:=k3) (by omega) (by omega:k3≤k2),slc_app (a:=k3) (b:=k4) a1 (by omega:k4≤k2),q3,n2,d4]
     simp
  ·split at h
   ·rename_i hc
    obtain ⟨q1,q2,q3⟩:=hasT_tok (t:=kwT [109,111,100,101]) hS hc (by simp) rfl
    unfold modeItemO at h
    split at h
    ·cases h
    ·rename_i s k3 e1
     obtain ⟨n1,n2,_⟩:=nameO_sl hS e1
     split at h
     ·cases h
     ·rename_i ws k4 e2
      obtain ⟨a1,a2⟩:=argsO_sl hS (wayO_sl hS) e2
      split at h
      ·cases h
      ·rename_i u3 k5 e3
       obtain ⟨b1,b2,b3,b4⟩:=expO_tok (t:=kwT [105,115]) hS e3 (by simp) rfl
       split at h
       ·cases h
       ·rename_i d k6 e4
        obtain ⟨c1,c2⟩:=detO_sl hS _ _ _ e4
        injection h with h5 h6
        subst h5 h6
        refine ⟨by omega,?_⟩
        simp only [itemK,show ¬ ((3:Int)=1) by decide,show ¬ ((3:Int)=2) by decide,if_true,if_false]
        rw [a2,c2,slc_app (a:=k) (b:=k+1) (by omega) (by omega:k+1≤k2),slc_app (a:=k+1) (b:=k3) (by omega) (by omega:k3≤k2),slc_app (a:=k3) (b:=k4) a1 (by omega:k4≤k2),slc_app (a:=k4) (b:=k5) (by omega) (by omega:k5≤k2),slc_app (a:=k5) (b:=k6) c1 (by omega:k6≤k2),q3,n2,b4,d4]
        simp
   ·unfold clauseO at h
    split at h
    ·cases h
    ·rename_i s k3 e1
     obtain ⟨n1,n2,_⟩:=nameO_sl hS e1
     split at h
     ·cases h
     ·rename_i l k4 e2
      obtain ⟨a1,a2⟩:=argsO_sl hS (termO_sl hS 66 0) e2
      split at h
      ·rename_i hc
       obtain ⟨q1,q2,q3⟩:=hasT_tok (t:=mkT [58,45]) hS hc (by simp) rfl
       split at h
       ·cases h
       ·rename_i g k5 e3
        obtain ⟨⟨g1,g2⟩,_,g3⟩:=goalO_sl hS (primO_sl hS hN 66 0) _ _ _ (pb_mark q2) e3
        have hk1:¬ kindG g=1:=fun e=>by
         have:=hT k4 q1 (hasT_text hc)
         rw [g3 e] at this
         cases this
        injection h with h5 h6
        subst h5 h6
        refine ⟨by omega,?_⟩
        simp only [itemK,show ¬ ((4:Int)=1) by decide,show ¬ ((4:Int)=2) by decide,show ¬ ((4:Int)=3) by decide,if_true,if_false,termsK_map,bodyK,hk1]
        rw [a2,g2,slc_app (a:=k) (b:=k3) (by omega) (by omega:k3≤k2),slc_app (a:=k3) (b:=k4) a1 (by omega:k4≤k2),slc_app (a:=k4) (b:=k4+1) (by omega) (by omega:k4+1≤k2),slc_app (a:=k4+1) (b:=k5) g1 (by omega:k5≤k2),q3,n2,d4]
        simp
      ·injection h with h5 h6
       subst h5 h6
       refine ⟨by omega,?_⟩
       simp only [itemK,bodyK,trueG,kindG,show ¬ ((4:Int)=1) by decide,show ¬ ((4:Int)=2) by decide,show ¬ ((4:Int)=3) by decide,if_true,if_false,termsK_map]
       rw [a2,slc_app (a:=k) (b:=k3) (by omega) (by omega:k3≤k2),slc_app (a:=k3) (b:=k4) a1 (by omega:k4≤k2),n2,d4]
       simp
theorem srcLoop_sl {ts:List Tok} (hS:GoodT ts) (hN:NB ts) (hT:NT ts):∀ (m k:Nat) (acc l:List ItemT) (k':Nat),srcLoop ts 0 m k acc=.ok l k'→sourceK acc=slc ts 0 k→k≤k'∧sourceK l=slc ts 0 k'
 | 0,_,_,_,_,h,_=>by simp [srcLoop] at h
 | m+1,k,acc,l,k',h,hk=>by
  rw [srcLoop] at h
  split at h
  ·split at h
   ·cases h
   ·split at h
    ·cases h
    ·rename_i x k1 e1
     split at h
     ·cases h
     ·rename_i u k2 e2
      obtain ⟨h1,h2⟩:=itemO_sl hS hN hT e1 e2
      have h3:=srcLoop_sl hS hN hT m k2 _ _ _ h (by
       unfold sourceK at hk ⊢
       rw [List.map_append,List.flatten_append,hk,List.map_cons,List.map_nil,List.flatten_cons,List.flatten_nil,List.append_nil,h2,← slc_app (Nat.zero_le _) h1])
      exact ⟨by omega,h3.2⟩
  ·injection h with h1 h2
   subst h1 h2
   exact ⟨Nat.le_refl _,hk⟩
/-- The last token of what is read is a full stop. -/
theorem srcLoop_last {ts:List Tok} (hS:GoodT ts):∀ (m k:Nat) (acc l:List ItemT) (k':Nat),srcLoop ts 0 m k acc=.ok l k'→(∀ j,k=j+1→peekT ts j=mkT [46])→∀ j,k'=j+1→peekT ts j=mkT [46]
 | 0,_,_,_,_,h,_=>by simp [srcLoop] at h
 | m+1,k,acc,l,k',h,hk=>by
  rw [srcLoop] at h
  split at h
  ·split at h
   ·cases h
   ·split at h
    ·cases h
    ·split at h
     ·cases h
     ·rename_i k1 _ _ u k2 e2
      obtain ⟨d1,d2,d3,d4⟩:=expO_tok (t:=mkT [46]) hS e2 (by simp) rfl
      exact srcLoop_last hS m k2 _ _ _ h (fun j e=>by
       have e9:j=k1:=by omega
       rw [e9]
       exact d3)
  ·injection h with h1 h2
   subst h2
   exact hk
end Lx
end Go.Proofs.YtajomoclbpobhaaGreatDoor
