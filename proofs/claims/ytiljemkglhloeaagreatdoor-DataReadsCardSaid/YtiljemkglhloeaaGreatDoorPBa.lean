/- Terms and types: what is read can be read back from its form's tokens. No program stands in this text but the things' form. Conditions: each token is one by itself. -/
/- Goals: what is read can be read back from its form's tokens. No program stands in this text but the things' form. Conditions: each token is one by itself. -/
/- A term, a type, a goal that was read, printed, is read again as it was. No program stands in this text but the things' form; no conditions. -/
import Derived.Test.YtiljemkglhloeaaGreatDoorPLa
import Derived.Test.YtiljemkglhloeaaGreatDoorPrFL
import Derived.Test.YtiljemkglhloeaaGreatDoorPlainA
import Derived.Test.YtiljemkglhloeaaGreatDoorTextI
namespace Go.Proofs.YtiljemkglhloeaaGreatDoor
set_option linter.unusedSimpArgs false
set_option linter.unusedVariables false
namespace Lx
open Go Go.RowKit
theorem bs_list' (l:List UInt8):(bs l).toList=l:=by rw [ByteArray.toList_eq];rfl
/-- The tokens T stand in ts from k on. -/
def Sits (ts:List Tok) (k:Nat) (T:List Tok):Prop:=∃ rest,ts.drop k=T++rest
theorem Sits.app {ts:List Tok} {k:Nat} {T U:List Tok} (h:Sits ts k (T++U)):Sits ts k T∧Sits ts (k+T.length) U:=by
 obtain ⟨r,hr⟩:=h
 refine ⟨⟨U++r,by rw [hr,List.append_assoc]⟩,⟨r,?_⟩⟩
 rw [← List.drop_drop,hr,List.append_assoc,List.drop_left]
theorem Sits.head {ts:List Tok} {k:Nat} {t:Tok} {T:List Tok} (h:Sits ts k (t :: T)):peekT ts k=t∧k < ts.length∧Sits ts (k+1) T:=by
 obtain ⟨r,hr⟩:=h
 have hk:k < ts.length:=by
  rcases Nat.lt_or_ge k ts.length with h1 | h1
  ·exact h1
  ·rw [List.drop_eq_nil_of_le h1] at hr
   simp at hr
 rw [List.drop_eq_getElem_cons hk] at hr
 injection hr with h1 h2
 refine ⟨?_,hk,⟨r,h2⟩⟩
 unfold peekT
 rw [List.getElem?_eq_getElem hk,h1]
 rfl
theorem Sits.len {ts:List Tok} {k:Nat} {T:List Tok} (h:Sits ts k T) (hT:T ≠ []):k+T.length≤ts.length:=by
 obtain ⟨r,hr⟩:=h
 have h1:=congrArg List.length hr
 rw [List.length_drop,List.length_append] at h1
 have h2:0 < T.length:=List.length_pos_iff.2 hT
 omega
theorem sits_all (ts:List Tok):Sits ts 0 ts:=⟨[],by simp⟩
theorem hasT_peek {ts:List Tok} {k:Nat} {t:Tok} (h:peekT ts k=t) (s:List UInt8):hasT ts k s=(t.text == s):=by unfold hasT;rw [h]
theorem enterO_ok {ts:List Tok} {k:Nat} {ne:Int} (h:ne+1≤64):enterO ts k ne=.ok () k:=by
 unfold enterO
 rw [if_neg (fun e=>by omega)]
theorem enterO_B {ts:List Tok} {k:Nat} {ne:Int} {u:Unit} {k':Nat} (h:enterO ts k ne=.ok u k') (hk:k < ts.length):ne+1≤64:=by
 unfold enterO at h
 split at h
 ·cases h
 ·rename_i hc
  have h1:¬ (64 < ne+1):=fun e=>hc ⟨e,hk⟩
  omega
def restT {α:Type} (t:Tok) (K:α→List Tok):List α→List Tok
 | []=>[]
 | x :: l=>t :: (K x++restT t K l)
theorem joinT_rest {α:Type} (t:Tok) (K:α→List Tok):∀ (x:α) (l:List α),joinT [t] ((x :: l).map K)=K x++restT t K l
 | x,[]=>by simp [joinT,restT]
 | x,y :: l=>by
  have h:=joinT_rest t K y l
  simp only [List.map_cons,joinT,restT] at h ⊢
  rw [h]
  rfl
theorem restT_len {α:Type} (t:Tok) (K:α→List Tok):∀ l:List α,l.length≤(restT t K l).length
 | []=>Nat.le_refl _
 | x :: l=>by
  have:=restT_len t K l
  simp only [restT,List.length_cons,List.length_append]
  omega
theorem rowLoop_back {α:Type} {rd:Nat→Out α} {K:α→List Tok} {ts:List Tok} {t:Tok} {mark:List UInt8} {most:Nat} {P:Nat→Prop} (hm:t.text=mark) (hP:∀ k,peekT ts k=t→P k):∀ (l acc:List α) (n k:Nat),(∀ x ∈ l,∀ k,Sits ts k (K x)→P (k+(K x).length)→rd k=.ok x (k+(K x).length))→Sits ts k (restT t K l)→P (k+(restT t K l).length)→hasT ts (k+(restT t K l).length) mark=false→acc.length+l.length≤most→l.length < n→rowLoop rd ts mark most n k acc=.ok (acc++l) (k+(restT t K l).length)
 | [],acc,n,k,_,_,_,hns,_,hn=>by
  obtain ⟨n,rfl⟩:∃ n',n=n'+1:=⟨n - 1,by simp at hn;omega⟩
  simp only [restT,List.length_nil,Nat.add_zero] at hns ⊢
  rw [rowLoop,hns]
  simp
 | x :: l,acc,n,k,hrd,hs,hend,hns,hl,hn=>by
  obtain ⟨n,rfl⟩:∃ n',n=n'+1:=⟨n - 1,by simp at hn;omega⟩
  rw [restT] at hs
  obtain ⟨h1,h2,h3⟩:=hs.head
  obtain ⟨h4,h5⟩:=h3.app
  have hlen:k+(restT t K (x :: l)).length=k+1+(K x).length+(restT t K l).length:=by simp only [restT,List.length_cons,List.length_append];omega
  rw [hlen] at hend hns ⊢
  have hx:P (k+1+(K x).length):=by
   cases l with
   | nil =>
    simp only [restT,List.length_nil,Nat.add_zero] at hend
    exact hend
   | cons y l =>
    rw [restT] at h5
    exact hP _ h5.head.1
  have hr:=hrd x (by simp) (k+1) h4 hx
  have ih:=rowLoop_back (most:=most) hm hP l (acc++[x]) n (k+1+(K x).length) (fun y hy=>hrd y (by simp [hy])) h5 hend hns (by simp only [List.length_append,List.length_cons,List.length_nil] at hl ⊢;omega) (by simp only [List.length_cons] at hn;omega)
  rw [rowLoop,hasT_peek h1,hm]
  simp only [List.length_cons] at hl
  rw [if_pos (by simp),if_neg (fun e=>by omega),hr]
  show rowLoop rd ts mark most n (k+1+(K x).length) (acc++[x])=_
  rw [ih,List.append_assoc]
  rfl
theorem rowO_back {α:Type} {rd:Nat→Out α} {K:α→List Tok} {ts:List Tok} {t:Tok} {mark:List UInt8} {most:Nat} {P:Nat→Prop} (hm:t.text=mark) (hP:∀ k,peekT ts k=t→P k) {l:List α} {k:Nat} (hl0:l ≠ []) (hrd:∀ x ∈ l,∀ k,Sits ts k (K x)→P (k+(K x).length)→rd k=.ok x (k+(K x).length)) (hs:Sits ts k (joinT [t] (l.map K))) (hend:P (k+(joinT [t] (l.map K)).length)) (hns:hasT ts (k+(joinT [t] (l.map K)).length) mark=false) (hl:l.length≤most):rowO rd ts mark most k=.ok l (k+(joinT [t] (l.map K)).length):=by
 match l,hl0 with
 | x :: l,_ =>
  rw [joinT_rest] at hs hend hns ⊢
  rw [List.length_append] at hend hns ⊢
  rw [← Nat.add_assoc] at hend hns ⊢
  obtain ⟨h4,h5⟩:=hs.app
  have hx:P (k+(K x).length):=by
   cases l with
   | nil =>
    simp only [restT,List.length_nil,Nat.add_zero] at hend
    exact hend
   | cons y l =>
    rw [restT] at h5
    exact hP _ h5.head.1
  have hr:=hrd x (by simp) k h4 hx
  have hfu:l.length < ts.length+1:=by
   cases l with
   | nil=>simp
   | cons y l =>
    have h6:=restT_len t K (y :: l)
    have h7:=h5.len (by simp [restT])
    omega
  have:=rowLoop_back (most:=most) hm hP l [x] (ts.length+1) (k+(K x).length) (fun y hy=>hrd y (by simp [hy])) h5 hend hns (by simp at hl ⊢;omega) hfu
  unfold rowO
  rw [hr]
  exact this
theorem argsO_back {α:Type} {rd:Nat→Out α} {K:α→List Tok} {ts:List Tok} {l:List α} {k:Nat} (hrd:∀ x ∈ l,∀ k,Sits ts k (K x)→hasT ts (k+(K x).length) [40]=false→rd k=.ok x (k+(K x).length)) (hs:Sits ts k (argsT (l.map K))) (hns:hasT ts (k+(argsT (l.map K)).length) [40]=false) (hl:l.length≤8):argsO rd ts k=.ok l (k+(argsT (l.map K)).length):=by
 unfold argsT at hs hns ⊢
 by_cases h0:l=[]
 ·subst h0
  simp only [List.map_nil,if_true,List.length_nil,Nat.add_zero] at hs hns ⊢
  unfold argsO
  rw [if_neg (by rw [hns];decide)]
 ·rw [if_neg (by simpa using h0)] at hs hns ⊢
  obtain ⟨h1,h2,h3⟩:=hs.head
  obtain ⟨h4,h5⟩:=h3.app
  obtain ⟨h6,h7,_⟩:=h5.head
  have hrow:=rowO_back (K:=K) (t:=mkT [44]) (mark:=[44]) (most:=8) (P:=fun k=>hasT ts k [40]=false) rfl (fun k e=>by rw [hasT_peek e];rfl) h0 hrd h4 (by rw [hasT_peek h6];rfl) (by rw [hasT_peek h6];rfl) hl
  unfold argsO
  rw [if_pos (by rw [hasT_peek h1];rfl),hrow]
  simp only [expO]
  rw [if_pos (by rw [hasT_peek h6];rfl)]
  simp only [List.length_cons,List.length_append,List.length_nil]
  congr 1
  omega
theorem rowLoop_few {α:Type} {rd:Nat→Out α} {ts:List Tok} (hr:Fwd ts rd) {mark:List UInt8} {most:Nat}:∀ (n k:Nat) (acc l:List α) (k':Nat),rowLoop rd ts mark most n k acc=.ok l k'→acc.length≤most→l.length≤most
 | 0,_,_,_,_,h,_=>by simp [rowLoop] at h
 | n+1,k,acc,l,k',h,ha=>by
  rw [rowLoop] at h
  split at h
  ·split at h
   ·cases h
   ·rename_i hc
    split at h
    ·cases h
    ·rename_i x k2 he
     refine rowLoop_few hr n k2 _ _ _ h ?_
     have h1:=hr _ _ _ he
     simp only [List.length_append,List.length_cons,List.length_nil]
     by_cases hq:acc.length=most
     ·exfalso
      exact hc ⟨hq,by omega⟩
     ·omega
  ·injection h with h1 h2
   subst h1
   exact ha
theorem rowO_few {α:Type} {rd:Nat→Out α} {ts:List Tok} (hr:Fwd ts rd) {mark:List UInt8} {most:Nat} (hm:1≤most) {k:Nat} {l:List α} {k':Nat} (h:rowO rd ts mark most k=.ok l k'):l.length≤most:=by
 unfold rowO at h
 split at h
 ·cases h
 ·exact rowLoop_few hr _ _ _ _ _ h hm
theorem argsO_few {α:Type} {rd:Nat→Out α} {ts:List Tok} (hr:Fwd ts rd) {k:Nat} {l:List α} {k':Nat} (h:argsO rd ts k=.ok l k'):l.length≤8:=by
 unfold argsO at h
 split at h
 ·split at h
  ·cases h
  ·rename_i l1 k1 he
   have h1:=rowO_few hr (by decide) he
   split at h
   ·cases h
   ·injection h with h3 h4
    subst h3
    exact h1
 ·injection h with h1 h2
  subst h1
  simp
/-! ### terms, types -/
def NameB (s:List UInt8):Prop:=(∃ t,WT s t∧t.kind=1)∧resv s=false
def VarB (s:List UInt8):Prop:=∃ t,WT s t∧t.kind=2
def termB:Nat→Int→TermT→Prop
 | 0,_,_=>False
 | m+1,ne,.mk k s z l=>ne+1≤64∧((k=1∧z=0∧l=[]∧VarB s) ∨ (k=2∧s=[]∧l=[]∧∃ t,WT (Lib.itoa z) t∧t.kind=3∧t.num=z) ∨ (k=3∧z=0∧NameB s∧l.length≤8∧∀ x ∈ l,termB m (ne+1) x))
theorem termB_mono:∀ (m m':Nat) (ne ne':Int) (t:TermT),m≤m'→ne'≤ne→termB m ne t→termB m' ne' t
 | 0,_,_,_,_,_,_,h=>h.elim
 | m+1,m',ne,ne',.mk k s z l,hm,hn,h=>by
  obtain ⟨m',rfl⟩:∃ q,m'=q+1:=⟨m' - 1,by omega⟩
  rw [termB] at h ⊢
  obtain ⟨h1,h2⟩:=h
  refine ⟨by omega,?_⟩
  rcases h2 with h2 | h2 | ⟨a,b,c,d,e⟩
  ·exact .inl h2
  ·exact .inr (.inl h2)
  ·exact .inr (.inr ⟨a,b,c,d,fun x hx=>termB_mono m m' (ne+1) (ne'+1) x (by omega) (by omega) (e x hx)⟩)
theorem nameO_back {ts:List Tok} {k:Nat} {s:List UInt8} (h:NameB s) (hp:peekT ts k=tokOf s):nameO ts k=.ok s (k+1):=by
 obtain ⟨⟨t,ht,hk⟩,hr⟩:=h
 rw [(W.of ht).2] at hp
 unfold nameO
 rw [hp,hk,ht.2,bs_list',hr]
 rfl
theorem varO_back {ts:List Tok} {k:Nat} {s:List UInt8} (h:VarB s) (hp:peekT ts k=tokOf s):varO ts k=.ok s (k+1):=by
 obtain ⟨t,ht,hk⟩:=h
 rw [(W.of ht).2] at hp
 unfold varO
 rw [hp,hk,ht.2]
 rfl
theorem termO_back:∀ (m:Nat) (ne:Int) (t:TermT) (ts:List Tok) (k:Nat),termB m ne t→Sits ts k (termK t)→hasT ts (k+(termK t).length) [40]=false→termO ts m ne k=.ok t (k+(termK t).length)
 | 0,_,_,_,_,h,_,_=>h.elim
 | m+1,ne,.mk q s z l,ts,k,h,hs,hn=>by
  rw [termB] at h
  obtain ⟨h1,h2⟩:=h
  rw [termK,termsK_map] at hs hn ⊢
  obtain ⟨p1,p2,p3⟩:=hs.head
  rw [termO,enterO_ok h1]
  rcases h2 with ⟨rfl,rfl,rfl,hv⟩ | ⟨rfl,rfl,rfl,t,ht,hk,hz⟩ | ⟨rfl,rfl,hb,hl,hx⟩
  ·rw [if_neg (by decide)] at p1
   obtain ⟨t,ht,hk⟩:=hv
   rw [(W.of ht).2] at p1
   simp only [p1,hk,if_true,ht.2]
   simp [argsT]
  ·rw [if_pos rfl,(W.of ht).2] at p1
   simp only [p1,hk,show ¬ ((3:Int)=2) by decide,if_false,if_true,hz]
   simp [argsT]
  ·rw [if_neg (by decide)] at p1
   have hnm:=nameO_back hb p1
   obtain ⟨⟨t,ht,hk⟩,hr⟩:=hb
   rw [(W.of ht).2] at p1
   simp only [p1,hk,show ¬ ((1:Int)=2) by decide,show ¬ ((1:Int)=3) by decide,if_false]
   rw [hnm]
   simp only [List.length_cons] at hn ⊢
   have ha:=argsO_back (rd:=termO ts m (ne+1)) (K:=termK) (l:=l) (k:=k+1) (fun x hx2 k2 e1 e2=>termO_back m (ne+1) x ts k2 (hx x hx2) e1 e2) p3 (by rw [← hn];congr 1;omega) hl
   simp only [ha]
   congr 1
   omega
theorem termO_B {ts:List Tok} (hS:GoodT ts):∀ (m:Nat) (ne:Int),Gives (termO ts m ne) (termB m ne)
 | 0,_,_,_,_,h=>by simp [termO] at h
 | m+1,ne,k,x,k',h=>by
  have hf:=termO_fwd ts (m+1) ne _ _ _ h
  rw [termO] at h
  split at h
  ·cases h
  ·rename_i he
   have hne:=enterO_B he (by omega)
   split at h
   ·rename_i hk
    have hp:=hS.kind (ts:=ts) (k:=k) (by rw [hk];decide)
    injection h with h1 h2
    subst h1
    rw [termB]
    exact ⟨hne,.inl ⟨rfl,rfl,rfl,_,hp,hk⟩⟩
   ·split at h
    ·rename_i hk
     have hp:=hS.kind (ts:=ts) (k:=k) (by rw [hk];decide)
     have hn:=tok_numW hp.1 hk
     injection h with h1 h2
     subst h1
     rw [termB]
     refine ⟨hne,.inr (.inl ⟨rfl,rfl,rfl,peekT ts k,?_,hk,rfl⟩)⟩
     rw [← hn]
     exact hp
    ·split at h
     ·cases h
     ·rename_i s k1 e1
      have h1:=nameO_W hS e1
      split at h
      ·cases h
      ·rename_i l k2 he2
       have h2:=argsO_gives (termO_B hS m (ne+1)) he2
       have h5:=argsO_few (termO_fwd ts m (ne+1)) he2
       injection h with h3 h4
       subst h3
       rw [termB]
       refine ⟨hne,.inr (.inr ⟨rfl,rfl,⟨⟨_,h1.1,h1.2.2.1⟩,?_⟩,h5,h2⟩)⟩
       have:=h1.2.2.2
       rwa [bs_list'] at this
def typeB:Nat→Int→TypeT→Prop
 | 0,_,_=>False
 | m+1,ne,.mk v s l=>ne+1≤64∧((v=true∧l=[]∧VarB s) ∨ (v=false∧s=[105,110,116]∧l=[]) ∨ (v=false∧s ≠ [105,110,116]∧NameB s∧l.length≤8∧∀ x ∈ l,typeB m (ne+1) x))
theorem typeO_back:∀ (m:Nat) (ne:Int) (t:TypeT) (ts:List Tok) (k:Nat),typeB m ne t→Sits ts k (typeK t)→hasT ts (k+(typeK t).length) [40]=false→typeO ts m ne k=.ok t (k+(typeK t).length)
 | 0,_,_,_,_,h,_,_=>h.elim
 | m+1,ne,.mk v s l,ts,k,h,hs,hn=>by
  rw [typeB] at h
  obtain ⟨h1,h2⟩:=h
  rw [typeK,typesK_map] at hs hn ⊢
  obtain ⟨p1,p2,p3⟩:=hs.head
  rw [typeO,enterO_ok h1]
  rcases h2 with ⟨rfl,rfl,t,ht,hk⟩ | ⟨rfl,rfl,rfl⟩ | ⟨rfl,hi,hb,hl,hx⟩
  ·rw [(W.of ht).2] at p1
   simp only [p1,hk,if_true,ht.2]
   simp [argsT]
  ·rw [(W.of (t:=kwT [105,110,116]) (wt_kw rfl)).2] at p1
   have hh:hasT ts k [105,110,116]=true:=by rw [hasT_peek p1];rfl
   simp only [p1,hh,if_true]
   rw [if_neg (by decide)]
   simp [argsT]
  ·have hnm:=nameO_back hb p1
   obtain ⟨⟨t,ht,hk⟩,hr⟩:=hb
   rw [(W.of ht).2] at p1
   have hh:hasT ts k [105,110,116]=false:=by rw [hasT_peek p1,ht.2];simpa using hi
   simp only [p1,hk,hh,show ¬ ((1:Int)=2) by decide,if_false,Bool.false_eq_true]
   rw [hnm]
   simp only [List.length_cons] at hn ⊢
   have ha:=argsO_back (rd:=typeO ts m (ne+1)) (K:=typeK) (l:=l) (k:=k+1) (fun x hx2 k2 e1 e2=>typeO_back m (ne+1) x ts k2 (hx x hx2) e1 e2) p3 (by rw [← hn];congr 1;omega) hl
   simp only [ha]
   congr 1
   omega
theorem typeO_B {ts:List Tok} (hS:GoodT ts):∀ (m:Nat) (ne:Int),Gives (typeO ts m ne) (typeB m ne)
 | 0,_,_,_,_,h=>by simp [typeO] at h
 | m+1,ne,k,x,k',h=>by
  have hf:=typeO_fwd ts (m+1) ne _ _ _ h
  rw [typeO] at h
  split at h
  ·cases h
  ·rename_i he
   have hne:=enterO_B he (by omega)
   split at h
   ·rename_i hk
    have hp:=hS.kind (ts:=ts) (k:=k) (by rw [hk];decide)
    injection h with h1 h2
    subst h1
    rw [typeB]
    exact ⟨hne,.inl ⟨rfl,rfl,_,hp,hk⟩⟩
   ·split at h
    ·injection h with h1 h2
     subst h1
     rw [typeB]
     exact ⟨hne,.inr (.inl ⟨rfl,rfl,rfl⟩)⟩
    ·rename_i hi
     split at h
     ·cases h
     ·rename_i s k1 e1
      have h1:=nameO_W hS e1
      split at h
      ·cases h
      ·rename_i l k2 he2
       have h2:=argsO_gives (typeO_B hS m (ne+1)) he2
       have h5:=argsO_few (typeO_fwd ts m (ne+1)) he2
       injection h with h3 h4
       subst h3
       rw [typeB]
       refine ⟨hne,.inr (.inr ⟨rfl,?_,⟨⟨_,h1.1,h1.2.2.1⟩,?_⟩,h5,h2⟩)⟩
       ·intro e
        exact hi (by unfold hasT;rw [h1.1.2,e];rfl)
       ·have:=h1.2.2.2
        rwa [bs_list'] at this
end Lx
end Go.Proofs.YtiljemkglhloeaaGreatDoor
namespace Go.Proofs.YtiljemkglhloeaaGreatDoor
set_option linter.unusedSimpArgs false
set_option linter.unusedVariables false
namespace Lx
open Go Go.RowKit
def conjB (P:GoalT→Prop) (g:GoalT):Prop:=(∃ gs,g=.mk 5 zeroT zeroT [] [] gs∧2≤gs.length∧gs.length≤16384∧∀ x ∈ gs,P x) ∨ (kindG g ≠ 5∧P g)
def topB (P:GoalT→Prop) (g:GoalT):Prop:=(∃ gs,g=.mk 6 zeroT zeroT [] [] gs∧2≤gs.length∧gs.length≤16384∧∀ x ∈ gs,conjB P x) ∨ (kindG g ≠ 6∧conjB P g)
def primB:Nat→Int→GoalT→Prop
 | 0,_,_=>False
 | m+1,ne,g=>ne+1≤64∧(g=.mk 1 zeroT zeroT [] [] [] ∨ g=.mk 2 zeroT zeroT [] [] [] ∨ (∃ a,g=.mk 7 zeroT zeroT [] [] [a]∧primB m (ne+1) a) ∨ (∃ t,g=.mk 8 t zeroT [] [] []∧termB 66 (ne+1) t) ∨ (∃ a b s,g=.mk 9 zeroT zeroT s [] [a,b]∧VarB s∧primB m (ne+1) a∧primB m (ne+1) b) ∨ (∃ t u,g=.mk 3 t u [] [] []∧termB 66 (ne+1) t∧termB 66 (ne+1) u) ∨ (∃ s l,g=.mk 4 zeroT zeroT s l []∧termB 66 (ne+1) (.mk 3 s 0 l)) ∨ ((kindG g=5 ∨ kindG g=6)∧topB (fun x=>primB m (ne+1) x) g))
theorem conjB_mono {P Q:GoalT→Prop} (h:∀ x,P x→Q x) {g:GoalT} (k:conjB P g):conjB Q g:=by
 rcases k with ⟨gs,a,b,c,d⟩ | ⟨a,b⟩
 ·exact .inl ⟨gs,a,b,c,fun x hx=>h x (d x hx)⟩
 ·exact .inr ⟨a,h g b⟩
theorem topB_mono {P Q:GoalT→Prop} (h:∀ x,P x→Q x) {g:GoalT} (k:topB P g):topB Q g:=by
 rcases k with ⟨gs,a,b,c,d⟩ | ⟨a,b⟩
 ·exact .inl ⟨gs,a,b,c,fun x hx=>conjB_mono h (d x hx)⟩
 ·exact .inr ⟨a,conjB_mono h b⟩
theorem primB_mono:∀ (m m':Nat) (ne ne':Int) (g:GoalT),m≤m'→ne'≤ne→primB m ne g→primB m' ne' g
 | 0,_,_,_,_,_,_,h=>h.elim
 | m+1,m',ne,ne',g,hm,hn,h=>by
  obtain ⟨m',rfl⟩:∃ q,m'=q+1:=⟨m' - 1,by omega⟩
  have IH:∀ x,primB m (ne+1) x→primB m' (ne'+1) x:=fun x hx=>primB_mono m m' (ne+1) (ne'+1) x (by omega) (by omega) hx
  have HT:∀ t,termB 66 (ne+1) t→termB 66 (ne'+1) t:=fun t ht=>termB_mono 66 66 (ne+1) (ne'+1) t (Nat.le_refl _) (by omega) ht
  rw [primB] at h ⊢
  obtain ⟨h1,h2⟩:=h
  refine ⟨by omega,?_⟩
  rcases h2 with h2 | h2 | ⟨a,e,h2⟩ | ⟨t,e,h2⟩ | ⟨a,b,s,e,hv,h2,h3⟩ | ⟨t,u,e,h2,h3⟩ | ⟨s,l,e,h2⟩ | ⟨e,h2⟩
  ·exact .inl h2
  ·exact .inr (.inl h2)
  ·exact .inr (.inr (.inl ⟨a,e,IH a h2⟩))
  ·exact .inr (.inr (.inr (.inl ⟨t,e,HT t h2⟩)))
  ·exact .inr (.inr (.inr (.inr (.inl ⟨a,b,s,e,hv,IH a h2,IH b h3⟩))))
  ·exact .inr (.inr (.inr (.inr (.inr (.inl ⟨t,u,e,HT t h2,HT u h3⟩)))))
  ·exact .inr (.inr (.inr (.inr (.inr (.inr (.inl ⟨s,l,e,HT _ h2⟩))))))
  ·exact .inr (.inr (.inr (.inr (.inr (.inr (.inr ⟨e,topB_mono IH h2⟩))))))
theorem prim_big {m:Nat} {ne:Int} {g:GoalT} (h:primB m ne g) (hk:kindG g=5 ∨ kindG g=6):topB (primB m ne) g:=by
 cases m with
 | zero=>exact h.elim
 | succ m =>
  have hmono:∀ x,primB m (ne+1) x→primB (m+1) ne x:=fun x hx=>primB_mono m (m+1) (ne+1) ne x (by omega) (by omega) hx
  rw [primB] at h
  obtain ⟨_,h2⟩:=h
  rcases h2 with rfl | rfl | ⟨a,rfl,h2⟩ | ⟨t,rfl,h2⟩ | ⟨a,b,s,rfl,hv,h2,h3⟩ | ⟨t,u,rfl,h2,h3⟩ | ⟨s,l,rfl,h2⟩ | ⟨e,h2⟩
  ·exfalso;simp [kindG] at hk
  ·exfalso;simp [kindG] at hk
  ·exfalso;simp [kindG] at hk
  ·exfalso;simp [kindG] at hk
  ·exfalso;simp [kindG] at hk
  ·exfalso;simp [kindG] at hk
  ·exfalso;simp [kindG] at hk
  ·exact topB_mono hmono h2
theorem prim_conj {m:Nat} {ne:Int} {g:GoalT} (h:primB m ne g):conjB (primB m ne) g:=by
 by_cases hk:kindG g=5
 ·rcases prim_big h (.inl hk) with ⟨gs,rfl,_⟩ | ⟨_,h2⟩
  ·exfalso
   simp [kindG] at hk
  ·exact h2
 ·exact .inr ⟨hk,h⟩
theorem conj_top {m:Nat} {ne:Int} {g:GoalT} (h:conjB (primB m ne) g):topB (primB m ne) g:=by
 by_cases hk:kindG g=6
 ·rcases h with ⟨gs,rfl,_⟩ | ⟨_,h2⟩
  ·exfalso
   simp [kindG] at hk
  ·exact prim_big h2 (.inr hk)
 ·exact .inr ⟨hk,h⟩
/-! ### back -/
def StP (ts:List Tok) (k:Nat):Prop:=hasT ts k [40]=false∧hasT ts k [61]=false
def StC (ts:List Tok) (k:Nat):Prop:=StP ts k∧hasT ts k [44]=false
def StG (ts:List Tok) (k:Nat):Prop:=StC ts k∧hasT ts k [59]=false
theorem stp_tok {ts:List Tok} {k:Nat} {t:Tok} (h:peekT ts k=t) (h1:(t.text == [40])=false) (h2:(t.text == [61])=false):StP ts k:=⟨by rw [hasT_peek h,h1],by rw [hasT_peek h,h2]⟩
theorem stc_tok {ts:List Tok} {k:Nat} {t:Tok} (h:peekT ts k=t) (h1:(t.text == [40])=false) (h2:(t.text == [61])=false) (h3:(t.text == [44])=false):StC ts k:=⟨stp_tok h h1 h2,by rw [hasT_peek h,h3]⟩
theorem goalK_5 (gs:List GoalT):goalK (.mk 5 zeroT zeroT [] [] gs)=joinT [mkT [44]] (gs.map fun g=>primK (kindG g,goalK g)):=by
 rw [goalK,goalsK_map]
 simp only [goalKW,show ¬ ((5:Int)=1) by decide,show ¬ ((5:Int)=2) by decide,show ¬ ((5:Int)=3) by decide,show ¬ ((5:Int)=4) by decide,if_false,if_true,List.map_map]
 rfl
theorem goalK_6 (gs:List GoalT):goalK (.mk 6 zeroT zeroT [] [] gs)=joinT [mkT [59]] (gs.map fun g=>conjK (kindG g,goalK g)):=by
 rw [goalK,goalsK_map]
 simp only [goalKW,show ¬ ((6:Int)=1) by decide,show ¬ ((6:Int)=2) by decide,show ¬ ((6:Int)=3) by decide,show ¬ ((6:Int)=4) by decide,show ¬ ((6:Int)=5) by decide,if_false,if_true,List.map_map]
 rfl
def PrimBack (m:Nat) (ne:Int):Prop:=∀ (g:GoalT) (ts:List Tok) (k:Nat),primB m ne g→Sits ts k (primK (kindG g,goalK g))→StP ts (k+(primK (kindG g,goalK g)).length)→primO ts m ne k=.ok g (k+(primK (kindG g,goalK g)).length)
theorem joinG_manyB (kind:Int) (l:List GoalT) (h:2≤l.length):joinG kind l=.mk kind zeroT zeroT [] [] l:=by
 match l,h with
 | _ :: _ :: _,_=>rfl
theorem conj_back {m:Nat} {ne:Int} (HP:PrimBack m ne) (g:GoalT) (ts:List Tok) (k:Nat) (h:conjB (primB m ne) g) (hs:Sits ts k (conjK (kindG g,goalK g))) (hst:StC ts (k+(conjK (kindG g,goalK g)).length)):joinO (primO ts m ne) ts [44] 5 k=.ok g (k+(conjK (kindG g,goalK g)).length):=by
 rcases h with ⟨gs,rfl,h2,h3,h4⟩ | ⟨h1,h2⟩
 ·have hK:conjK (kindG (.mk 5 zeroT zeroT [] [] gs),goalK (.mk 5 zeroT zeroT [] [] gs))=joinT [mkT [44]] (gs.map fun g=>primK (kindG g,goalK g)):=by
   unfold conjK
   rw [if_neg (by simp [kindG]),goalK_5]
  rw [hK] at hs hst ⊢
  have hr:=rowO_back (rd:=primO ts m ne) (K:=fun g=>primK (kindG g,goalK g)) (t:=mkT [44]) (mark:=[44]) (most:=16384) (P:=StP ts) (l:=gs) rfl (fun k e=>stp_tok e rfl rfl) (by intro e;rw [e] at h2;simp at h2) (fun x hx k2 e1 e2=>HP x ts k2 (h4 x hx) e1 e2) hs hst.1 hst.2 h3
  unfold joinO
  rw [hr]
  show Out.ok (joinG 5 gs) _=_
  rw [joinG_manyB 5 gs h2]
 ·have hK:conjK (kindG g,goalK g)=primK (kindG g,goalK g):=by
   unfold primK
   rw [if_neg h1]
  rw [hK] at hs hst ⊢
  have hr:=rowO_back (rd:=primO ts m ne) (K:=fun g=>primK (kindG g,goalK g)) (t:=mkT [44]) (mark:=[44]) (most:=16384) (P:=StP ts) (l:=[g]) (k:=k) rfl (fun k e=>stp_tok e rfl rfl) (by simp) (fun x hx k2 e1 e2=>by
   obtain rfl:x=g:=by simpa using hx
   exact HP x ts k2 h2 e1 e2) hs hst.1 hst.2 (by simp)
  unfold joinO
  rw [hr]
  rfl
theorem top_back {m:Nat} {ne:Int} (HP:PrimBack m ne) (g:GoalT) (ts:List Tok) (k:Nat) (h:topB (primB m ne) g) (hs:Sits ts k (goalK g)) (hst:StG ts (k+(goalK g).length)):goalO (primO ts m ne) ts k=.ok g (k+(goalK g).length):=by
 rcases h with ⟨gs,rfl,h2,h3,h4⟩ | ⟨h1,h2⟩
 ·rw [goalK_6] at hs hst ⊢
  have hr:=rowO_back (rd:=joinO (primO ts m ne) ts [44] 5) (K:=fun g=>conjK (kindG g,goalK g)) (t:=mkT [59]) (mark:=[59]) (most:=16384) (P:=StC ts) (l:=gs) rfl (fun k e=>stc_tok e rfl rfl rfl) (by intro e;rw [e] at h2;simp at h2) (fun x hx k2 e1 e2=>conj_back HP x ts k2 (h4 x hx) e1 e2) hs hst.1 hst.2 h3
  unfold goalO joinO
  unfold joinO at hr
  rw [hr]
  show Out.ok (joinG 6 gs) _=_
  rw [joinG_manyB 6 gs h2]
 ·have hK:goalK g=conjK (kindG g,goalK g):=by
   unfold conjK
   rw [if_neg h1]
  rw [hK] at hs hst ⊢
  have hr:=rowO_back (rd:=joinO (primO ts m ne) ts [44] 5) (K:=fun g=>conjK (kindG g,goalK g)) (t:=mkT [59]) (mark:=[59]) (most:=16384) (P:=StC ts) (l:=[g]) (k:=k) rfl (fun k e=>stc_tok e rfl rfl rfl) (by simp) (fun x hx k2 e1 e2=>by
   obtain rfl:x=g:=by simpa using hx
   exact conj_back HP x ts k2 h2 e1 e2) hs hst.1 hst.2 (by simp)
  have e9:joinT [mkT [59]] ([g].map fun g=>conjK (kindG g,goalK g))=conjK (kindG g,goalK g):=rfl
  rw [e9] at hr
  unfold goalO joinO
  unfold joinO at hr
  rw [hr]
  rfl
/-- A term's first token is none of the words that open a prim. -/
theorem term_first {m:Nat} {ne:Int} {t:TermT} {ts:List Tok} {k:Nat} (h:termB m ne t) (hs:Sits ts k (termK t)):∀ s,(tokAt s=some (kwT s)∧resv s=true) ∨ tokAt s=some (mkT s)→hasT ts k s=false:=by
 cases m with
 | zero=>exact h.elim
 | succ m =>
  obtain ⟨q,s0,z,l⟩:=t
  intro s hq
  rw [termB] at h
  rw [termK] at hs
  obtain ⟨p1,_,_⟩:=hs.head
  obtain ⟨_,h2⟩:=h
  have key:∀ (s1:List UInt8) (t:Tok),WT s1 t→peekT ts k=t→t.kind ≠ 4→(t.kind ≠ 1 ∨ resv s1=false)→hasT ts k s=false:=by
   intro s1 t ht hp h4 h1
   rw [hasT_peek hp,ht.2]
   cases he:(s1 == s) with
   | false=>rfl
   | true =>
    exfalso
    have e:s1=s:=by simpa using he
    subst e
    rcases hq with ⟨a,b⟩ | a
    ·have e2:t=kwT s1:=Option.some.inj (ht.1.symm.trans a)
     rcases h1 with h1 | h1
     ·exact h1 (by rw [e2];rfl)
     ·rw [b] at h1
      cases h1
    ·have e2:t=mkT s1:=Option.some.inj (ht.1.symm.trans a)
     exact h4 (by rw [e2];rfl)
  rcases h2 with ⟨rfl,rfl,rfl,t,ht,hk⟩ | ⟨rfl,rfl,rfl,t,ht,hk,hz⟩ | ⟨rfl,rfl,⟨⟨t,ht,hk⟩,hr⟩,_⟩
  ·rw [if_neg (by decide),(W.of ht).2] at p1
   exact key _ t ht p1 (by rw [hk];decide) (.inl (by rw [hk];decide))
  ·rw [if_pos rfl,(W.of ht).2] at p1
   exact key _ t ht p1 (by rw [hk];decide) (.inl (by rw [hk];decide))
  ·rw [if_neg (by decide),(W.of ht).2] at p1
   exact key _ t ht p1 (by rw [hk];decide) (.inr hr)
theorem primK_small {g:GoalT} (h5:kindG g ≠ 5) (h6:kindG g ≠ 6):primK (kindG g,goalK g)=goalK g:=by
 unfold primK conjK
 rw [if_neg h5,if_neg h6]
theorem uocO_first {ts:List Tok} {m:Nat} {ne:Int} {k:Nat} (h1:ne+1≤64) (hf:∀ s,(tokAt s=some (kwT s)∧resv s=true) ∨ tokAt s=some (mkT s)→hasT ts k s=false):primO ts (m+1) ne k=uocO (termO ts 66 (ne+1)) ts k:=by
 rw [primO,enterO_ok h1]
 simp only [hf [116,114,117,101] (.inl ⟨rfl,rfl⟩),hf [102,97,105,108] (.inl ⟨rfl,rfl⟩),hf [110,111,116] (.inl ⟨rfl,rfl⟩),hf [116,104,114,111,119] (.inl ⟨rfl,rfl⟩),hf [116,114,121] (.inl ⟨rfl,rfl⟩),hf [40] (.inr rfl),Bool.false_eq_true,if_false]
theorem prim_back:∀ (m:Nat) (ne:Int),PrimBack m ne
 | 0,_=>fun _ _ _ h=>h.elim
 | m+1,ne=>by
  intro g ts k h hs hst
  have IH:=prim_back m (ne+1)
  rw [primB] at h
  obtain ⟨h1,h2⟩:=h
  rcases h2 with rfl | rfl | ⟨a,rfl,h2⟩ | ⟨t,rfl,h2⟩ | ⟨a,b,s,rfl,hv,h2,h3⟩ | ⟨t,u,rfl,h2,h3⟩ | ⟨s,l,rfl,h2⟩ | ⟨e,h2⟩
  ·obtain ⟨p1,p2,p3⟩:=Sits.head (t:=kwT [116,114,117,101]) (T:=[]) hs
   rw [primO,enterO_ok h1]
   simp only [hasT_peek p1]
   rfl
  ·obtain ⟨p1,p2,p3⟩:=Sits.head (t:=kwT [102,97,105,108]) (T:=[]) hs
   rw [primO,enterO_ok h1]
   simp only [hasT_peek p1]
   rfl
  ·have hK:primK (kindG (.mk 7 zeroT zeroT [] [] [a]),goalK (.mk 7 zeroT zeroT [] [] [a]))=kwT [110,111,116] :: primK (kindG a,goalK a):=by
    rw [primK_small (by simp [kindG]) (by simp [kindG]),goalK,goalsK,goalsK]
    rfl
   rw [hK] at hs hst ⊢
   obtain ⟨p1,p2,p3⟩:=hs.head
   have hr:=IH a ts (k+1) h2 p3 (by simp only [List.length_cons] at hst;rw [show k+1+(primK (kindG a,goalK a)).length=k+((primK (kindG a,goalK a)).length+1) by omega];exact hst)
   rw [primO,enterO_ok h1]
   simp only [hasT_peek p1]
   simp only [show ((kwT [110,111,116]).text == [116,114,117,101])=false from rfl,show ((kwT [110,111,116]).text == [102,97,105,108])=false from rfl,show ((kwT [110,111,116]).text == [110,111,116])=true from rfl,Bool.false_eq_true,if_false,if_true,hr,List.length_cons]
   congr 1
   omega
  ·have hK:primK (kindG (.mk 8 t zeroT [] [] []),goalK (.mk 8 t zeroT [] [] []))=kwT [116,104,114,111,119] :: termK t:=by
    rw [primK_small (by simp [kindG]) (by simp [kindG]),goalK]
    rfl
   rw [hK] at hs hst ⊢
   obtain ⟨p1,p2,p3⟩:=hs.head
   have hr:=termO_back 66 (ne+1) t ts (k+1) h2 p3 (by simp only [List.length_cons] at hst;rw [show k+1+(termK t).length=k+((termK t).length+1) by omega];exact hst.1)
   rw [primO,enterO_ok h1]
   simp only [hasT_peek p1]
   simp only [show ((kwT [116,104,114,111,119]).text == [116,114,117,101])=false from rfl,show ((kwT [116,104,114,111,119]).text == [102,97,105,108])=false from rfl,show ((kwT [116,104,114,111,119]).text == [110,111,116])=false from rfl,show ((kwT [116,104,114,111,119]).text == [116,104,114,111,119])=true from rfl,Bool.false_eq_true,if_false,if_true,hr,List.length_cons]
   congr 1
   omega
  ·have hK:primK (kindG (.mk 9 zeroT zeroT s [] [a,b]),goalK (.mk 9 zeroT zeroT s [] [a,b]))=kwT [116,114,121] :: (primK (kindG a,goalK a)++(kwT [99,97,116,99,104] :: (tokOf s :: (kwT [116,104,101,110] :: primK (kindG b,goalK b))))):=by
    rw [primK_small (by simp [kindG]) (by simp [kindG]),goalK,goalsK,goalsK,goalsK]
    rfl
   rw [hK] at hs hst ⊢
   obtain ⟨p1,p2,p3⟩:=hs.head
   obtain ⟨q1,q2⟩:=p3.app
   obtain ⟨r1,r2,r3⟩:=q2.head
   obtain ⟨s1,s2,s3⟩:=r3.head
   obtain ⟨u1,u2,u3⟩:=s3.head
   have ha:=IH a ts (k+1) h2 q1 (stp_tok r1 rfl rfl)
   have hvar:=varO_back hv s1
   have hend:k+(kwT [116,114,121] :: (primK (kindG a,goalK a)++(kwT [99,97,116,99,104] :: (tokOf s :: (kwT [116,104,101,110] :: primK (kindG b,goalK b)))))).length=k+1+(primK (kindG a,goalK a)).length+1+1+1+(primK (kindG b,goalK b)).length:=by
    simp only [List.length_cons,List.length_append]
    omega
   rw [hend] at hst ⊢
   have hb:=IH b ts (k+1+(primK (kindG a,goalK a)).length+1+1+1) h3 u3 hst
   rw [primO,enterO_ok h1]
   simp only [hasT_peek p1]
   simp only [show ((kwT [116,114,121]).text == [116,114,117,101])=false from rfl,show ((kwT [116,114,121]).text == [102,97,105,108])=false from rfl,show ((kwT [116,114,121]).text == [110,111,116])=false from rfl,show ((kwT [116,114,121]).text == [116,104,114,111,119])=false from rfl,show ((kwT [116,114,121]).text == [116,114,121])=true from rfl,Bool.false_eq_true,if_false,if_true]
   unfold guardO
   simp only [ha,expO,hasT_peek r1,hasT_peek u1,hvar]
   simp only [show ((kwT [99,97,116,99,104]).text == [99,97,116,99,104])=true from rfl,show ((kwT [116,104,101,110]).text == [116,104,101,110])=true from rfl,if_true,hvar,hasT_peek u1,hb]
  ·have hK:primK (kindG (.mk 3 t u [] [] []),goalK (.mk 3 t u [] [] []))=termK t++(mkT [61] :: termK u):=by
    rw [primK_small (by simp [kindG]) (by simp [kindG]),goalK]
    rfl
   rw [hK] at hs hst ⊢
   obtain ⟨q1,q2⟩:=hs.app
   obtain ⟨r1,r2,r3⟩:=q2.head
   have ht:=termO_back 66 (ne+1) t ts k h2 q1 (by rw [hasT_peek r1];rfl)
   have hend:k+(termK t++(mkT [61] :: termK u)).length=k+(termK t).length+1+(termK u).length:=by
    simp only [List.length_cons,List.length_append]
    omega
   rw [hend] at hst ⊢
   have hu:=termO_back 66 (ne+1) u ts (k+(termK t).length+1) h3 r3 hst.1
   rw [uocO_first h1 (term_first h2 q1)]
   unfold uocO
   simp only [ht,hasT_peek r1]
   simp only [show ((mkT [61]).text == [61])=true from rfl,if_true,hu]
  ·have hK:primK (kindG (.mk 4 zeroT zeroT s l []),goalK (.mk 4 zeroT zeroT s l []))=termK (.mk 3 s 0 l):=by
    rw [primK_small (by simp [kindG]) (by simp [kindG]),goalK,termK]
    rfl
   rw [hK] at hs hst ⊢
   have ht:=termO_back 66 (ne+1) _ ts k h2 hs hst.1
   rw [uocO_first h1 (term_first h2 hs)]
   unfold uocO
   simp only [ht,hst.2,Bool.false_eq_true,if_false,TermT.kind,TermT.name,TermT.args,if_true]
  ·have hK:primK (kindG g,goalK g)=parenK (goalK g):=by
    unfold primK conjK
    rcases e with e | e
    ·rw [if_pos e]
    ·rw [if_neg (by simp only [e];decide),if_pos e]
   rw [hK] at hs hst ⊢
   obtain ⟨p1,p2,p3⟩:=hs.head
   obtain ⟨q1,q2⟩:=p3.app
   obtain ⟨r1,r2,r3⟩:=q2.head
   have hg:=top_back IH g ts (k+1) h2 q1 ⟨stc_tok r1 rfl rfl rfl,by rw [hasT_peek r1];rfl⟩
   rw [primO,enterO_ok h1]
   simp only [hasT_peek p1]
   simp only [show ((mkT [40]).text == [116,114,117,101])=false from rfl,show ((mkT [40]).text == [102,97,105,108])=false from rfl,show ((mkT [40]).text == [110,111,116])=false from rfl,show ((mkT [40]).text == [116,104,114,111,119])=false from rfl,show ((mkT [40]).text == [116,114,121])=false from rfl,show ((mkT [40]).text == [40])=true from rfl,Bool.false_eq_true,if_false,if_true,hg,expO,hasT_peek r1]
   simp only [show ((mkT [41]).text == [41])=true from rfl,if_true,parenK,List.length_cons,List.length_append,List.length_nil]
   congr 1
   omega
/-! ### what is read -/
theorem varO_B {ts:List Tok} (hS:GoodT ts) {k:Nat} {s:List UInt8} {k':Nat} (h:varO ts k=.ok s k'):VarB s:=by
 have h3:=varO_W hS h
 unfold varO at h
 split at h
 ·rename_i hk
  exact ⟨_,h3.1,hk⟩
 ·cases h
theorem joinO_B5 {m:Nat} {ne:Int} {ts:List Tok} (hr:Gives (primO ts m ne) (primB m ne)):Gives (joinO (primO ts m ne) ts [44] 5) (conjB (primB m ne)):=by
 intro k x k' h
 unfold joinO at h
 split at h
 ·cases h
 ·rename_i l k2 he
  have h1:=rowO_gives hr _ _ _ he
  have h2:=rowO_few (primO_fwd ts m ne) (by decide) he
  injection h with h3 h4
  subst h3
  match l,h1,h2,he with
  | [],_,_,he =>
   exfalso
   unfold rowO at he
   split at he
   ·cases he
   ·have:∀ (n k:Nat) (acc:List GoalT) (k':Nat),acc ≠ []→rowLoop (primO ts m ne) ts [44] 16384 n k acc ≠ .ok [] k':=by
     intro n
     induction n with
     | zero=>intro _ _ _ _ h;simp [rowLoop] at h
     | succ n ih =>
      intro k acc k' ha h
      rw [rowLoop] at h
      split at h
      ·split at h
       ·cases h
       ·split at h
        ·cases h
        ·exact ih _ _ _ (by simp) h
      ·injection h with h1 h2
       exact ha h1
    exact this _ _ _ _ (by simp) he
  | [g],h1,_,_=>exact prim_conj (h1 g (by simp))
  | a :: b :: l,h1,h2,_=>exact .inl ⟨a :: b :: l,rfl,by simp,h2,h1⟩
theorem goalO_B {m:Nat} {ne:Int} {ts:List Tok} (hr:Gives (primO ts m ne) (primB m ne)):Gives (goalO (primO ts m ne) ts) (topB (primB m ne)):=by
 intro k x k' h
 unfold goalO at h
 rw [joinO] at h
 split at h
 ·cases h
 ·rename_i l k2 he
  have h1:=rowO_gives (joinO_B5 hr) _ _ _ he
  have h2:=rowO_few (joinO_fwd (primO_fwd ts m ne) [44] 5) (by decide) he
  injection h with h3 h4
  subst h3
  match l,h1,h2,he with
  | [],_,_,he =>
   exfalso
   unfold rowO at he
   split at he
   ·cases he
   ·have:∀ (n k:Nat) (acc:List GoalT) (k':Nat),acc ≠ []→rowLoop (joinO (primO ts m ne) ts [44] 5) ts [59] 16384 n k acc ≠ .ok [] k':=by
     intro n
     induction n with
     | zero=>intro _ _ _ _ h;simp [rowLoop] at h
     | succ n ih =>
      intro k acc k' ha h
      rw [rowLoop] at h
      split at h
      ·split at h
       ·cases h
       ·split at h
        ·cases h
        ·exact ih _ _ _ (by simp) h
      ·injection h with h1 h2
       exact ha h1
    exact this _ _ _ _ (by simp) he
  | [g],h1,_,_=>exact conj_top (h1 g (by simp))
  | a :: b :: l,h1,h2,_=>exact .inl ⟨a :: b :: l,rfl,by simp,h2,h1⟩
theorem primO_B {ts:List Tok} (hS:GoodT ts):∀ (m:Nat) (ne:Int),Gives (primO ts m ne) (primB m ne)
 | 0,_,_,_,_,h=>by simp [primO] at h
 | m+1,ne,k,x,k',h=>by
  have IH:=primO_B hS m (ne+1)
  have HT:=termO_B hS 66 (ne+1)
  have hf:=primO_fwd ts (m+1) ne _ _ _ h
  rw [primO] at h
  rw [primB]
  split at h
  ·cases h
  ·rename_i he
   refine ⟨enterO_B he (by omega),?_⟩
   split at h
   ·injection h with h1 h2
    exact .inl h1.symm
   ·split at h
    ·injection h with h1 h2
     exact .inr (.inl h1.symm)
    ·split at h
     ·split at h
      ·cases h
      ·rename_i g k1 e1
       have h1:=IH _ _ _ e1
       injection h with h3 h4
       exact .inr (.inr (.inl ⟨g,h3.symm,h1⟩))
     ·split at h
      ·split at h
       ·cases h
       ·rename_i t k1 e1
        have h1:=HT _ _ _ e1
        injection h with h3 h4
        exact .inr (.inr (.inr (.inl ⟨t,h3.symm,h1⟩)))
      ·split at h
       ·unfold guardO at h
        split at h
        ·cases h
        ·rename_i g k1 e1
         have h1:=IH _ _ _ e1
         split at h
         ·cases h
         ·split at h
          ·cases h
          ·rename_i s k3 e3
           have h3:=varO_B hS e3
           split at h
           ·cases h
           ·split at h
            ·cases h
            ·rename_i g2 k5 e5
             have h5:=IH _ _ _ e5
             injection h with h6 h7
             exact .inr (.inr (.inr (.inr (.inl ⟨g,g2,s,h6.symm,h3,h1,h5⟩))))
       ·split at h
        ·split at h
         ·cases h
         ·rename_i g k1 e1
          have h1:=goalO_B IH _ _ _ e1
          split at h
          ·cases h
          ·injection h with h6 h7
           subst h6
           by_cases hk:kindG g=5 ∨ kindG g=6
           ·exact .inr (.inr (.inr (.inr (.inr (.inr (.inr ⟨hk,h1⟩))))))
           ·have h8:primB m (ne+1) g:=by
             rcases h1 with ⟨gs,rfl,_⟩ | ⟨_,h1⟩
             ·exact absurd (.inr rfl) hk
             ·rcases h1 with ⟨gs,rfl,_⟩ | ⟨_,h1⟩
              ·exact absurd (.inl rfl) hk
              ·exact h1
            have h9:=primB_mono m (m+1) (ne+1) ne g (by omega) (by omega) h8
            rw [primB] at h9
            exact h9.2
        ·unfold uocO at h
         split at h
         ·cases h
         ·rename_i t k1 e1
          have h1:=HT _ _ _ e1
          split at h
          ·split at h
           ·cases h
           ·rename_i u k2 e2
            have h2:=HT _ _ _ e2
            injection h with h3 h4
            exact .inr (.inr (.inr (.inr (.inr (.inl ⟨t,u,h3.symm,h1,h2⟩)))))
          ·split at h
           ·rename_i hk3
            obtain ⟨tk,tn,tz,tl⟩:=t
            have hk3:tk=3:=hk3
            subst hk3
            injection h with h3 h4
            have hz:tz=0:=by
             rw [termB] at h1
             rcases h1.2 with ⟨e,_⟩ | ⟨e,_⟩ | ⟨_,e,_⟩
             ·exact absurd e (by decide)
             ·exact absurd e (by decide)
             ·exact e
            subst hz
            exact .inr (.inr (.inr (.inr (.inr (.inr (.inl ⟨tn,tl,h3.symm,h1⟩))))))
           ·cases h
end Lx
end Go.Proofs.YtiljemkglhloeaaGreatDoor
namespace Go.Proofs.YtiljemkglhloeaaGreatDoor
set_option linter.unusedSimpArgs false
set_option linter.unusedVariables false
namespace Lx
open Go Go.RowKit
theorem toks_smallT {s:ByteArray} (hs:s.size≤16384):SmallT (toks s.data.toList)∧NumsT (toks s.data.toList):=by
 have hl:s.data.toList.length=s.size:=by simp
 refine ⟨fun t ht=>?_,fun t ht=>?_⟩
 ·have h1:=toks_small ht
  obtain ⟨_,_,_,_,_,h2,h3⟩:=tokAt_spec (toks_good ht)
  have h4:=Lib.itoa_length_le t.num h2 h3
  exact ⟨by omega,by omega⟩
 ·obtain ⟨_,_,_,_,_,h2,h3⟩:=tokAt_spec (toks_good ht)
  exact ⟨h2,h3⟩
theorem lx_end {l:List UInt8} {T:List Tok} (h:Lxs l T):toks l=T∧whole l=true:=by
 have e:=h [] (.inl rfl)
 rw [List.append_nil] at e
 exact ⟨by rw [e.1];simp [toks,lex_nil],by rw [e.2];rfl⟩
theorem text_open {α:Type} {rd:List Tok→Out α} {s:ByteArray} {x:α} {k:Nat} (h:textO rd s=.ok x k):s.size≤16384∧rd (toks s.data.toList)=.ok x k∧(toks s.data.toList).length≤k:=by
 unfold textO at h
 split at h
 ·cases h
 ·rename_i hs
  split at h
  ·cases h
  ·split at h
   ·cases h
   ·rename_i y k2 e
    split at h
    ·cases h
    ·rename_i hk
     injection h with h1 h2
     subst h1 h2
     exact ⟨by omega,e,by omega⟩
theorem bs_dataR (l:List UInt8):(bs l).data.toList=l:=rfl
theorem text_close {α:Type} {rd:List Tok→Out α} {l:List UInt8} {x:α} {T:List Tok} {k:Nat} (hT:toks l=T∧whole l=true) (hl:l.length≤16384) (hr:rd T=.ok x k) (hk:T.length≤k):textO rd (bs l)=.ok x k:=by
 unfold textO
 rw [bs_size,if_neg (by omega),bs_dataR,hT.2,if_neg (by decide),hT.1,hr]
 simp only
 rw [if_neg (by omega)]
theorem text_big {α:Type} {rd:List Tok→Out α} {l:List UInt8} (hl:16384 < l.length):textO rd (bs l)=.no 1:=by
 unfold textO
 rw [bs_size,if_pos hl]
theorem hasT_outP {ts:List Tok} {k:Nat} (h:ts.length≤k) (s:List UInt8) (hs:s ≠ []):hasT ts k s=false:=by
 unfold hasT
 rw [peekT_out h]
 simpa using hs.symm
abbrev rdTe:List Tok→Out TermT:=fun ts=>termO ts 66 0 0
abbrev rdTy:List Tok→Out TypeT:=fun ts=>typeO ts 66 0 0
abbrev rdGo:List Tok→Out GoalT:=fun ts=>goalO (primO ts 66 0) ts 0
theorem few_toks {s:ByteArray} (hs:s.size≤16384):(toks s.data.toList).length≤16384:=by
 have h5:=toks_len s.data.toList
 have hl:s.data.toList.length=s.size:=by simp
 omega
/-- What can be said of a thing that was read and is printed. -/
structure Round {α:Type} (rd:List Tok→Out α) (F:α→List UInt8) (x:α):Prop where
 short:(F x).length≤327680000
 some:F x ≠ []
 back:(F x).length≤16384→∃ k,textO rd (bs (F x))=.ok x k
 big:16384 < (F x).length→textO rd (bs (F x))=.no 1
theorem round_of {α:Type} {rd:List Tok→Out α} {F:α→List UInt8} {K:α→List Tok} {x:α} (hlx:Lxs (F x) (K x)) (hb:rd (K x)=.ok x (K x).length) (hf:∀ k,rd [] ≠ .ok x k) (hl:(F x).length≤327680000):Round rd F x:=by
 have hT:=lx_end hlx
 refine ⟨hl,fun e=>?_,fun h=>⟨_,text_close hT h hb (Nat.le_refl _)⟩,text_big⟩
 rw [e] at hT
 have e2:K x=[]:=by rw [← hT.1];simp [toks,lex_nil]
 rw [e2] at hb
 exact hf _ hb
theorem term_round {s:ByteArray} {t:TermT} {k:Nat} (h:textO rdTe s=.ok t k):termOk t∧Round rdTe termF t:=by
 obtain ⟨h1,h2,h3⟩:=text_open h
 have hS:GoodT (toks s.data.toList):=fun t ht=>toks_good ht
 obtain ⟨q1,q2⟩:=toks_smallT h1
 have hW:=termO_W hS 66 0 _ _ _ h2
 have hB:=termO_B hS 66 0 _ _ _ h2
 have hP:=termO_pays q1 66 0 _ _ _ h2
 have hk:=(termO_fwd _ 66 0 _ _ _ h2).2
 have hn:=few_toks h1
 refine ⟨termO_gives q2 66 0 _ _ _ h2,round_of (K:=termK) (lxs_term t hW) ?_ (fun k e=>?_) (by omega)⟩
 ·have:=termO_back 66 0 t (termK t) 0 hB (sits_all _) (hasT_outP (by omega) _ (by simp))
  rw [Nat.zero_add] at this
  exact this
 ·have:=termO_fwd [] 66 0 _ _ _ e
  simp at this
  omega
theorem type_round {s:ByteArray} {t:TypeT} {k:Nat} (h:textO rdTy s=.ok t k):Round rdTy typeF t:=by
 obtain ⟨h1,h2,h3⟩:=text_open h
 have hS:GoodT (toks s.data.toList):=fun t ht=>toks_good ht
 obtain ⟨q1,q2⟩:=toks_smallT h1
 have hW:=typeO_W hS 66 0 _ _ _ h2
 have hB:=typeO_B hS 66 0 _ _ _ h2
 have hP:=typeO_pays q1 66 0 _ _ _ h2
 have hk:=(typeO_fwd _ 66 0 _ _ _ h2).2
 have hn:=few_toks h1
 refine round_of (K:=typeK) (lxs_type t hW) ?_ (fun k e=>?_) (by omega)
 ·have:=typeO_back 66 0 t (typeK t) 0 hB (sits_all _) (hasT_outP (by omega) _ (by simp))
  rw [Nat.zero_add] at this
  exact this
 ·have:=typeO_fwd [] 66 0 _ _ _ e
  simp at this
  omega
theorem goal_round {s:ByteArray} {g:GoalT} {k:Nat} (h:textO rdGo s=.ok g k):goalOk g∧Round rdGo goalF g:=by
 obtain ⟨h1,h2,h3⟩:=text_open h
 have hS:GoodT (toks s.data.toList):=fun t ht=>toks_good ht
 obtain ⟨q1,q2⟩:=toks_smallT h1
 have hfw:=joinO_fwd (joinO_fwd (primO_fwd (toks s.data.toList) 66 0) [44] 5) [59] 6
 have hW:=goalO_W (primO_W hS 66 0) _ _ _ h2
 have hB:=goalO_B (primO_B hS 66 0) _ _ _ h2
 have hP:=goalO_pays (e:=96) (primO_pays q1 66 0) _ _ _ h2
 have hk:=(hfw _ _ _ h2).2
 have hn:=few_toks h1
 refine ⟨goalO_gives (primO_gives q2 66 0) _ _ _ h2,round_of (K:=goalK) (lxs_goal g hW) ?_ (fun k e=>?_) (by omega)⟩
 ·have:=top_back (prim_back 66 0) g (goalK g) 0 hB (sits_all _) ⟨⟨⟨hasT_outP (by omega) _ (by simp),hasT_outP (by omega) _ (by simp)⟩,hasT_outP (by omega) _ (by simp)⟩,hasT_outP (by omega) _ (by simp)⟩
  rw [Nat.zero_add] at this
  exact this
 ·have:=joinO_fwd (joinO_fwd (primO_fwd [] 66 0) [44] 5) [59] 6 _ _ _ e
  simp at this
  omega
end Lx
end Go.Proofs.YtiljemkglhloeaaGreatDoor
