/- Terms and types: what is read can be read back from its form's tokens. No program stands in this text but the things' form. Conditions: each token is one by itself. -/
import Derived.Test.YtajomoclbpobhaaGreatDoorPSl
namespace Go.Proofs.YtajomoclbpobhaaGreatDoor
set_option linter.unusedSimpArgs false
set_option linter.unusedVariables false
namespace Lx
open Go Go.RowKit
theorem bs_list' (l:List UInt8):(bs l).toList=l:=by rw [ByteArray.toList_eq];rfl
/-- The tokens T stand in ts from k on. -/
def Sits (ts:List Tok) (k:Nat) (T:List Tok):Prop:=∃ rest,ts.drop k=T++rest
theorem Sits.app {ts:List Tok} {k:Nat} {T U:List Tok} (h:Sits ts k (T++U)):Sits ts k T∧Sits ts (k+T.length) U:=by
 obtain ⟨r,hr⟩:=h
 refine ⟨⟨U++r,by rw [hr,List.append_assoc]⟩,⟨r,?_⟩⟩
 rw [← List.drop_drop,hr,List.append_assoc,List.drop_left]
theorem Sits.head {ts:List Tok} {k:Nat} {t:Tok} {T:List Tok} (h:Sits ts k (t :: T)):peekT ts k=t∧k < ts.length∧Sits ts (k+1) T:=by
 obtain ⟨r,hr⟩:=h
 have hk:k < ts.length:=by
  rcases Nat.lt_or_ge k ts.length with h1 | h1
  ·exact h1
  ·rw [List.drop_eq_nil_of_le h1] at hr
   simp at hr
 rw [List.drop_eq_getElem_cons hk] at hr
 injection hr with h1 h2
 refine ⟨?_,hk,⟨r,h2⟩⟩
 unfold peekT
 rw [List.getElem?_eq_getElem hk,h1]
 rfl
theorem Sits.len {ts:List Tok} {k:Nat} {T:List Tok} (h:Sits ts k T) (hT:T ≠ []):k+T.length≤ts.length:=by
 obtain ⟨r,hr⟩:=h
 have h1:=congrArg List.length hr
 rw [List.length_drop,List.length_append] at h1
 have h2:0 < T.length:=List.length_pos_iff.2 hT
 omega
theorem sits_all (ts:List Tok):Sits ts 0 ts:=⟨[],by simp⟩
theorem hasT_peek {ts:List Tok} {k:Nat} {t:Tok} (h:peekT ts k=t) (s:List UInt8):hasT ts k s=(t.text == s):=by unfold hasT;rw [h]
theorem enterO_ok {ts:List Tok} {k:Nat} {ne:Int} (h:ne+1≤64):enterO ts k ne=.ok () k:=by
 unfold enterO
 rw [if_neg (fun e=>by omega)]
theorem enterO_B {ts:List Tok} {k:Nat} {ne:Int} {u:Unit} {k':Nat} (h:enterO ts k ne=.ok u k') (hk:k < ts.length):ne+1≤64:=by
 unfold enterO at h
 split at h
 ·cases h
 ·rename_i hc
  have h1:¬ (64 < ne+1):=fun e=>hc ⟨e,hk⟩
  omega
def restT {α:Type} (t:Tok) (K:α→List Tok):List α→List Tok
 | []=>[]
 | x :: l=>t :: (K x++restT t K l)
theorem joinT_rest {α:Type} (t:Tok) (K:α→List Tok):∀ (x:α) (l:List α),joinT [t] ((x :: l).map K)=K x++restT t K l
 | x,[]=>by simp [joinT,restT]
 | x,y :: l=>by
  have h:=joinT_rest t K y l
  simp only [List.map_cons,joinT,restT] at h ⊢
  rw [h]
  rfl
theorem restT_len {α:Type} (t:Tok) (K:α→List Tok):∀ l:List α,l.length≤(restT t K l).length
 | []=>Nat.le_refl _
 | x :: l=>by
  have:=restT_len t K l
  simp only [restT,List.length_cons,List.length_append]
  omega
theorem rowLoop_back {α:Type} {rd:Nat→Out α} {K:α→List Tok} {ts:List Tok} {t:Tok} {mark:List UInt8} {most:Nat} {P:Nat→Prop} (hm:t.text=mark) (hP:∀ k,peekT ts k=t→P k):∀ (l acc:List α) (n k:Nat),(∀ x ∈ l,∀ k,Sits ts k (K x)→P (k+(K x).length)→rd k=.ok x (k+(K x).length))→Sits ts k (restT t K l)→P (k+(restT t K l).length)→hasT ts (k+(restT t K l).length) mark=false→acc.length+l.length≤most→l.length < n→rowLoop rd ts mark most n k acc=.ok (acc++l) (k+(restT t K l).length)
 | [],acc,n,k,_,_,_,hns,_,hn=>by
  obtain ⟨n,rfl⟩:∃ n',n=n'+1:=⟨n - 1,by simp at hn;omega⟩
  simp only [restT,List.length_nil,Nat.add_zero] at hns ⊢
  rw [rowLoop,hns]
  simp
 | x :: l,acc,n,k,hrd,hs,hend,hns,hl,hn=>by
  obtain ⟨n,rfl⟩:∃ n',n=n'+1:=⟨n - 1,by simp at hn;omega⟩
  rw [restT] at hs
  obtain ⟨h1,h2,h3⟩:=hs.head
  obtain ⟨h4,h5⟩:=h3.app
  have hlen:k+(restT t K (x :: l)).length=k+1+(K x).length+(restT t K l).length:=by simp only [restT,List.length_cons,List.length_append];omega
  rw [hlen] at hend hns ⊢
  have hx:P (k+1+(K x).length):=by
   cases l with
   | nil =>
    simp only [restT,List.length_nil,Nat.add_zero] at hend
    exact hend
   | cons y l =>
    rw [restT] at h5
    exact hP _ h5.head.1
  have hr:=hrd x (by simp) (k+1) h4 hx
  have ih:=rowLoop_back (most:=most) hm hP l (acc++[x]) n (k+1+(K x).length) (fun y hy=>hrd y (by simp [hy])) h5 hend hns (by simp only [List.length_append,List.length_cons,List.length_nil] at hl ⊢;omega) (by simp only [List.length_cons] at hn;omega)
  rw [rowLoop,hasT_peek h1,hm]
  simp only [List.length_cons] at hl
  rw [if_pos (by simp),if_neg (fun e=>by omega),hr]
  show rowLoop rd ts mark most n (k+1+(K x).length) (acc++[x])=_
  rw [ih,List.append_assoc]
  rfl
theorem rowO_back {α:Type} {rd:Nat→Out α} {K:α→List Tok} {ts:List Tok} {t:Tok} {mark:List UInt8} {most:Nat} {P:Nat→Prop} (hm:t.text=mark) (hP:∀ k,peekT ts k=t→P k) {l:List α} {k:Nat} (hl0:l ≠ []) (hrd:∀ x ∈ l,∀ k,Sits ts k (K x)→P (k+(K x).length)→rd k=.ok x (k+(K x).length)) (hs:Sits ts k (joinT [t] (l.map K))) (hend:P (k+(joinT [t] (l.map K)).length)) (hns:hasT ts (k+(joinT [t] (l.map K)).length) mark=false) (hl:l.length≤most):rowO rd ts mark most k=.ok l (k+(joinT [t] (l.map K)).length):=by
 match l,hl0 with
 | x :: l,_ =>
  rw [joinT_rest] at hs hend hns ⊢
  rw [List.length_append] at hend hns ⊢
  rw [← Nat.add_assoc] at hend hns ⊢
  obtain ⟨h4,h5⟩:=hs.app
  have hx:P (k+(K x).length):=by
   cases l with
   | nil =>
    simp only [restT,List.length_nil,Nat.add_zero] at hend
    exact hend
   | cons y l =>
    rw [restT] at h5
    exact hP _ h5.head.1
  have hr:=hrd x (by simp) k h4 hx
  have hfu:l.length < ts.length+1:=by
   cases l with
   | nil=>simp
   | cons y l =>
    have h6:=restT_len t K (y :: l)
    have h7:=h5.len (by simp [restT])
    omega
  have:=rowLoop_back (most:=most) hm hP l [x] (ts.length+1) (k+(K x).length) (fun y hy=>hrd y (by simp [hy])) h5 hend hns (by simp at hl ⊢;omega) hfu
  unfold rowO
  rw [hr]
  exact this
theorem argsO_back {α:Type} {rd:Nat→Out α} {K:α→List Tok} {ts:List Tok} {l:List α} {k:Nat} (hrd:∀ x ∈ l,∀ k,Sits ts k (K x)→hasT ts (k+(K x).length) [40]=false→rd k=.ok x (k+(K x).length)) (hs:Sits ts k (argsT (l.map K))) (hns:hasT ts (k+(argsT (l.map K)).length) [40]=false) (hl:l.length≤8):argsO rd ts k=.ok l (k+(argsT (l.map K)).length):=by
 unfold argsT at hs hns ⊢
 by_cases h0:l=[]
 ·subst h0
  simp only [List.map_nil,if_true,List.length_nil,Nat.add_zero] at hs hns ⊢
  unfold argsO
  rw [if_neg (by rw [hns];decide)]
 ·rw [if_neg (by simpa using h0)] at hs hns ⊢
  obtain ⟨h1,h2,h3⟩:=hs.head
  obtain ⟨h4,h5⟩:=h3.app
  obtain ⟨h6,h7,_⟩:=h5.head
  have hrow:=rowO_back (K:=K) (t:=mkT [44]) (mark:=[44]) (most:=8) (P:=fun k=>hasT ts k [40]=false) rfl (fun k e=>by rw [hasT_peek e];rfl) h0 hrd h4 (by rw [hasT_peek h6];rfl) (by rw [hasT_peek h6];rfl) hl
  unfold argsO
  rw [if_pos (by rw [hasT_peek h1];rfl),hrow]
  simp only [expO]
  rw [if_pos (by rw [hasT_peek h6];rfl)]
  simp only [List.length_cons,List.length_append,List.length_nil]
  congr 1
  omega
theorem rowLoop_few {α:Type} {rd:Nat→Out α} {ts:List Tok} (hr:Fwd ts rd) {mark:List UInt8} {most:Nat}:∀ (n k:Nat) (acc l:List α) (k':Nat),rowLoop rd ts mark most n k acc=.ok l k'→acc.length≤most→l.length≤most
 | 0,_,_,_,_,h,_=>by simp [rowLoop] at h
 | n+1,k,acc,l,k',h,ha=>by
  rw [rowLoop] at h
  split at h
  ·split at h
   ·cases h
   ·rename_i hc
    split at h
    ·cases h
    ·rename_i x k2 he
     refine rowLoop_few hr n k2 _ _ _ h ?_
     have h1:=hr _ _ _ he
     simp only [List.length_append,List.length_cons,List.length_nil]
     by_cases hq:acc.length=most
     ·exfalso
      exact hc ⟨hq,by omega⟩
     ·omega
  ·injection h with h1 h2
   subst h1
   exact ha
theorem rowO_few {α:Type} {rd:Nat→Out α} {ts:List Tok} (hr:Fwd ts rd) {mark:List UInt8} {most:Nat} (hm:1≤most) {k:Nat} {l:List α} {k':Nat} (h:rowO rd ts mark most k=.ok l k'):l.length≤most:=by
 unfold rowO at h
 split at h
 ·cases h
 ·exact rowLoop_few hr _ _ _ _ _ h hm
theorem argsO_few {α:Type} {rd:Nat→Out α} {ts:List Tok} (hr:Fwd ts rd) {k:Nat} {l:List α} {k':Nat} (h:argsO rd ts k=.ok l k'):l.length≤8:=by
 unfold argsO at h
 split at h
 ·split at h
  ·cases h
  ·rename_i l1 k1 he
   have h1:=rowO_few hr (by decide) he
   split at h
   ·cases h
   ·injection h with h3 h4
    subst h3
    exact h1
 ·injection h with h1 h2
  subst h1
  simp
/-! ### terms, types -/
def NameB (s:List UInt8):Prop:=(∃ t,WT s t∧t.kind=1)∧resv s=false
def VarB (s:List UInt8):Prop:=∃ t,WT s t∧t.kind=2
def termB:Nat→Int→TermT→Prop
 | 0,_,_=>False
 | m+1,ne,.mk k s z l=>ne+1≤64∧((k=1∧z=0∧l=[]∧VarB s) ∨ (k=2∧s=[]∧l=[]∧∃ t,WT (Lib.itoa z) t∧t.kind=3∧t.num=z) ∨ (k=3∧z=0∧NameB s∧l.length≤8∧∀ x ∈ l,termB m (ne+1) x))
theorem termB_mono:∀ (m m':Nat) (ne ne':Int) (t:TermT),m≤m'→ne'≤ne→termB m ne t→termB m' ne' t
 | 0,_,_,_,_,_,_,h=>h.elim
 | m+1,m',ne,ne',.mk k s z l,hm,hn,h=>by
  obtain ⟨m',rfl⟩:∃ q,m'=q+1:=⟨m' - 1,by omega⟩
  rw [termB] at h ⊢
  obtain ⟨h1,h2⟩:=h
  refine ⟨by omega,?_⟩
  rcases h2 with h2 | h2 | ⟨a,b,c,d,e⟩
  ·exact .inl h2
  ·exact .inr (.inl h2)
  ·exact .inr (.inr ⟨a,b,c,d,fun x hx=>termB_mono m m' (ne+1) (ne'+1) x (by omega) (by omega) (e x hx)⟩)
theorem nameO_back {ts:List Tok} {k:Nat} {s:List UInt8} (h:NameB s) (hp:peekT ts k=tokOf s):nameO ts k=.ok s (k+1):=by
 obtain ⟨⟨t,ht,hk⟩,hr⟩:=h
 rw [(W.of ht).2] at hp
 unfold nameO
 rw [hp,hk,ht.2,bs_list',hr]
 rfl
theorem varO_back {ts:List Tok} {k:Nat} {s:List UInt8} (h:VarB s) (hp:peekT ts k=tokOf s):varO ts k=.ok s (k+1):=by
 obtain ⟨t,ht,hk⟩:=h
 rw [(W.of ht).2] at hp
 unfold varO
 rw [hp,hk,ht.2]
 rfl
theorem termO_back:∀ (m:Nat) (ne:Int) (t:TermT) (ts:List Tok) (k:Nat),termB m ne t→Sits ts k (termK t)→hasT ts (k+(termK t).length) [40]=false→termO ts m ne k=.ok t (k+(termK t).length)
 | 0,_,_,_,_,h,_,_=>h.elim
 | m+1,ne,.mk q s z l,ts,k,h,hs,hn=>by
  rw [termB] at h
  obtain ⟨h1,h2⟩:=h
  rw [termK,termsK_map] at hs hn ⊢
  obtain ⟨p1,p2,p3⟩:=hs.head
  rw [termO,enterO_ok h1]
  rcases h2 with ⟨rfl,rfl,rfl,hv⟩ | ⟨rfl,rfl,rfl,t,ht,hk,hz⟩ | ⟨rfl,rfl,hb,hl,hx⟩
  ·rw [if_neg (by decide)] at p1
   obtain ⟨t,ht,hk⟩:=hv
   rw [(W.of ht).2] at p1
   simp only [p1,hk,if_true,ht.2]
   simp [argsT]
  ·rw [if_pos rfl,(W.of ht).2] at p1
   simp only [p1,hk,show ¬ ((3:Int)=2) by decide,if_false,if_true,hz]
   simp [argsT]
  ·rw [if_neg (by decide)] at p1
   have hnm:=nameO_back hb p1
   obtain ⟨⟨t,ht,hk⟩,hr⟩:=hb
   rw [(W.of ht).2] at p1
   simp only [p1,hk,show ¬ ((1:Int)=2) by decide,show ¬ ((1:Int)=3) by decide,if_false]
   rw [hnm]
   simp only [List.length_cons] at hn ⊢
   have ha:=argsO_back (rd:=termO ts m (ne+1)) (K:=termK) (l:=l) (k:=k+1) (fun x hx2 k2 e1 e2=>termO_back m (ne+1) x ts k2 (hx x hx2) e1 e2) p3 (by rw [← hn];congr 1;omega) hl
   simp only [ha]
   congr 1
   omega
theorem termO_B {ts:List Tok} (hS:GoodT ts):∀ (m:Nat) (ne:Int),Gives (termO ts m ne) (termB m ne)
 | 0,_,_,_,_,h=>by simp [termO] at h
 | m+1,ne,k,x,k',h=>by
  have hf:=termO_fwd ts (m+1) ne _ _ _ h
  rw [termO] at h
  split at h
  ·cases h
  ·rename_i he
   have hne:=enterO_B he (by omega)
   split at h
   ·rename_i hk
    have hp:=hS.kind (ts:=ts) (k:=k) (by rw [hk];decide)
    injection h with h1 h2
    subst h1
    rw [termB]
    exact ⟨hne,.inl ⟨rfl,rfl,rfl,_,hp,hk⟩⟩
   ·split at h
    ·rename_i hk
     have hp:=hS.kind (ts:=ts) (k:=k) (by rw [hk];decide)
     have hn:=tok_numW hp.1 hk
     injection h with h1 h2
     subst h1
     rw [termB]
     refine ⟨hne,.inr (.inl ⟨rfl,rfl,rfl,peekT ts k,?_,hk,rfl⟩)⟩
     rw [← hn]
     exact hp
    ·split at h
     ·cases h
     ·rename_i s k1 e1
      have h1:=nameO_W hS e1
      split at h
      ·cases h
      ·rename_i l k2 he2
       have h2:=argsO_gives (termO_B hS m (ne+1)) he2
       have h5:=argsO_few (termO_fwd ts m (ne+1)) he2
       injection h with h3 h4
       subst h3
       rw [termB]
       refine ⟨hne,.inr (.inr ⟨rfl,rfl,⟨⟨_,h1.1,h1.2.2.1⟩,?_⟩,h5,h2⟩)⟩
       have:=h1.2.2.2
       rwa [bs_list'] at this
def typeB:Nat→Int→TypeT→Prop
 | 0,_,_=>False
 | m+1,ne,.mk v s l=>ne+1≤64∧((v=true∧l=[]∧VarB s) ∨ (v=false∧s=[105,110,116]∧l=[]) ∨ (v=false∧s ≠ [105,110,116]∧NameB s∧l.length≤8∧∀ x ∈ l,typeB m (ne+1) x))
theorem typeO_back:∀ (m:Nat) (ne:Int) (t:TypeT) (ts:List Tok) (k:Nat),typeB m ne t→Sits ts k (typeK t)→hasT ts (k+(typeK t).length) [40]=false→typeO ts m ne k=.ok t (k+(typeK t).length)
 | 0,_,_,_,_,h,_,_=>h.elim
 | m+1,ne,.mk v s l,ts,k,h,hs,hn=>by
  rw [typeB] at h
  obtain ⟨h1,h2⟩:=h
  rw [typeK,typesK_map] at hs hn ⊢
  obtain ⟨p1,p2,p3⟩:=hs.head
  rw [typeO,enterO_ok h1]
  rcases h2 with ⟨rfl,rfl,t,ht,hk⟩ | ⟨rfl,rfl,rfl⟩ | ⟨rfl,hi,hb,hl,hx⟩
  ·rw [(W.of ht).2] at p1
   simp only [p1,hk,if_true,ht.2]
   simp [argsT]
  ·rw [(W.of (t:=kwT [105,110,116]) (wt_kw rfl)).2] at p1
   have hh:hasT ts k [105,110,116]=true:=by rw [hasT_peek p1];rfl
   simp only [p1,hh,if_true]
   rw [if_neg (by decide)]
   simp [argsT]
  ·have hnm:=nameO_back hb p1
   obtain ⟨⟨t,ht,hk⟩,hr⟩:=hb
   rw [(W.of ht).2] at p1
   have hh:hasT ts k [105,110,116]=false:=by rw [hasT_peek p1,ht.2];simpa using hi
   simp only [p1,hk,hh,show ¬ ((1:Int)=2) by decide,if_false,Bool.false_eq_true]
   rw [hnm]
   simp only [List.length_cons] at hn ⊢
   have ha:=argsO_back (rd:=typeO ts m (ne+1)) (K:=typeK) (l:=l) (k:=k+1) (fun x hx2 k2 e1 e2=>typeO_back m (ne+1) x ts k2 (hx x hx2) e1 e2) p3 (by rw [← hn];congr 1;omega) hl
   simp only [ha]
   congr 1
   omega
theorem typeO_B {ts:List Tok} (hS:GoodT ts):∀ (m:Nat) (ne:Int),Gives (typeO ts m ne) (typeB m ne)
 | 0,_,_,_,_,h=>by simp [typeO] at h
 | m+1,ne,k,x,k',h=>by
  have hf:=typeO_fwd ts (m+1) ne _ _ _ h
  rw [typeO] at h
  split at h
  ·cases h
  ·rename_i he
   have hne:=enterO_B he (by omega)
   split at h
   ·rename_i hk
    have hp:=hS.kind (ts:=ts) (k:=k) (by rw [hk];decide)
    injection h with h1 h2
    subst h1
    rw [typeB]
    exact ⟨hne,.inl ⟨rfl,rfl,_,hp,hk⟩⟩
   ·split at h
    ·injection h with h1 h2
     subst h1
     rw [typeB]
     exact ⟨hne,.inr (.inl ⟨rfl,rfl,rfl⟩)⟩
    ·rename_i hi
     split at h
     ·cases h
     ·rename_i s k1 e1
      have h1:=nameO_W hS e1
      split at h
      ·cases h
      ·rename_i l k2 he2
       have h2:=argsO_gives (typeO_B hS m (ne+1)) he2
       have h5:=argsO_few (typeO_fwd ts m (ne+1)) he2
       injection h with h3 h4
       subst h3
       rw [typeB]
       refine ⟨hne,.inr (.inr ⟨rfl,?_,⟨⟨_,h1.1,h1.2.2.1⟩,?_⟩,h5,h2⟩)⟩
       ·intro e
        exact hi (by unfold hasT;rw [h1.1.2,e];rfl)
       ·have:=h1.2.2.2
        rwa [bs_list'] at this
end Lx
end Go.Proofs.YtajomoclbpobhaaGreatDoor
