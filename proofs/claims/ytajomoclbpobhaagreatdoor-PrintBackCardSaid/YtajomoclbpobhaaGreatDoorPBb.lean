/- What a text that is read comes to is so short, and its numbers such, that it can be printed. No conditions. -/
/- Items and whole sources: what is read can be read back from its form. No program stands in this text but the things' form; no conditions. -/
/- Goals set into goals, a level at a time: each is read back from its form. No program stands in this text but the things' form. Conditions: at most thirty-one levels. -/
import Derived.Test.YtajomoclbpobhaaGreatDoorPrM
import Derived.Test.YtajomoclbpobhaaGreatDoorSrg
import Derived.Test.YtajomoclbpobhaaGreatDoorPBa
import Derived.Test.YtajomoclbpobhaaGreatDoorPrIt
namespace Go.Proofs.YtajomoclbpobhaaGreatDoor
set_option linter.unusedSimpArgs false
set_option linter.unusedVariables false
namespace Lx
open Go Go.RowKit
theorem srcLoop_end {ts:List Tok} (ne:Int):∀ (m k:Nat) (acc l:List ItemT) (k':Nat),srcLoop ts ne m k acc=.ok l k'→k≤ts.length→k'≤ts.length
 | 0,_,_,_,_,h,_=>by simp [srcLoop] at h
 | m+1,k,acc,l,k',h,hk=>by
  rw [srcLoop] at h
  split at h
  ·split at h
   ·cases h
   ·split at h
    ·cases h
    ·rename_i x k1 e1
     split at h
     ·cases h
     ·rename_i u k2 e2
      have h2:=expO_fwd (ts:=ts) (s:=[46]) (by decide) _ _ _ e2
      exact srcLoop_end ne m k2 _ _ _ h h2.2
  ·injection h with h1 h2
   subst h2
   exact hk
/-- What is read can be printed. -/
theorem textO_prints {s:ByteArray} {l:List ItemT} {k:Nat} (h:textO srcG s=.ok l k):(∀ x ∈ l,itemOk x)∧(sourceF l).length≤327680000:=by
 unfold textO at h
 split at h
 ·cases h
 ·rename_i hs
  split at h
  ·cases h
  ·split at h
   ·cases h
   ·rename_i x k2 e
    split at h
    ·cases h
    ·injection h with h1 h2
     subst h1
     obtain ⟨q1,q2⟩:=toks_smallT (s:=s) (by omega)
     have h3:=sourceO_pays q1 0 e
     have h4:=srcLoop_end 0 _ _ _ _ _ e (Nat.zero_le _)
     have h5:=toks_len s.data.toList
     have hl:s.data.toList.length=s.size:=by simp
     exact ⟨sourceO_gives q2 0 e,by omega⟩
end Lx
end Go.Proofs.YtajomoclbpobhaaGreatDoor
namespace Go.Proofs.YtajomoclbpobhaaGreatDoor
set_option linter.unusedSimpArgs false
set_option linter.unusedVariables false
namespace Lx
open Go Go.RowKit
def ctorB:CtorT→Prop
 | .mk n l=>NameB n∧l.length≤8∧∀ x ∈ l,typeB 66 0 x
theorem ctorO_B {ts:List Tok} (hS:GoodT ts):Gives (ctorO ts 0) ctorB:=by
 intro k x k' h
 unfold ctorO at h
 split at h
 ·cases h
 ·rename_i s k1 e1
  have h1:=nameO_W hS e1
  split at h
  ·cases h
  ·rename_i l k2 e2
   have h2:=argsO_gives (typeO_B hS 66 0) e2
   have h5:=argsO_few (typeO_fwd ts 66 0) e2
   injection h with h3 h4
   subst h3
   refine ⟨⟨⟨_,h1.1,h1.2.2.1⟩,?_⟩,h5,h2⟩
   have:=h1.2.2.2
   rwa [bs_list'] at this
theorem ctorO_back {c:CtorT} {ts:List Tok} {k:Nat} (h:ctorB c) (hs:Sits ts k (ctorK c)) (hn:hasT ts (k+(ctorK c).length) [40]=false):ctorO ts 0 k=.ok c (k+(ctorK c).length):=by
 obtain ⟨n,l⟩:=c
 obtain ⟨hb,hl,hx⟩:=h
 rw [ctorK,typesK_map] at hs hn ⊢
 obtain ⟨p1,p2,p3⟩:=hs.head
 have hnm:=nameO_back hb p1
 simp only [List.length_cons] at hn ⊢
 have ha:=argsO_back (rd:=typeO ts 66 0) (K:=typeK) (l:=l) (k:=k+1) (fun x hx2 k2 e1 e2=>typeO_back 66 0 x ts k2 (hx x hx2) e1 e2) p3 (by rw [← hn];congr 1;omega) hl
 unfold ctorO
 rw [hnm]
 simp only [ha]
 congr 1
 omega
theorem wayO_back {b:Bool} {ts:List Tok} {k:Nat} (hs:Sits ts k (wayK b)):wayO ts k=.ok b (k+(wayK b).length):=by
 cases b with
 | true =>
  obtain ⟨p1,_,_⟩:=Sits.head (t:=kwT [105,110]) (T:=[]) hs
  unfold wayO
  rw [if_pos (by rw [hasT_peek p1];rfl)]
  rfl
 | false =>
  obtain ⟨p1,_,_⟩:=Sits.head (t:=kwT [111,117,116]) (T:=[]) hs
  unfold wayO
  rw [if_neg (by rw [hasT_peek p1];decide),if_pos (by rw [hasT_peek p1];rfl)]
  rfl
theorem detO_back {d:Int} (hd:1≤d∧d≤4) {ts:List Tok} {k:Nat} (hs:Sits ts k (detK d)):detO ts k=.ok d (k+(detK d).length):=by
 have hc:d=1 ∨ d=2 ∨ d=3 ∨ d=4:=by omega
 rcases hc with rfl | rfl | rfl | rfl
 ·obtain ⟨p1,_,_⟩:=Sits.head (t:=kwT [100,101,116]) (T:=[]) hs
  unfold detO
  simp only [hasT_peek p1]
  rfl
 ·obtain ⟨p1,_,_⟩:=Sits.head (t:=kwT [115,101,109,105,100,101,116]) (T:=[]) hs
  unfold detO
  simp only [hasT_peek p1]
  rfl
 ·obtain ⟨p1,_,_⟩:=Sits.head (t:=kwT [109,117,108,116,105]) (T:=[]) hs
  unfold detO
  simp only [hasT_peek p1]
  rfl
 ·obtain ⟨p1,_,_⟩:=Sits.head (t:=kwT [110,111,110,100,101,116]) (T:=[]) hs
  unfold detO
  simp only [hasT_peek p1]
  rfl
theorem detO_B {ts:List Tok} {k:Nat} {d:Int} {k':Nat} (h:detO ts k=.ok d k'):1≤d∧d≤4:=by
 unfold detO at h
 repeat' split at h
 all_goals first
  | (cases h;done)
  | (injection h with h1 h2;omega)
/-- An item as it is read. -/
def itemB (x:ItemT):Prop:=NameB x.name ∧
 ((∃ vs cs,x=⟨1,x.name,vs,cs,[],[],0,[],zeroG⟩∧vs.length≤8∧(∀ v ∈ vs,VarB v)∧cs ≠ []∧cs.length≤16384∧∀ c ∈ cs,ctorB c)
 ∨ (∃ l,x=⟨2,x.name,[],[],l,[],0,[],zeroG⟩∧l.length≤8∧∀ t ∈ l,typeB 66 0 t)
 ∨ (∃ ws d,x=⟨3,x.name,[],[],[],ws,d,[],zeroG⟩∧ws.length≤8∧1≤d∧d≤4)
 ∨ (∃ l g,x=⟨4,x.name,[],[],[],[],0,l,g⟩∧l.length≤8∧(∀ t ∈ l,termB 66 0 t)∧((kindG g=1∧g=trueG) ∨ (kindG g ≠ 1∧topB (primB 66 0) g))))
theorem prim_true {m:Nat} {ne:Int} {g:GoalT} (h:primB m ne g) (hk:kindG g=1):g=trueG:=by
 cases m with
 | zero=>exact h.elim
 | succ m =>
  rw [primB] at h
  obtain ⟨_,h2⟩:=h
  rcases h2 with rfl | rfl | ⟨a,rfl,h2⟩ | ⟨t,rfl,h2⟩ | ⟨a,b,s,rfl,hv,h2,h3⟩ | ⟨t,u,rfl,h2,h3⟩ | ⟨s,l,rfl,h2⟩ | ⟨e,h2⟩
  ·rfl
  ·exfalso;simp [kindG] at hk
  ·exfalso;simp [kindG] at hk
  ·exfalso;simp [kindG] at hk
  ·exfalso;simp [kindG] at hk
  ·exfalso;simp [kindG] at hk
  ·exfalso;simp [kindG] at hk
  ·exfalso;omega
theorem top_true {m:Nat} {ne:Int} {g:GoalT} (h:topB (primB m ne) g) (hk:kindG g=1):g=trueG:=by
 rcases h with ⟨gs,rfl,_⟩ | ⟨_,h⟩
 ·exfalso;simp [kindG] at hk
 ·rcases h with ⟨gs,rfl,_⟩ | ⟨_,h⟩
  ·exfalso;simp [kindG] at hk
  ·exact prim_true h hk
theorem nameO_B {ts:List Tok} (hS:GoodT ts) {k:Nat} {s:List UInt8} {k':Nat} (h:nameO ts k=.ok s k'):NameB s:=by
 have h1:=nameO_W hS h
 refine ⟨⟨_,h1.1,h1.2.2.1⟩,?_⟩
 have:=h1.2.2.2
 rwa [bs_list'] at this
theorem rowO_some {α:Type} {rd:Nat→Out α} {ts:List Tok} {mark:List UInt8} {most k k':Nat} {l:List α} (h:rowO rd ts mark most k=.ok l k'):l ≠ []:=by
 have key:∀ (n k:Nat) (acc l:List α) (k':Nat),rowLoop rd ts mark most n k acc=.ok l k'→acc ≠ []→l ≠ []:=by
  intro n
  induction n with
  | zero=>intro k acc l k' h;simp [rowLoop] at h
  | succ n ih =>
   intro k acc l k' h ha
   rw [rowLoop] at h
   split at h
   ·split at h
    ·cases h
    ·split at h
     ·cases h
     ·exact ih _ _ _ _ h (by simp)
   ·injection h with h1 h2
    subst h1
    exact ha
 unfold rowO at h
 split at h
 ·cases h
 ·exact key _ _ _ _ _ h (by simp)
theorem itemO_B {ts:List Tok} (hS:GoodT ts):Gives (itemO ts 0) itemB:=by
 intro k x k' h
 unfold itemO at h
 split at h
 ·unfold typeItemO at h
  split at h
  ·cases h
  ·rename_i s k1 e1
   split at h
   ·cases h
   ·rename_i vs k2 e2
    split at h
    ·cases h
    ·split at h
     ·cases h
     ·rename_i cs k4 e4
      injection h with h5 h6
      subst h5
      exact ⟨nameO_B hS e1,.inl ⟨vs,cs,rfl,argsO_few (varO_fwd ts) e2,argsO_gives (P:=VarB) (fun k x k' h=>varO_B hS h) e2,rowO_some e4,rowO_few (ctorO_fwd ts 0) (by decide) e4,rowO_gives (ctorO_B hS) _ _ _ e4⟩⟩
 ·split at h
  ·unfold predO at h
   split at h
   ·cases h
   ·rename_i s k1 e1
    split at h
    ·cases h
    ·rename_i l k2 e2
     injection h with h5 h6
     subst h5
     exact ⟨nameO_B hS e1,.inr (.inl ⟨l,rfl,argsO_few (typeO_fwd ts 66 0) e2,argsO_gives (typeO_B hS 66 0) e2⟩)⟩
  ·split at h
   ·unfold modeItemO at h
    split at h
    ·cases h
    ·rename_i s k1 e1
     split at h
     ·cases h
     ·rename_i ws k2 e2
      split at h
      ·cases h
      ·split at h
       ·cases h
       ·rename_i d k4 e4
        injection h with h5 h6
        subst h5
        exact ⟨nameO_B hS e1,.inr (.inr (.inl ⟨ws,d,rfl,argsO_few (wayO_fwd ts) e2,detO_B e4⟩))⟩
   ·unfold clauseO at h
    split at h
    ·cases h
    ·rename_i s k1 e1
     split at h
     ·cases h
     ·rename_i l k2 e2
      have hn:=nameO_B hS e1
      have hl:=argsO_few (termO_fwd ts 66 0) e2
      have ht:=argsO_gives (termO_B hS 66 0) e2
      split at h
      ·split at h
       ·cases h
       ·rename_i g k3 e3
        injection h with h5 h6
        subst h5
        have hg:=goalO_B (primO_B hS 66 0) _ _ _ e3
        refine ⟨hn,.inr (.inr (.inr ⟨l,g,rfl,hl,ht,?_⟩))⟩
        by_cases hk:kindG g=1
        ·exact .inl ⟨hk,top_true hg hk⟩
        ·exact .inr ⟨hk,hg⟩
      ·injection h with h5 h6
       subst h5
       exact ⟨hn,.inr (.inr (.inr ⟨l,trueG,rfl,hl,ht,.inl ⟨rfl,rfl⟩⟩))⟩
theorem expO_back {ts:List Tok} {k:Nat} {s:List UInt8} {t:Tok} (h:peekT ts k=t) (ht:(t.text == s)=true):expO ts k s=.ok () (k+1):=by
 unfold expO
 rw [if_pos (by rw [hasT_peek h,ht])]
theorem name_not {ts:List Tok} {k:Nat} {s:List UInt8} (h:NameB s) (hp:peekT ts k=tokOf s) {u:List UInt8} (hu:resv u=true):¬ hasT ts k u=true:=by
 obtain ⟨⟨t,ht,hk⟩,hr⟩:=h
 rw [(W.of ht).2] at hp
 rw [hasT_peek hp,ht.2]
 intro e
 have e2:s=u:=by simpa using e
 rw [e2,hu] at hr
 cases hr
theorem item_back {x:ItemT} {ts:List Tok} {k:Nat} (h:itemB x) (hs:Sits ts k (itemK x)):∃ k1,itemO ts 0 k=.ok x k1∧expO ts k1 [46]=.ok () (k1+1)∧k1+1=k+(itemK x).length:=by
 obtain ⟨hn,h⟩:=h
 rcases h with ⟨vs,cs,hx,hv1,hv2,hc1,hc2,hc3⟩ | ⟨l,hx,hl,ht⟩ | ⟨ws,d,hx,hw,hd⟩ | ⟨l,g,hx,hl,ht,hg⟩
 ·generalize x.name=s at hx hn
  subst hx
  simp only [itemK,if_true,List.cons_append,List.append_assoc] at hs ⊢
  obtain ⟨p1,_,hs⟩:=hs.head
  obtain ⟨p2,_,hs⟩:=hs.head
  obtain ⟨ha,hs⟩:=hs.app
  obtain ⟨p3,_,hs⟩:=hs.head
  obtain ⟨hc,hs⟩:=hs.app
  obtain ⟨p4,_,_⟩:=hs.head
  have e1:=nameO_back hn p2
  have e2:=argsO_back (rd:=varO ts) (K:=fun v=>[tokOf v]) (l:=vs) (k:=k+1+1) (fun x hx2 k2 q1 q2=>varO_back (hv2 x hx2) q1.head.1) ha (by rw [hasT_peek p3];rfl) hv1
  have e3:=expO_back (s:=[61]) p3 rfl
  have e4:=rowO_back (rd:=ctorO ts 0) (K:=ctorK) (t:=mkT [124]) (mark:=[124]) (most:=16384) (P:=fun k=>hasT ts k [40]=false) rfl (fun k e=>by rw [hasT_peek e];rfl) hc1 (fun x hx2 k2 q1 q2=>ctorO_back (hc3 x hx2) q1 q2) hc (by rw [hasT_peek p4];rfl) (by rw [hasT_peek p4];rfl) hc2
  have e5:=expO_back (s:=[46]) p4 rfl
  refine ⟨_,?_,e5,?_⟩
  ·unfold itemO
   rw [if_pos (by rw [hasT_peek p1];rfl)]
   unfold typeItemO
   rw [e1]
   simp only [e2,e3,e4]
  ·simp only [List.length_cons,List.length_append,List.length_nil]
   omega
 ·generalize x.name=s at hx hn
  subst hx
  simp only [itemK,show ¬ ((2:Int)=1) by decide,if_true,if_false,List.cons_append,List.append_assoc,typesK_map] at hs ⊢
  obtain ⟨p1,_,hs⟩:=hs.head
  obtain ⟨p2,_,hs⟩:=hs.head
  obtain ⟨ha,hs⟩:=hs.app
  obtain ⟨p4,_,_⟩:=hs.head
  have e1:=nameO_back hn p2
  have e2:=argsO_back (rd:=typeO ts 66 0) (K:=typeK) (l:=l) (k:=k+1+1) (fun x hx2 k2 q1 q2=>typeO_back 66 0 x ts k2 (ht x hx2) q1 q2) ha (by rw [hasT_peek p4];rfl) hl
  have e5:=expO_back (s:=[46]) p4 rfl
  refine ⟨_,?_,e5,?_⟩
  ·unfold itemO
   rw [if_neg (by rw [hasT_peek p1];decide),if_pos (by rw [hasT_peek p1];rfl)]
   unfold predO
   rw [e1]
   simp only [e2]
  ·simp only [List.length_cons,List.length_append,List.length_nil]
   omega
 ·generalize x.name=s at hx hn
  subst hx
  simp only [itemK,show ¬ ((3:Int)=1) by decide,show ¬ ((3:Int)=2) by decide,if_true,if_false,List.cons_append,List.append_assoc] at hs ⊢
  obtain ⟨p1,_,hs⟩:=hs.head
  obtain ⟨p2,_,hs⟩:=hs.head
  obtain ⟨ha,hs⟩:=hs.app
  obtain ⟨p3,_,hs⟩:=hs.head
  obtain ⟨hc,hs⟩:=hs.app
  obtain ⟨p4,_,_⟩:=hs.head
  have e1:=nameO_back hn p2
  have e2:=argsO_back (rd:=wayO ts) (K:=wayK) (l:=ws) (k:=k+1+1) (fun x hx2 k2 q1 q2=>wayO_back q1) ha (by rw [hasT_peek p3];rfl) hw
  have e3:=expO_back (s:=[105,115]) p3 rfl
  have e4:=detO_back hd hc
  have e5:=expO_back (s:=[46]) p4 rfl
  refine ⟨_,?_,e5,?_⟩
  ·unfold itemO
   rw [if_neg (by rw [hasT_peek p1];decide),if_neg (by rw [hasT_peek p1];decide),if_pos (by rw [hasT_peek p1];rfl)]
   unfold modeItemO
   rw [e1]
   simp only [e2,e3,e4]
  ·simp only [List.length_cons,List.length_append,List.length_nil]
   omega
 ·generalize x.name=s at hx hn
  subst hx
  simp only [itemK,show ¬ ((4:Int)=1) by decide,show ¬ ((4:Int)=2) by decide,show ¬ ((4:Int)=3) by decide,if_true,if_false,List.cons_append,List.append_assoc,termsK_map] at hs ⊢
  obtain ⟨p2,_,hs⟩:=hs.head
  obtain ⟨ha,hs⟩:=hs.app
  have e1:=nameO_back hn p2
  have n1:=name_not (u:=[116,121,112,101]) hn p2 (by decide)
  have n2:=name_not (u:=[112,114,101,100]) hn p2 (by decide)
  have n3:=name_not (u:=[109,111,100,101]) hn p2 (by decide)
  rcases hg with ⟨hk,rfl⟩ | ⟨hk,hg⟩
  ·have hb:bodyK trueG=[]:=by unfold bodyK;rw [if_pos hk]
   rw [hb,List.nil_append] at hs ⊢
   obtain ⟨p4,_,_⟩:=hs.head
   have e2:=argsO_back (rd:=termO ts 66 0) (K:=termK) (l:=l) (k:=k+1) (fun x hx2 k2 q1 q2=>termO_back 66 0 x ts k2 (ht x hx2) q1 q2) ha (by rw [hasT_peek p4];rfl) hl
   have e5:=expO_back (s:=[46]) p4 rfl
   refine ⟨_,?_,e5,?_⟩
   ·unfold itemO
    rw [if_neg n1,if_neg n2,if_neg n3]
    unfold clauseO
    rw [e1]
    simp only [e2]
    rw [if_neg (by rw [hasT_peek p4];decide)]
   ·simp only [List.length_cons,List.length_append,List.length_nil]
    omega
  ·have hb:bodyK g=mkT [58,45] :: goalK g:=by unfold bodyK;rw [if_neg hk]
   rw [hb] at hs ⊢
   simp only [List.cons_append] at hs ⊢
   obtain ⟨p3,_,hs⟩:=hs.head
   obtain ⟨hc,hs⟩:=hs.app
   obtain ⟨p4,_,_⟩:=hs.head
   have e2:=argsO_back (rd:=termO ts 66 0) (K:=termK) (l:=l) (k:=k+1) (fun x hx2 k2 q1 q2=>termO_back 66 0 x ts k2 (ht x hx2) q1 q2) ha (by rw [hasT_peek p3];rfl) hl
   have e4:=top_back (prim_back 66 0) g ts _ hg hc ⟨stc_tok p4 rfl rfl rfl,by rw [hasT_peek p4];rfl⟩
   have e5:=expO_back (s:=[46]) p4 rfl
   refine ⟨_,?_,e5,?_⟩
   ·unfold itemO
    rw [if_neg n1,if_neg n2,if_neg n3]
    unfold clauseO
    rw [e1]
    simp only [e2]
    rw [if_pos (by rw [hasT_peek p3];rfl),e4]
   ·simp only [List.length_cons,List.length_append,List.length_nil]
    omega
theorem itemK_pos (x:ItemT):0 < (itemK x).length:=by
 unfold itemK
 simp only [List.length_append,List.length_cons,List.length_nil]
 omega
theorem srcLoop_back {ts:List Tok}:∀ (l acc:List ItemT) (m k:Nat),(∀ x ∈ l,itemB x)→Sits ts k (sourceK l)→ts.length=k+(sourceK l).length→acc.length+l.length≤512→l.length < m→srcLoop ts 0 m k acc=.ok (acc++l) ts.length
 | [],acc,m,k,_,_,hk,_,hm=>by
  obtain ⟨m,rfl⟩:∃ q,m=q+1:=⟨m - 1,by simp at hm;omega⟩
  have hk2:ts.length=k:=by simpa [sourceK] using hk
  rw [srcLoop,if_neg (by omega),hk2,List.append_nil]
 | x :: l,acc,m,k,hB,hs,hk,hl,hm=>by
  obtain ⟨m,rfl⟩:∃ q,m=q+1:=⟨m - 1,by simp at hm;omega⟩
  have hK:sourceK (x :: l)=itemK x++sourceK l:=by simp [sourceK]
  rw [hK] at hs hk
  rw [List.length_append] at hk
  have hp:=itemK_pos x
  obtain ⟨h1,h2⟩:=hs.app
  obtain ⟨k1,q1,q2,q3⟩:=item_back (hB x (by simp)) h1
  simp only [List.length_cons] at hl hm
  rw [srcLoop,if_pos (by omega),if_neg (by omega),q1]
  simp only [q2]
  rw [q3]
  have ih:=srcLoop_back l (acc++[x]) m (k+(itemK x).length) (fun y hy=>hB y (by simp [hy])) h2 (by omega) (by simp only [List.length_append,List.length_cons,List.length_nil];omega) (by omega)
  rw [ih,List.append_assoc]
  rfl
theorem srcLoop_B {ts:List Tok} (hS:GoodT ts):∀ (m k:Nat) (acc l:List ItemT) (k':Nat),srcLoop ts 0 m k acc=.ok l k'→(∀ x ∈ acc,itemB x)→acc.length≤512→(∀ x ∈ l,itemB x)∧l.length≤512
 | 0,_,_,_,_,h,_,_=>by simp [srcLoop] at h
 | m+1,k,acc,l,k',h,hk,hn=>by
  rw [srcLoop] at h
  split at h
  ·split at h
   ·cases h
   ·split at h
    ·cases h
    ·rename_i hne x k1 e1
     have h1:=itemO_B hS _ _ _ e1
     split at h
     ·cases h
     ·refine srcLoop_B hS m _ _ _ _ h (fun y hy=>?_) (by simp only [List.length_append,List.length_cons,List.length_nil];omega)
      rcases List.mem_append.1 hy with hy | hy
      ·exact hk y hy
      ·obtain rfl:y=x:=by simpa using hy
       exact h1
  ·injection h with h1 h2
   subst h1
   exact ⟨hk,hn⟩
/-- What can be said of a source that was read and is printed. -/
structure RoundS (l:List ItemT):Prop where
 ok:∀ x ∈ l,itemOk x
 shape:∀ x ∈ l,itemB x
 few:l.length≤512
 short:(sourceF l).length≤327680000
 back:(sourceF l).length≤16384→∃ k,textO srcG (bs (sourceF l))=.ok l k
 big:16384 < (sourceF l).length→textO srcG (bs (sourceF l))=.no 1
theorem source_round {s:ByteArray} {l:List ItemT} {k:Nat} (h:textO srcG s=.ok l k):RoundS l:=by
 obtain ⟨h1,h2,h3⟩:=text_open h
 have hS:GoodT (toks s.data.toList):=fun t ht=>toks_good ht
 obtain ⟨b1,b2⟩:=srcLoop_B hS _ _ _ _ _ h2 (by simp) (by simp)
 obtain ⟨o1,o2⟩:=textO_prints h
 have hW:=sourceO_W hS h2
 have hT:=source_toks l hW
 refine ⟨o1,b1,b2,o2,fun hl=>?_,fun hl=>text_big hl⟩
 have hfu:l.length < (sourceK l).length+1:=by
  have:∀ l:List ItemT,l.length≤(sourceK l).length:=by
   intro l
   induction l with
   | nil=>simp
   | cons x l ih =>
    have hp:=itemK_pos x
    have hK:sourceK (x :: l)=itemK x++sourceK l:=by simp [sourceK]
    rw [hK,List.length_append,List.length_cons]
    omega
  have:=this l
  omega
 have hr:=srcLoop_back (ts:=sourceK l) l [] ((sourceK l).length+1) 0 b1 (sits_all _) (by omega) (by simpa using b2) hfu
 exact ⟨_,text_close hT hl hr (Nat.le_refl _)⟩
end Lx
end Go.Proofs.YtajomoclbpobhaaGreatDoor
namespace Go.Proofs.YtajomoclbpobhaaGreatDoor
set_option linter.unusedSimpArgs false
set_option linter.unusedVariables false
namespace Lx
open Go Go.RowKit
def failG:GoalT:=.mk 2 zeroT zeroT [] [] []
def callG:GoalT:=.mk 4 zeroT zeroT [113] [] []
def nestL (m:Int) (g:GoalT):List GoalT:=if m=1 ∨ m=6 then [failG,g] else if m=3 then [failG,g,failG] else if m=4 then [g] else [g,failG]
def nestK (m:Int):Int:=if m=0 ∨ m=1 then 5 else if m=2 ∨ m=3 then 6 else if m=4 then 7 else 9
def nestS (m:Int):List UInt8:=if m=5 then [69] else if m=6 then [95] else []
def inNest (m:Int):Prop:=m=0 ∨ m=1 ∨ m=2 ∨ m=3 ∨ m=4 ∨ m=5 ∨ m=6
def nestG (m:Int) (g:GoalT):GoalT:=.mk (nestK m) zeroT zeroT (nestS m) [] (nestL m g)
theorem nestL_mem {m:Int} {g x:GoalT} (h:x ∈ nestL m g):x=g ∨ x=failG:=by
 unfold nestL at h
 split at h
 ·simp at h;exact h.symm
 ·split at h
  ·simp at h;rcases h with h | h | h <;> simp [h]
  ·split at h
   ·simp at h;exact .inl h
   ·simpa using h
theorem varB_E:VarB [69]:=⟨⟨2,[69],0⟩,⟨by rfl,rfl⟩,rfl⟩
theorem varB_u:VarB [95]:=⟨⟨2,[95],0⟩,⟨by rfl,rfl⟩,rfl⟩
theorem nameB_q:NameB [113]:=⟨⟨⟨1,[113],0⟩,⟨by rfl,rfl⟩,rfl⟩,by decide⟩
/-- A goal that is read back however deep it stands, so many levels of its own left out. -/
def QB (j:Nat) (g:GoalT):Prop:=∀ (m:Nat) (ne:Int),j < m→ne+j+2≤64→primB m ne g
theorem fail_prim {m:Nat} {ne:Int} (h:0 < m) (h1:ne+1≤64):primB m ne failG:=by
 obtain ⟨m,rfl⟩:∃ q,m=q+1:=⟨m - 1,by omega⟩
 rw [primB]
 exact ⟨h1,.inr (.inl rfl)⟩
theorem call_QB:QB 0 callG:=fun m ne h h1=>by
 obtain ⟨m,rfl⟩:∃ q,m=q+1:=⟨m - 1,by omega⟩
 rw [primB]
 refine ⟨by omega,.inr (.inr (.inr (.inr (.inr (.inr (.inl ⟨[113],[],rfl,?_⟩))))))⟩
 show termB 66 (ne+1) (.mk 3 [113] 0 [])
 rw [termB]
 exact ⟨by omega,.inr (.inr ⟨rfl,rfl,nameB_q,by simp,fun x hx=>by cases hx⟩)⟩
theorem QB.succ {j:Nat} {g:GoalT} (h:QB j g):QB (j+1) g:=fun m ne h1 h2=>h m ne (by omega) (by omega)
theorem QB.nest {j:Nat} {g:GoalT} (h:QB j g) {m:Int} (hm:inNest m):QB (j+1) (nestG m g):=fun d ne h1 h2=>by
 obtain ⟨d,rfl⟩:∃ q,d=q+1:=⟨d - 1,by omega⟩
 have hg:primB d (ne+1) g:=h d (ne+1) (by omega) (by omega)
 have hf:primB d (ne+1) failG:=fail_prim (by omega) (by omega)
 have hL:∀ x ∈ nestL m g,primB d (ne+1) x:=fun x hx=>by rcases nestL_mem hx with rfl | rfl <;> assumption
 rw [primB]
 refine ⟨by omega,?_⟩
 rcases hm with rfl | rfl | rfl | rfl | rfl | rfl | rfl
 ·exact .inr (.inr (.inr (.inr (.inr (.inr (.inr ⟨.inl rfl,.inr ⟨by simp [nestG,nestK,kindG],.inl ⟨_,rfl,by simp [nestL],by simp [nestL],hL⟩⟩⟩))))))
 ·exact .inr (.inr (.inr (.inr (.inr (.inr (.inr ⟨.inl rfl,.inr ⟨by simp [nestG,nestK,kindG],.inl ⟨_,rfl,by simp [nestL],by simp [nestL],hL⟩⟩⟩))))))
 ·exact .inr (.inr (.inr (.inr (.inr (.inr (.inr ⟨.inr rfl,.inl ⟨_,rfl,by simp [nestL],by simp [nestL],fun x hx=>prim_conj (hL x hx)⟩⟩))))))
 ·exact .inr (.inr (.inr (.inr (.inr (.inr (.inr ⟨.inr rfl,.inl ⟨_,rfl,by simp [nestL],by simp [nestL],fun x hx=>prim_conj (hL x hx)⟩⟩))))))
 ·exact .inr (.inr (.inl ⟨g,rfl,hg⟩))
 ·exact .inr (.inr (.inr (.inr (.inl ⟨g,failG,[69],rfl,varB_E,hg,hf⟩))))
 ·exact .inr (.inr (.inr (.inr (.inl ⟨failG,g,[95],rfl,varB_u,hf,hg⟩))))
theorem W_of {s:List UInt8} (h:VarB s):W s:=by
 obtain ⟨t,h1,_⟩:=h
 exact (W.of h1).1
theorem W_ofN {s:List UInt8} (h:NameB s):W s:=by
 obtain ⟨⟨t,h1,_⟩,_⟩:=h
 exact (W.of h1).1
theorem fail_W:goalW' failG:=by simp [failG,goalW',goalsW']
theorem call_W:goalW' callG:=by
 rw [callG,goalW']
 exact ⟨fun h=>by simp at h,fun _=>⟨W_ofN nameB_q,by simp [termsW]⟩,fun h=>by simp at h,fun h=>by simp at h,by simp [goalsW']⟩
theorem nest_W {g:GoalT} (h:goalW' g) {m:Int} (hm:inNest m):goalW' (nestG m g):=by
 rw [nestG,goalW']
 refine ⟨fun e=>?_,fun e=>?_,fun e=>?_,fun e=>?_,(goalsW_iff _).2 fun x hx=>by rcases nestL_mem hx with rfl | rfl;exact h;exact fail_W⟩
 ·rcases hm with rfl | rfl | rfl | rfl | rfl | rfl | rfl <;> simp [nestK] at e
 ·rcases hm with rfl | rfl | rfl | rfl | rfl | rfl | rfl <;> simp [nestK] at e
 ·rcases hm with rfl | rfl | rfl | rfl | rfl | rfl | rfl <;> simp [nestK] at e
 ·rcases hm with rfl | rfl | rfl | rfl | rfl | rfl | rfl
  ·simp [nestK] at e
  ·simp [nestK] at e
  ·simp [nestK] at e
  ·simp [nestK] at e
  ·simp [nestK] at e
  ·exact W_of varB_E
  ·exact W_of varB_u
theorem fail_ok:goalOk failG:=by simp [failG,goalOk,goalsOk,termsOk,zeroT_ok]
theorem call_ok:goalOk callG:=by simp [callG,goalOk,goalsOk,termsOk,zeroT_ok]
theorem nest_ok {g:GoalT} (h:goalOk g) (m:Int):goalOk (nestG m g):=by
 rw [nestG,goalOk]
 exact ⟨zeroT_ok,zeroT_ok,by simp [termsOk],(goalsOk_iff _).2 fun x hx=>by rcases nestL_mem hx with rfl | rfl;exact h;exact fail_ok⟩
theorem paren_len (s:List UInt8):(parenF s).length=s.length+2:=by simp [parenF]
theorem conjW_len (p:Int × List UInt8):(conjW p).length≤p.2.length+2:=by
 unfold conjW
 split
 ·rw [paren_len];exact Nat.le_refl _
 ·omega
theorem primW_len (p:Int × List UInt8):(primW p).length≤p.2.length+2:=by
 unfold primW
 split
 ·rw [paren_len];exact Nat.le_refl _
 ·exact conjW_len p
theorem nest_len (g:GoalT) {m:Int} (hm:inNest m):(goalF (nestG m g)).length≤(goalF g).length+60:=by
 have e1:=primW_len (kindG g,goalF g)
 have e2:=conjW_len (kindG g,goalF g)
 have e3:primW (kindG failG,goalF failG)=[102,97,105,108]:=rfl
 have e4:conjW (kindG failG,goalF failG)=[102,97,105,108]:=rfl
 have e5:goalF failG=[102,97,105,108]:=rfl
 have e6:kindG failG=2:=rfl
 rw [nestG,goalF,goalsF_map]
 simp only [] at e1 e2
 rcases hm with rfl | rfl | rfl | rfl | rfl | rfl | rfl <;> simp [goalW,nestK,nestL,nestS,joinF,partW,e3,e4] <;> (simp [e5,e6,primW,conjW] at *;omega)
theorem call_len:(goalF callG).length=1:=rfl
theorem nest_round {j:Nat} {g:GoalT} (hq:QB j g) (hw:goalW' g) (hj:j≤60) (hl:(goalF g).length≤16384):Round rdGo goalF g:=by
 have hB:topB (primB 66 0) g:=conj_top (prim_conj (hq 66 0 (by omega) (by omega)))
 refine round_of (K:=goalK) (lxs_goal g hw) ?_ (fun k e=>?_) (by omega)
 ·have:=top_back (prim_back 66 0) g (goalK g) 0 hB (sits_all _) ⟨⟨⟨hasT_out (by omega) _ (by simp),hasT_out (by omega) _ (by simp)⟩,hasT_out (by omega) _ (by simp)⟩,hasT_out (by omega) _ (by simp)⟩
  rw [Nat.zero_add] at this
  exact this
 ·have:=joinO_fwd (joinO_fwd (primO_fwd [] 66 0) [44] 5) [59] 6 _ _ _ e
  simp at this
  omega
end Lx
end Go.Proofs.YtajomoclbpobhaaGreatDoor
