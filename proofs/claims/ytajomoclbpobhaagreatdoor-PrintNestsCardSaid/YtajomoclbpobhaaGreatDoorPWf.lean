/- The words of what is read are one token each. No program stands in this text but the things' form. Conditions: each token is one by itself. -/
import Derived.Test.YtajomoclbpobhaaGreatDoorPLx
namespace Go.Proofs.YtajomoclbpobhaaGreatDoor
set_option linter.unusedSimpArgs false
set_option linter.unusedVariables false
namespace Lx
open Go Go.RowKit
def GoodT (ts:List Tok):Prop:=∀ t ∈ ts,tokAt t.text=some t
theorem GoodT.peek {ts:List Tok} (h:GoodT ts) {k:Nat} (hk:k < ts.length):WT (peekT ts k).text (peekT ts k):=by
 unfold peekT
 rw [List.getElem?_eq_getElem hk]
 exact ⟨h _ (List.getElem_mem hk),rfl⟩
theorem GoodT.kind {ts:List Tok} (h:GoodT ts) {k:Nat} (hk:(peekT ts k).kind ≠ 0):WT (peekT ts k).text (peekT ts k):=h.peek (peek_kind hk)
theorem tok_numW {l:List UInt8} {t:Tok} (h:tokAt l=some t) (hk:t.kind=3):t.text=Lib.itoa t.num:=by
 cases l with
 | nil=>simp [tokAt] at h
 | cons c r =>
  have hw:∀ k:Int,k ≠ 3→wordTok k (c :: r)=some t→False:=by
   intro k h3 h
   unfold wordTok at h
   split at h
   ·simp only [Option.some.injEq] at h
    subst h
    exact h3 hk
   ·cases h
  simp only [tokAt] at h
  split at h
  ·exact (hw 1 (by decide) h).elim
  ·split at h
   ·exact (hw 2 (by decide) h).elim
   ·split at h
    ·unfold numTok at h
     split at h
     ·cases h
     ·split at h
      ·rename_i v hv
       simp only [Option.some.injEq] at h
       subst h
       exact (numOf_bounds hv).2.1.symm
      ·cases h
    ·exfalso
     unfold markTok at h
     split at h
     ·simp only [Option.some.injEq] at h
      subst h
      exact absurd hk (by decide)
     ·simp only at h
      split at h
      ·simp only [Option.some.injEq] at h
       subst h
       have hk:(4:Int)=3:=hk
       exact absurd hk (by decide)
      ·cases h
theorem nameO_W {ts:List Tok} (hS:GoodT ts) {k:Nat} {s:List UInt8} {k':Nat} (h:nameO ts k=.ok s k'):WT s (peekT ts k)∧k'=k+1∧(peekT ts k).kind=1∧resv (bs s).toList=false:=by
 unfold nameO at h
 split at h
 ·rename_i hc
  injection h with h1 h2
  subst h1
  exact ⟨hS.kind (by rw [hc.1];decide),h2.symm,hc.1,hc.2⟩
 ·cases h
theorem varO_W {ts:List Tok} (hS:GoodT ts) {k:Nat} {s:List UInt8} {k':Nat} (h:varO ts k=.ok s k'):WT s (peekT ts k)∧k'=k+1:=by
 unfold varO at h
 split at h
 ·rename_i hc
  injection h with h1 h2
  subst h1
  exact ⟨hS.kind (by rw [hc];decide),h2.symm⟩
 ·cases h
theorem termO_W {ts:List Tok} (hS:GoodT ts):∀ (m:Nat) (ne:Int),Gives (termO ts m ne) termW
 | 0,_,_,_,_,h=>by simp [termO] at h
 | m+1,ne,k,x,k',h=>by
  rw [termO] at h
  split at h
  ·cases h
  ·split at h
   ·rename_i hk
    injection h with h1 h2
    subst h1
    rw [termW]
    exact ⟨(W.of (hS.kind (by rw [hk];decide))).1,by simp [termsW]⟩
   ·split at h
    ·rename_i hk
     have hp:=hS.kind (ts:=ts) (k:=k) (by rw [hk];decide)
     have hn:=tok_numW hp.1 hk
     injection h with h1 h2
     subst h1
     rw [termW,if_pos rfl,← hn]
     exact ⟨(W.of hp).1,by simp [termsW]⟩
    ·split at h
     ·cases h
     ·rename_i s k1 e1
      have h1:=nameO_W hS e1
      split at h
      ·cases h
      ·rename_i l k2 he2
       have h2:=argsO_gives (termO_W hS m (ne+1)) he2
       injection h with h3 h4
       subst h3
       rw [termW,termsW_iff]
       exact ⟨(W.of h1.1).1,h2⟩
theorem typeO_W {ts:List Tok} (hS:GoodT ts):∀ (m:Nat) (ne:Int),Gives (typeO ts m ne) typeW
 | 0,_,_,_,_,h=>by simp [typeO] at h
 | m+1,ne,k,x,k',h=>by
  rw [typeO] at h
  split at h
  ·cases h
  ·split at h
   ·rename_i hk
    injection h with h1 h2
    subst h1
    rw [typeW]
    exact ⟨(W.of (hS.kind (by rw [hk];decide))).1,by simp [typesW]⟩
   ·split at h
    ·injection h with h1 h2
     subst h1
     rw [typeW]
     exact ⟨(W.of (t:=kwT [105,110,116]) (wt_kw rfl)).1,by simp [typesW]⟩
    ·split at h
     ·cases h
     ·rename_i s k1 e1
      have h1:=nameO_W hS e1
      split at h
      ·cases h
      ·rename_i l k2 he2
       have h2:=argsO_gives (typeO_W hS m (ne+1)) he2
       injection h with h3 h4
       subst h3
       rw [typeW,typesW_iff]
       exact ⟨(W.of h1.1).1,h2⟩
theorem joinG_W (kind:Int) (hk:kind=5 ∨ kind=6) (l:List GoalT) (h:∀ g ∈ l,goalW' g):goalW' (joinG kind l):=by
 have hm:goalW' (.mk kind zeroT zeroT [] [] l):=by
  rw [goalW',goalsW_iff]
  refine ⟨fun e=>?_,fun e=>?_,fun e=>?_,fun e=>?_,h⟩ <;> (exfalso;rcases hk with rfl | rfl <;> exact absurd e (by decide))
 match l,h,hm with
 | [],_,hm=>exact hm
 | [g],h,_=>exact h g (by simp)
 | _ :: _ :: _,_,hm=>exact hm
theorem joinO_W {rd:Nat→Out GoalT} {ts:List Tok} {mark:List UInt8} {kind:Int} (hk:kind=5 ∨ kind=6) (hr:Gives rd goalW'):Gives (joinO rd ts mark kind) goalW':=by
 intro k x k' h
 unfold joinO at h
 split at h
 ·cases h
 ·rename_i l k2 he
  injection h with h1 h2
  subst h1
  exact joinG_W kind hk l (rowO_gives hr _ _ _ he)
theorem goalO_W {rd:Nat→Out GoalT} {ts:List Tok} (hr:Gives rd goalW'):Gives (goalO rd ts) goalW':=joinO_W (.inr rfl) (joinO_W (.inl rfl) hr)
theorem primO_W {ts:List Tok} (hS:GoodT ts):∀ (m:Nat) (ne:Int),Gives (primO ts m ne) goalW'
 | 0,_,_,_,_,h=>by simp [primO] at h
 | m+1,ne,k,x,k',h=>by
  have IH:=primO_W hS m (ne+1)
  have HT:=termO_W hS 66 (ne+1)
  rw [primO] at h
  split at h
  ·cases h
  ·split at h
   ·injection h with h1 h2
    subst h1
    simp [goalW',goalsW']
   ·split at h
    ·injection h with h1 h2
     subst h1
     simp [goalW',goalsW']
    ·split at h
     ·split at h
      ·cases h
      ·rename_i g k1 e1
       have h1:=IH _ _ _ e1
       injection h with h3 h4
       subst h3
       simp [goalW',goalsW',h1]
     ·split at h
      ·split at h
       ·cases h
       ·rename_i t k1 e1
        have h1:=HT _ _ _ e1
        injection h with h3 h4
        subst h3
        simp [goalW',goalsW',h1]
      ·split at h
       ·unfold guardO at h
        split at h
        ·cases h
        ·rename_i g k1 e1
         have h1:=IH _ _ _ e1
         split at h
         ·cases h
         ·split at h
          ·cases h
          ·rename_i s k3 e3
           have h3:=varO_W hS e3
           split at h
           ·cases h
           ·split at h
            ·cases h
            ·rename_i g2 k5 e5
             have h5:=IH _ _ _ e5
             injection h with h6 h7
             subst h6
             simp [goalW',goalsW',h1,h5,(W.of h3.1).1]
       ·split at h
        ·split at h
         ·cases h
         ·rename_i g k1 e1
          have h1:=goalO_W IH _ _ _ e1
          split at h
          ·cases h
          ·injection h with h6 h7
           subst h6
           exact h1
        ·unfold uocO at h
         split at h
         ·cases h
         ·rename_i t k1 e1
          have h1:=HT _ _ _ e1
          split at h
          ·split at h
           ·cases h
           ·rename_i u k2 e2
            have h2:=HT _ _ _ e2
            injection h with h3 h4
            subst h3
            simp [goalW',goalsW',h1,h2]
          ·split at h
           ·rename_i hk3
            obtain ⟨tk,tn,tz,tl⟩:=t
            have hk3:tk=3:=hk3
            subst hk3
            injection h with h3 h4
            subst h3
            rw [termW] at h1
            have h5:W tn:=h1.1
            simp [goalW',goalsW',TermT.args,TermT.name,h1.2,h5]
           ·cases h
theorem ctorO_W {ts:List Tok} (hS:GoodT ts) (ne:Int):Gives (ctorO ts ne) ctorW:=by
 intro k x k' h
 unfold ctorO at h
 split at h
 ·cases h
 ·rename_i s k1 e1
  have h1:=nameO_W hS e1
  split at h
  ·cases h
  ·rename_i l k2 e2
   have h2:=argsO_gives (typeO_W hS 66 ne) e2
   injection h with h3 h4
   subst h3
   exact ⟨(W.of h1.1).1,(typesW_iff l).2 h2⟩
theorem zeroG_W:goalW' zeroG:=by simp [zeroG,goalW',goalsW']
theorem trueG_W:goalW' trueG:=by simp [trueG,goalW',goalsW']
theorem itemO_W {ts:List Tok} (hS:GoodT ts) (ne:Int):Gives (itemO ts ne) itemW:=by
 intro k x k' h
 unfold itemO at h
 split at h
 ·unfold typeItemO at h
  split at h
  ·cases h
  ·rename_i s k1 e1
   have h1:=nameO_W hS e1
   split at h
   ·cases h
   ·rename_i vs k2 e2
    have h2:=argsO_gives (P:=W) (fun k x k' h=>(W.of (varO_W hS h).1).1) e2
    split at h
    ·cases h
    ·split at h
     ·cases h
     ·rename_i cs k4 e4
      have h4:=rowO_gives (ctorO_W hS ne) _ _ _ e4
      injection h with h5 h6
      subst h5
      exact ⟨fun _=>(W.of h1.1).1,h2,h4,by simp [typesW],by simp [termsW],zeroG_W⟩
 ·split at h
  ·unfold predO at h
   split at h
   ·cases h
   ·rename_i s k1 e1
    have h1:=nameO_W hS e1
    split at h
    ·cases h
    ·rename_i l k2 e2
     have h2:=argsO_gives (typeO_W hS 66 ne) e2
     injection h with h5 h6
     subst h5
     exact ⟨fun _=>(W.of h1.1).1,by simp,by simp,(typesW_iff l).2 h2,by simp [termsW],zeroG_W⟩
  ·split at h
   ·unfold modeItemO at h
    split at h
    ·cases h
    ·rename_i s k1 e1
     have h1:=nameO_W hS e1
     split at h
     ·cases h
     ·split at h
      ·cases h
      ·split at h
       ·cases h
       ·injection h with h5 h6
        subst h5
        exact ⟨fun _=>(W.of h1.1).1,by simp,by simp,by simp [typesW],by simp [termsW],zeroG_W⟩
   ·unfold clauseO at h
    split at h
    ·cases h
    ·rename_i s k1 e1
     have h1:=nameO_W hS e1
     split at h
     ·cases h
     ·rename_i l k2 e2
      have h2:=argsO_gives (termO_W hS 66 ne) e2
      split at h
      ·split at h
       ·cases h
       ·rename_i g k3 e3
        have h3:=goalO_W (primO_W hS 66 ne) _ _ _ e3
        injection h with h5 h6
        subst h5
        exact ⟨fun _=>(W.of h1.1).1,by simp,by simp,by simp [typesW],(termsW_iff l).2 h2,h3⟩
      ·injection h with h5 h6
       subst h5
       exact ⟨fun _=>(W.of h1.1).1,by simp,by simp,by simp [typesW],(termsW_iff l).2 h2,trueG_W⟩
theorem srcLoop_W {ts:List Tok} (hS:GoodT ts) (ne:Int):∀ (m k:Nat) (acc l:List ItemT) (k':Nat),srcLoop ts ne m k acc=.ok l k'→(∀ x ∈ acc,itemW x)→∀ x ∈ l,itemW x
 | 0,_,_,_,_,h,_=>by simp [srcLoop] at h
 | m+1,k,acc,l,k',h,hk=>by
  rw [srcLoop] at h
  split at h
  ·split at h
   ·cases h
   ·split at h
    ·cases h
    ·rename_i x k1 e1
     have h1:=itemO_W hS ne _ _ _ e1
     split at h
     ·cases h
     ·refine srcLoop_W hS ne m _ _ _ _ h (fun y hy=>?_)
      rcases List.mem_append.1 hy with hy | hy
      ·exact hk y hy
      ·obtain rfl:y=x:=by simpa using hy
       exact h1
  ·injection h with h1 h2
   subst h1
   exact hk
theorem sourceO_W {ts:List Tok} (hS:GoodT ts) {l:List ItemT} {k':Nat} (h:sourceO ts 0 0=.ok l k'):∀ x ∈ l,itemW x:=srcLoop_W hS 0 _ _ _ _ _ h (by simp)
end Lx
end Go.Proofs.YtajomoclbpobhaaGreatDoor
