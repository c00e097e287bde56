/- Terms and types: what is read can be read back from its form's tokens. No program stands in this text but the things' form. Conditions: each token is one by itself. -/
/- Goals: what is read can be read back from its form's tokens. No program stands in this text but the things' form. Conditions: each token is one by itself. -/
/- A term, a type, a goal that was read, printed, is read again as it was. No program stands in this text but the things' form; no conditions. -/
import Derived.Test.YtiljemkglhloeaaGreatDoorPLa
import Derived.Test.YtiljemkglhloeaaGreatDoorPrFL
import Derived.Test.YtiljemkglhloeaaGreatDoorPlainA
import Derived.Test.YtiljemkglhloeaaGreatDoorTextI
namespace Go.Proofs.YtiljemkglhloeaaGreatDoor
set_option linter.unusedSimpArgs false
set_option linter.unusedVariables false
namespace Lx
open Go Go.RowKit
theorem bs_list' (l:List UInt8):(bs l).toList=l:=by rw [ByteArray.toList_eq];rfl
/-- The tokens T stand in ts from k on. -/
def Sits (ts:List Tok) (k:Nat) (T:List Tok):Prop:=∃ rest,ts.drop k=T++rest
theorem Sits.app {ts:List Tok} {k:Nat} {T U:List Tok} (h:Sits ts k (T++U)):Sits ts k T∧Sits ts (k+T.length) U:=by
 obtain ⟨r,hr⟩:=h
 refine ⟨⟨U++r,by rw [hr,List.append_assoc]⟩,⟨r,?_⟩⟩
 rw [← List.drop_drop,hr,List.append_assoc,List.drop_left]
theorem Sits.head {ts:List Tok} {k:Nat} {t:Tok} {T:List Tok} (h:Sits ts k (t :: T)):peekT ts k=t∧k < ts.length∧Sits ts (k+1) T:=by
 obtain ⟨r,hr⟩:=h
 have hk:k < ts.length:=by
  rcases Nat.lt_or_ge k ts.length with h1 | h1
  ·exact h1
  ·rw [List.drop_eq_nil_of_le h1] at hr
   simp at hr
 rw [List.drop_eq_getElem_cons hk] at hr
 injection hr with h1 h2
 refine ⟨?_,hk,⟨r,h2⟩⟩
 unfold peekT
 rw [List.getElem?_eq_getElem hk,h1]
 rfl
theorem Sits.len {ts:List Tok} {k:Nat} {T:List Tok} (h:Sits ts k T) (hT:T ≠ []):k+T.length≤ts.length:=by
 obtain ⟨r,hr⟩:=h
 have h1:=congrArg List.length hr
 rw [List.length_drop,List.length_append] at h1
 have h2:0 < T.length:=List.length_pos_iff.2 hT
 omega
theorem enterO_B {ts:List Tok} {k:Nat} {ne:Int} {u:Unit} {k':Nat} (h:enterO ts k ne=.ok u k') (hk:k < ts.length):ne+1≤64:=by
 unfold enterO at h
 split at h
 ·cases h
 ·rename_i hc
  have h1:¬ (64 < ne+1):=fun e=>hc ⟨e,hk⟩
  omega
theorem rowLoop_few {α:Type} {rd:Nat→Out α} {ts:List Tok} (hr:Fwd ts rd) {mark:List UInt8} {most:Nat}:∀ (n k:Nat) (acc l:List α) (k':Nat),rowLoop rd ts mark most n k acc=.ok l k'→acc.length≤most→l.length≤most
 | 0,_,_,_,_,h,_=>by simp [rowLoop] at h
 | n+1,k,acc,l,k',h,ha=>by
  rw [rowLoop] at h
  split at h
  ·split at h
   ·cases h
   ·rename_i hc
    split at h
    ·cases h
    ·rename_i x k2 he
     refine rowLoop_few hr n k2 _ _ _ h ?_
     have h1:=hr _ _ _ he
     simp only [List.length_append,List.length_cons,List.length_nil]
     by_cases hq:acc.length=most
     ·exfalso
      exact hc ⟨hq,by omega⟩
     ·omega
  ·injection h with h1 h2
   subst h1
   exact ha
theorem rowO_few {α:Type} {rd:Nat→Out α} {ts:List Tok} (hr:Fwd ts rd) {mark:List UInt8} {most:Nat} (hm:1≤most) {k:Nat} {l:List α} {k':Nat} (h:rowO rd ts mark most k=.ok l k'):l.length≤most:=by
 unfold rowO at h
 split at h
 ·cases h
 ·exact rowLoop_few hr _ _ _ _ _ h hm
theorem argsO_few {α:Type} {rd:Nat→Out α} {ts:List Tok} (hr:Fwd ts rd) {k:Nat} {l:List α} {k':Nat} (h:argsO rd ts k=.ok l k'):l.length≤8:=by
 unfold argsO at h
 split at h
 ·split at h
  ·cases h
  ·rename_i l1 k1 he
   have h1:=rowO_few hr (by decide) he
   split at h
   ·cases h
   ·injection h with h3 h4
    subst h3
    exact h1
 ·injection h with h1 h2
  subst h1
  simp
/-! ### terms, types -/
def NameB (s:List UInt8):Prop:=(∃ t,WT s t∧t.kind=1)∧resv s=false
def VarB (s:List UInt8):Prop:=∃ t,WT s t∧t.kind=2
def termB:Nat→Int→TermT→Prop
 | 0,_,_=>False
 | m+1,ne,.mk k s z l=>ne+1≤64∧((k=1∧z=0∧l=[]∧VarB s) ∨ (k=2∧s=[]∧l=[]∧∃ t,WT (Lib.itoa z) t∧t.kind=3∧t.num=z) ∨ (k=3∧z=0∧NameB s∧l.length≤8∧∀ x ∈ l,termB m (ne+1) x))
theorem termO_B {ts:List Tok} (hS:GoodT ts):∀ (m:Nat) (ne:Int),Gives (termO ts m ne) (termB m ne)
 | 0,_,_,_,_,h=>by simp [termO] at h
 | m+1,ne,k,x,k',h=>by
  have hf:=termO_fwd ts (m+1) ne _ _ _ h
  rw [termO] at h
  split at h
  ·cases h
  ·rename_i he
   have hne:=enterO_B he (by omega)
   split at h
   ·rename_i hk
    have hp:=hS.kind (ts:=ts) (k:=k) (by rw [hk];decide)
    injection h with h1 h2
    subst h1
    rw [termB]
    exact ⟨hne,.inl ⟨rfl,rfl,rfl,_,hp,hk⟩⟩
   ·split at h
    ·rename_i hk
     have hp:=hS.kind (ts:=ts) (k:=k) (by rw [hk];decide)
     have hn:=tok_numW hp.1 hk
     injection h with h1 h2
     subst h1
     rw [termB]
     refine ⟨hne,.inr (.inl ⟨rfl,rfl,rfl,peekT ts k,?_,hk,rfl⟩)⟩
     rw [← hn]
     exact hp
    ·split at h
     ·cases h
     ·rename_i s k1 e1
      have h1:=nameO_W hS e1
      split at h
      ·cases h
      ·rename_i l k2 he2
       have h2:=argsO_gives (termO_B hS m (ne+1)) he2
       have h5:=argsO_few (termO_fwd ts m (ne+1)) he2
       injection h with h3 h4
       subst h3
       rw [termB]
       refine ⟨hne,.inr (.inr ⟨rfl,rfl,⟨⟨_,h1.1,h1.2.2.1⟩,?_⟩,h5,h2⟩)⟩
       have:=h1.2.2.2
       rwa [bs_list'] at this
end Lx
end Go.Proofs.YtiljemkglhloeaaGreatDoor
namespace Go.Proofs.YtiljemkglhloeaaGreatDoor
set_option linter.unusedSimpArgs false
set_option linter.unusedVariables false
namespace Lx
open Go Go.RowKit
/-! ### back -/
/-! ### what is read -/
end Lx
end Go.Proofs.YtiljemkglhloeaaGreatDoor
namespace Go.Proofs.YtiljemkglhloeaaGreatDoor
set_option linter.unusedSimpArgs false
set_option linter.unusedVariables false
namespace Lx
open Go Go.RowKit
theorem text_open {α:Type} {rd:List Tok→Out α} {s:ByteArray} {x:α} {k:Nat} (h:textO rd s=.ok x k):s.size≤16384∧rd (toks s.data.toList)=.ok x k∧(toks s.data.toList).length≤k:=by
 unfold textO at h
 split at h
 ·cases h
 ·rename_i hs
  split at h
  ·cases h
  ·split at h
   ·cases h
   ·rename_i y k2 e
    split at h
    ·cases h
    ·rename_i hk
     injection h with h1 h2
     subst h1 h2
     exact ⟨by omega,e,by omega⟩
abbrev rdTe:List Tok→Out TermT:=fun ts=>termO ts 66 0 0
end Lx
end Go.Proofs.YtiljemkglhloeaaGreatDoor
