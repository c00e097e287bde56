/- What a parser reads, in plain words: a row, arguments, a term; each reading goes forward. No program stands in this text but the tokens' form; no conditions. -/
import Derived.Test.YtiljemkglhloeaaGreatDoorPar
namespace Go.Proofs.YtiljemkglhloeaaGreatDoor
set_option linter.unusedSimpArgs false
set_option linter.unusedVariables false
namespace Lx
open Go
/-- Does the next token have this text? -/
def hasT (ts:List Tok) (k:Nat) (s:List UInt8):Bool:=(peekT ts k).text == s
theorem hasT_eq (ts:List Tok) (k:Nat) (s:ByteArray):((bs (peekT ts k).text).toList == s.toList)=hasT ts k s.data.toList:=by
 unfold hasT
 rw [ByteArray.toList_eq,ByteArray.toList_eq]
 rfl
def expO (ts:List Tok) (k:Nat) (s:List UInt8):Out Unit:=if hasT ts k s=true then .ok () (k+1) else .no 2
theorem expO_eq (ts:List Tok) (k:Nat) (s:ByteArray):expectO ts k s=expO ts k s.data.toList:=by
 unfold expectO expO
 rw [hasT_eq]
/-- What stands behind a row's first things: n of them are read. -/
def rowLoop {α:Type} (rd:Nat→Out α) (ts:List Tok) (mark:List UInt8) (most:Nat):Nat→Nat→List α→Out (List α)
 | 0,_,_=>.no 2
 | m+1,k,acc =>
  if hasT ts k mark=true then
   if acc.length=most∧k+1 < ts.length then .no 1
   else match rd (k+1) with
    | .no i=>.no i
    | .ok x k'=>rowLoop rd ts mark most m k' (acc++[x])
  else .ok acc k
def rowO {α:Type} (rd:Nat→Out α) (ts:List Tok) (mark:List UInt8) (most:Nat) (k:Nat):Out (List α) :=
 match rd k with
 | .no i=>.no i
 | .ok x k'=>rowLoop rd ts mark most (ts.length+1) k' [x]
def argsO {α:Type} (rd:Nat→Out α) (ts:List Tok) (k:Nat):Out (List α) :=
 if hasT ts k [40]=true then
  match rowO rd ts [44] 8 (k+1) with
  | .no i=>.no i
  | .ok l k'=>match expO ts k' [41] with
   | .no i=>.no i
   | .ok _ k2=>.ok l k2
 else .ok [] k
inductive TermT where
 | mk:Int→List UInt8→Int→List TermT→TermT
def termO (ts:List Tok):Nat→Int→Nat→Out TermT
 | 0,_,_=>.no 2
 | m+1,ne,k =>
  match enterO ts k ne with
  | .no i=>.no i
  | .ok _ _ =>
   if (peekT ts k).kind=2 then .ok (.mk 1 (peekT ts k).text 0 []) (k+1)
   else if (peekT ts k).kind=3 then .ok (.mk 2 [] (peekT ts k).num []) (k+1)
   else match nameO ts k with
    | .no i=>.no i
    | .ok s k1=>match argsO (termO ts m (ne+1)) ts k1 with
     | .no i=>.no i
     | .ok l k2=>.ok (.mk 3 s 0 l) k2
/-- A reading that comes to something takes a token at least, and none behind the last. -/
def Fwd {α:Type} (ts:List Tok) (rd:Nat→Out α):Prop:=∀ k x k',rd k=.ok x k'→k < k'∧k'≤ts.length
theorem peek_kind {ts:List Tok} {k:Nat} (h:(peekT ts k).kind ≠ 0):k < ts.length:=by
 rcases Nat.lt_or_ge k ts.length with h1 | h1
 ·exact h1
 ·rw [peekT_out h1] at h
  exact absurd rfl h
theorem hasT_in {ts:List Tok} {k:Nat} {s:List UInt8} (h:hasT ts k s=true) (hs:s ≠ []):k < ts.length:=by
 rcases Nat.lt_or_ge k ts.length with h1 | h1
 ·exact h1
 ·exfalso
  unfold hasT at h
  rw [peekT_out h1] at h
  have h2:[]=s:=by simpa using h
  exact hs h2.symm
theorem nameO_fwd (ts:List Tok):Fwd ts (nameO ts):=by
 intro k x k' h
 unfold nameO at h
 split at h
 ·rename_i hc
  injection h with h1 h2
  subst h2
  have:=peek_kind (ts:=ts) (k:=k) (by rw [hc.1];decide)
  omega
 ·cases h
theorem expO_fwd {ts:List Tok} {s:List UInt8} (hs:s ≠ []):Fwd ts (fun k=>expO ts k s):=by
 intro k x k' h
 simp only [expO] at h
 split at h
 ·rename_i hc
  injection h with h1 h2
  subst h2
  have:=hasT_in (ts:=ts) (k:=k) (s:=s) hc hs
  omega
 ·cases h
theorem rowLoop_fwd {α:Type} {rd:Nat→Out α} {ts:List Tok} (hr:Fwd ts rd) (mark:List UInt8) (most:Nat):∀ (m k:Nat) (acc l:List α) (k':Nat),rowLoop rd ts mark most m k acc=.ok l k'→k≤ts.length→k≤k'∧k'≤ts.length
 | 0,_,_,_,_,h,_=>by simp [rowLoop] at h
 | m+1,k,acc,l,k',h,hk=>by
  rw [rowLoop] at h
  split at h
  ·split at h
   ·cases h
   ·split at h
    ·cases h
    ·rename_i x k2 he
     have h1:=hr _ _ _ he
     have h2:=rowLoop_fwd hr mark most m k2 _ _ _ h h1.2
     omega
  ·injection h with _ h2
   subst h2
   exact ⟨Nat.le_refl _,hk⟩
theorem rowO_fwd {α:Type} {rd:Nat→Out α} {ts:List Tok} (hr:Fwd ts rd) (mark:List UInt8) (most:Nat):Fwd ts (rowO rd ts mark most):=by
 intro k l k' h
 unfold rowO at h
 split at h
 ·cases h
 ·rename_i x k2 he
  have h1:=hr _ _ _ he
  have h2:=rowLoop_fwd hr mark most _ _ _ _ _ h h1.2
  omega
theorem argsO_fwd {α:Type} {rd:Nat→Out α} {ts:List Tok} (hr:Fwd ts rd) {k:Nat} {l:List α} {k':Nat} (h:argsO rd ts k=.ok l k') (hk:k≤ts.length):k≤k'∧k'≤ts.length:=by
 unfold argsO at h
 split at h
 ·split at h
  ·cases h
  ·rename_i l2 k2 he
   have h1:=rowO_fwd hr _ _ _ _ _ he
   split at h
   ·cases h
   ·rename_i u k3 he2
    injection h with _ h3
    subst h3
    have h2:=expO_fwd (ts:=ts) (s:=[41]) (by decide) _ _ _ he2
    omega
 ·injection h with _ h2
  subst h2
  exact ⟨Nat.le_refl _,hk⟩
theorem termO_fwd (ts:List Tok):∀ (m:Nat) (ne:Int),Fwd ts (termO ts m ne)
 | 0,_,_,_,_,h=>by simp [termO] at h
 | m+1,ne,k,x,k',h=>by
  rw [termO] at h
  split at h
  ·cases h
  ·split at h
   ·rename_i hc
    injection h with _ h2
    subst h2
    have:=peek_kind (ts:=ts) (k:=k) (by rw [hc];decide)
    omega
   ·split at h
    ·rename_i hc
     injection h with _ h2
     subst h2
     have:=peek_kind (ts:=ts) (k:=k) (by rw [hc];decide)
     omega
    ·split at h
     ·cases h
     ·rename_i s k1 he
      have h1:=nameO_fwd ts _ _ _ he
      split at h
      ·cases h
      ·rename_i l k2 he2
       injection h with _ h3
       subst h3
       have h2:=argsO_fwd (termO_fwd ts m (ne+1)) he2 h1.2
       omega
end Lx
end Go.Proofs.YtiljemkglhloeaaGreatDoor
