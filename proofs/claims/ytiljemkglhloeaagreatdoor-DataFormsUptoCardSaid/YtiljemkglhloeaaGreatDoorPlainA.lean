/- Plain functions on lists of bytes: what the tokens of a text are, as the code of package lex finds them; and that the reference's reading of an int is the same. No program stands in this text; no conditions. -/
/- Plain facts on the tokens of a text: how the scan goes on from one token to the next. No program stands in this text; no conditions. -/
/- Plain facts: a text of tokens, an end of line and another text of tokens has the tokens of both. No program stands in this text; no conditions. -/
/- Plain facts: a token alone, and ahead of a blank or a comment, is the token that it was in its text; texts made of tokens with blanks, comments and ends of line between. No program stands in this text; no conditions. -/
/- Plain facts: which blanks are put ahead of which token. No program stands in this text; no conditions. -/
import Derived.Lib.AtoiAllCases
import Derived.Lib.ItoaNum
namespace Go.Proofs.YtiljemkglhloeaaGreatDoor
set_option linter.unusedSimpArgs false
set_option linter.unusedVariables false
namespace Lx
open Go
/-! ### bytes -/
def lowI (x:Int):Bool:=decide (97≤x) && decide (x≤122)
def upI (x:Int):Bool:=decide (65≤x) && decide (x≤90)
def digI (x:Int):Bool:=decide (48≤x) && decide (x≤57)
def wordI (x:Int):Bool:=lowI x || upI x || digI x || x == 95
def alfI (x:Int):Bool:=lowI x || upI x || x == 95
def blkI (x:Int):Bool:=x == 9 || x == 10 || x == 13 || x == 32
def cmtI (x:Int):Bool:=x != 10
/-! ### a run of bytes of one kind -/
def runL (p:Int→Bool):List UInt8→Nat
 | []=>0
 | c :: r=>if p (c.toNat:Int) then runL p r+1 else 0
theorem runL_le (p:Int→Bool):∀ l:List UInt8,runL p l≤l.length
 | []=>Nat.le_refl _
 | c :: r=>by
  have:=runL_le p r
  simp only [runL,List.length_cons]
  split <;> omega
theorem runL_stop (p:Int→Bool):∀ (l:List UInt8) (c:UInt8),l[runL p l]?=some c→p (c.toNat:Int)=false
 | [],c,h=>by simp at h
 | a :: r,c,h=>by
  by_cases ha:p (a.toNat:Int)=true
  ·simp only [runL,if_pos ha,List.getElem?_cons_succ] at h
   exact runL_stop p r c h
  ·simp only [runL,if_neg ha,List.getElem?_cons_zero,Option.some.injEq] at h
   subst h
   simpa using ha
theorem runL_all (p:Int→Bool):∀ (l:List UInt8) (c:UInt8),c ∈ l.take (runL p l)→p (c.toNat:Int)=true
 | [],c,h=>by simp at h
 | a :: r,c,h=>by
  by_cases ha:p (a.toNat:Int)=true
  ·simp only [runL,if_pos ha,List.take_succ_cons,List.mem_cons] at h
   rcases h with rfl | h
   ·exact ha
   ·exact runL_all p r c h
  ·simp [runL,if_neg ha] at h
/-- The loop of 'run': one round. -/
theorem runL_step (p:Int→Bool) (l:List UInt8) (k:Nat) (hk:k < l.length) (h:p ((l[k]).toNat:Int)=true):runL p (l.drop k)=runL p (l.drop (k+1))+1:=by
 rw [List.drop_eq_getElem_cons hk]
 simp only [runL,if_pos h]
theorem runL_end (p:Int→Bool) (l:List UInt8) (k:Nat) (hk:k < l.length) (h:p ((l[k]).toNat:Int)=false):runL p (l.drop k)=0:=by
 rw [List.drop_eq_getElem_cons hk]
 simp [runL,h]
theorem runL_over (p:Int→Bool) (l:List UInt8) (k:Nat) (hk:l.length≤k):runL p (l.drop k)=0:=by
 rw [List.drop_eq_nil_of_le hk];rfl
/-! ### tokens -/
structure Tok where
 kind:Int
 text:List UInt8
 num:Int
def numOf (l:List UInt8):Option Int :=
 match Lib.atoiAll l with
 | .ok v=>if Lib.itoa v=l then some v else none
 | _=>none
def wordTok (k:Int) (l:List UInt8):Option Tok :=
 if 1+runL wordI l.tail≤32 then some ⟨k,l.take (1+runL wordI l.tail),0⟩ else none
def numLen (l:List UInt8):Nat:=1+runL digI l.tail
def wordAt (l:List UInt8) (n:Nat):Bool:=match l[n]? with
 | some c=>wordI (c.toNat:Int)
 | none=>false
def numTok (l:List UInt8):Option Tok :=
 if wordAt l (numLen l)=true then none else
  match numOf (l.take (numLen l)) with
  | some v=>some ⟨3,l.take (numLen l),v⟩
  | none=>none
def markI (x:Int):Bool:=x == 40 || x == 41 || x == 44 || x == 46 || x == 59 || x == 124 || x == 61
def arrow (l:List UInt8):Bool:=match l with
 | a :: b :: _=>(a.toNat:Int) == 58 && (b.toNat:Int) == 45
 | _=>false
def markTok (l:List UInt8):Option Tok :=
 if arrow l=true then some ⟨4,[58,45],0⟩ else
  match l with
  | []=>none
  | c :: _=>if markI (c.toNat:Int)=true then some ⟨4,[c],0⟩ else none
def tokAt (l:List UInt8):Option Tok :=
 match l with
 | []=>none
 | c :: r =>
  if lowI (c.toNat:Int)=true then wordTok 1 (c :: r)
  else if (upI (c.toNat:Int) || (c.toNat:Int) == 95)=true then wordTok 2 (c :: r)
  else if (digI (c.toNat:Int) || (c.toNat:Int) == 45)=true then numTok (c :: r)
  else markTok (c :: r)
theorem numLen_le {l:List UInt8} (h:l ≠ []):numLen l≤l.length:=by
 cases l with
 | nil=>exact absurd rfl h
 | cons c r=>have:=runL_le digI r;simp only [numLen,List.tail_cons,List.length_cons];omega
theorem numOf_bounds {l:List UInt8} {v:Int} (h:numOf l=some v):Lib.atoiAll l=.ok v∧Lib.itoa v=l∧-9223372036854775808≤v∧v≤9223372036854775807:=by
 unfold numOf at h
 split at h
 ·rename_i u hu
  split at h
  ·rename_i hi
   simp only [Option.some.injEq] at h
   subst h
   exact ⟨hu,hi,Lib.atoiAll_bounds hu⟩
  ·cases h
 ·cases h
/-- What a token is: it stands at the text's beginning, is not empty and not longer than the text; its number is an int. -/
theorem tokAt_spec {l:List UInt8} {t:Tok} (h:tokAt l=some t) :
  t.text=l.take t.text.length∧1≤t.text.length∧t.text.length≤l.length∧1≤t.kind∧t.kind≤4∧-9223372036854775808≤t.num∧t.num≤9223372036854775807:=by
 cases l with
 | nil=>simp [tokAt] at h
 | cons c r =>
  have hw:∀ k:Int,1≤k→k≤4→wordTok k (c :: r)=some t →
    t.text=(c :: r).take t.text.length∧1≤t.text.length∧t.text.length≤(c :: r).length∧1≤t.kind∧t.kind≤4∧-9223372036854775808≤t.num∧t.num≤9223372036854775807:=by
   intro k hk1 hk4 h
   unfold wordTok at h
   split at h
   ·simp only [Option.some.injEq] at h
    subst h
    have:=runL_le wordI r
    simp only [List.tail_cons,List.length_take,List.length_cons]
    rw [Nat.min_eq_left (by omega)]
    exact ⟨rfl,by omega,by omega,hk1,hk4,by omega,by omega⟩
   ·cases h
  simp only [tokAt] at h
  split at h
  ·exact hw 1 (by omega) (by omega) h
  ·split at h
   ·exact hw 2 (by omega) (by omega) h
   ·split at h
    ·unfold numTok at h
     split at h
     ·cases h
     ·split at h
      ·rename_i v hv
       simp only [Option.some.injEq] at h
       subst h
       have h1:=numLen_le (l:=c :: r) (by simp)
       have h2:1≤numLen (c :: r):=by unfold numLen;omega
       obtain ⟨_,_,hb1,hb2⟩:=numOf_bounds hv
       simp only [List.length_take]
       rw [Nat.min_eq_left h1]
       exact ⟨rfl,h2,h1,by omega,by omega,hb1,hb2⟩
      ·cases h
    ·unfold markTok at h
     split at h
     ·rename_i ha
      simp only [Option.some.injEq] at h
      subst h
      cases r with
      | nil=>simp [arrow] at ha
      | cons d r =>
       simp only [arrow,Bool.and_eq_true,beq_iff_eq] at ha
       have e1:c=58:=UInt8.toNat_inj.1 (by have:=ha.1;show c.toNat=58;omega)
       have e2:d=45:=UInt8.toNat_inj.1 (by have:=ha.2;show d.toNat=45;omega)
       subst e1 e2
       exact ⟨rfl,by simp,by simp,by simp,by simp,by simp,by simp⟩
     ·simp only at h
      split at h
      ·simp only [Option.some.injEq] at h
       subst h
       exact ⟨by simp,by simp,by simp,by simp,by simp,by simp,by simp⟩
      ·cases h
/-! ### blanks and comments -/
def skipL:Bool→List UInt8→Nat
 | _,[]=>0
 | true,c :: r=>skipL (cmtI (c.toNat:Int)) r+1
 | false,c :: r=>if blkI (c.toNat:Int)=true then skipL false r+1 else if ((c.toNat:Int) == 37)=true then skipL true r+1 else 0
theorem skipL_le:∀ (b:Bool) (l:List UInt8),skipL b l≤l.length
 | _,[]=>by simp [skipL]
 | true,c :: r=>by have:=skipL_le (cmtI (c.toNat:Int)) r;simp only [skipL,List.length_cons];omega
 | false,c :: r=>by
  have h1:=skipL_le false r
  have h2:=skipL_le true r
  simp only [skipL,List.length_cons]
  split
  ·omega
  ·split <;> omega
theorem skipL_run:∀ l:List UInt8,skipL true l=runL cmtI l+skipL false (l.drop (runL cmtI l))
 | []=>by simp [skipL,runL]
 | c :: r=>by
  by_cases h:cmtI (c.toNat:Int)=true
  ·simp only [skipL,runL,if_pos h,List.drop_succ_cons]
   rw [h,skipL_run r]
   omega
  ·have h':cmtI (c.toNat:Int)=false:=by simpa using h
   have hb:blkI (c.toNat:Int)=true:=by
    simp only [cmtI,bne_eq_false_iff_eq] at h'
    simp [blkI,h']
   simp only [skipL,runL,h',Bool.false_eq_true,if_false,List.drop_zero,if_pos hb]
   omega
theorem skip_blank (l:List UInt8) (k:Nat) (hk:k < l.length) (h:blkI ((l[k]).toNat:Int)=true):skipL false (l.drop k)=skipL false (l.drop (k+1))+1:=by
 rw [List.drop_eq_getElem_cons hk]
 simp only [skipL,if_pos h]
theorem skip_comment (l:List UInt8) (k:Nat) (hk:k < l.length) (hb:blkI ((l[k]).toNat:Int)=false) (h:(((l[k]).toNat:Int) == 37)=true) :
  1≤runL cmtI (l.drop k)∧k+runL cmtI (l.drop k)≤l.length∧skipL false (l.drop k)=runL cmtI (l.drop k)+skipL false (l.drop (k+runL cmtI (l.drop k))):=by
 have hc:cmtI ((l[k]).toNat:Int)=true:=by
  simp only [beq_iff_eq] at h
  rw [h];rfl
 have hle:=runL_le cmtI (l.drop k)
 rw [List.length_drop] at hle
 refine ⟨?_,by omega,?_⟩
 ·rw [List.drop_eq_getElem_cons hk]
  simp only [runL,if_pos hc]
  omega
 ·rw [← List.drop_drop]
  rw [List.drop_eq_getElem_cons hk]
  simp only [runL,if_pos hc,List.drop_succ_cons]
  simp only [skipL,hb,Bool.false_eq_true,if_false,if_pos h]
  rw [skipL_run]
  omega
theorem skip_done (l:List UInt8) (k:Nat) (hk:k < l.length) (hb:blkI ((l[k]).toNat:Int)=false) (h:(((l[k]).toNat:Int) == 37)=false):skipL false (l.drop k)=0:=by
 rw [List.drop_eq_getElem_cons hk]
 simp [skipL,hb,h]
theorem skip_over (l:List UInt8) (k:Nat) (hk:l.length≤k):skipL false (l.drop k)=0:=by
 rw [List.drop_eq_nil_of_le hk];rfl
/-! ### all tokens of a text -/
def lx:Nat→Bool→Nat→List UInt8→List (Nat × Tok) × Bool
 | 0,_,_,_=>([],true)
 | _+1,_,_,[]=>([],true)
 | f+1,cm,p,c :: r =>
  if cm=true then lx f (cmtI (c.toNat:Int)) (p+1) r
  else if blkI (c.toNat:Int)=true then lx f false (p+1) r
  else if ((c.toNat:Int) == 37)=true then lx f true (p+1) r
  else match tokAt (c :: r) with
   | none=>([],false)
   | some t=>((p,t) :: (lx f false (p+t.text.length) ((c :: r).drop t.text.length)).1,(lx f false (p+t.text.length) ((c :: r).drop t.text.length)).2)
theorem lx_fuel:∀ (f g:Nat) (cm:Bool) (p:Nat) (l:List UInt8),l.length≤f→l.length≤g→lx f cm p l=lx g cm p l
 | 0,g,cm,p,l,hf,_=>by
  have:l=[]:=List.eq_nil_of_length_eq_zero (by omega)
  subst this
  cases g <;> simp [lx]
 | f+1,0,cm,p,l,_,hg=>by
  have:l=[]:=List.eq_nil_of_length_eq_zero (by omega)
  subst this
  simp [lx]
 | f+1,g+1,cm,p,[],_,_=>by simp [lx]
 | f+1,g+1,cm,p,c :: r,hf,hg=>by
  simp only [List.length_cons] at hf hg
  simp only [lx]
  rw [lx_fuel f g (cmtI (c.toNat:Int)) (p+1) r (by omega) (by omega),lx_fuel f g false (p+1) r (by omega) (by omega),lx_fuel f g true (p+1) r (by omega) (by omega)]
  cases ht:tokAt (c :: r) with
  | none=>rfl
  | some t =>
   have h1:=(tokAt_spec ht).2.1
   have hd:((c :: r).drop t.text.length).length≤r.length:=by rw [List.length_drop,List.length_cons];omega
   simp only
   rw [lx_fuel f g false (p+t.text.length) ((c :: r).drop t.text.length) (by omega) (by omega)]
/-- The tokens from a place on, each with its place; and whether they reach the end. -/
def lex (cm:Bool) (p:Nat) (l:List UInt8):List (Nat × Tok) × Bool:=lx l.length cm p l
theorem lex_nil (cm:Bool) (p:Nat):lex cm p []=([],true):=rfl
theorem lex_cmt (p:Nat) (c:UInt8) (r:List UInt8):lex true p (c :: r)=lex (cmtI (c.toNat:Int)) (p+1) r:=by
 unfold lex
 simp only [List.length_cons,lx,if_true]
theorem lex_blk (p:Nat) (c:UInt8) (r:List UInt8) (h:blkI (c.toNat:Int)=true):lex false p (c :: r)=lex false (p+1) r:=by
 unfold lex
 simp only [List.length_cons,lx,Bool.false_eq_true,if_false,if_pos h]
theorem lex_pct (p:Nat) (c:UInt8) (r:List UInt8) (hb:blkI (c.toNat:Int)=false) (h:((c.toNat:Int) == 37)=true):lex false p (c :: r)=lex true (p+1) r:=by
 unfold lex
 simp only [List.length_cons,lx,hb,Bool.false_eq_true,if_false,if_pos h]
theorem lex_bad (p:Nat) (c:UInt8) (r:List UInt8) (hb:blkI (c.toNat:Int)=false) (h:((c.toNat:Int) == 37)=false) (ht:tokAt (c :: r)=none):lex false p (c :: r)=([],false):=by
 unfold lex
 simp only [List.length_cons,lx,hb,h,Bool.false_eq_true,if_false,ht]
theorem lex_tok (p:Nat) (c:UInt8) (r:List UInt8) (hb:blkI (c.toNat:Int)=false) (h:((c.toNat:Int) == 37)=false) (t:Tok) (ht:tokAt (c :: r)=some t) :
  lex false p (c :: r)=((p,t) :: (lex false (p+t.text.length) ((c :: r).drop t.text.length)).1,(lex false (p+t.text.length) ((c :: r).drop t.text.length)).2):=by
 have h1:=(tokAt_spec ht).2.1
 unfold lex
 simp only [List.length_cons,lx,hb,h,Bool.false_eq_true,if_false,ht]
 rw [lx_fuel r.length ((c :: r).drop t.text.length).length false _ _ (by rw [List.length_drop,List.length_cons];omega) (Nat.le_refl _)]
theorem lex_skip:∀ (cm:Bool) (p:Nat) (l:List UInt8),lex cm p l=lex false (p+skipL cm l) (l.drop (skipL cm l))
 | cm,p,[]=>by simp [lex_nil,skipL]
 | true,p,c :: r=>by
  rw [lex_cmt,lex_skip (cmtI (c.toNat:Int)) (p+1) r]
  simp only [skipL,List.drop_succ_cons]
  rw [show p+1+skipL (cmtI (c.toNat:Int)) r=p+(skipL (cmtI (c.toNat:Int)) r+1) by omega]
 | false,p,c :: r=>by
  by_cases hb:blkI (c.toNat:Int)=true
  ·rw [lex_blk p c r hb,lex_skip false (p+1) r]
   simp only [skipL,if_pos hb,List.drop_succ_cons]
   rw [show p+1+skipL false r=p+(skipL false r+1) by omega]
  ·have hb':blkI (c.toNat:Int)=false:=by simpa using hb
   by_cases h:((c.toNat:Int) == 37)=true
   ·rw [lex_pct p c r hb' h,lex_skip true (p+1) r]
    simp only [skipL,hb',Bool.false_eq_true,if_false,if_pos h,List.drop_succ_cons]
    rw [show p+1+skipL true r=p+(skipL true r+1) by omega]
   ·simp only [skipL,hb',Bool.false_eq_true,if_false,if_neg h,Nat.add_zero,List.drop_zero]
/-- The tokens of a text. -/
def toks (l:List UInt8):List Tok:=(lex false 0 l).1.map (·.2)
def whole (l:List UInt8):Bool:=(lex false 0 l).2
end Lx
end Go.Proofs.YtiljemkglhloeaaGreatDoor
namespace Go.Proofs.YtiljemkglhloeaaGreatDoor
set_option linter.unusedSimpArgs false
set_option linter.unusedVariables false
namespace Lx
open Go
theorem skipL_stop:∀ (b:Bool) (l:List UInt8) (c:UInt8),l[skipL b l]?=some c→blkI (c.toNat:Int)=false∧((c.toNat:Int) == 37)=false
 | _,[],c,h=>by simp at h
 | true,a :: r,c,h=>by
  simp only [skipL,List.getElem?_cons_succ] at h
  exact skipL_stop _ r c h
 | false,a :: r,c,h=>by
  by_cases hb:blkI (a.toNat:Int)=true
  ·simp only [skipL,if_pos hb,List.getElem?_cons_succ] at h
   exact skipL_stop _ r c h
  ·by_cases h37:((a.toNat:Int) == 37)=true
   ·simp only [skipL,if_neg hb,if_pos h37,List.getElem?_cons_succ] at h
    exact skipL_stop _ r c h
   ·simp only [skipL,if_neg hb,if_neg h37,List.getElem?_cons_zero,Option.some.injEq] at h
    subst h
    exact ⟨by simpa using hb,by simpa using h37⟩
/-- The scan stands at place k: there is the end, or neither a blank nor a comment. -/
def Stands (l:List UInt8) (k:Nat):Prop:=k≤l.length∧∀ c,l[k]?=some c→blkI (c.toNat:Int)=false∧((c.toNat:Int) == 37)=false
theorem stands_skip (l:List UInt8) (p:Nat) (hp:p≤l.length):Stands l (p+skipL false (l.drop p)):=by
 have h1:=skipL_le false (l.drop p)
 rw [List.length_drop] at h1
 refine ⟨by omega,fun c hc=>skipL_stop false (l.drop p) c ?_⟩
 rw [List.getElem?_drop]
 exact hc
theorem lex_at_skip (l:List UInt8) (p:Nat):lex false p (l.drop p)=lex false (p+skipL false (l.drop p)) (l.drop (p+skipL false (l.drop p))):=by
 rw [lex_skip false p (l.drop p),List.drop_drop]
/-- What has been found when the scan stands at k: 'pre'; all that the text holds is 'pre' and what follows from k on. -/
def Found (l:List UInt8) (k:Nat) (pre:List (Nat × Tok)):Prop :=
 Stands l k∧pre.length≤k∧lex false 0 l=(pre++(lex false k (l.drop k)).1,(lex false k (l.drop k)).2)
theorem found_start (l:List UInt8):Found l (skipL false l) []:=by
 have h:=stands_skip l 0 (Nat.zero_le _)
 have h2:=lex_at_skip l 0
 rw [List.drop_zero,Nat.zero_add] at h h2
 exact ⟨h,Nat.zero_le _,by rw [List.nil_append,← h2]⟩
theorem found_next {l:List UInt8} {k:Nat} {pre:List (Nat × Tok)} (h:Found l k pre) (hk:k < l.length) {t:Tok} (ht:tokAt (l.drop k)=some t) :
  k+t.text.length≤l.length∧1≤t.text.length∧Found l (k+t.text.length+skipL false (l.drop (k+t.text.length))) (pre++[(k,t)]):=by
 obtain ⟨⟨_,hs⟩,hp,hl⟩:=h
 have hd:=List.drop_eq_getElem_cons hk
 obtain ⟨_,h1,h2,_⟩:=tokAt_spec ht
 rw [List.length_drop] at h2
 have hc:=hs _ (List.getElem?_eq_getElem hk)
 have e:lex false k (l.drop k)=((k,t) :: (lex false (k+t.text.length) ((l.drop k).drop t.text.length)).1,(lex false (k+t.text.length) ((l.drop k).drop t.text.length)).2):=by
  rw [hd] at ht ⊢
  exact lex_tok k _ _ hc.1 hc.2 t ht
 rw [List.drop_drop,lex_at_skip l (k+t.text.length)] at e
 refine ⟨by omega,h1,stands_skip l _ (by omega),by simp only [List.length_append,List.length_cons,List.length_nil];omega,?_⟩
 rw [hl,e]
 simp
theorem found_bad {l:List UInt8} {k:Nat} {pre:List (Nat × Tok)} (h:Found l k pre) (hk:k < l.length) (ht:tokAt (l.drop k)=none):lex false 0 l=(pre,false):=by
 obtain ⟨⟨_,hs⟩,hp,hl⟩:=h
 have hd:=List.drop_eq_getElem_cons hk
 have hc:=hs _ (List.getElem?_eq_getElem hk)
 have e:lex false k (l.drop k)=([],false):=by
  rw [hd] at ht ⊢
  exact lex_bad k _ _ hc.1 hc.2 ht
 rw [hl,e]
 simp
theorem found_end {l:List UInt8} {k:Nat} {pre:List (Nat × Tok)} (h:Found l k pre) (hk:l.length≤k):lex false 0 l=(pre,true):=by
 obtain ⟨_,_,hl⟩:=h
 rw [hl,List.drop_eq_nil_of_le hk,lex_nil]
 simp
theorem toks_of {l:List UInt8} {pre:List (Nat × Tok)} {b:Bool} (h:lex false 0 l=(pre,b)):toks l=pre.map (·.2)∧whole l=b:=by
 unfold toks whole
 rw [h]
 exact ⟨rfl,rfl⟩
end Lx
end Go.Proofs.YtiljemkglhloeaaGreatDoor
namespace Go.Proofs.YtiljemkglhloeaaGreatDoor
set_option linter.unusedSimpArgs false
set_option linter.unusedVariables false
namespace Lx
open Go
theorem lex_len:∀ (f:Nat) (cm:Bool) (p:Nat) (l:List UInt8),l.length≤f→(lex cm p l).1.length≤l.length
 | _,cm,p,[],_=>by simp [lex_nil]
 | 0,_,_,c :: r,h=>by simp at h
 | f+1,true,p,c :: r,h=>by
  simp only [List.length_cons] at h
  rw [lex_cmt,List.length_cons]
  exact Nat.le_succ_of_le (lex_len f _ _ r (by omega))
 | f+1,false,p,c :: r,h=>by
  simp only [List.length_cons] at h
  by_cases hb:blkI (c.toNat:Int)=true
  ·rw [lex_blk _ _ _ hb,List.length_cons]
   exact Nat.le_succ_of_le (lex_len f _ _ r (by omega))
  ·have hb':blkI (c.toNat:Int)=false:=by simpa using hb
   by_cases h37:((c.toNat:Int) == 37)=true
   ·rw [lex_pct _ _ _ hb' h37,List.length_cons]
    exact Nat.le_succ_of_le (lex_len f _ _ r (by omega))
   ·have h37':((c.toNat:Int) == 37)=false:=by simpa using h37
    cases ht:tokAt (c :: r) with
    | none=>rw [lex_bad _ _ _ hb' h37' ht];simp
    | some t =>
     have h1:=(tokAt_spec ht).2.1
     rw [lex_tok _ _ _ hb' h37' t ht]
     have ih:=lex_len f false (p+t.text.length) ((c :: r).drop t.text.length) (by rw [List.length_drop,List.length_cons];omega)
     rw [List.length_drop,List.length_cons] at ih
     simp only [List.length_cons]
     omega
theorem toks_len (l:List UInt8):(toks l).length≤l.length:=by
 unfold toks
 rw [List.length_map]
 exact lex_len l.length false 0 l (Nat.le_refl _)
end Lx
end Go.Proofs.YtiljemkglhloeaaGreatDoor
namespace Go.Proofs.YtiljemkglhloeaaGreatDoor
set_option linter.unusedSimpArgs false
set_option linter.unusedVariables false
namespace Lx
open Go
theorem runL_take (p:Int→Bool):∀ l:List UInt8,runL p (l.take (runL p l))=runL p l
 | []=>rfl
 | c :: r=>by
  simp only [runL]
  by_cases h:p (c.toNat:Int)=true
  ·simp only [if_pos h,List.take_succ_cons,runL,runL_take p r]
  ·simp only [if_neg h,List.take_zero,runL]
/-- A token's text alone is that token. -/
theorem tokAt_text {l:List UInt8} {t:Tok} (h:tokAt l=some t):tokAt t.text=some t:=by
 cases l with
 | nil=>simp [tokAt] at h
 | cons c r =>
  have hw:∀ k:Int,wordTok k (c :: r)=some t→t.text=c :: r.take (runL wordI r)∧wordTok k (c :: r.take (runL wordI r))=some t:=by
   intro k h
   have e:=runL_take wordI r
   have hq:∀ r',wordTok k (c :: r')=if 1+runL wordI r'≤32 then some ⟨k,(c :: r').take (1+runL wordI r'),0⟩ else none:=fun _=>rfl
   rw [hq] at h ⊢
   rw [e]
   split at h
   ·rename_i hle
    simp only [Option.some.injEq] at h
    subst h
    rw [if_pos hle,Nat.add_comm 1,List.take_succ_cons,List.take_succ_cons,List.take_take,Nat.min_self]
    exact ⟨rfl,rfl⟩
   ·cases h
  have hn:numTok (c :: r)=some t→t.text=c :: r.take (runL digI r)∧numTok (c :: r.take (runL digI r))=some t:=by
   intro h
   have e:=runL_take digI r
   have h0:=runL_le digI r
   have h1:numLen (c :: r.take (runL digI r))=1+runL digI r:=by unfold numLen;rw [List.tail_cons,e]
   have h2:numLen (c :: r)=1+runL digI r:=rfl
   have h3:wordAt (c :: r.take (runL digI r)) (1+runL digI r)=false:=by
    unfold wordAt
    rw [List.getElem?_eq_none (by simp;omega)]
   unfold numTok at h ⊢
   rw [h2] at h
   rw [h1,h3]
   split at h
   ·cases h
   ·rw [Nat.add_comm 1,List.take_succ_cons] at h
    rw [Nat.add_comm 1,List.take_succ_cons,List.take_take,Nat.min_self]
    split at h
    ·simp only [Option.some.injEq] at h
     subst h
     exact ⟨rfl,by simp only [Bool.false_eq_true,if_false]⟩
    ·cases h
  have hgo:∀ r',tokAt (c :: r')=(if lowI (c.toNat:Int)=true then wordTok 1 (c :: r') else if (upI (c.toNat:Int) || (c.toNat:Int) == 95)=true then wordTok 2 (c :: r') else if (digI (c.toNat:Int) || (c.toNat:Int) == 45)=true then numTok (c :: r') else markTok (c :: r')):=fun _=>rfl
  rw [hgo] at h
  split at h
  ·rename_i h1
   obtain ⟨e1,e2⟩:=hw 1 h
   rw [e1,hgo,if_pos h1,e2]
  ·rename_i h1
   split at h
   ·rename_i h2
    obtain ⟨e1,e2⟩:=hw 2 h
    rw [e1,hgo,if_neg h1,if_pos h2,e2]
   ·rename_i h2
    split at h
    ·rename_i h3
     obtain ⟨e1,e2⟩:=hn h
     rw [e1,hgo,if_neg h1,if_neg h2,if_pos h3,e2]
    ·rename_i h3
     unfold markTok at h
     split at h
     ·simp only [Option.some.injEq] at h
      subst h
      rfl
     ·simp only at h
      split at h
      ·rename_i hm
       simp only [Option.some.injEq] at h
       subst h
       show tokAt [c]=_
       rw [hgo,if_neg h1,if_neg h2,if_neg h3]
       unfold markTok
       simp only [show arrow [c]=false from rfl,Bool.false_eq_true,if_false,if_pos hm]
      ·cases h
/-- All tokens of a text are tokens by themselves. -/
theorem lex_toks_good:∀ (f:Nat) (cm:Bool) (p:Nat) (l:List UInt8),l.length≤f→∀ x ∈ (lex cm p l).1,tokAt x.2.text=some x.2
 | _,cm,p,[],_,x,hx=>by rw [lex_nil] at hx;cases hx
 | 0,_,_,c :: r,h,_,_=>by simp at h
 | f+1,true,p,c :: r,h,x,hx=>by
  simp only [List.length_cons] at h
  rw [lex_cmt] at hx
  exact lex_toks_good f _ _ r (by omega) x hx
 | f+1,false,p,c :: r,h,x,hx=>by
  simp only [List.length_cons] at h
  by_cases hb:blkI (c.toNat:Int)=true
  ·rw [lex_blk _ _ _ hb] at hx
   exact lex_toks_good f _ _ r (by omega) x hx
  ·have hb':blkI (c.toNat:Int)=false:=by simpa using hb
   by_cases h37:((c.toNat:Int) == 37)=true
   ·rw [lex_pct _ _ _ hb' h37] at hx
    exact lex_toks_good f _ _ r (by omega) x hx
   ·have h37':((c.toNat:Int) == 37)=false:=by simpa using h37
    cases ht:tokAt (c :: r) with
    | none=>rw [lex_bad _ _ _ hb' h37' ht] at hx;cases hx
    | some t =>
     have h1:=(tokAt_spec ht).2.1
     rw [lex_tok _ _ _ hb' h37' t ht] at hx
     rcases List.mem_cons.1 hx with rfl | hx
     ·exact tokAt_text ht
     ·exact lex_toks_good f _ _ _ (by rw [List.length_drop,List.length_cons];omega) x hx
theorem toks_good {l:List UInt8} {t:Tok} (h:t ∈ toks l):tokAt t.text=some t:=by
 unfold toks at h
 obtain ⟨x,hx,rfl⟩:=List.mem_map.1 h
 exact lex_toks_good l.length false 0 l (Nat.le_refl _) x hx
/-- A text that holds blanks and comments alone, up to an end of line. -/
def blank (b:List UInt8):Prop:=lex false 0 (b++[10])=([],true)
end Lx
end Go.Proofs.YtiljemkglhloeaaGreatDoor
namespace Go.Proofs.YtiljemkglhloeaaGreatDoor
set_option linter.unusedSimpArgs false
set_option linter.unusedVariables false
namespace Lx
open Go
end Lx
end Go.Proofs.YtiljemkglhloeaaGreatDoor
