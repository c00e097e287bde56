/- What the reading of a text is at other places, and where more follows. No program stands in this text; no conditions. -/
import Derived.Test.YtajomoclbpobhaaGreatDoorPlainA
namespace Go.Proofs.YtajomoclbpobhaaGreatDoor
set_option linter.unusedSimpArgs false
set_option linter.unusedVariables false
namespace Lx
open Go
theorem lex_shiftX:∀ (f:Nat) (cm:Bool) (p q:Nat) (l:List UInt8),l.length≤f→(lex cm p l).1.map (·.2)=(lex cm q l).1.map (·.2)∧(lex cm p l).2=(lex cm q l).2
 | _,cm,p,q,[],_=>⟨rfl,rfl⟩
 | 0,_,_,_,c :: r,h=>by simp at h
 | f+1,true,p,q,c :: r,h=>by
  simp only [List.length_cons] at h
  rw [lex_cmt,lex_cmt]
  exact lex_shiftX f _ _ _ r (by omega)
 | f+1,false,p,q,c :: r,h=>by
  simp only [List.length_cons] at h
  by_cases hb:blkI (c.toNat:Int)=true
  ·rw [lex_blk _ _ _ hb,lex_blk _ _ _ hb]
   exact lex_shiftX f _ _ _ r (by omega)
  ·have hb':blkI (c.toNat:Int)=false:=by simpa using hb
   by_cases h37:((c.toNat:Int) == 37)=true
   ·rw [lex_pct _ _ _ hb' h37,lex_pct _ _ _ hb' h37]
    exact lex_shiftX f _ _ _ r (by omega)
   ·have h37':((c.toNat:Int) == 37)=false:=by simpa using h37
    cases ht:tokAt (c :: r) with
    | none=>rw [lex_bad _ _ _ hb' h37' ht,lex_bad _ _ _ hb' h37' ht];exact ⟨rfl,rfl⟩
    | some t =>
     have h1:=(tokAt_spec ht).2.1
     rw [lex_tok _ _ _ hb' h37' t ht,lex_tok _ _ _ hb' h37' t ht]
     have ih:=lex_shiftX f false (p+t.text.length) (q+t.text.length) ((c :: r).drop t.text.length) (by rw [List.length_drop,List.length_cons];omega)
     exact ⟨by simp only [List.map_cons];rw [ih.1],ih.2⟩
theorem runL_appX (p:Int→Bool) (d:UInt8) (h:p (d.toNat:Int)=false) (m:List UInt8):∀ l:List UInt8,runL p (l++d :: m)=runL p l
 | []=>by
  show (if p (d.toNat:Int) then runL p m+1 else 0)=0
  rw [h]
  rfl
 | c :: r=>by
  simp only [List.cons_append,runL]
  rw [runL_appX p d h m r]
theorem wordAt_appX (d:UInt8) (h:wordI (d.toNat:Int)=false) (l m:List UInt8) (n:Nat) (hn:n≤l.length):wordAt (l++d :: m) n=wordAt l n:=by
 unfold wordAt
 rcases Nat.lt_or_ge n l.length with h1 | h1
 ·rw [List.getElem?_append_left h1]
 ·obtain rfl:n=l.length:=by omega
  rw [List.getElem?_append_right (Nat.le_refl _),Nat.sub_self,List.getElem?_eq_none (Nat.le_refl _)]
  exact h
def endX (d:UInt8):Bool:=blkI (d.toNat:Int) || (d.toNat:Int) == 37
theorem endB_casesX {d:UInt8} (h:endX d=true):d=9 ∨ d=10 ∨ d=13 ∨ d=32 ∨ d=37:=by
 unfold endX blkI at h
 simp only [Bool.or_eq_true,beq_iff_eq] at h
 rcases h with (((h | h) | h) | h) | h
 ·exact .inl (UInt8.toNat_inj.1 (by show d.toNat=9;omega))
 ·exact .inr (.inl (UInt8.toNat_inj.1 (by show d.toNat=10;omega)))
 ·exact .inr (.inr (.inl (UInt8.toNat_inj.1 (by show d.toNat=13;omega))))
 ·exact .inr (.inr (.inr (.inl (UInt8.toNat_inj.1 (by show d.toNat=32;omega)))))
 ·exact .inr (.inr (.inr (.inr (UInt8.toNat_inj.1 (by show d.toNat=37;omega)))))
theorem tokAt_headX {c:UInt8} {r:List UInt8} {t:Tok} (h:tokAt (c :: r)=some t):blkI (c.toNat:Int)=false∧((c.toNat:Int) == 37)=false:=by
 rw [← Bool.or_eq_false_iff]
 show endX c=false
 cases he:endX c with
 | false=>rfl
 | true =>
  exfalso
  have hn:∀ (c:UInt8) (r:List UInt8),endX c=true→tokAt (c :: r)=none:=by
   intro c r hc
   rcases endB_casesX hc with rfl | rfl | rfl | rfl | rfl <;> (cases r <;> rfl)
  rw [hn c r he] at h
  cases h
end Lx
end Go.Proofs.YtajomoclbpobhaaGreatDoor
