/- The order of data, purely: it is total. No program stands in this text; no conditions. -/
import Derived.Test.YtnpacamcgifabaaDoorDa
namespace Go.Proofs.YtnpacamcgifabaaDoor
set_option linter.unusedSimpArgs false
set_option linter.unusedVariables false
namespace Lx
open Go Go.RowKit
def cmpI (a b:Int):Int:=if a < b then -1 else if b < a then 1 else 0
/-- First by one number, then by another. -/
def lx (a b:Int):Int:=if a=0 then b else a
/-- What three comparisons say of one another. -/
def Tr (a b c:Int):Prop:=(a≤0→b≤0→c≤0)∧(a ≥ 0→b ≥ 0→c ≥ 0)∧(a < 0→b≤0→c < 0)∧(a≤0→b < 0→c < 0)∧(a > 0→b ≥ 0→c > 0)∧(a ≥ 0→b > 0→c > 0)
theorem Tr.zero:Tr 0 0 0:=by unfold Tr;omega
theorem cmpI_tr (a b c:Int):Tr (cmpI a b) (cmpI b c) (cmpI a c):=by
 unfold Tr cmpI
 split <;> split <;> (try split) <;> (try split) <;> (try split) <;> (try split) <;> omega
theorem cmpI_neg (a b:Int):cmpI b a=-cmpI a b:=by
 unfold cmpI
 split <;> split <;> (try split) <;> (try split) <;> omega
theorem cmpI_in (a b:Int):-1≤cmpI a b∧cmpI a b≤1:=by
 unfold cmpI
 split
 ·omega
 ·split <;> omega
theorem cmpI_eq {a b:Int} (h:cmpI a b=0):a=b:=by
 unfold cmpI at h
 split at h
 ·omega
 ·split at h <;> omega
theorem lx_tr {a1 b1 c1 a2 b2 c2:Int} (h1:Tr a1 b1 c1) (h2:a1=0→b1=0→c1=0→Tr a2 b2 c2):Tr (lx a1 a2) (lx b1 b2) (lx c1 c2):=by
 by_cases ha:a1=0
 ·by_cases hb:b1=0
  ·have hc:c1=0:=by unfold Tr at h1;omega
   have h:=h2 ha hb hc
   unfold lx
   rw [if_pos ha,if_pos hb,if_pos hc]
   exact h
  ·clear h2
   unfold Tr at h1 ⊢
   unfold lx
   rw [if_pos ha,if_neg hb,if_neg (by omega)]
   omega
 ·clear h2
  unfold Tr at h1 ⊢
  unfold lx
  rw [if_neg ha]
  by_cases hb:b1=0
  ·rw [if_pos hb,if_neg (by omega)]
   omega
  ·rw [if_neg hb]
   split <;> omega
theorem lx_in {a b:Int} (ha:-1≤a∧a≤1) (hb:-1≤b∧b≤1):-1≤lx a b∧lx a b≤1:=by
 unfold lx
 split
 ·exact hb
 ·exact ha
theorem lx_neg {a b a' b':Int} (ha:a'=-a) (hb:a=0→b'=-b):lx a' b'=-lx a b:=by
 unfold lx
 by_cases h:a=0
 ·rw [if_pos h,if_pos (by omega)]
  exact hb h
 ·rw [if_neg h,if_neg (by omega)]
  exact ha
theorem less_irr:∀ x:List UInt8,Op.bytesLess x x=false
 | []=>rfl
 | a :: x=>by
  rw [Op.bytesLess,less_irr x]
  simp
theorem less_asym:∀ x y:List UInt8,Op.bytesLess x y=true→Op.bytesLess y x=false
 | _,[],h=>by simp [Op.bytesLess] at h
 | [],b :: y,_=>by simp [Op.bytesLess]
 | a :: x,b :: y,h=>by
  rw [Op.bytesLess] at h ⊢
  simp only [Bool.or_eq_true,decide_eq_true_eq,Bool.and_eq_true,beq_iff_eq] at h
  rcases h with h | ⟨rfl,h⟩
  ·have h1:¬ b < a:=fun e=>by have:=UInt8.lt_iff_toNat_lt.1 e;have:=UInt8.lt_iff_toNat_lt.1 h;omega
   have h2:¬ b=a:=fun e=>by subst e;have:=UInt8.lt_iff_toNat_lt.1 h;omega
   simp [h1,h2]
  ·rw [less_asym x y h]
   simp
theorem less_tri:∀ x y:List UInt8,Op.bytesLess x y=false→Op.bytesLess y x=false→x=y
 | [],[],_,_=>rfl
 | [],b :: y,h,_=>by simp [Op.bytesLess] at h
 | a :: x,[],_,h=>by simp [Op.bytesLess] at h
 | a :: x,b :: y,h,h'=>by
  rw [Op.bytesLess] at h h'
  simp only [Bool.or_eq_false_iff,decide_eq_false_iff_not,Bool.and_eq_false_iff,beq_eq_false_iff_ne,ne_eq] at h h'
  have e:a=b:=by
   have h1:¬ a.toNat < b.toNat:=fun e=>h.1 (UInt8.lt_iff_toNat_lt.2 e)
   have h2:¬ b.toNat < a.toNat:=fun e=>h'.1 (UInt8.lt_iff_toNat_lt.2 e)
   exact UInt8.toNat.inj (by omega)
  subst e
  have h3:=h.2.resolve_left (fun e=>e rfl)
  have h4:=h'.2.resolve_left (fun e=>e rfl)
  rw [less_tri x y h3 h4]
theorem less_trans:∀ x y z:List UInt8,Op.bytesLess x y=true→Op.bytesLess y z=true→Op.bytesLess x z=true
 | _,[],_,h,_=>by simp [Op.bytesLess] at h
 | _,b :: y,[],_,h=>by simp [Op.bytesLess] at h
 | [],b :: y,c :: z,_,_=>by simp [Op.bytesLess]
 | a :: x,b :: y,c :: z,h,h'=>by
  rw [Op.bytesLess] at h h' ⊢
  simp only [Bool.or_eq_true,decide_eq_true_eq,Bool.and_eq_true,beq_iff_eq] at h h' ⊢
  rcases h with h | ⟨rfl,h⟩
  ·rcases h' with h' | ⟨rfl,h'⟩
   ·left
    have:=UInt8.lt_iff_toNat_lt.1 h
    have:=UInt8.lt_iff_toNat_lt.1 h'
    exact UInt8.lt_iff_toNat_lt.2 (by omega)
   ·exact .inl h
  ·rcases h' with h' | ⟨rfl,h'⟩
   ·exact .inl h'
   ·exact .inr ⟨rfl,less_trans x y z h h'⟩
/-- Texts, byte by byte. -/
def cmpS (s t:ByteArray):Int:=if Op.bytesLess s.toList t.toList=true then -1 else if (s.toList == t.toList)=true then 0 else 1
theorem cmpS_in (a b:ByteArray):-1≤cmpS a b∧cmpS a b≤1:=by
 unfold cmpS
 split
 ·omega
 ·split <;> omega
theorem cmpS_cases (a b:ByteArray):(cmpS a b=-1∧Op.bytesLess a.toList b.toList=true∧Op.bytesLess b.toList a.toList=false∧a.toList ≠ b.toList) ∨ (cmpS a b=0∧a.toList=b.toList) ∨ (cmpS a b=1∧Op.bytesLess b.toList a.toList=true∧Op.bytesLess a.toList b.toList=false∧a.toList ≠ b.toList):=by
 unfold cmpS
 by_cases h:Op.bytesLess a.toList b.toList=true
 ·rw [if_pos h]
  exact .inl ⟨rfl,h,less_asym _ _ h,fun e=>by rw [e,less_irr] at h;cases h⟩
 ·rw [if_neg h]
  by_cases e:a.toList=b.toList
  ·rw [if_pos (by rw [e];exact beq_self_eq_true _)]
   exact .inr (.inl ⟨rfl,e⟩)
  ·rw [if_neg (by rw [beq_iff_eq];exact e)]
   have h1:Op.bytesLess a.toList b.toList=false:=by simpa using h
   refine .inr (.inr ⟨rfl,?_,h1,e⟩)
   cases h2:Op.bytesLess b.toList a.toList
   ·exact absurd (less_tri _ _ h1 h2) e
   ·rfl
theorem cmpS_neg (a b:ByteArray):cmpS b a=-cmpS a b:=by
 rcases cmpS_cases a b with ⟨h1,h2,h3,h4⟩ | ⟨h1,h2⟩ | ⟨h1,h2,h3,h4⟩
 ·rcases cmpS_cases b a with ⟨k1,k2,k3,k4⟩ | ⟨k1,k2⟩ | ⟨k1,k2,k3,k4⟩
  ·rw [h3] at k2;cases k2
  ·exact absurd k2.symm h4
  ·omega
 ·rcases cmpS_cases b a with ⟨k1,k2,k3,k4⟩ | ⟨k1,k2⟩ | ⟨k1,k2,k3,k4⟩
  ·exact absurd h2.symm k4
  ·omega
  ·exact absurd h2.symm k4
 ·rcases cmpS_cases b a with ⟨k1,k2,k3,k4⟩ | ⟨k1,k2⟩ | ⟨k1,k2,k3,k4⟩
  ·omega
  ·exact absurd k2.symm h4
  ·rw [h2] at k3;cases k3
theorem cmpS_tr (a b c:ByteArray):Tr (cmpS a b) (cmpS b c) (cmpS a c):=by
 unfold Tr
 rcases cmpS_cases a b with ⟨h1,h2,h3,h4⟩ | ⟨h1,h2⟩ | ⟨h1,h2,h3,h4⟩ <;> rcases cmpS_cases b c with ⟨k1,k2,k3,k4⟩ | ⟨k1,k2⟩ | ⟨k1,k2,k3,k4⟩ <;> rcases cmpS_cases a c with ⟨j1,j2,j3,j4⟩ | ⟨j1,j2⟩ | ⟨j1,j2,j3,j4⟩
 all_goals first
  | omega
  | (exfalso;have:=less_trans _ _ _ h2 k2;rw [j2] at this;rw [less_irr] at this;cases this)
  | (exfalso;have:=less_trans _ _ _ h2 k2;rw [this] at j3;cases j3)
  | (exfalso;have:=less_trans _ _ _ k2 h2;rw [this] at j3;cases j3)
  | (exfalso;have:=less_trans _ _ _ k2 h2;rw [j2] at this;rw [less_irr] at this;cases this)
  | (exfalso;rw [k2] at h2;rw [h2] at j3;cases j3)
  | (exfalso;rw [h2] at j2;rw [j2] at k3;cases k3)
  | (exfalso;rw [← h2] at k2;rw [k2] at j3;cases j3)
  | (exfalso;rw [← k2] at j2;exact h4 j2)
  | (exfalso;rw [h2] at j2;exact k4 j2)
  | (exfalso;rw [h2,k2] at j4;exact j4 rfl)
  | (exfalso;rw [h2] at j3;rw [j3] at k2;cases k2)
  | (exfalso;rw [← k2] at j3;rw [j3] at h2;cases h2)
def kindI (c:Bool):Int:=if c=true then 1 else 0
mutual
/-- The order of data. -/
def cmpD:DaT→DaT→Int
 | .mk c n s l,.mk c' n' s' l'=>lx (cmpI (kindI c) (kindI c')) (if c=true then lx (cmpS s s') (lx (cmpI l.length l'.length) (cmpDs l l')) else cmpI n n')
def cmpDs:List DaT→List DaT→Int
 | x :: l,y :: l'=>lx (cmpD x y) (cmpDs l l')
 | [],_=>0
 | _ :: _,[]=>0
end
theorem kind_eq {c c':Bool} (h:cmpI (kindI c) (kindI c')=0):c=c':=by
 cases c <;> cases c' <;> first | rfl | (revert h;decide)
mutual
theorem cmpD_in:∀ x y:DaT,-1≤cmpD x y∧cmpD x y≤1
 | .mk c n s l,.mk c' n' s' l'=>by
  rw [cmpD]
  refine lx_in (cmpI_in _ _) ?_
  split
  ·exact lx_in (cmpS_in _ _) (lx_in (cmpI_in _ _) (cmpDs_in l l'))
  ·exact cmpI_in _ _
theorem cmpDs_in:∀ l l':List DaT,-1≤cmpDs l l'∧cmpDs l l'≤1
 | [],_=>by rw [cmpDs];omega
 | _ :: _,[]=>by rw [cmpDs];omega
 | x :: l,y :: l'=>by
  rw [cmpDs]
  exact lx_in (cmpD_in x y) (cmpDs_in l l')
end
mutual
theorem cmpD_neg:∀ x y:DaT,cmpD y x=-cmpD x y
 | .mk c n s l,.mk c' n' s' l'=>by
  rw [cmpD,cmpD]
  refine lx_neg (cmpI_neg _ _) (fun h=>?_)
  obtain rfl:=kind_eq h
  split
  ·exact lx_neg (cmpS_neg _ _) (fun _=>lx_neg (cmpI_neg _ _) (fun h2=>cmpDs_neg l l' (by have:=cmpI_eq h2;omega)))
  ·exact cmpI_neg _ _
theorem cmpDs_neg:∀ l l':List DaT,l.length=l'.length→cmpDs l' l=-cmpDs l l'
 | [],[],_=>by rw [cmpDs];rfl
 | [],_ :: _,h=>by simp at h
 | _ :: _,[],h=>by simp at h
 | x :: l,y :: l',h=>by
  rw [cmpDs,cmpDs]
  exact lx_neg (cmpD_neg x y) (fun _=>cmpDs_neg l l' (by simpa using h))
end
mutual
theorem cmpD_tr:∀ x y z:DaT,Tr (cmpD x y) (cmpD y z) (cmpD x z)
 | .mk c n s l,.mk c' n' s' l',.mk c2 n2 s2 l2=>by
  rw [cmpD,cmpD,cmpD]
  refine lx_tr (cmpI_tr _ _ _) (fun h1 h2 _=>?_)
  obtain rfl:=kind_eq h1
  obtain rfl:=kind_eq h2
  split
  ·exact lx_tr (cmpS_tr _ _ _) (fun _ _ _=>lx_tr (cmpI_tr _ _ _) (fun h3 h4 _=>cmpDs_tr l l' l2 (by have:=cmpI_eq h3;omega) (by have:=cmpI_eq h4;omega)))
  ·exact cmpI_tr _ _ _
theorem cmpDs_tr:∀ l l' l2:List DaT,l.length=l'.length→l'.length=l2.length→Tr (cmpDs l l') (cmpDs l' l2) (cmpDs l l2)
 | [],[],[],_,_=>by rw [cmpDs];exact Tr.zero
 | [],_ :: _,_,h,_=>by simp at h
 | _ :: _,[],_,h,_=>by simp at h
 | _,[],_ :: _,_,h=>by simp at h
 | _,_ :: _,[],_,h=>by simp at h
 | x :: l,y :: l',z :: l2,h1,h2=>by
  rw [cmpDs,cmpDs,cmpDs]
  exact lx_tr (cmpD_tr x y z) (fun _ _ _=>cmpDs_tr l l' l2 (by simpa using h1) (by simpa using h2))
end
theorem cmpD_self (x:DaT):cmpD x x=0:=by
 have:=cmpD_neg x x
 omega
end Lx
end Go.Proofs.YtnpacamcgifabaaDoor
