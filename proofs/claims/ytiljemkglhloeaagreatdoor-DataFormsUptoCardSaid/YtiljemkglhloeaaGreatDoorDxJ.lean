/- The order of data, purely: it is total. No program stands in this text; no conditions. -/
/- The program: Compare of data. Conditions: as each states. -/
/- The program: Compare of data, by recursion. Conditions: as each states. -/
/- The reference: Compare of data. Conditions: as each states. -/
import Derived.Test.YtiljemkglhloeaaGreatDoorDxA
import Derived.Deep.RegionHeld
import Derived.Deep.Cut
namespace Go.Proofs.YtiljemkglhloeaaGreatDoor
set_option linter.unusedSimpArgs false
set_option linter.unusedVariables false
namespace Lx
open Go Go.RowKit
def cmpI (a b:Int):Int:=if a < b then -1 else if b < a then 1 else 0
/-- First by one number, then by another. -/
def lxF (a b:Int):Int:=if a=0 then b else a
/-- What three comparisons say of one another. -/
def Tr (a b c:Int):Prop:=(a≤0→b≤0→c≤0)∧(a ≥ 0→b ≥ 0→c ≥ 0)∧(a < 0→b≤0→c < 0)∧(a≤0→b < 0→c < 0)∧(a > 0→b ≥ 0→c > 0)∧(a ≥ 0→b > 0→c > 0)
theorem Tr.zero:Tr 0 0 0:=by unfold Tr;omega
theorem cmpI_tr (a b c:Int):Tr (cmpI a b) (cmpI b c) (cmpI a c):=by
 unfold Tr cmpI
 split <;> split <;> (try split) <;> (try split) <;> (try split) <;> (try split) <;> omega
theorem cmpI_neg (a b:Int):cmpI b a=-cmpI a b:=by
 unfold cmpI
 split <;> split <;> (try split) <;> (try split) <;> omega
theorem cmpI_in (a b:Int):-1≤cmpI a b∧cmpI a b≤1:=by
 unfold cmpI
 split
 ·omega
 ·split <;> omega
theorem cmpI_eq {a b:Int} (h:cmpI a b=0):a=b:=by
 unfold cmpI at h
 split at h
 ·omega
 ·split at h <;> omega
theorem lx_tr {a1 b1 c1 a2 b2 c2:Int} (h1:Tr a1 b1 c1) (h2:a1=0→b1=0→c1=0→Tr a2 b2 c2):Tr (lxF a1 a2) (lxF b1 b2) (lxF c1 c2):=by
 by_cases ha:a1=0
 ·by_cases hb:b1=0
  ·have hc:c1=0:=by unfold Tr at h1;omega
   have h:=h2 ha hb hc
   unfold lxF
   rw [if_pos ha,if_pos hb,if_pos hc]
   exact h
  ·clear h2
   unfold Tr at h1 ⊢
   unfold lxF
   rw [if_pos ha,if_neg hb,if_neg (by omega)]
   omega
 ·clear h2
  unfold Tr at h1 ⊢
  unfold lxF
  rw [if_neg ha]
  by_cases hb:b1=0
  ·rw [if_pos hb,if_neg (by omega)]
   omega
  ·rw [if_neg hb]
   split <;> omega
theorem lx_in {a b:Int} (ha:-1≤a∧a≤1) (hb:-1≤b∧b≤1):-1≤lxF a b∧lxF a b≤1:=by
 unfold lxF
 split
 ·exact hb
 ·exact ha
theorem lx_neg {a b a' b':Int} (ha:a'=-a) (hb:a=0→b'=-b):lxF a' b'=-lxF a b:=by
 unfold lxF
 by_cases h:a=0
 ·rw [if_pos h,if_pos (by omega)]
  exact hb h
 ·rw [if_neg h,if_neg (by omega)]
  exact ha
theorem less_irr:∀ x:List UInt8,Op.bytesLess x x=false
 | []=>rfl
 | a :: x=>by
  rw [Op.bytesLess,less_irr x]
  simp
theorem less_asym:∀ x y:List UInt8,Op.bytesLess x y=true→Op.bytesLess y x=false
 | _,[],h=>by simp [Op.bytesLess] at h
 | [],b :: y,_=>by simp [Op.bytesLess]
 | a :: x,b :: y,h=>by
  rw [Op.bytesLess] at h ⊢
  simp only [Bool.or_eq_true,decide_eq_true_eq,Bool.and_eq_true,beq_iff_eq] at h
  rcases h with h | ⟨rfl,h⟩
  ·have h1:¬ b < a:=fun e=>by have:=UInt8.lt_iff_toNat_lt.1 e;have:=UInt8.lt_iff_toNat_lt.1 h;omega
   have h2:¬ b=a:=fun e=>by subst e;have:=UInt8.lt_iff_toNat_lt.1 h;omega
   simp [h1,h2]
  ·rw [less_asym x y h]
   simp
theorem less_tri:∀ x y:List UInt8,Op.bytesLess x y=false→Op.bytesLess y x=false→x=y
 | [],[],_,_=>rfl
 | [],b :: y,h,_=>by simp [Op.bytesLess] at h
 | a :: x,[],_,h=>by simp [Op.bytesLess] at h
 | a :: x,b :: y,h,h'=>by
  rw [Op.bytesLess] at h h'
  simp only [Bool.or_eq_false_iff,decide_eq_false_iff_not,Bool.and_eq_false_iff,beq_eq_false_iff_ne,ne_eq] at h h'
  have e:a=b:=by
   have h1:¬ a.toNat < b.toNat:=fun e=>h.1 (UInt8.lt_iff_toNat_lt.2 e)
   have h2:¬ b.toNat < a.toNat:=fun e=>h'.1 (UInt8.lt_iff_toNat_lt.2 e)
   exact UInt8.toNat.inj (by omega)
  subst e
  have h3:=h.2.resolve_left (fun e=>e rfl)
  have h4:=h'.2.resolve_left (fun e=>e rfl)
  rw [less_tri x y h3 h4]
theorem less_trans:∀ x y z:List UInt8,Op.bytesLess x y=true→Op.bytesLess y z=true→Op.bytesLess x z=true
 | _,[],_,h,_=>by simp [Op.bytesLess] at h
 | _,b :: y,[],_,h=>by simp [Op.bytesLess] at h
 | [],b :: y,c :: z,_,_=>by simp [Op.bytesLess]
 | a :: x,b :: y,c :: z,h,h'=>by
  rw [Op.bytesLess] at h h' ⊢
  simp only [Bool.or_eq_true,decide_eq_true_eq,Bool.and_eq_true,beq_iff_eq] at h h' ⊢
  rcases h with h | ⟨rfl,h⟩
  ·rcases h' with h' | ⟨rfl,h'⟩
   ·left
    have:=UInt8.lt_iff_toNat_lt.1 h
    have:=UInt8.lt_iff_toNat_lt.1 h'
    exact UInt8.lt_iff_toNat_lt.2 (by omega)
   ·exact .inl h
  ·rcases h' with h' | ⟨rfl,h'⟩
   ·exact .inl h'
   ·exact .inr ⟨rfl,less_trans x y z h h'⟩
/-- Texts, byte by byte. -/
def cmpS (s t:ByteArray):Int:=if Op.bytesLess s.toList t.toList=true then -1 else if (s.toList == t.toList)=true then 0 else 1
theorem cmpS_in (a b:ByteArray):-1≤cmpS a b∧cmpS a b≤1:=by
 unfold cmpS
 split
 ·omega
 ·split <;> omega
theorem cmpS_cases (a b:ByteArray):(cmpS a b=-1∧Op.bytesLess a.toList b.toList=true∧Op.bytesLess b.toList a.toList=false∧a.toList ≠ b.toList) ∨ (cmpS a b=0∧a.toList=b.toList) ∨ (cmpS a b=1∧Op.bytesLess b.toList a.toList=true∧Op.bytesLess a.toList b.toList=false∧a.toList ≠ b.toList):=by
 unfold cmpS
 by_cases h:Op.bytesLess a.toList b.toList=true
 ·rw [if_pos h]
  exact .inl ⟨rfl,h,less_asym _ _ h,fun e=>by rw [e,less_irr] at h;cases h⟩
 ·rw [if_neg h]
  by_cases e:a.toList=b.toList
  ·rw [if_pos (by rw [e];exact beq_self_eq_true _)]
   exact .inr (.inl ⟨rfl,e⟩)
  ·rw [if_neg (by rw [beq_iff_eq];exact e)]
   have h1:Op.bytesLess a.toList b.toList=false:=by simpa using h
   refine .inr (.inr ⟨rfl,?_,h1,e⟩)
   cases h2:Op.bytesLess b.toList a.toList
   ·exact absurd (less_tri _ _ h1 h2) e
   ·rfl
theorem cmpS_neg (a b:ByteArray):cmpS b a=-cmpS a b:=by
 rcases cmpS_cases a b with ⟨h1,h2,h3,h4⟩ | ⟨h1,h2⟩ | ⟨h1,h2,h3,h4⟩
 ·rcases cmpS_cases b a with ⟨k1,k2,k3,k4⟩ | ⟨k1,k2⟩ | ⟨k1,k2,k3,k4⟩
  ·rw [h3] at k2;cases k2
  ·exact absurd k2.symm h4
  ·omega
 ·rcases cmpS_cases b a with ⟨k1,k2,k3,k4⟩ | ⟨k1,k2⟩ | ⟨k1,k2,k3,k4⟩
  ·exact absurd h2.symm k4
  ·omega
  ·exact absurd h2.symm k4
 ·rcases cmpS_cases b a with ⟨k1,k2,k3,k4⟩ | ⟨k1,k2⟩ | ⟨k1,k2,k3,k4⟩
  ·omega
  ·exact absurd k2.symm h4
  ·rw [h2] at k3;cases k3
theorem cmpS_tr (a b c:ByteArray):Tr (cmpS a b) (cmpS b c) (cmpS a c):=by
 unfold Tr
 rcases cmpS_cases a b with ⟨h1,h2,h3,h4⟩ | ⟨h1,h2⟩ | ⟨h1,h2,h3,h4⟩ <;> rcases cmpS_cases b c with ⟨k1,k2,k3,k4⟩ | ⟨k1,k2⟩ | ⟨k1,k2,k3,k4⟩ <;> rcases cmpS_cases a c with ⟨j1,j2,j3,j4⟩ | ⟨j1,j2⟩ | ⟨j1,j2,j3,j4⟩
 all_goals first
  | omega
  | (exfalso;have:=less_trans _ _ _ h2 k2;rw [j2] at this;rw [less_irr] at this;cases this)
  | (exfalso;have:=less_trans _ _ _ h2 k2;rw [this] at j3;cases j3)
  | (exfalso;have:=less_trans _ _ _ k2 h2;rw [this] at j3;cases j3)
  | (exfalso;have:=less_trans _ _ _ k2 h2;rw [j2] at this;rw [less_irr] at this;cases this)
  | (exfalso;rw [k2] at h2;rw [h2] at j3;cases j3)
  | (exfalso;rw [h2] at j2;rw [j2] at k3;cases k3)
  | (exfalso;rw [← h2] at k2;rw [k2] at j3;cases j3)
  | (exfalso;rw [← k2] at j2;exact h4 j2)
  | (exfalso;rw [h2] at j2;exact k4 j2)
  | (exfalso;rw [h2,k2] at j4;exact j4 rfl)
  | (exfalso;rw [h2] at j3;rw [j3] at k2;cases k2)
  | (exfalso;rw [← k2] at j3;rw [j3] at h2;cases h2)
def kindI (c:Bool):Int:=if c=true then 1 else 0
mutual
/-- The order of data. -/
def cmpD:DaT→DaT→Int
 | .mk c n s l,.mk c' n' s' l'=>lxF (cmpI (kindI c) (kindI c')) (if c=true then lxF (cmpS s s') (lxF (cmpI l.length l'.length) (cmpDs l l')) else cmpI n n')
def cmpDs:List DaT→List DaT→Int
 | x :: l,y :: l'=>lxF (cmpD x y) (cmpDs l l')
 | [],_=>0
 | _ :: _,[]=>0
end
theorem kind_eq {c c':Bool} (h:cmpI (kindI c) (kindI c')=0):c=c':=by
 cases c <;> cases c' <;> first | rfl | (revert h;decide)
mutual
theorem cmpD_in:∀ x y:DaT,-1≤cmpD x y∧cmpD x y≤1
 | .mk c n s l,.mk c' n' s' l'=>by
  rw [cmpD]
  refine lx_in (cmpI_in _ _) ?_
  split
  ·exact lx_in (cmpS_in _ _) (lx_in (cmpI_in _ _) (cmpDs_in l l'))
  ·exact cmpI_in _ _
theorem cmpDs_in:∀ l l':List DaT,-1≤cmpDs l l'∧cmpDs l l'≤1
 | [],_=>by rw [cmpDs];omega
 | _ :: _,[]=>by rw [cmpDs];omega
 | x :: l,y :: l'=>by
  rw [cmpDs]
  exact lx_in (cmpD_in x y) (cmpDs_in l l')
end
mutual
theorem cmpD_neg:∀ x y:DaT,cmpD y x=-cmpD x y
 | .mk c n s l,.mk c' n' s' l'=>by
  rw [cmpD,cmpD]
  refine lx_neg (cmpI_neg _ _) (fun h=>?_)
  obtain rfl:=kind_eq h
  split
  ·exact lx_neg (cmpS_neg _ _) (fun _=>lx_neg (cmpI_neg _ _) (fun h2=>cmpDs_neg l l' (by have:=cmpI_eq h2;omega)))
  ·exact cmpI_neg _ _
theorem cmpDs_neg:∀ l l':List DaT,l.length=l'.length→cmpDs l' l=-cmpDs l l'
 | [],[],_=>by rw [cmpDs];rfl
 | [],_ :: _,h=>by simp at h
 | _ :: _,[],h=>by simp at h
 | x :: l,y :: l',h=>by
  rw [cmpDs,cmpDs]
  exact lx_neg (cmpD_neg x y) (fun _=>cmpDs_neg l l' (by simpa using h))
end
mutual
theorem cmpD_tr:∀ x y z:DaT,Tr (cmpD x y) (cmpD y z) (cmpD x z)
 | .mk c n s l,.mk c' n' s' l',.mk c2 n2 s2 l2=>by
  rw [cmpD,cmpD,cmpD]
  refine lx_tr (cmpI_tr _ _ _) (fun h1 h2 _=>?_)
  obtain rfl:=kind_eq h1
  obtain rfl:=kind_eq h2
  split
  ·exact lx_tr (cmpS_tr _ _ _) (fun _ _ _=>lx_tr (cmpI_tr _ _ _) (fun h3 h4 _=>cmpDs_tr l l' l2 (by have:=cmpI_eq h3;omega) (by have:=cmpI_eq h4;omega)))
  ·exact cmpI_tr _ _ _
theorem cmpDs_tr:∀ l l' l2:List DaT,l.length=l'.length→l'.length=l2.length→Tr (cmpDs l l') (cmpDs l' l2) (cmpDs l l2)
 | [],[],[],_,_=>by rw [cmpDs];exact Tr.zero
 | [],_ :: _,_,h,_=>by simp at h
 | _ :: _,[],_,h,_=>by simp at h
 | _,[],_ :: _,_,h=>by simp at h
 | _,_ :: _,[],_,h=>by simp at h
 | x :: l,y :: l',z :: l2,h1,h2=>by
  rw [cmpDs,cmpDs,cmpDs]
  exact lx_tr (cmpD_tr x y z) (fun _ _ _=>cmpDs_tr l l' l2 (by simpa using h1) (by simpa using h2))
end
theorem cmpD_self (x:DaT):cmpD x x=0:=by
 have:=cmpD_neg x x
 omega
theorem below_two (w:World) (o1 o2:Obj):Below w.heap.size w ((w.alloc o1).alloc o2):=(below_alloc w o1).trans ((below_alloc _ o2).mono (below_alloc w o1).size)
end Lx
end Go.Proofs.YtiljemkglhloeaaGreatDoor
namespace Go.Proofs.YtiljemkglhloeaaGreatDoor
set_option linter.unusedSimpArgs false
set_option linter.unusedVariables false
namespace Lx
open Go Go.RowKit
theorem bne_selfS (a:ByteArray):(!(a.toList == a.toList))=false:=by rw [Bool.not_eq_false'];exact beq_self_eq_true _
end Lx
end Go.Proofs.YtiljemkglhloeaaGreatDoor
namespace Go.Proofs.YtiljemkglhloeaaGreatDoor
set_option linter.unusedSimpArgs false
set_option linter.unusedVariables false
namespace Lx
open Go Go.RowKit
theorem lx_zero (b:Int):lxF 0 b=b:=if_pos rfl
theorem cmpI_self (a:Int):cmpI a a=0:=by unfold cmpI;rw [if_neg (by omega),if_neg (by omega)]
theorem cmp_ff (n n':Int) (s s':ByteArray) (l l':List DaT):cmpD (.mk false n s l) (.mk false n' s' l')=cmpI n n':=by rw [cmpD,cmpI_self,lx_zero];rfl
theorem cmp_ft (n n':Int) (s s':ByteArray) (l l':List DaT):cmpD (.mk false n s l) (.mk true n' s' l')=-1:=by rw [cmpD];rfl
theorem cmp_tf (n n':Int) (s s':ByteArray) (l l':List DaT):cmpD (.mk true n s l) (.mk false n' s' l')=1:=by rw [cmpD];rfl
theorem cmp_tt (n n':Int) (s s':ByteArray) (l l':List DaT):cmpD (.mk true n s l) (.mk true n' s' l')=lxF (cmpS s s') (lxF (cmpI l.length l'.length) (cmpDs l l')):=by rw [cmpD,cmpI_self,lx_zero,if_pos rfl]
/-- The boxes of two data. -/
structure TwoB (X:Nat) (u0 u1 u2 u3 t0 t1 t2 t3:Value) (w:World):Prop where
 one:w.heap[X]?=some (.cells #[u0,u1,u2,u3] 46 (0,0))
 two:w.heap[X+1]?=some (.cells #[t0,t1,t2,t3] 46 (0,0))
theorem TwoB.made (w:World) (u0 u1 u2 u3 t0 t1 t2 t3:Value):TwoB w.heap.size u0 u1 u2 u3 t0 t1 t2 t3 ((w.alloc (.cells #[u0,u1,u2,u3] 46)).alloc (.cells #[t0,t1,t2,t3] 46)):=by
 have hx2:=heap_alloc_new (w.alloc (.cells #[u0,u1,u2,u3] 46)) (.cells #[t0,t1,t2,t3] 46)
 rw [show (w.alloc (.cells #[u0,u1,u2,u3] 46)).heap.size=w.heap.size+1 by simp] at hx2
 exact ⟨(Below.heap_alloc _ _ w.heap.size (by simp)).trans (heap_alloc_new w _),hx2⟩
theorem TwoB.below {X:Nat} {u0 u1 u2 u3 t0 t1 t2 t3:Value} {w w':World} (h:TwoB X u0 u1 u2 u3 t0 t1 t2 t3 w) (hb:Below w.heap.size w w'):TwoB X u0 u1 u2 u3 t0 t1 t2 t3 w' :=
 ⟨(hb.block X (Array.getElem?_eq_some_iff.1 h.one).1).trans h.one,(hb.block (X+1) (Array.getElem?_eq_some_iff.1 h.two).1).trans h.two⟩
end Lx
end Go.Proofs.YtiljemkglhloeaaGreatDoor
namespace Go.Proofs.YtiljemkglhloeaaGreatDoor
set_option linter.unusedSimpArgs false
set_option linter.unusedVariables false
namespace Lx
open Go Go.RowKit
def RCmpC (d:Nat):Prop:=∀ (Vol Vol2:Nat→Prop) (x y:DaT) (v1 v2:Value) (w:World),DaW d Vol x v1 w→DaW d Vol2 y v2 w→Calls Tryz.prog 50 #[v1,v2] w fun e w'=>e=.returned (.int .i64 (cmpD x y))∧Below w.heap.size w w'
set_option maxRecDepth 100000 in
set_option maxHeartbeats 4000000 in
theorem rcompare_step (d:Nat) (HC:Hid (RCmpC d)):RCmpC (d+1):=by
 rintro Vol Vol2 ⟨c,n,s,l⟩ ⟨c2,n2,s2,l2⟩ v1 v2 w ⟨va,rfl,hr⟩ ⟨va2,rfl,hr2⟩
 obtain ⟨A,k,rfl⟩:=hr.slice
 obtain ⟨A2,k2,rfl⟩:=hr2.slice
 have hf1:=hr.few
 have hf2:=hr2.few
 unfold maxLen at hf1 hf2
 have hb:=below_two w (.cells #[.bool c,.int .i64 n,.string s,.slice A l.length k] 46) (.cells #[.bool c2,.int .i64 n2,.string s2,.slice A2 l2.length k2] 46)
 have HB:=Lib.hid hb
 have HR:=Lib.hid ((RowW.step (DaW.step d)).below hr hb)
 have HR2:=Lib.hid ((RowW.step (DaW.step d)).below hr2 hb)
 have HX:=Lib.hid (TwoB.made w (.bool c) (.int .i64 n) (.string s) (.slice A l.length k) (.bool c2) (.int .i64 n2) (.string s2) (.slice A2 l2.length k2))
 clear hb hr hr2
 cases c
 ·cases c2
  ·by_cases h1:n < n2
   ·have hd:decide (n < n2)=true:=by simpa using h1
    have HE:Hid (cmpI n n2=-1):=Lib.hid (if_pos h1)
    go_enter Tryz.func50,Tryz.ntmps50
    have x0:=(cellH HX.out.one 0).trans rfl
    have x1:=(cellH HX.out.one 1).trans rfl
    have x2:=(cellH HX.out.one 2).trans rfl
    have x3:=(cellH HX.out.one 3).trans rfl
    have y0:=(cellH HX.out.two 0).trans rfl
    have y1:=(cellH HX.out.two 1).trans rfl
    have y2:=(cellH HX.out.two 2).trans rfl
    have y3:=(cellH HX.out.two 3).trans rfl
    go_wp2_with fail
    go_ret
    exact ⟨by rw [cmp_ff,HE.out];rfl,HB.out⟩
   ·have hd:decide (n < n2)=false:=by simpa using h1
    by_cases h2:n2 < n
    ·have hd2:decide (n2 < n)=true:=by simpa using h2
     have HE:Hid (cmpI n n2=1):=Lib.hid (by unfold cmpI;rw [if_neg h1,if_pos h2])
     go_enter Tryz.func50,Tryz.ntmps50
     have x0:=(cellH HX.out.one 0).trans rfl
     have x1:=(cellH HX.out.one 1).trans rfl
     have x2:=(cellH HX.out.one 2).trans rfl
     have x3:=(cellH HX.out.one 3).trans rfl
     have y0:=(cellH HX.out.two 0).trans rfl
     have y1:=(cellH HX.out.two 1).trans rfl
     have y2:=(cellH HX.out.two 2).trans rfl
     have y3:=(cellH HX.out.two 3).trans rfl
     go_wp2_with fail
     go_ret
     exact ⟨by rw [cmp_ff,HE.out];rfl,HB.out⟩
    ·have hd2:decide (n2 < n)=false:=by simpa using h2
     have HE:Hid (cmpI n n2=0):=Lib.hid (by unfold cmpI;rw [if_neg h1,if_neg h2])
     go_enter Tryz.func50,Tryz.ntmps50
     have x0:=(cellH HX.out.one 0).trans rfl
     have x1:=(cellH HX.out.one 1).trans rfl
     have x2:=(cellH HX.out.one 2).trans rfl
     have x3:=(cellH HX.out.one 3).trans rfl
     have y0:=(cellH HX.out.two 0).trans rfl
     have y1:=(cellH HX.out.two 1).trans rfl
     have y2:=(cellH HX.out.two 2).trans rfl
     have y3:=(cellH HX.out.two 3).trans rfl
     go_wp2_with fail
     go_ret
     exact ⟨by rw [cmp_ff,HE.out];rfl,HB.out⟩
  ·go_enter Tryz.func50,Tryz.ntmps50
   have x0:=(cellH HX.out.one 0).trans rfl
   have x1:=(cellH HX.out.one 1).trans rfl
   have x2:=(cellH HX.out.one 2).trans rfl
   have x3:=(cellH HX.out.one 3).trans rfl
   have y0:=(cellH HX.out.two 0).trans rfl
   have y1:=(cellH HX.out.two 1).trans rfl
   have y2:=(cellH HX.out.two 2).trans rfl
   have y3:=(cellH HX.out.two 3).trans rfl
   go_wp2_with fail
   go_ret
   exact ⟨by rw [cmp_ft];rfl,HB.out⟩
 ·cases c2
  ·go_enter Tryz.func50,Tryz.ntmps50
   have x0:=(cellH HX.out.one 0).trans rfl
   have x1:=(cellH HX.out.one 1).trans rfl
   have x2:=(cellH HX.out.one 2).trans rfl
   have x3:=(cellH HX.out.one 3).trans rfl
   have y0:=(cellH HX.out.two 0).trans rfl
   have y1:=(cellH HX.out.two 1).trans rfl
   have y2:=(cellH HX.out.two 2).trans rfl
   have y3:=(cellH HX.out.two 3).trans rfl
   go_wp2_with fail
   go_ret
   exact ⟨by rw [cmp_tf];rfl,HB.out⟩
  ·rcases cmpS_cases s s2 with ⟨hs,hlt,hgt,hne⟩ | ⟨hs,heq⟩ | ⟨hs,hgt,hlt,hne⟩
   ·have HS:=Lib.hid hs
    clear hgt hne hs
    go_enter Tryz.func50,Tryz.ntmps50
    have x0:=(cellH HX.out.one 0).trans rfl
    have x1:=(cellH HX.out.one 1).trans rfl
    have x2:=(cellH HX.out.one 2).trans rfl
    have x3:=(cellH HX.out.one 3).trans rfl
    have y0:=(cellH HX.out.two 0).trans rfl
    have y1:=(cellH HX.out.two 1).trans rfl
    have y2:=(cellH HX.out.two 2).trans rfl
    have y3:=(cellH HX.out.two 3).trans rfl
    go_wp2_with fail
    go_ret
    exact ⟨by rw [cmp_tt,HS.out];rfl,HB.out⟩
   ·have HS:=Lib.hid hs
    have hlt:Op.bytesLess s.toList s2.toList=false:=by rw [heq];exact less_irr _
    have heq:(s.toList == s2.toList)=true:=by rw [heq];exact beq_self_eq_true _
    have hirr:Op.bytesLess s2.toList s2.toList=false:=less_irr _
    clear hs
    by_cases hll:l.length < l2.length
    ·have hdl:decide (l.length < l2.length)=true:=by simpa using hll
     have HE:Hid (cmpI l.length l2.length=-1):=Lib.hid (if_pos (by omega))
     clear hll
     go_enter Tryz.func50,Tryz.ntmps50
     have x0:=(cellH HX.out.one 0).trans rfl
     have x1:=(cellH HX.out.one 1).trans rfl
     have x2:=(cellH HX.out.one 2).trans rfl
     have x3:=(cellH HX.out.one 3).trans rfl
     have y0:=(cellH HX.out.two 0).trans rfl
     have y1:=(cellH HX.out.two 1).trans rfl
     have y2:=(cellH HX.out.two 2).trans rfl
     have y3:=(cellH HX.out.two 3).trans rfl
     go_wp2_with fail
     go_ret
     exact ⟨by rw [cmp_tt,HS.out,lx_zero,HE.out];rfl,HB.out⟩
    ·by_cases hlg:l2.length < l.length
     ·have hdl:decide (l.length < l2.length)=false:=by simpa using hll
      have hdg:decide (l2.length < l.length)=true:=by simpa using hlg
      have HE:Hid (cmpI l.length l2.length=1):=Lib.hid (by unfold cmpI;rw [if_neg (by omega),if_pos (by omega)])
      clear hll hlg
      go_enter Tryz.func50,Tryz.ntmps50
      have x0:=(cellH HX.out.one 0).trans rfl
      have x1:=(cellH HX.out.one 1).trans rfl
      have x2:=(cellH HX.out.one 2).trans rfl
      have x3:=(cellH HX.out.one 3).trans rfl
      have y0:=(cellH HX.out.two 0).trans rfl
      have y1:=(cellH HX.out.two 1).trans rfl
      have y2:=(cellH HX.out.two 2).trans rfl
      have y3:=(cellH HX.out.two 3).trans rfl
      go_wp2_with fail
      go_ret
      exact ⟨by rw [cmp_tt,HS.out,lx_zero,HE.out];rfl,HB.out⟩
     ·have hl:l.length=l2.length:=by omega
      have hdl:decide (l.length < l2.length)=false:=by simp;omega
      have hdg:decide (l2.length < l.length)=false:=by simp;omega
      have HL:=Lib.hid hl
      clear hl hll hlg
      go_enter Tryz.func50,Tryz.ntmps50
      have x0:=(cellH HX.out.one 0).trans rfl
      have x1:=(cellH HX.out.one 1).trans rfl
      have x2:=(cellH HX.out.one 2).trans rfl
      have x3:=(cellH HX.out.one 3).trans rfl
      have y0:=(cellH HX.out.two 0).trans rfl
      have y1:=(cellH HX.out.two 1).trans rfl
      have y2:=(cellH HX.out.two 2).trans rfl
      have y3:=(cellH HX.out.two 3).trans rfl
      go_wp2_with fail
      clear x0 x1 x2 x3 y0 y1 y2 y3 hdl hdg hlt heq
      generalize hW:((w.alloc (.cells #[.bool true,.int .i64 n,.string s,.slice A l.length k] 46)).alloc (.cells #[.bool true,.int .i64 n2,.string s2,.slice A2 l2.length k2] 46))=W0 at HX HR HR2 HB ⊢
      clear hW
      generalize hX0:w.heap.size=X at HX ⊢
      have HX0:=Lib.hid hX0
      clear hX0
      go_loopw [71] (fun t wr=>∃ i:Nat,i≤l.length∧t=.int .i64 i∧Hid (cmpDs l l2=cmpDs (l.drop i) (l2.drop i))∧Hid (Below W0.heap.size W0 wr)) (fun t _=>l.length - (intOf t).toNat)
      case atStart=>exact ⟨0,Nat.zero_le _,rfl,Lib.hid rfl,Lib.hid (Below.refl _ _)⟩
      case round =>
       obtain ⟨i,hi,rfl,HD,HBR⟩:=hrel
       by_cases hlt:i < l.length
       ·have hlt2:i < l2.length:=by rw [← HL.out];exact hlt
        obtain ⟨g1,o1,u1,rfl,hg1,_,hv1,hc1⟩:=RowW.at ((RowW.step (DaW.step d)).below HR.out HBR.out) i hlt
        obtain ⟨g2,o2,u2,rfl,hg2,_,hv2,hc2⟩:=RowW.at ((RowW.step (DaW.step d)).below HR2.out HBR.out) i hlt2
        obtain ⟨B1,n1,m1,rfl⟩:=hv1.this
        obtain ⟨B2,n5,m2,rfl⟩:=hv2.this
        have a0:=(hc1 0 (by decide)).trans rfl
        have a1:=(hc1 1 (by decide)).trans rfl
        have a2:=(hc1 2 (by decide)).trans rfl
        have a3:=(hc1 3 (by decide)).trans rfl
        have b0:=(hc2 0 (by decide)).trans rfl
        have b1:=(hc2 1 (by decide)).trans rfl
        have b2:=(hc2 2 (by decide)).trans rfl
        have b3:=(hc2 3 (by decide)).trans rfl
        simp only [cellsL,Value.cells,List.getElem?_cons_zero,List.getElem?_cons_succ,Nat.add_zero] at a0 a1 a2 a3 b0 b1 b2 b3
        have hi0:(0:Int)≤(i:Int):=by omega
        have hi1:(i:Int) < (l.length:Int):=by omega
        have hi2:(i:Int) < (l2.length:Int):=by omega
        have hdc:decide (i < l.length)=true:=by simpa using hlt
        have hdc2:decide (i < l2.length)=true:=by simpa using hlt2
        have hdq:cmpDs l l2=lxF (cmpD l[i] l2[i]) (cmpDs (l.drop (i+1)) (l2.drop (i+1))):=by
         rw [HD.out,List.drop_eq_getElem_cons hlt,List.drop_eq_getElem_cons hlt2,cmpDs]
        have HLT:=Lib.hid hlt
        generalize hxx:l[i]=x at hv1 a0 a1 a2 a3 hdq
        generalize hyy:l2[i]=y at hv2 b0 b1 b2 b3 hdq
        have HV1:=Lib.hid hv1
        have HV2:=Lib.hid hv2
        have HDQ:=Lib.hid hdq
        have HXR:=Lib.hid (HX.out.below HBR.out)
        have HCF:Hid (∀ W,Below wr.heap.size wr W→W.cell? ⟨X,3,none⟩=some (.slice (some ⟨g1,o1,none⟩) l.length k)∧W.cell? ⟨X+1,3,none⟩=some (.slice (some ⟨g2,o2,none⟩) l2.length k2)∧W.cell? ⟨g1,o1+i * 4,none⟩=some (.bool x.ctor)∧W.cell? ⟨g1,o1+i * 4+1,none⟩=some (.int .i64 x.int)∧W.cell? ⟨g1,o1+i * 4+2,none⟩=some (.string x.name)∧W.cell? ⟨g1,o1+i * 4+3,none⟩=some (.slice B1 n1 m1)∧W.cell? ⟨g2,o2+i * 4,none⟩=some (.bool y.ctor)∧W.cell? ⟨g2,o2+i * 4+1,none⟩=some (.int .i64 y.int)∧W.cell? ⟨g2,o2+i * 4+2,none⟩=some (.string y.name)∧W.cell? ⟨g2,o2+i * 4+3,none⟩=some (.slice B2 n5 m2)):=Lib.hid (fun W hb=>by
         have hx:=HXR.out.below hb
         exact ⟨(cellH hx.one 3).trans rfl,(cellH hx.two 3).trans rfl,(World.cell?_of_block (hb.block g1 hg1)).trans a0,(World.cell?_of_block (hb.block g1 hg1)).trans a1,(World.cell?_of_block (hb.block g1 hg1)).trans a2,(World.cell?_of_block (hb.block g1 hg1)).trans a3,(World.cell?_of_block (hb.block g2 hg2)).trans b0,(World.cell?_of_block (hb.block g2 hg2)).trans b1,(World.cell?_of_block (hb.block g2 hg2)).trans b2,(World.cell?_of_block (hb.block g2 hg2)).trans b3⟩)
        clear hv1 hv2 hdq hxx hyy a0 a1 a2 a3 b0 b1 b2 b3 hc1 hc2 hg1 hg2
        go_upto_region 18 with fail
        refine wp_region_held_drew (S:=fun W=>W.cell? ⟨X,3,none⟩=some (.slice (some ⟨g1,o1,none⟩) l.length k)∧W.cell? ⟨X+1,3,none⟩=some (.slice (some ⟨g2,o2,none⟩) l2.length k2)∧W.cell? ⟨g1,o1+i * 4,none⟩=some (.bool x.ctor)∧W.cell? ⟨g1,o1+i * 4+1,none⟩=some (.int .i64 x.int)∧W.cell? ⟨g1,o1+i * 4+2,none⟩=some (.string x.name)∧W.cell? ⟨g1,o1+i * 4+3,none⟩=some (.slice B1 n1 m1)∧W.cell? ⟨g2,o2+i * 4,none⟩=some (.bool y.ctor)∧W.cell? ⟨g2,o2+i * 4+1,none⟩=some (.int .i64 y.int)∧W.cell? ⟨g2,o2+i * 4+2,none⟩=some (.string y.name)∧W.cell? ⟨g2,o2+i * 4+3,none⟩=some (.slice B2 n5 m2)) (by kernel_rfl) (HCF.out _ (below_drw (Below.refl _ _))) (fun hHeld=>?_)
        have HBY:Hid (Below wr.heap.size wr wr.drew):=Lib.hid (below_drw (Below.refl _ _))
        generalize wr.drew=Y at hHeld HBY ⊢
        (refine wpAnyH_take (i:=0) (oi:=_) (v:=?_) rfl (by kernel_rfl) (by kernel_rfl) (by kernel_rfl) (fun _ _ _ h=>h) (Or.inl ⟨by kernel_rfl,?_⟩) (by assumption) ?_;rotate_left;(focus (intro w hSw;(try dsimp only at hSw);go_simp;(try with_reducible rfl);done));(try simp only [Act.put,List.setIfInBounds_toArray,List.set_cons_zero,List.set_cons_succ]))
        (refine wpAnyH_take (i:=1) (oi:=_) (v:=?_) rfl (by kernel_rfl) (by kernel_rfl) (by kernel_rfl) (fun _ _ _ h=>h) (Or.inl ⟨by kernel_rfl,?_⟩) (by assumption) ?_;rotate_left;(focus (intro w hSw;(try dsimp only at hSw);go_simp;(try with_reducible rfl);done));(try simp only [Act.put,List.setIfInBounds_toArray,List.set_cons_zero,List.set_cons_succ]))
        (refine wpAnyH_take (i:=2) (oi:=_) (v:=?_) rfl (by kernel_rfl) (by kernel_rfl) (by kernel_rfl) (fun _ _ _ h=>h) (Or.inl ⟨by kernel_rfl,?_⟩) (by assumption) ?_;rotate_left;(focus (intro w hSw;(try dsimp only at hSw);go_simp;(try with_reducible rfl);done));(try simp only [Act.put,List.setIfInBounds_toArray,List.set_cons_zero,List.set_cons_succ]))
        (refine wpAnyH_take (i:=3) (oi:=_) (v:=?_) rfl (by kernel_rfl) (by kernel_rfl) (by kernel_rfl) (fun _ _ _ h=>h) (Or.inl ⟨by kernel_rfl,?_⟩) (by assumption) ?_;rotate_left;(focus (intro w hSw;(try dsimp only at hSw);go_simp;(try with_reducible rfl);done));(try simp only [Act.put,List.setIfInBounds_toArray,List.set_cons_zero,List.set_cons_succ]))
        (refine wpAnyH_take (i:=4) (oi:=_) (v:=?_) rfl (by kernel_rfl) (by kernel_rfl) (by kernel_rfl) (fun _ _ _ h=>h) (Or.inl ⟨by kernel_rfl,?_⟩) (by assumption) ?_;rotate_left;(focus (intro w hSw;(try dsimp only at hSw);go_simp;(try with_reducible rfl);done));(try simp only [Act.put,List.setIfInBounds_toArray,List.set_cons_zero,List.set_cons_succ]))
        (refine wpAnyH_take (i:=5) (oi:=_) (v:=?_) rfl (by kernel_rfl) (by kernel_rfl) (by kernel_rfl) (fun _ _ _ h=>h) (Or.inl ⟨by kernel_rfl,?_⟩) (by assumption) ?_;rotate_left;(focus (intro w hSw;(try dsimp only at hSw);go_simp;(try with_reducible rfl);done));(try simp only [Act.put,List.setIfInBounds_toArray,List.set_cons_zero,List.set_cons_succ]))
        (refine wpAnyH_take (i:=6) (oi:=_) (v:=?_) rfl (by kernel_rfl) (by kernel_rfl) (by kernel_rfl) (fun _ _ _ h=>h) (Or.inl ⟨by kernel_rfl,?_⟩) (by assumption) ?_;rotate_left;(focus (intro w hSw;(try dsimp only at hSw);go_simp;(try with_reducible rfl);done));(try simp only [Act.put,List.setIfInBounds_toArray,List.set_cons_zero,List.set_cons_succ]))
        (refine wpAnyH_take (i:=7) (oi:=_) (v:=?_) rfl (by kernel_rfl) (by kernel_rfl) (by kernel_rfl) (fun _ _ _ h=>h) (Or.inl ⟨by kernel_rfl,?_⟩) (by assumption) ?_;rotate_left;(focus (intro w hSw;(try dsimp only at hSw);go_simp;(try with_reducible rfl);done));(try simp only [Act.put,List.setIfInBounds_toArray,List.set_cons_zero,List.set_cons_succ]))
        (refine wpAnyH_take (i:=8) (oi:=_) (v:=?_) rfl (by kernel_rfl) (by kernel_rfl) (by kernel_rfl) (fun _ _ _ h=>h) (Or.inl ⟨by kernel_rfl,?_⟩) (by assumption) ?_;rotate_left;(focus (intro w hSw;(try dsimp only at hSw);go_simp;(try with_reducible rfl);done));(try simp only [Act.put,List.setIfInBounds_toArray,List.set_cons_zero,List.set_cons_succ]))
        (refine wpAnyH_take (i:=9) (oi:=_) (v:=?_) rfl (by kernel_rfl) (by kernel_rfl) (by kernel_rfl) (fun _ _ _ h=>h) (Or.inl ⟨by kernel_rfl,?_⟩) (by assumption) ?_;rotate_left;(focus (intro w hSw;(try dsimp only at hSw);go_simp;(try with_reducible rfl);done));(try simp only [Act.put,List.setIfInBounds_toArray,List.set_cons_zero,List.set_cons_succ]))
        refine wpAnyH_ready (rs:=[10]) (by kernel_rfl) (by simp) ?_
        refine AllReadyH.cons (o:=_) rfl (fun K hK=>?_) AllReadyH.nil
        go_simp
        try go_at_call 50
        refine (HC.out Vol Vol2 x y _ _ Y ((DaW.step d).below HV1.out HBY.out) ((DaW.step d).below HV2.out HBY.out)).mono ?_
        rintro e Y2 ⟨rfl,hb2⟩
        have HBY2:=Lib.hid (HBY.out.trans (hb2.mono HBY.out.size))
        clear hb2
        go_simp
        refine hK.out _ _ (HCF.out _ HBY2.out) (fun hHeld=>?_)
        clear hK K
        try simp only [Act.put,List.setIfInBounds_toArray,List.set_cons_zero,List.set_cons_succ]
        refine wpAnyH_ready (rs:=[11]) (by kernel_rfl) (by simp) ?_
        refine AllReadyH.cons (o:=_) rfl (fun K hK=>?_) AllReadyH.nil
        go_simp
        refine hK.out _ _ (HCF.out _ HBY2.out) (fun hHeld=>?_)
        clear hK K
        try simp only [Act.put,List.setIfInBounds_toArray,List.set_cons_zero,List.set_cons_succ]
        refine wpAnyH_done (by kernel_rfl) ?_ _
        have HB3:=Lib.hid (HBR.out.trans (HBY2.out.mono HBR.out.size))
        by_cases hz:cmpD x y=0
        ·have HQ:Hid (cmpDs l l2=cmpDs (l.drop (i+1)) (l2.drop (i+1))):=Lib.hid (by rw [HDQ.out,lxF,if_pos hz])
         rw [hz]
         go_wp2_with fail
         go_roundw
         case rel=>exact ⟨i+1,by have:=HLT.out;omega,by go_num,HQ,HB3⟩
         case measure=>have:=HLT.out;simp [intOf];omega
        ·have HQ:Hid (cmpDs l l2=cmpD x y):=Lib.hid (by rw [HDQ.out,lxF,if_neg hz])
         generalize cmpD x y=q at hz HQ ⊢
         have hq1:(q != 0)=true:=by simpa using hz
         have hq2:(q == 0)=false:=by simpa using hz
         go_wp2_with fail
         go_ret
         exact ⟨by rw [cmp_tt,HS.out,lx_zero,HL.out,cmpI_self,lx_zero,HQ.out];rfl,HB.out.trans (HB3.out.mono HB.out.size)⟩
       ·obtain rfl:i=l.length:=by omega
        have hdc:decide (l.length < l.length)=false:=by simp
        have HQ:Hid (cmpDs l l2=0):=Lib.hid (by rw [HD.out,List.drop_length,cmpDs])
        go_wp2_with fail
        go_ret
        exact ⟨by rw [cmp_tt,HS.out,lx_zero,HL.out,cmpI_self,lx_zero,HQ.out];rfl,HB.out.trans (HBR.out.mono HB.out.size)⟩
   ·have HS:=Lib.hid hs
    have heq:(s.toList == s2.toList)=false:=beq_eq_false_iff_ne.2 hne
    clear hgt hne hs
    go_enter Tryz.func50,Tryz.ntmps50
    have x0:=(cellH HX.out.one 0).trans rfl
    have x1:=(cellH HX.out.one 1).trans rfl
    have x2:=(cellH HX.out.one 2).trans rfl
    have x3:=(cellH HX.out.one 3).trans rfl
    have y0:=(cellH HX.out.two 0).trans rfl
    have y1:=(cellH HX.out.two 1).trans rfl
    have y2:=(cellH HX.out.two 2).trans rfl
    have y3:=(cellH HX.out.two 3).trans rfl
    go_wp2_with fail
    go_ret
    exact ⟨by rw [cmp_tt,HS.out];rfl,HB.out⟩
theorem rcompare_any:∀ d,RCmpC d
 | 0=>fun _ _ _ _ _ _ _ h _=>h.elim
 | d+1=>rcompare_step d (Lib.hid (rcompare_any d))
end Lx
end Go.Proofs.YtiljemkglhloeaaGreatDoor
