/- The contracts of the reference's Same and SameTypes at any two types. No conditions. -/
import Derived.Test.YtnpacamcgifabaaDoorVxS
import Derived.StillTailTactics
namespace Go.Proofs.YtnpacamcgifabaaDoor
set_option linter.unusedSimpArgs false
set_option linter.unusedVariables false
namespace Lx
open Go Go.RowKit
mutual
/-- Two types are the same, field by field. -/
def eqT:TyT→TyT→Bool
 | .mk k s n l,.mk k' s' n' l'=>k == k' && decide (s.toList=s'.toList) && n == n' && eqTs l l'
def eqTs:List TyT→List TyT→Bool
 | [],[]=>true
 | x :: l,y :: l'=>eqT x y && eqTs l l'
 | [],_ :: _=>false
 | _ :: _,[]=>false
end
mutual
theorem eqT_iff:∀ x y:TyT,eqT x y=true ↔ x=y
 | .mk k s n l,.mk k' s' n' l'=>by
  rw [eqT]
  simp only [Bool.and_eq_true,beq_iff_eq,decide_eq_true_eq]
  constructor
  ·rintro ⟨⟨⟨rfl,h⟩,rfl⟩,h2⟩
   rw [bytes_eq h,(eqTs_iff l l').1 h2]
  ·intro h
   injection h with h1 h2 h3 h4
   subst h1 h2 h3
   exact ⟨⟨⟨rfl,rfl⟩,rfl⟩,(eqTs_iff l l').2 h4⟩
theorem eqTs_iff:∀ l l':List TyT,eqTs l l'=true ↔ l=l'
 | [],[]=>by simp [eqTs]
 | [],_ :: _=>by simp [eqTs]
 | _ :: _,[]=>by simp [eqTs]
 | x :: l,y :: l'=>by
  rw [eqTs,Bool.and_eq_true,eqT_iff x y,eqTs_iff l l']
  simp
end
theorem eqT_self (x:TyT):eqT x x=true:=(eqT_iff x x).2 rfl
theorem eqTs_len {l l':List TyT} (h:l.length ≠ l'.length):eqTs l l'=false:=by
 cases e:eqTs l l'
 ·rfl
 ·exact absurd (congrArg List.length ((eqTs_iff l l').1 e)) h
theorem eqTs_at {l l':List TyT} {k:Nat} (h:k < l.length) (h':k < l'.length) (he:eqT l[k] l'[k]=false):eqTs l l'=false:=by
 cases e:eqTs l l'
 ·rfl
 ·have:=(eqTs_iff l l').1 e
  subst this
  rw [eqT_self] at he
  cases he
theorem eqTs_all {l l':List TyT} (hl:l.length=l'.length) (h:∀ (j:Nat) (h1:j < l.length) (h2:j < l'.length),eqT l[j] l'[j]=true):eqTs l l'=true :=
 (eqTs_iff l l').2 (List.ext_getElem hl (fun j h1 h2=>(eqT_iff _ _).1 (h j h1 h2)))
def SameC (d:Nat):Prop:=∀ (Vol Vol2:Nat→Prop) (x y:TyT) (v1 v2:Value) (w:World),TyW d Vol x v1 w→TyW d Vol2 y v2 w→Calls Tryd.prog 14 #[v1,v2] w fun e w'=>e=.returned (.bool (eqT x y))∧Below w.heap.size w w'
set_option maxRecDepth 100000 in
set_option maxHeartbeats 2000000 in
theorem sameTypes_of (d:Nat) (HC:Hid (SameC d)) (Vol Vol2:Nat→Prop) (l l':List TyT) (v1 v2:Value) (w:World) (h1:RowW 4 (TyW d) Vol l v1 w) (h2:RowW 4 (TyW d) Vol2 l' v2 w) :
  Calls Tryd.prog 31 #[v1,v2] w fun e w'=>e=.returned (.bool (eqTs l l'))∧Below w.heap.size w w':=by
 obtain ⟨A1,c1,rfl⟩:=h1.slice
 obtain ⟨A2,c2,rfl⟩:=h2.slice
 have H1:=Lib.hid h1
 have H2:=Lib.hid h2
 have hfew:=h1.few
 unfold maxLen at hfew
 clear h1 h2
 by_cases hl:l.length=l'.length
 ·have hne:((l.length:Int) != (l'.length:Int))=false:=by
   have:(l.length:Int)=(l'.length:Int):=by omega
   simpa using this
  have HL:=Lib.hid hl
  clear hl
  go_enter Tryd.func31,Tryd.ntmps31
  go_wp2_with fail
  clear hne
  go_loopw [13] (fun t wr=>∃ k:Nat,k≤l.length∧t=.int .i64 k∧Hid (Below w.heap.size w wr)∧Hid (∀ (j:Nat) (h1:j < l.length) (h2:j < l'.length),j < k→eqT l[j] l'[j]=true)) (fun t _=>l.length - (intOf t).toNat)
  case atStart=>exact ⟨0,Nat.zero_le _,rfl,Lib.hid (Below.refl _ _),Lib.hid (fun j _ _ h=>by omega)⟩
  case round =>
   obtain ⟨k,hk,rfl,HB,HN⟩:=hrel
   by_cases hlt:k < l.length
   ·have hlt2:k < l'.length:=by have:=HL.out;omega
    obtain ⟨g1,o1,u1,rfl,_,_,hv1,cc1⟩:=RowW.at ((RowW.step (TyW.step d)).below H1.out HB.out) k hlt
    obtain ⟨g2,o2,u2,rfl,_,_,hv2,cc2⟩:=RowW.at ((RowW.step (TyW.step d)).below H2.out HB.out) k hlt2
    obtain ⟨B1,n1,m1,rfl⟩:=hv1.this
    obtain ⟨B2,n2,m2,rfl⟩:=hv2.this
    have a0:=(cc1 0 (by decide)).trans rfl
    have a1:=(cc1 1 (by decide)).trans rfl
    have a2:=(cc1 2 (by decide)).trans rfl
    have a3:=(cc1 3 (by decide)).trans rfl
    have d0:=(cc2 0 (by decide)).trans rfl
    have d1:=(cc2 1 (by decide)).trans rfl
    have d2:=(cc2 2 (by decide)).trans rfl
    have d3:=(cc2 3 (by decide)).trans rfl
    simp only [cellsL,Value.cells,List.getElem?_cons_zero,List.getElem?_cons_succ,Nat.add_zero] at a0 a1 a2 a3 d0 d1 d2 d3
    have hk0:(0:Int)≤(k:Int):=by omega
    have hk1:(k:Int) < (l.length:Int):=by omega
    have hk2:(k:Int) < (l'.length:Int):=by omega
    have hdc:decide (k < l.length)=true:=by simpa using hlt
    have HLT:=Lib.hid hlt
    have HLT2:=Lib.hid hlt2
    have HX:=Lib.hid (HC.out Vol Vol2 _ _ _ _ wr.drew ((TyW.step d).below hv1 (below_drw (Below.refl _ _))) ((TyW.step d).below hv2 (below_drw (Below.refl _ _))))
    have HBX:=Lib.hid (below_drw HB.out)
    clear cc1 cc2 hv1 hv2
    go_wp2_with fail
    go_still_tail 8,(by kernel_rfl)
    change wpList _ _ _ _ _ wr.drew
    generalize wr.drew=X at HX HBX ⊢
    cases hp:eqT (l[k]'HLT.out) (l'[k]'HLT2.out) <;> rw [hp] at HX
    all_goals
     go_wp2_with (go_at_call 14;refine HX.out.mono ?_;rintro e w3 ⟨rfl,hb3⟩;have HB3:=Lib.hid (HBX.out.trans (hb3.mono HBX.out.size));clear hb3)
    ·go_ret
     exact ⟨by rw [eqTs_at HLT.out HLT2.out hp];rfl,HB3.out⟩
    ·go_roundw
     case rel=>exact ⟨k+1,by have:=HLT.out;omega,by go_num,HB3,Lib.hid (fun j h1 h2 h3=>by
      by_cases e:j=k
      ·subst e;exact hp
      ·exact HN.out j h1 h2 (by omega))⟩
     case measure=>have:=HLT.out;simp [intOf];omega
   ·obtain rfl:k=l.length:=by omega
    have hdc:decide (l.length < l.length)=false:=by simp
    go_wp2_with fail
    go_ret
    exact ⟨by rw [eqTs_all HL.out (fun j h1 h2=>HN.out j h1 h2 h1)];rfl,HB.out⟩
 ·have hne:((l.length:Int) != (l'.length:Int))=true:=by
   have:¬ (l.length:Int)=(l'.length:Int):=by omega
   simpa using this
  have HQ:=Lib.hid (eqTs_len hl)
  clear hl
  go_enter Tryd.func31,Tryd.ntmps31
  go_wp2_with fail
  go_ret
  exact ⟨by rw [HQ.out];rfl,Below.refl _ _⟩
set_option maxRecDepth 100000 in
set_option maxHeartbeats 2000000 in
theorem same_step (d:Nat) (HC:Hid (SameC d)):SameC (d+1):=by
 rintro Vol Vol2 ⟨k,s,n,l⟩ ⟨k',s',n',l'⟩ v1 v2 w ⟨va,rfl,ha⟩ ⟨vb,rfl,hb⟩
 obtain ⟨A1,c1,rfl⟩:=ha.slice
 obtain ⟨A2,c2,rfl⟩:=hb.slice
 have HB:=Lib.hid ((below_alloc w (.cells #[.int .i64 k,.string s,.int .i64 n,.slice A1 l.length c1] 32)).alloc (by simp) (.cells #[.int .i64 k',.string s',.int .i64 n',.slice A2 l'.length c2] 32))
 have HX:=Lib.hid (sameTypes_of d HC Vol Vol2 l l' _ _ _ ((RowW.step (TyW.step d)).below ha HB.out) ((RowW.step (TyW.step d)).below hb HB.out))
 have hq:eqT (.mk k s n l) (.mk k' s' n' l')=(k == k' && decide (s.toList=s'.toList) && n == n' && eqTs l l'):=by rw [eqT]
 rw [hq]
 clear ha hb hq
 by_cases e1:k=k'
 ·subst e1
  by_cases e2:s.toList=s'.toList
  ·by_cases e3:n=n'
   ·subst e3
    have h3:(k == k && decide (s.toList=s'.toList) && n == n && eqTs l l')=eqTs l l':=by simp [e2]
    rw [h3]
    clear h3
    generalize eqTs l l'=p at HX ⊢
    go_enter Tryd.func14,Tryd.ntmps14
    go_wp2_with (go_at_call 31;refine HX.out.mono ?_;rintro e w3 ⟨rfl,hb3⟩;have HB3:=Lib.hid (HB.out.trans (hb3.mono HB.out.size));clear hb3)
    go_ret
    exact ⟨rfl,HB3.out⟩
   ·have h3:(k == k && decide (s.toList=s'.toList) && n == n' && eqTs l l')=false:=by simp [e3]
    rw [h3]
    have e4:(n == n')=false:=by simpa using e3
    clear h3 e3
    go_enter Tryd.func14,Tryd.ntmps14
    go_wp2_with fail
    go_ret
    exact ⟨rfl,HB.out⟩
  ·have h3:(k == k && decide (s.toList=s'.toList) && n == n' && eqTs l l')=false:=by simp [e2]
   rw [h3]
   clear h3
   go_enter Tryd.func14,Tryd.ntmps14
   go_wp2_with fail
   go_ret
   exact ⟨rfl,HB.out⟩
 ·have h3:(k == k' && decide (s.toList=s'.toList) && n == n' && eqTs l l')=false:=by simp [e1]
  rw [h3]
  have e4:(k == k')=false:=by simpa using e1
  clear h3 e1
  go_enter Tryd.func14,Tryd.ntmps14
  go_wp2_with fail
  go_ret
  exact ⟨rfl,HB.out⟩
theorem same_any:∀ d,SameC d
 | 0=>fun _ _ _ _ _ _ _ h _=>h.elim
 | d+1=>same_step d (Lib.hid (same_any d))
end Lx
end Go.Proofs.YtnpacamcgifabaaDoor
