/- The reference: Free, Known, Nodes, and Same of an unknown with itself: what they give. Conditions: as each states. -/
import Derived.Test.YtnpacamcgifabaaDoorUe
namespace Go.Proofs.YtnpacamcgifabaaDoor
set_option linter.unusedSimpArgs false
set_option linter.unusedVariables false
namespace Lx
open Go Go.RowKit
theorem free_any (n:Int) (w:World):Calls Tryd.prog 21 #[.int .i64 n] w fun e w'=>e=.returned (.agg #[.int .i64 4,.string ⟨#[]⟩,.int .i64 n,.slice none 0 0])∧Below w.heap.size w w':=by
 go_enter Tryd.func21,Tryd.ntmps21
 go_wp2_with fail
 exact bodyPost_ret (v:=.agg #[.int .i64 4,.string ⟨#[]⟩,.int .i64 n,.slice none 0 0]) (by simp [results,Tryd.results21,go_sem]) rfl ⟨rfl,below_alloc _ _⟩
theorem sameNil (w:World):Calls Tryd.prog 31 #[.slice none 0 0,.slice none 0 0] w fun e w'=>e=.returned (.bool true)∧Below w.heap.size w w':=by
 go_enter Tryd.func31,Tryd.ntmps31
 go_wp2_with fail
 go_loopw [13] (fun t wr=>t=.int .i64 0∧wr=w) (fun _ _=>0)
 case atStart=>exact ⟨rfl,rfl⟩
 case round =>
  obtain ⟨rfl,rfl⟩:=hrel
  go_wp2_with fail
  go_ret
  exact ⟨rfl,Below.refl _ _⟩
set_option maxRecDepth 100000 in
set_option maxHeartbeats 2000000 in
theorem sameFree (n:Int) (w:World):Calls Tryd.prog 14 #[.agg #[.int .i64 4,.string ⟨#[]⟩,.int .i64 n,.slice none 0 0],.agg #[.int .i64 4,.string ⟨#[]⟩,.int .i64 n,.slice none 0 0]] w fun e w'=>e=.returned (.bool true)∧Below w.heap.size w w':=by
 have HB:=Lib.hid ((below_alloc w (.cells #[.int .i64 4,.string ⟨#[]⟩,.int .i64 n,.slice none 0 0] 32)).alloc (by simp) (.cells #[.int .i64 4,.string ⟨#[]⟩,.int .i64 n,.slice none 0 0] 32))
 have HX:=Lib.hid sameNil
 go_enter Tryd.func14,Tryd.ntmps14
 go_wp2_with (go_at_call 31;refine (HX.out _).mono ?_;rintro e w3 ⟨rfl,hb3⟩;have HB3:=Lib.hid (HB.out.trans (hb3.mono HB.out.size));clear hb3)
 go_ret
 exact ⟨rfl,HB3.out⟩
def KnownC (b m d:Nat):Prop:=∀ (Vol:Nat→Prop) (x:TyT) (v:Value) (w:World),TyW d Vol x v w→TabC b m w→Calls Tryd.prog 34 #[.pointer (some ⟨b,0,none⟩),v] w fun e w'=>e=.returned (.bool (!strange (m:Int) x))∧Below w.heap.size w w'
set_option maxRecDepth 100000 in
set_option maxHeartbeats 2000000 in
theorem known_step (b m d:Nat) (HC:Hid (KnownC b m d)):KnownC b m (d+1):=by
 rintro Vol ⟨k,s,n,l⟩ v w ⟨va,rfl,hr⟩ hi
 obtain ⟨A1,c1,rfl⟩:=hr.slice
 have hfew:=hr.few
 unfold maxLen at hfew
 have hb0:=below_alloc w (.cells #[.int .i64 k,.string s,.int .i64 n,.slice A1 l.length c1] 32)
 have HR:=Lib.hid ((RowW.step (TyW.step d)).below hr hb0)
 have HI:=Lib.hid (TabC.stay b m _ _ hi hb0)
 obtain ⟨_,A,c,ht⟩:=HI.out
 have HB:=Lib.hid hb0
 clear hr hi hb0
 by_cases k1:k=1
 ·subst k1
  clear ht
  go_enter Tryd.func34,Tryd.ntmps34
  go_wp2_with fail
  go_ret
  exact ⟨by simp [strange],HB.out⟩
 ·by_cases k3:k=3
  ·subst k3
   clear ht
   go_enter Tryd.func34,Tryd.ntmps34
   go_wp2_with fail
   go_ret
   exact ⟨by simp [strange],HB.out⟩
  ·by_cases k2:k=2
   ·subst k2
    clear ht
    go_enter Tryd.func34,Tryd.ntmps34
    go_wp2_with fail
    go_loopw [32] (fun t wr=>∃ k:Nat,k≤l.length∧t=.int .i64 k∧Hid (Below w.heap.size w wr)∧Hid (RowW 4 (TyW d) Vol l (.slice A1 l.length c1) wr∧TabC b m wr)∧Hid (∀ (j:Nat) (h:j < l.length),j < k→strange (m:Int) l[j]=false)) (fun t _=>l.length - (intOf t).toNat)
    case atStart=>exact ⟨0,Nat.zero_le _,rfl,HB,Lib.hid ⟨HR.out,HI.out⟩,Lib.hid (fun j _ h=>by omega)⟩
    case round =>
     obtain ⟨k,hk,rfl,HBW,HRW,HN⟩:=hrel
     by_cases hlt:k < l.length
     ·obtain ⟨g,o,vi,rfl,hg,_,hvi,hc⟩:=RowW.at HRW.out.1 k hlt
      obtain ⟨B1,n1,c2,rfl⟩:=hvi.this
      have a0:=(hc 0 (by decide)).trans rfl
      have a1:=(hc 1 (by decide)).trans rfl
      have a2:=(hc 2 (by decide)).trans rfl
      have a3:=(hc 3 (by decide)).trans rfl
      simp only [cellsL,Value.cells,List.getElem?_cons_zero,List.getElem?_cons_succ,Nat.add_zero] at a0 a1 a2 a3
      have hb1:=below_alloc wr (.cells #[.int .i64 l[k].kind,.string l[k].name,.int .i64 l[k].var,.slice B1 n1 c2] 32)
      have HX:=Lib.hid (HC.out Vol l[k] _ _ ((TyW.step d).below hvi hb1) (TabC.stay b m _ _ HRW.out.2 hb1))
      have HB1:=Lib.hid hb1
      have hk0:(0:Int)≤(k:Int):=by omega
      have hk1:(k:Int) < (l.length:Int):=by omega
      have hdc:decide (k < l.length)=true:=by simpa using hlt
      clear hc hvi hb1
      cases hp:strange (m:Int) l[k]
      all_goals
       rw [hp] at HX
       go_wp2_with (go_at_call 34;refine HX.out.mono ?_;rintro e w3 ⟨rfl,hb3⟩;have HB3:=Lib.hid (HB1.out.trans (hb3.mono HB1.out.size));clear hb3)
      ·go_roundw
       case rel=>exact ⟨k+1,by omega,by go_num,Lib.hid (HBW.out.trans (HB3.out.mono HBW.out.size)),Lib.hid ⟨(RowW.step (TyW.step d)).below HRW.out.1 HB3.out,TabC.stay b m _ _ HRW.out.2 HB3.out⟩,Lib.hid (fun j h hj=>by
        by_cases e:j=k
        ·subst e;exact hp
        ·exact HN.out j h (by omega))⟩
       case measure=>simp [intOf];omega
      ·go_ret
       exact ⟨by
        have:l.any (strange (m:Int))=true:=List.any_eq_true.2 ⟨l[k],List.getElem_mem _,hp⟩
        simp [strange,stranges_any,this],HBW.out.trans (HB3.out.mono HBW.out.size)⟩
     ·obtain rfl:k=l.length:=by omega
      have hdc:decide (l.length < l.length)=false:=by simp
      go_wp2_with fail
      go_ret
      exact ⟨by
       have:l.any (strange (m:Int))=false:=by
        rw [List.any_eq_false]
        intro x hx
        obtain ⟨j,hj,rfl⟩:=List.getElem_of_mem hx
        rw [HN.out j hj hj];simp
       simp [strange,stranges_any,this],HBW.out⟩
   ·by_cases k4:k=4
    ·subst k4
     clear k1 k2 k3
     by_cases hn:n < 0
     ·have hd:decide (n ≥ 0)=false:=by simpa using hn
      go_enter Tryd.func34,Tryd.ntmps34
      go_wp2_with fail
      go_quiet (fail)
      go_wp2_with fail
      go_ret
      exact ⟨by simp [strange,hn],below_drewN HB.out _⟩
     ·have hd:decide (n ≥ 0)=true:=by simpa using hn
      go_enter Tryd.func34,Tryd.ntmps34
      go_wp2_with fail
      go_quiet (fail)
      go_wp2_with fail
      go_ret
      exact ⟨by
       by_cases hm:n < (m:Int)
       ·have h3:¬ (m:Int)≤n:=by omega
        simp [strange,hn,hm,h3]
       ·have h3:(m:Int)≤n:=by omega
        simp [strange,hn,hm,h3],below_drewN HB.out _⟩
    ·have e1:(k == 1)=false:=by simpa using k1
     have e2:(k == 2)=false:=by simpa using k2
     have e3:(k == 3)=false:=by simpa using k3
     have e4:(k == 4)=false:=by simpa using k4
     clear ht
     go_enter Tryd.func34,Tryd.ntmps34
     go_wp2_with fail
     go_ret
     exact ⟨by simp [strange,k1,k2,k3,k4],HB.out⟩
theorem known_any (b m:Nat):∀ d,KnownC b m d
 | 0=>fun _ _ _ _ h _=>h.elim
 | d+1=>known_step b m d (Lib.hid (known_any b m d))
def RefNodesC (d:Nat):Prop:=∀ (Vol:Nat→Prop) (x:TyT) (v:Value) (w:World),TyW d Vol x v w→Calls Tryd.prog 35 #[v] w fun e w'=>e=.returned (.int .i64 (IntKind.i64.wrap (nodesZ x)))∧Below w.heap.size w w'
set_option maxRecDepth 100000 in
set_option maxHeartbeats 2000000 in
theorem refNodes_step (d:Nat) (HC:Hid (RefNodesC d)):RefNodesC (d+1):=by
 rintro Vol ⟨k,s,n,l⟩ v w ⟨va,rfl,hr⟩
 obtain ⟨A1,c1,rfl⟩:=hr.slice
 have hfew:=hr.few
 unfold maxLen at hfew
 have hb0:=below_alloc w (.cells #[.int .i64 k,.string s,.int .i64 n,.slice A1 l.length c1] 32)
 have HR:=Lib.hid ((RowW.step (TyW.step d)).below hr hb0)
 have HB:=Lib.hid hb0
 clear hr hb0
 by_cases k2:k=2
 ·subst k2
  go_enter Tryd.func35,Tryd.ntmps35
  go_wp2_with fail
  go_loopw [3,12] (fun u t wr=>∃ (k:Nat) (z:Int),k≤l.length∧t=.int .i64 k∧u=.int .i64 z∧Hid (z=IntKind.i64.wrap (1+nodesZs (l.take k)))∧Hid (Below w.heap.size w wr)∧Hid (RowW 4 (TyW d) Vol l (.slice A1 l.length c1) wr)) (fun _ t _=>l.length - (intOf t).toNat)
  case atStart=>exact ⟨0,1,Nat.zero_le _,rfl,rfl,Lib.hid (by simp [nodesZs];decide),HB,HR⟩
  case round =>
   obtain ⟨k,z,hk,rfl,rfl,HZ,HBW,HRW⟩:=hrel
   by_cases hlt:k < l.length
   ·obtain ⟨g,o,vi,rfl,hg,_,hvi,hc⟩:=RowW.at HRW.out k hlt
    obtain ⟨B1,n1,c2,rfl⟩:=hvi.this
    have a0:=(hc 0 (by decide)).trans rfl
    have a1:=(hc 1 (by decide)).trans rfl
    have a2:=(hc 2 (by decide)).trans rfl
    have a3:=(hc 3 (by decide)).trans rfl
    simp only [cellsL,Value.cells,List.getElem?_cons_zero,List.getElem?_cons_succ,Nat.add_zero] at a0 a1 a2 a3
    have hb1:=below_alloc wr (.cells #[.int .i64 l[k].kind,.string l[k].name,.int .i64 l[k].var,.slice B1 n1 c2] 32)
    have HX:=Lib.hid (HC.out Vol l[k] _ _ ((TyW.step d).below hvi hb1))
    have HB1:=Lib.hid hb1
    have hk0:(0:Int)≤(k:Int):=by omega
    have hk1:(k:Int) < (l.length:Int):=by omega
    have hdc:decide (k < l.length)=true:=by simpa using hlt
    have HTK:=Lib.hid (show nodesZs (l.take (k+1))=nodesZs (l.take k)+nodesZ l[k] by rw [List.take_succ_eq_append_getElem hlt,nodesZs_snoc])
    clear hc hvi hb1
    generalize hq:IntKind.i64.wrap (nodesZ l[k])=q at HX
    have HQ:=Lib.hid hq
    clear hq
    go_wp2_with (go_at_call 35;refine HX.out.mono ?_;rintro e w3 ⟨rfl,hb3⟩;have HB3:=Lib.hid (HB1.out.trans (hb3.mono HB1.out.size));clear hb3)
    go_roundw
    case rel=>exact ⟨k+1,_,by omega,by go_num,rfl,Lib.hid (by rw [HTK.out,HZ.out,← HQ.out];simp only [IntKind.wrap_i64,wrap64];omega),Lib.hid (HBW.out.trans (HB3.out.mono HBW.out.size)),Lib.hid ((RowW.step (TyW.step d)).below HRW.out HB3.out)⟩
    case measure=>simp [intOf];omega
   ·obtain rfl:k=l.length:=by omega
    have hdc:decide (l.length < l.length)=false:=by simp
    go_wp2_with fail
    go_ret
    exact ⟨by rw [HZ.out];simp [nodesZ],HBW.out⟩
 ·have e2:(k == 2)=false:=by simpa using k2
  go_enter Tryd.func35,Tryd.ntmps35
  go_wp2_with fail
  go_ret
  exact ⟨by simp [nodesZ,k2];decide,HB.out⟩
theorem refNodes_any:∀ d,RefNodesC d
 | 0=>fun _ _ _ _ h=>h.elim
 | d+1=>refNodes_step d (Lib.hid (refNodes_any d))
end Lx
end Go.Proofs.YtnpacamcgifabaaDoor
