/- Package unify and the reference: how many nodes a type has. Conditions: as each states. -/
import Derived.Test.YtnpacamcgifabaaDoorUd
namespace Go.Proofs.YtnpacamcgifabaaDoor
set_option linter.unusedSimpArgs false
set_option linter.unusedVariables false
namespace Lx
open Go Go.RowKit
theorem wrap_add_left (a b:Int):IntKind.i64.wrap (IntKind.i64.wrap a+b)=IntKind.i64.wrap (a+b):=by
 simp only [IntKind.wrap_i64];omega
theorem wrap_add_right (a b:Int):IntKind.i64.wrap (a+IntKind.i64.wrap b)=IntKind.i64.wrap (a+b):=by
 simp only [IntKind.wrap_i64];omega
theorem one_any (n:Int) (w:World):Calls Tryd.prog 105 #[.int .i64 n] w fun e w'=>e=.returned (.int .i64 1)∧w=w':=by
 go_enter Tryd.func105,Tryd.ntmps105
 go_wp2_with fail
 go_ret
 exact ⟨rfl,rfl⟩
def NodesC (d:Nat):Prop:=∀ (Vol:Nat→Prop) (x:TyT) (v:Value) (w:World),TyW d Vol x v w→Calls Tryd.prog 55 #[v,.func (.func 105) #[] #[]] w fun e w'=>e=.returned (.int .i64 (IntKind.i64.wrap (nodesZ x)))∧Below w.heap.size w w'
set_option maxRecDepth 100000 in
set_option maxHeartbeats 2000000 in
theorem nodes_step (d:Nat) (HC:Hid (NodesC d)):NodesC (d+1):=by
 rintro Vol ⟨k,s,n,l⟩ v w ⟨va,rfl,hr⟩
 obtain ⟨A1,c1,rfl⟩:=hr.slice
 have hfew:=hr.few
 unfold maxLen at hfew
 have hb0:=below_alloc w (.cells #[.int .i64 k,.string s,.int .i64 n,.slice A1 l.length c1] 32)
 have HR:=Lib.hid ((RowW.step (TyW.step d)).below hr hb0)
 have HB:=Lib.hid hb0
 clear hr hb0
 have HONE:=Lib.hid one_any
 by_cases k4:k=4
 ·subst k4
  go_enter Tryd.func55,Tryd.ntmps55
  go_wp2_with (go_at_call 105;refine (HONE.out _ _).mono ?_;rintro e w3 ⟨rfl,rfl⟩)
  go_ret
  exact ⟨by simp [nodesZ];decide,HB.out⟩
 ·by_cases k2:k=2
  ·subst k2
   go_enter Tryd.func55,Tryd.ntmps55
   go_wp2_with fail
   go_loopw [5,21] (fun u t wr=>∃ (k:Nat) (z:Int),k≤l.length∧t=.int .i64 k∧u=.int .i64 z∧Hid (z=IntKind.i64.wrap (1+nodesZs (l.take k)))∧Hid (Below w.heap.size w wr)∧Hid (RowW 4 (TyW d) Vol l (.slice A1 l.length c1) wr)) (fun _ t _=>l.length - (intOf t).toNat)
   case atStart=>exact ⟨0,1,Nat.zero_le _,rfl,rfl,Lib.hid (by simp [nodesZs];decide),HB,HR⟩
   case round =>
    obtain ⟨k,z,hk,rfl,rfl,HZ,HBW,HRW⟩:=hrel
    by_cases hlt:k < l.length
    ·obtain ⟨g,o,vi,rfl,hg,_,hvi,hc⟩:=RowW.at HRW.out k hlt
     obtain ⟨B1,n1,c2,rfl⟩:=hvi.this
     have a0:=(hc 0 (by decide)).trans rfl
     have a1:=(hc 1 (by decide)).trans rfl
     have a2:=(hc 2 (by decide)).trans rfl
     have a3:=(hc 3 (by decide)).trans rfl
     simp only [cellsL,Value.cells,List.getElem?_cons_zero,List.getElem?_cons_succ,Nat.add_zero] at a0 a1 a2 a3
     have hb1:=below_alloc wr (.cells #[.int .i64 l[k].kind,.string l[k].name,.int .i64 l[k].var,.slice B1 n1 c2] 32)
     have HX:=Lib.hid (HC.out Vol l[k] _ _ ((TyW.step d).below hvi hb1))
     have HB1:=Lib.hid hb1
     have hk0:(0:Int)≤(k:Int):=by omega
     have hk1:(k:Int) < (l.length:Int):=by omega
     have hdc:decide (k < l.length)=true:=by simpa using hlt
     have HTK:=Lib.hid (show nodesZs (l.take (k+1))=nodesZs (l.take k)+nodesZ l[k] by rw [List.take_succ_eq_append_getElem hlt,nodesZs_snoc])
     clear hc hvi hb1
     generalize hq:IntKind.i64.wrap (nodesZ l[k])=q at HX
     have HQ:=Lib.hid hq
     clear hq
     go_wp2_with (go_at_call 55;refine HX.out.mono ?_;rintro e w3 ⟨rfl,hb3⟩;have HB3:=Lib.hid (HB1.out.trans (hb3.mono HB1.out.size));clear hb3)
     go_roundw
     case rel=>exact ⟨k+1,_,by omega,by go_num,rfl,Lib.hid (by rw [HTK.out,HZ.out,← HQ.out];simp only [IntKind.wrap_i64,wrap64];omega),Lib.hid (HBW.out.trans (HB3.out.mono HBW.out.size)),Lib.hid ((RowW.step (TyW.step d)).below HRW.out HB3.out)⟩
     case measure=>simp [intOf];omega
    ·obtain rfl:k=l.length:=by omega
     have hdc:decide (l.length < l.length)=false:=by simp
     go_wp2_with fail
     go_ret
     exact ⟨by rw [HZ.out];simp [nodesZ],HBW.out⟩
  ·have e2:(k == 2)=false:=by simpa using k2
   have e4:(k == 4)=false:=by simpa using k4
   go_enter Tryd.func55,Tryd.ntmps55
   go_wp2_with fail
   go_ret
   exact ⟨by simp [nodesZ,k2];decide,HB.out⟩
theorem nodes_any:∀ d,NodesC d
 | 0=>fun _ _ _ _ h=>h.elim
 | d+1=>nodes_step d (Lib.hid (nodes_any d))
def largeT (x:TyT):Bool:=decide (IntKind.i64.wrap (nodesZ x) > 200)
set_option maxRecDepth 100000 in
theorem large_any (d:Nat):Test_large largeT (fun _=>True) d:=by
 intro Vol x v w hv _
 obtain ⟨A1,n1,c1,rfl⟩:=hv.this
 have hb0:=below_alloc w (.cells #[.int .i64 x.kind,.string x.name,.int .i64 x.var,.slice A1 n1 c1] 32)
 have HX:=Lib.hid (nodes_any d Vol x _ _ ((TyW.step d).below hv hb0))
 have HB:=Lib.hid hb0
 clear hv hb0
 have hq:largeT x=decide (IntKind.i64.wrap (nodesZ x) > 200):=rfl
 generalize IntKind.i64.wrap (nodesZ x)=q at HX hq
 have HQ:=Lib.hid hq
 clear hq
 go_enter Tryd.func84,Tryd.ntmps84
 go_wp2_with (go_at_call 55;refine HX.out.mono ?_;rintro e w3 ⟨rfl,hb3⟩;have HB3:=Lib.hid (HB.out.trans (hb3.mono HB.out.size));clear hb3)
 go_ret
 exact ⟨by rw [HQ.out];rfl,HB3.out⟩
end Lx
end Go.Proofs.YtnpacamcgifabaaDoor
