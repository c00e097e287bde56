/- Package unify: nodes in general: how many nodes a type comes to. Conditions: each unknown comes to 200 nodes at most. -/
import Derived.Test.YtnpacamcgifabaaDoorVf
namespace Go.Proofs.YtnpacamcgifabaaDoor
set_option linter.unusedSimpArgs false
set_option linter.unusedVariables false
namespace Lx
open Go Go.RowKit
/-- How many nodes each unknown comes to, as the table counts them. -/
def CntN (b m:Nat) (r:Rho) (w:World):Prop:=∀ i,i < m→CellT b m i 4 (.int .i64 (sizeT (r i):Int)) w
theorem CntN.stay (b m:Nat) (r:Rho):StayI (CntN b m r):=fun w w' h hb i hi=>CellT.stay b m i 4 _ _ _ (h i hi) hb
def NodesG (b m:Nat) (r:Rho) (d:Nat):Prop:=∀ (Vol:Nat→Prop) (x:TyT) (v:Value) (w:World),TyW d Vol x v w→goodT m x→CntN b m r w→Calls Tryd.prog 55 #[v,.func (.func 56) #[.pointer (some ⟨b,0,none⟩)] #[]] w fun e w'=>e=.returned (.int .i64 (IntKind.i64.wrap (sizeT (sub r x):Int)))∧Below w.heap.size w w'
theorem size_sub {r:Rho} {t:TyT} (hk:t.kind ≠ 4):sizeT (sub r t)=1+sizeTs (subs r t.args):=by rw [sub_args hk];rfl
theorem sizeTs_snoc (r:Rho):∀ (a:List TyT) (x:TyT),sizeTs (subs r (a++[x]))=sizeTs (subs r a)+sizeT (sub r x)
 | [],x=>by simp [subs,sizeTs]
 | y :: a,x=>by simp [subs,sizeTs,sizeTs_snoc r a x,Nat.add_assoc]
set_option maxRecDepth 100000 in
set_option maxHeartbeats 2000000 in
theorem nodesG_step (b m:Nat) (r:Rho) (d:Nat) (HFEW:Hid (∀ i,i < m→sizeT (r i)≤200)) (HC:Hid (NodesG b m r d)):NodesG b m r (d+1):=by
 rintro Vol ⟨k,s,n,l⟩ v w ⟨va,rfl,hr⟩ gt hcn
 obtain ⟨A1,c1,rfl⟩:=hr.slice
 have hfew:=hr.few
 unfold maxLen at hfew
 have hb0:=below_alloc w (.cells #[.int .i64 k,.string s,.int .i64 n,.slice A1 l.length c1] 32)
 have HR:=Lib.hid ((RowW.step (TyW.step d)).below hr hb0)
 have HB:=Lib.hid hb0
 have HCN:=Lib.hid (CntN.stay b m r _ _ hcn hb0)
 have HGT:=Lib.hid gt
 clear hr hb0 hcn gt
 by_cases k4:k=4
 ·subst k4
  obtain ⟨u,hu,e⟩:=good_free HGT.out rfl
  injection e with _ e1 e2 e3
  subst e1 e2 e3
  have HONE:=Lib.hid (nodesOf_any b m u _ _ (HCN.out u hu) hu)
  have HZW:Hid (IntKind.i64.wrap (sizeT (sub r (.mk 4 ⟨#[]⟩ (u:Int) [])):Int)=(sizeT (r u):Int)):=Lib.hid (by
   rw [show sub r (.mk 4 ⟨#[]⟩ (u:Int) [])=r u from sub_fr r u]
   exact IntWalk.i64_in _ (by have:=HFEW.out u hu;omega))
  go_enter Tryd.func55,Tryd.ntmps55
  go_wp2_with (go_at_call 56;refine HONE.out.mono ?_;rintro e w3 ⟨rfl,rfl⟩)
  go_ret
  exact ⟨by rw [HZW.out];rfl,HB.out⟩
 ·by_cases k2:k=2
  ·subst k2
   have HGL:Hid (goodTs m l):=Lib.hid (good_args HGT.out (show (2:Int) ≠ 4 by decide))
   go_enter Tryd.func55,Tryd.ntmps55
   go_wp2_with fail
   go_loopw [5,21] (fun u t wr=>∃ (k:Nat) (z:Int),k≤l.length∧t=.int .i64 k∧u=.int .i64 z∧Hid (z=IntKind.i64.wrap (1+(sizeTs (subs r (l.take k)):Int)))∧Hid (Below w.heap.size w wr)∧Hid (RowW 4 (TyW d) Vol l (.slice A1 l.length c1) wr∧CntN b m r wr)) (fun _ t _=>l.length - (intOf t).toNat)
   case atStart=>exact ⟨0,1,Nat.zero_le _,rfl,rfl,Lib.hid (by simp [subs,sizeTs];decide),HB,Lib.hid ⟨HR.out,HCN.out⟩⟩
   case round =>
    obtain ⟨k,z,hk,rfl,rfl,HZ,HBW,HRW⟩:=hrel
    by_cases hlt:k < l.length
    ·obtain ⟨g,o,vi,rfl,hg,_,hvi,hc⟩:=RowW.at HRW.out.1 k hlt
     obtain ⟨B1,n1,c2,rfl⟩:=hvi.this
     have a0:=(hc 0 (by decide)).trans rfl
     have a1:=(hc 1 (by decide)).trans rfl
     have a2:=(hc 2 (by decide)).trans rfl
     have a3:=(hc 3 (by decide)).trans rfl
     simp only [cellsL,Value.cells,List.getElem?_cons_zero,List.getElem?_cons_succ,Nat.add_zero] at a0 a1 a2 a3
     have hb1:=below_alloc wr (.cells #[.int .i64 l[k].kind,.string l[k].name,.int .i64 l[k].var,.slice B1 n1 c2] 32)
     have HX:=Lib.hid (HC.out Vol l[k] _ _ ((TyW.step d).below hvi hb1) (goodTs_mem HGL.out hlt) (CntN.stay b m r _ _ HRW.out.2 hb1))
     have HB1:=Lib.hid hb1
     have hk0:(0:Int)≤(k:Int):=by omega
     have hk1:(k:Int) < (l.length:Int):=by omega
     have hdc:decide (k < l.length)=true:=by simpa using hlt
     have HTK:=Lib.hid (show sizeTs (subs r (l.take (k+1)))=sizeTs (subs r (l.take k))+sizeT (sub r l[k]) by rw [List.take_succ_eq_append_getElem hlt,sizeTs_snoc])
     clear hc hvi hb1
     generalize hq:IntKind.i64.wrap (sizeT (sub r l[k]):Int)=q at HX
     have HQ:=Lib.hid hq
     clear hq
     go_wp2_with (go_at_call 55;refine HX.out.mono ?_;rintro e w3 ⟨rfl,hb3⟩;have HB3:=Lib.hid (HB1.out.trans (hb3.mono HB1.out.size));clear hb3)
     go_roundw
     case rel=>exact ⟨k+1,_,by omega,by go_num,rfl,Lib.hid (by rw [HTK.out,HZ.out,← HQ.out];simp only [IntKind.wrap_i64,wrap64];push_cast;omega),Lib.hid (HBW.out.trans (HB3.out.mono HBW.out.size)),Lib.hid ⟨(RowW.step (TyW.step d)).below HRW.out.1 HB3.out,CntN.stay b m r _ _ HRW.out.2 HB3.out⟩⟩
     case measure=>simp [intOf];omega
    ·obtain rfl:k=l.length:=by omega
     have hdc:decide (l.length < l.length)=false:=by simp
     go_wp2_with fail
     go_ret
     exact ⟨by rw [HZ.out,List.take_length,size_sub (t:=.mk 2 s n l) (show (2:Int) ≠ 4 by decide)];push_cast;rfl,HBW.out⟩
  ·have e2:(k == 2)=false:=by simpa using k2
   have e4:(k == 4)=false:=by simpa using k4
   go_enter Tryd.func55,Tryd.ntmps55
   go_wp2_with fail
   go_ret
   exact ⟨by
    have hl:l=[]:=by
     have:=HGT.out
     rw [goodT] at this
     rcases this with ⟨_,_,_,e⟩ | ⟨_,_,e⟩ | ⟨e,_⟩ | ⟨e,_⟩
     ·exact e
     ·exact e
     ·exact absurd e k4
     ·exact absurd e k2
    subst hl
    have:sizeT (sub r (.mk k s n []))=1:=by rw [size_sub (t:=.mk k s n []) k4];rfl
    rw [this];rfl,HB.out⟩
theorem nodesG_any (b m:Nat) (r:Rho) (HFEW:Hid (∀ i,i < m→sizeT (r i)≤200)):∀ d,NodesG b m r d
 | 0=>fun _ _ _ _ h _ _=>h.elim
 | d+1=>nodesG_step b m r d HFEW (Lib.hid (nodesG_any b m r HFEW d))
end Lx
end Go.Proofs.YtnpacamcgifabaaDoor
