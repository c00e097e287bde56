/- Package unify: two values of one type are unified where no unknown is bound, and nothing is bound by it. Conditions: as each states. -/
import Derived.Test.YtnpacamcgifabaaDoorUj
namespace Go.Proofs.YtnpacamcgifabaaDoor
set_option linter.unusedSimpArgs false
set_option linter.unusedVariables false
namespace Lx
open Go Go.RowKit
mutual
def okT (m:Nat):TyT→Prop
 | .mk k _ n l=>(k=4→∃ i:Nat,i < m∧n=i)∧okTs m l
def okTs (m:Nat):List TyT→Prop
 | []=>True
 | x :: l=>okT m x∧okTs m l
end
theorem okTs_mem {m:Nat}:∀ {l:List TyT},okTs m l→∀ {k:Nat} (h:k < l.length),okT m l[k]
 | [],_,k,h=>by simp at h
 | x :: l,hf,0,_=>hf.1
 | x :: l,hf,k+1,h=>okTs_mem hf.2 (by simpa using h)
mutual
theorem ok_clean (m:Nat):∀ x:TyT,strange (m:Int) x=false→okT m (cleanT x)
 | .mk k s n l=>fun h=>by
  rw [cleanT]
  by_cases k2:k=2
  ·subst k2
   simp only [strange] at h
   simp only [if_true]
   exact ⟨fun e=>by simp at e,oks_clean m l (by simpa using h)⟩
  ·rw [if_neg k2]
   by_cases k3:k=3
   ·subst k3
    simp only [if_true]
    exact ⟨fun e=>by simp at e,trivial⟩
   ·rw [if_neg k3]
    by_cases k4:k=4
    ·subst k4
     simp only [if_true]
     refine ⟨fun _=>?_,trivial⟩
     simp [strange] at h
     exact ⟨n.toNat,by omega,by omega⟩
    ·rw [if_neg k4]
     exact ⟨fun e=>absurd e k4,trivial⟩
theorem oks_clean (m:Nat):∀ l:List TyT,stranges (m:Int) l=false→okTs m (cleanTs l)
 | []=>fun _=>by rw [cleanTs];trivial
 | x :: l=>fun h=>by
  rw [stranges,Bool.or_eq_false_iff] at h
  rw [cleanTs]
  exact ⟨ok_clean m x h.1,oks_clean m l h.2⟩
end
theorem head_keeps {b m:Nat} {k n:Int} (hx:k=4→∃ i:Nat,i < m∧n=i) {w:World} (ht:TabR b m w) (s:ByteArray) (A:Option Addr) (l c:Nat):Hid (∀ W,Below w.heap.size w W→Calls Tryd.prog 85 #[.pointer (some ⟨b,0,none⟩),.agg #[.int .i64 k,.string s,.int .i64 n,.slice A l c]] W fun e w'=>e=.returned (.agg #[.int .i64 k,.string s,.int .i64 n,.slice A l c])∧Below W.heap.size W w'):=Lib.hid (fun W hb=>by
 by_cases k4:k=4
 ·subst k4
  obtain ⟨i,hi,rfl⟩:=hx rfl
  exact head_free b m i s A l c W ((TabR.stay b m _ _ ht hb).cell hi 0 (by decide)) hi
 ·exact head_other b k n s A l c W k4)
def SelfC (b m d:Nat):Prop:=∀ (Vol:Nat→Prop) (x:TyT) (v1 v2:Value) (w:World),TyW d Vol x v1 w→TyW d Vol x v2 w→okT m x→TabR b m w→Calls Tryd.prog 50 #[.pointer (some ⟨b,0,none⟩),v1,v2] w fun e w'=>e=.returned .nilIface∧Below w.heap.size w w'
set_option maxRecDepth 100000 in
set_option maxHeartbeats 4000000 in
theorem self_step (b m d:Nat) (HC:Hid (SelfC b m d)):SelfC b m (d+1):=by
 rintro Vol ⟨k,s,n,l⟩ v1 v2 w ⟨va,rfl,ha⟩ ⟨vb,rfl,hb⟩ hx ht
 obtain ⟨A1,c1,rfl⟩:=ha.slice
 obtain ⟨A2,c2,rfl⟩:=hb.slice
 have H1:=head_keeps hx.1 ht s A1 l.length c1
 have H2:=head_keeps hx.1 ht s A2 l.length c2
 have HB0:=Lib.hid (show Below w.heap.size w ((w.alloc (.cells #[.int .i64 k,.string s,.int .i64 n,.slice A1 l.length c1] 32)).alloc (.cells #[.int .i64 k,.string s,.int .i64 n,.slice A2 l.length c2] 32)) from (below_alloc _ _).alloc (by simp) _)
 have HA:=Lib.hid ((Below.heap_alloc (w.alloc (.cells #[.int .i64 k,.string s,.int .i64 n,.slice A1 l.length c1] 32)) (.cells #[.int .i64 k,.string s,.int .i64 n,.slice A2 l.length c2] 32) w.heap.size (by simp)).trans (heap_alloc_new w (.cells #[.int .i64 k,.string s,.int .i64 n,.slice A1 l.length c1] 32)))
 have hz:(w.alloc (.cells #[.int .i64 k,.string s,.int .i64 n,.slice A1 l.length c1] 32)).heap.size=w.heap.size+1:=by simp
 have HR:=Lib.hid (heap_alloc_new (w.alloc (.cells #[.int .i64 k,.string s,.int .i64 n,.slice A1 l.length c1] 32)) (.cells #[.int .i64 k,.string s,.int .i64 n,.slice A2 l.length c2] 32))
 rw [hz] at HR
 have HZ2:=Lib.hid (show ((w.alloc (.cells #[.int .i64 k,.string s,.int .i64 n,.slice A1 l.length c1] 32)).alloc (.cells #[.int .i64 k,.string s,.int .i64 n,.slice A2 l.length c2] 32)).heap.size=w.heap.size+2 by simp)
 have HVA:=Lib.hid ha
 have HVB:=Lib.hid hb
 have HX:=Lib.hid hx.2
 have HK4:=Lib.hid hx.1
 have HT:=Lib.hid ht
 clear ha hb hx ht hz
 go_enter Tryd.func50,Tryd.ntmps50
 go_upto_region 1 with fail
 generalize ((w.alloc (.cells #[.int .i64 k,.string s,.int .i64 n,.slice A1 l.length c1] 32)).alloc (.cells #[.int .i64 k,.string s,.int .i64 n,.slice A2 l.length c2] 32))=Z at HA HR HZ2 HB0 ⊢
 have HA:Hid (Z.drew.heap[w.heap.size]?=_):=HA
 have HR:Hid (Z.drew.heap[w.heap.size+1]?=_):=HR
 have HZ2:Hid (Z.drew.heap.size=_):=HZ2
 have HB0:=Lib.hid (below_drw HB0.out)
 have a0:=(cellH HA.out 0).trans rfl
 have a1:=(cellH HA.out 1).trans rfl
 have a2:=(cellH HA.out 2).trans rfl
 have a3:=(cellH HA.out 3).trans rfl
 have b0:=(cellH HR.out 0).trans rfl
 have b1:=(cellH HR.out 1).trans rfl
 have b2:=(cellH HR.out 2).trans rfl
 have b3:=(cellH HR.out 3).trans rfl
 go_region_with (first
  | (go_at_call 85;with_reducible refine (H1.out _ HB0.out).mono ?_;rintro e wA ⟨rfl,hbA⟩;have HBA:=Lib.hid hbA;have HAA:=Lib.hid ((hbA.block w.heap.size (by have:=HZ2.out;omega)).trans HA.out);have HRA:=Lib.hid ((hbA.block (w.heap.size+1) (by have:=HZ2.out;omega)).trans HR.out);have HB1:=Lib.hid (HB0.out.trans (hbA.mono HB0.out.size));have HSA:=Lib.hid hbA.size;have d0:=(cellH HRA.out 0).trans rfl;have d1:=(cellH HRA.out 1).trans rfl;have d2:=(cellH HRA.out 2).trans rfl;have d3:=(cellH HRA.out 3).trans rfl;clear hbA)
  | (go_at_call 85;with_reducible refine (H2.out _ HB1.out).mono ?_;rintro e wB ⟨rfl,hbB⟩;have HAB:=Lib.hid ((hbB.block w.heap.size (by have:=HZ2.out;have:=HSA.out;omega)).trans HAA.out);have HRB:=Lib.hid ((hbB.block (w.heap.size+1) (by have:=HZ2.out;have:=HSA.out;omega)).trans HRA.out);have HB2:=Lib.hid (HB1.out.trans (hbB.mono HB1.out.size));have HSB:=Lib.hid hbB.size;have x0:=(cellH HAB.out 0).trans rfl;have x1:=(cellH HAB.out 1).trans rfl;have x2:=(cellH HAB.out 2).trans rfl;have x3:=(cellH HAB.out 3).trans rfl;have y0:=(cellH HRB.out 0).trans rfl;have y1:=(cellH HRB.out 1).trans rfl;have y2:=(cellH HRB.out 2).trans rfl;have y3:=(cellH HRB.out 3).trans rfl;have f0:=frozenH HAB.out 0;have f1:=frozenH HAB.out 1;have f2:=frozenH HAB.out 2;have f3:=frozenH HAB.out 3;have g0:=frozenH HRB.out 0;have g1:=frozenH HRB.out 1;have g2:=frozenH HRB.out 2;have g3:=frozenH HRB.out 3;clear hbB))
 all_goals
  clear a0 a1 a2 a3 b0 b1 b2 b3 d0 d1 d2 d3 x0 x1 x2 x3 y0 y1 y2 y3 f0 f1 f2 f3 g0 g1 g2 g3
  have hk1:=kput4 wB w.heap.size (.int .i64 k) (.string s) (.int .i64 n) (.slice A1 l.length c1)
  have hq1:=put4 (.int .i64 k) (.string s) (.int .i64 n) (.slice A1 l.length c1) HAB.out
  have hr1:=(hk1.block (w.heap.size+1) (by have:=HZ2.out;have:=HSA.out;have:=HSB.out;omega) (by omega)).trans HRB.out
  have hk2:=kput4 ((((wB.setCell ⟨w.heap.size,0,none⟩ (.int .i64 k)).setCell ⟨w.heap.size,1,none⟩ (.string s)).setCell ⟨w.heap.size,2,none⟩ (.int .i64 n)).setCell ⟨w.heap.size,3,none⟩ (.slice A1 l.length c1)) (w.heap.size+1) (.int .i64 k) (.string s) (.int .i64 n) (.slice A2 l.length c2)
  have hr2:=put4 (.int .i64 k) (.string s) (.int .i64 n) (.slice A2 l.length c2) hr1
  have hq2:=(hk2.block w.heap.size (by have:=hk1.size;have:=HZ2.out;have:=HSA.out;have:=HSB.out;omega) (by omega)).trans hq1
  have hkb:=(hk1.wider (S':=fun j=>w.heap.size≤j) (fun j _ e=>by omega)).trans (hk2.wider (fun j _ e=>by omega))
  have HBW:=Lib.hid (HB2.out.trans (hkb.below (by have:=HZ2.out;have:=HSA.out;have:=HSB.out;omega) (fun j e=>e)))
  have HQ:=Lib.hid hq2
  have HR2:=Lib.hid hr2
  have HSZ:=Lib.hid (show w.heap.size+2≤wB.heap.size by have:=HZ2.out;have:=HSA.out;have:=HSB.out;omega)
  have HSW:=Lib.hid (Nat.le_trans HSZ.out hkb.size)
  generalize ((((((((wB.setCell ⟨w.heap.size,0,none⟩ (.int .i64 k)).setCell ⟨w.heap.size,1,none⟩ (.string s)).setCell ⟨w.heap.size,2,none⟩ (.int .i64 n)).setCell ⟨w.heap.size,3,none⟩ (.slice A1 l.length c1)).setCell ⟨w.heap.size+1,0,none⟩ (.int .i64 k)).setCell ⟨w.heap.size+1,1,none⟩ (.string s)).setCell ⟨w.heap.size+1,2,none⟩ (.int .i64 n)).setCell ⟨w.heap.size+1,3,none⟩ (.slice A2 l.length c2))=W at HBW HQ HR2 HSW ⊢
  clear hk1 hq1 hr1 hk2 hr2 hq2 hkb HA HR HZ2 HB0 HAA HRA HB1 HSA HAB HRB HB2 HSB HSZ H1 H2
  have a0:=(cellH HQ.out 0).trans rfl
  have a1:=(cellH HQ.out 1).trans rfl
  have a2:=(cellH HQ.out 2).trans rfl
  have a3:=(cellH HQ.out 3).trans rfl
  have b0:=(cellH HR2.out 0).trans rfl
  have b1:=(cellH HR2.out 1).trans rfl
  have b2:=(cellH HR2.out 2).trans rfl
  have b3:=(cellH HR2.out 3).trans rfl
  by_cases k4:k=4
  ·subst k4
   go_wp2_with fail
   go_ret
   exact ⟨rfl,HBW.out⟩
  ·have e4:(k == 4)=false:=by simpa using k4
   go_wp2_with fail
   clear a0 a1 a2 b0 b1 b2
   go_loopw [76] (fun t wr=>∃ q:Nat,q≤l.length∧t=.int .i64 q∧Hid (Below W.heap.size W wr)) (fun t _=>l.length - (intOf t).toNat)
   case atStart=>exact ⟨0,Nat.zero_le _,rfl,Lib.hid (Below.refl _ _)⟩
   case round =>
    obtain ⟨q,hq,rfl,HB⟩:=hrel
    clear a3 b3
    have HBX:=Lib.hid (HBW.out.trans (HB.out.mono HBW.out.size))
    have hfew:=HVA.out.few
    unfold maxLen at hfew
    by_cases hlt:q < l.length
    ·obtain ⟨g1,o1,u1,rfl,hg1,_,hv1,cc1⟩:=RowW.at ((RowW.step (TyW.step d)).below HVA.out HBX.out) q hlt
     obtain ⟨B1,n1,m1,rfl⟩:=hv1.this
     have hbz:=below_alloc wr (.cells #[.int .i64 l[q].kind,.string l[q].name,.int .i64 l[q].var,.slice B1 n1 m1] 32)
     obtain ⟨g2,o2,u2,rfl,hg2,_,hv2,cc2⟩:=RowW.at ((RowW.step (TyW.step d)).below HVB.out (HBX.out.trans (hbz.mono HBX.out.size))) q hlt
     obtain ⟨B2,n2,m2,rfl⟩:=hv2.this
     have a0:=(cc1 0 (by decide)).trans rfl
     have a1:=(cc1 1 (by decide)).trans rfl
     have a2:=(cc1 2 (by decide)).trans rfl
     have a3:=(cc1 3 (by decide)).trans rfl
     simp only [cellsL,Value.cells,List.getElem?_cons_zero,List.getElem?_cons_succ,Nat.add_zero] at a0 a1 a2 a3
     have d0:=(cc2 0 (by decide)).trans rfl
     have d1:=(cc2 1 (by decide)).trans rfl
     have d2:=(cc2 2 (by decide)).trans rfl
     have d3:=(cc2 3 (by decide)).trans rfl
     simp only [cellsL,Value.cells,List.getElem?_cons_zero,List.getElem?_cons_succ,Nat.add_zero] at d0 d1 d2 d3
     have hk0:(0:Int)≤(q:Int):=by omega
     have hk1:(q:Int) < (l.length:Int):=by omega
     have hdc:decide (q < l.length)=true:=by simpa using hlt
     have HV1:=Lib.hid ((TyW.step d).below hv1 hbz)
     have HV2:=Lib.hid hv2
     have HT1:=Lib.hid (TabR.stay b m _ _ HT.out (HBX.out.trans (hbz.mono HBX.out.size)))
     have HOK:=Lib.hid (okTs_mem HX.out hlt)
     have HBZ:=Lib.hid (HB.out.trans (hbz.mono HB.out.size))
     have hn:=heap_alloc_new wr (.cells #[.int .i64 l[q].kind,.string l[q].name,.int .i64 l[q].var,.slice B1 n1 m1] 32)
     have e0:=(cellH hn 0).trans rfl
     have e1:=(cellH hn 1).trans rfl
     have e2:=(cellH hn 2).trans rfl
     have e3:=(cellH hn 3).trans rfl
     have b3:=(cellH ((HBZ.out.block (w.heap.size+1) (by have:=HSW.out;omega)).trans HR2.out) 3).trans rfl
     clear cc1 cc2 hv1 hv2 hbz hn
     generalize l[q]=x at *
     go_upto_region 13 with fail
     generalize (wr.alloc (.cells #[.int .i64 x.kind,.string x.name,.int .i64 x.var,.slice B1 n1 m1] 32))=Y at HV1 HV2 HT1 HBZ e0 e1 e2 e3 d0 d1 d2 d3 b3 ⊢
     go_still_tail 7,(by kernel_rfl)
     have HV1:=Lib.hid ((TyW.step d).below HV1.out (below_drw (Below.refl _ _)))
     have HV2:=Lib.hid ((TyW.step d).below HV2.out (below_drw (Below.refl _ _)))
     have HT1:=Lib.hid (TabR.stay b m _ _ HT1.out (below_drw (Below.refl _ _)))
     have HBZ:=Lib.hid (below_drw HBZ.out)
     have HCALL:=Lib.hid (HC.out Vol x _ _ _ HV1.out HV2.out HOK.out HT1.out)
     have e0:Y.drew.cell? _=_:=e0
     have e1:Y.drew.cell? _=_:=e1
     have e2:Y.drew.cell? _=_:=e2
     have e3:Y.drew.cell? _=_:=e3
     have d0:Y.drew.cell? _=_:=d0
     have d1:Y.drew.cell? _=_:=d1
     have d2:Y.drew.cell? _=_:=d2
     have d3:Y.drew.cell? _=_:=d3
     have b3:Y.drew.cell? _=_:=b3
     change wpList _ _ _ _ _ Y.drew
     generalize Y.drew=X at HV1 HV2 HT1 HBZ e0 e1 e2 e3 d0 d1 d2 d3 b3 HCALL ⊢
     go_wp2_with (go_at_call 50;refine HCALL.out.mono ?_;rintro e w3 ⟨rfl,hb3⟩;have HB3:=Lib.hid (HBZ.out.trans (hb3.mono HBZ.out.size));clear hb3)
     go_roundw
     case rel=>exact ⟨q+1,by omega,by go_num,HB3⟩
     case measure=>simp [intOf];omega
    ·obtain rfl:q=l.length:=by omega
     have hdc:decide (l.length < l.length)=false:=by simp
     go_wp2_with fail
     go_ret
     exact ⟨rfl,HBX.out⟩
theorem self_any (b m:Nat):∀ d,SelfC b m d
 | 0=>fun _ _ _ _ _ h _ _ _=>h.elim
 | d+1=>self_step b m d (Lib.hid (self_any b m d))
end Lx
end Go.Proofs.YtnpacamcgifabaaDoor
