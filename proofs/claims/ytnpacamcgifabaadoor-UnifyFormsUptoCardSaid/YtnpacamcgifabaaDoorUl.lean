/- Package unify: Unify of one type with itself where no unknown is bound. Conditions: as each states. -/
import Derived.Test.YtnpacamcgifabaaDoorUk
namespace Go.Proofs.YtnpacamcgifabaaDoor
set_option linter.unusedSimpArgs false
set_option linter.unusedVariables false
namespace Lx
open Go Go.RowKit
/-- A row of two values in a new block. -/
theorem row2 {d:Nat} {Vol:Nat→Prop} {x y:TyT} {k1 n1 k2 n2:Int} {s1 s2:ByteArray} {A1 A2:Option Addr} {l1 c1 l2 c2:Nat} {w:World} (hx:TyW d Vol x (.agg #[.int .i64 k1,.string s1,.int .i64 n1,.slice A1 l1 c1]) w) (hy:TyW d Vol y (.agg #[.int .i64 k2,.string s2,.int .i64 n2,.slice A2 l2 c2]) w) (hv:∀ k,Vol k→k < w.heap.size) :
  RowW 4 (TyW d) Vol [x,y] (.slice (some ⟨w.heap.size,0,none⟩) 2 2) (w.alloc (.cells #[.int .i64 k1,.string s1,.int .i64 n1,.slice A1 l1 c1,.int .i64 k2,.string s2,.int .i64 n2,.slice A2 l2 c2] 32)):=by
 have hb:=below_alloc w (.cells #[.int .i64 k1,.string s1,.int .i64 n1,.slice A1 l1 c1,.int .i64 k2,.string s2,.int .i64 n2,.slice A2 l2 c2] 32)
 have hn:=heap_alloc_new w (.cells #[.int .i64 k1,.string s1,.int .i64 n1,.slice A1 l1 c1,.int .i64 k2,.string s2,.int .i64 n2,.slice A2 l2 c2] 32)
 refine ⟨_,2,rfl,Nat.le_refl _,by decide,fun i hi=>?_⟩
 have hnv:¬ Vol w.heap.size:=fun e=>Nat.lt_irrefl _ (hv _ e)
 match i,hi with
 | 0,_ =>
  refine ⟨_,0,_,rfl,by simp,hnv,(TyW.step d).below hx hb,fun j hj=>?_⟩
  rw [cellH hn]
  match j,hj with
  | 0,_=>rfl
  | 1,_=>rfl
  | 2,_=>rfl
  | 3,_=>rfl
 | 1,_ =>
  refine ⟨_,0,_,rfl,by simp,hnv,(TyW.step d).below hy hb,fun j hj=>?_⟩
  rw [cellH hn]
  match j,hj with
  | 0,_=>rfl
  | 1,_=>rfl
  | 2,_=>rfl
  | 3,_=>rfl
theorem row1 {d:Nat} {Vol:Nat→Prop} {x:TyT} {k1 n1:Int} {s1:ByteArray} {A1:Option Addr} {l1 c1:Nat} {w:World} (hx:TyW d Vol x (.agg #[.int .i64 k1,.string s1,.int .i64 n1,.slice A1 l1 c1]) w) (hv:∀ k,Vol k→k < w.heap.size) :
  RowW 4 (TyW d) Vol [x] (.slice (some ⟨w.heap.size,0,none⟩) 1 1) (w.alloc (.cells #[.int .i64 k1,.string s1,.int .i64 n1,.slice A1 l1 c1] 32)):=by
 have hb:=below_alloc w (.cells #[.int .i64 k1,.string s1,.int .i64 n1,.slice A1 l1 c1] 32)
 have hn:=heap_alloc_new w (.cells #[.int .i64 k1,.string s1,.int .i64 n1,.slice A1 l1 c1] 32)
 refine ⟨_,1,rfl,Nat.le_refl _,by decide,fun i hi=>?_⟩
 have hnv:¬ Vol w.heap.size:=fun e=>Nat.lt_irrefl _ (hv _ e)
 match i,hi with
 | 0,_ =>
  refine ⟨_,0,_,rfl,by simp,hnv,(TyW.step d).below hx hb,fun j hj=>?_⟩
  rw [cellH hn]
  match j,hj with
  | 0,_=>rfl
  | 1,_=>rfl
  | 2,_=>rfl
  | 3,_=>rfl
set_option maxRecDepth 100000 in
set_option maxHeartbeats 4000000 in
theorem unifySelf_any (f:Nat→Addr) (b m d:Nat) (Vol:Nat→Prop) (x:TyT) (v:Value) (w:World) (hv:TyW d Vol x v w) (hf:fewT x) (hvl:∀ k,Vol k→k < w.heap.size) (ht:TabR b m w) (he:ErrU f w) :
  Calls Tryd.prog 18 #[.pointer (some ⟨b,0,none⟩),v,v] w fun e w'=>e=.returned (refuseV f m [x,x])∧Below w.heap.size w w':=by
 obtain ⟨A1,n1,c1,rfl⟩:=hv.this
 have hb2:Below w.heap.size w ((w.alloc (.cells #[.int .i64 x.kind,.string x.name,.int .i64 x.var,.slice A1 n1 c1] 32)).alloc (.cells #[.int .i64 x.kind,.string x.name,.int .i64 x.var,.slice A1 n1 c1] 32)):=(below_alloc _ _).alloc (by simp) _
 have hv2:=(TyW.step d).below hv hb2
 have hvl2:∀ k,Vol k→k < ((w.alloc (.cells #[.int .i64 x.kind,.string x.name,.int .i64 x.var,.slice A1 n1 c1] 32)).alloc (.cells #[.int .i64 x.kind,.string x.name,.int .i64 x.var,.slice A1 n1 c1] 32)).heap.size:=fun k e=>Nat.lt_of_lt_of_le (hvl k e) hb2.size
 have hrow:=row2 hv2 hv2 hvl2
 have hsz:((w.alloc (.cells #[.int .i64 x.kind,.string x.name,.int .i64 x.var,.slice A1 n1 c1] 32)).alloc (.cells #[.int .i64 x.kind,.string x.name,.int .i64 x.var,.slice A1 n1 c1] 32)).heap.size=w.heap.size+2:=by simp
 rw [hsz] at hrow
 have hb3:=hb2.alloc (by rw [hsz];omega) (.cells #[.int .i64 x.kind,.string x.name,.int .i64 x.var,.slice A1 n1 c1,.int .i64 x.kind,.string x.name,.int .i64 x.var,.slice A1 n1 c1] 32)
 have HR:=Lib.hid (refuse_any f b m d Vol [x,x] _ _ hrow (TabR.stay b m _ _ ht hb3).tab (ErrU.stay f _ _ he hb3))
 have HO:Hid (∀ W,Below w.heap.size w W→Calls Tryd.prog 51 #[.agg #[.int .i64 x.kind,.string x.name,.int .i64 x.var,.slice A1 n1 c1]] W fun e w'=>∃ v',e=.returned v'∧TyW d Vol (cleanT x) v' w'∧Below W.heap.size W w'):=Lib.hid (fun W hb=>own_any d Vol x _ W ((TyW.step d).below hv hb) hf (fun k e=>Nat.lt_of_lt_of_le (hvl k e) hb.size))
 have HN0:=Lib.hid ((Below.heap_alloc _ (.cells #[.int .i64 x.kind,.string x.name,.int .i64 x.var,.slice A1 n1 c1,.int .i64 x.kind,.string x.name,.int .i64 x.var,.slice A1 n1 c1] 32) w.heap.size (by simp;omega)).trans ((Below.heap_alloc (w.alloc (.cells #[.int .i64 x.kind,.string x.name,.int .i64 x.var,.slice A1 n1 c1] 32)) (.cells #[.int .i64 x.kind,.string x.name,.int .i64 x.var,.slice A1 n1 c1] 32) w.heap.size (by simp)).trans (heap_alloc_new w (.cells #[.int .i64 x.kind,.string x.name,.int .i64 x.var,.slice A1 n1 c1] 32))))
 have hnn:=heap_alloc_new (w.alloc (.cells #[.int .i64 x.kind,.string x.name,.int .i64 x.var,.slice A1 n1 c1] 32)) (.cells #[.int .i64 x.kind,.string x.name,.int .i64 x.var,.slice A1 n1 c1] 32)
 rw [show (w.alloc (.cells #[.int .i64 x.kind,.string x.name,.int .i64 x.var,.slice A1 n1 c1] 32)).heap.size=w.heap.size+1 by simp] at hnn
 have HN1:=Lib.hid ((Below.heap_alloc _ (.cells #[.int .i64 x.kind,.string x.name,.int .i64 x.var,.slice A1 n1 c1,.int .i64 x.kind,.string x.name,.int .i64 x.var,.slice A1 n1 c1] 32) (w.heap.size+1) (by rw [hsz];omega)).trans hnn)
 have HB3:=Lib.hid hb3
 have HS3:=Lib.hid (show (((w.alloc (.cells #[.int .i64 x.kind,.string x.name,.int .i64 x.var,.slice A1 n1 c1] 32)).alloc (.cells #[.int .i64 x.kind,.string x.name,.int .i64 x.var,.slice A1 n1 c1] 32)).alloc (.cells #[.int .i64 x.kind,.string x.name,.int .i64 x.var,.slice A1 n1 c1,.int .i64 x.kind,.string x.name,.int .i64 x.var,.slice A1 n1 c1] 32)).heap.size=w.heap.size+3 by simp)
 have HT:=Lib.hid ht
 have HQ:=Lib.hid (show ([x,x].any (strange (m:Int))=strange (m:Int) x) by simp)
 clear hb2 hv2 hvl2 hrow hsz hb3 hnn hv hf hvl ht he
 cases hs:strange (m:Int) x
 ·have HOK:=Lib.hid (ok_clean m x hs)
  cases hl:largeT x
  ·rw [show refuseV f m [x,x]=.nilIface by simp [refuseV,hs,hl]] at HR ⊢
   clear hs hl HQ
   go_enter Tryd.func18,Tryd.ntmps18
   go_wp2_with fail
   refine HR.out.mono ?_
   rintro e w1 ⟨rfl,hb1⟩
   have HB1:=Lib.hid (HB3.out.trans (hb1.mono HB3.out.size))
   have HA:=Lib.hid ((hb1.block w.heap.size (by have:=HS3.out;omega)).trans HN0.out)
   have HC:=Lib.hid ((hb1.block (w.heap.size+1) (by have:=HS3.out;omega)).trans HN1.out)
   have HSA:=Lib.hid (show w.heap.size+3≤w1.heap.size by have:=HS3.out;have:=hb1.size;omega)
   clear hb1 HR HN0 HN1 HB3 HS3
   go_upto_region 4 with fail
   have HA:Hid (w1.drew.heap[w.heap.size]?=_):=HA
   have HC:Hid (w1.drew.heap[w.heap.size+1]?=_):=HC
   have HSA:Hid (w.heap.size+3≤w1.drew.heap.size):=HSA
   have HB1:=Lib.hid (below_drw HB1.out)
   have a0:=(cellH HA.out 0).trans rfl
   have a1:=(cellH HA.out 1).trans rfl
   have a2:=(cellH HA.out 2).trans rfl
   have a3:=(cellH HA.out 3).trans rfl
   have b0:=(cellH HC.out 0).trans rfl
   have b1:=(cellH HC.out 1).trans rfl
   have b2:=(cellH HC.out 2).trans rfl
   have b3:=(cellH HC.out 3).trans rfl
   go_region_with (first
    | (go_at_call 51;with_reducible refine (HO.out _ HB1.out).mono ?_;rintro e wA ⟨vA,rfl,hvA,hbA⟩;have HVA:=Lib.hid hvA;have HBA:=Lib.hid (HB1.out.trans (hbA.mono HB1.out.size));have HCA:=Lib.hid ((hbA.block (w.heap.size+1) (by have:=HSA.out;omega)).trans HC.out);have d0:=(cellH HCA.out 0).trans rfl;have d1:=(cellH HCA.out 1).trans rfl;have d2:=(cellH HCA.out 2).trans rfl;have d3:=(cellH HCA.out 3).trans rfl;clear hvA hbA)
    | (go_at_call 51;with_reducible refine (HO.out _ HBA.out).mono ?_;rintro e wB ⟨vB,rfl,hvB,hbB⟩;have HVB:=Lib.hid hvB;have HVA2:=Lib.hid ((TyW.step d).below HVA.out hbB);have HBB:=Lib.hid (HBA.out.trans (hbB.mono HBA.out.size));clear hvB hbB)
    | (go_at_call 50;refine (self_any b m d Vol _ _ _ _ HVA2.out HVB.out HOK.out (TabR.stay b m _ _ HT.out HBB.out)).mono ?_;rintro e wC ⟨rfl,hbC⟩;have HBC:=Lib.hid (HBB.out.trans (hbC.mono HBB.out.size));clear hbC))
   all_goals
    go_wp2_with fail
    go_ret
    exact ⟨rfl,HBC.out⟩
  ·rw [show refuseV f m [x,x]=errP (f 0) by simp [refuseV,hs,hl]] at HR ⊢
   clear hs hl HQ HO
   go_enter Tryd.func18,Tryd.ntmps18
   go_wp2_with fail
   refine HR.out.mono ?_
   rintro e w1 ⟨rfl,hb1⟩
   have HB1:=Lib.hid (HB3.out.trans (hb1.mono HB3.out.size))
   clear hb1
   go_wp2_with fail
   go_ret
   exact ⟨rfl,HB1.out⟩
 ·rw [show refuseV f m [x,x]=errP (f 1) by simp [refuseV,hs]] at HR ⊢
  clear hs HQ HO
  go_enter Tryd.func18,Tryd.ntmps18
  go_wp2_with fail
  refine HR.out.mono ?_
  rintro e w1 ⟨rfl,hb1⟩
  have HB1:=Lib.hid (HB3.out.trans (hb1.mono HB3.out.size))
  clear hb1
  go_wp2_with fail
  go_ret
  exact ⟨rfl,HB1.out⟩
end Lx
end Go.Proofs.YtnpacamcgifabaaDoor
