/- Package unify: Unify of two types that are not refused, by what unify gives; Resolve of an unknown. Conditions: as each states. -/
import Derived.Test.YtnpacamcgifabaaDoorUp
namespace Go.Proofs.YtnpacamcgifabaaDoor
set_option linter.unusedSimpArgs false
set_option linter.unusedVariables false
namespace Lx
open Go Go.RowKit
set_option maxRecDepth 100000 in
set_option maxHeartbeats 4000000 in
theorem unify_gen (f:Nat→Addr) (b m d:Nat) (Vol:Nat→Prop) (x y:TyT) (v1 v2 r:Value) (Q:World→Prop) (w:World) (hx:TyW d Vol x v1 w) (hy:TyW d Vol y v2 w) (hfx:fewT x) (hfy:fewT y) (hvl:∀ k,Vol k→k < w.heap.size) (ht:TabC b m w) (he:ErrU f w) (hnr:refuseV f m [x,y]=.nilIface)
  (HU:Hid (∀ W vA vB,Below w.heap.size w W→TyW d Vol (cleanT x) vA W→TyW d Vol (cleanT y) vB W→Calls Tryd.prog 50 #[.pointer (some ⟨b,0,none⟩),vA,vB] W fun e w'=>e=.returned r∧Q w')) :
  Calls Tryd.prog 18 #[.pointer (some ⟨b,0,none⟩),v1,v2] w fun e w'=>e=.returned r∧Q w':=by
 obtain ⟨A1,n1,c1,rfl⟩:=hx.this
 obtain ⟨A2,n2,c2,rfl⟩:=hy.this
 have hb2:Below w.heap.size w ((w.alloc (.cells #[.int .i64 x.kind,.string x.name,.int .i64 x.var,.slice A1 n1 c1] 32)).alloc (.cells #[.int .i64 y.kind,.string y.name,.int .i64 y.var,.slice A2 n2 c2] 32)):=(below_alloc _ _).alloc (by simp) _
 have hvl2:∀ k,Vol k→k < ((w.alloc (.cells #[.int .i64 x.kind,.string x.name,.int .i64 x.var,.slice A1 n1 c1] 32)).alloc (.cells #[.int .i64 y.kind,.string y.name,.int .i64 y.var,.slice A2 n2 c2] 32)).heap.size:=fun k e=>Nat.lt_of_lt_of_le (hvl k e) hb2.size
 have hrow:=row2 ((TyW.step d).below hx hb2) ((TyW.step d).below hy hb2) hvl2
 have hsz:((w.alloc (.cells #[.int .i64 x.kind,.string x.name,.int .i64 x.var,.slice A1 n1 c1] 32)).alloc (.cells #[.int .i64 y.kind,.string y.name,.int .i64 y.var,.slice A2 n2 c2] 32)).heap.size=w.heap.size+2:=by simp
 rw [hsz] at hrow
 have hb3:=hb2.alloc (by rw [hsz];omega) (.cells #[.int .i64 x.kind,.string x.name,.int .i64 x.var,.slice A1 n1 c1,.int .i64 y.kind,.string y.name,.int .i64 y.var,.slice A2 n2 c2] 32)
 have HR:=Lib.hid (refuse_any f b m d Vol [x,y] _ _ hrow (TabC.stay b m _ _ ht hb3) (ErrU.stay f _ _ he hb3))
 rw [hnr] at HR
 have HO1:Hid (∀ W,Below w.heap.size w W→Calls Tryd.prog 51 #[.agg #[.int .i64 x.kind,.string x.name,.int .i64 x.var,.slice A1 n1 c1]] W fun e w'=>∃ v',e=.returned v'∧TyW d Vol (cleanT x) v' w'∧Below W.heap.size W w'):=Lib.hid (fun W hb=>own_any d Vol x _ W ((TyW.step d).below hx hb) hfx (fun k e=>Nat.lt_of_lt_of_le (hvl k e) hb.size))
 have HO2:Hid (∀ W,Below w.heap.size w W→Calls Tryd.prog 51 #[.agg #[.int .i64 y.kind,.string y.name,.int .i64 y.var,.slice A2 n2 c2]] W fun e w'=>∃ v',e=.returned v'∧TyW d Vol (cleanT y) v' w'∧Below W.heap.size W w'):=Lib.hid (fun W hb=>own_any d Vol y _ W ((TyW.step d).below hy hb) hfy (fun k e=>Nat.lt_of_lt_of_le (hvl k e) hb.size))
 have HN0:=Lib.hid ((Below.heap_alloc _ (.cells #[.int .i64 x.kind,.string x.name,.int .i64 x.var,.slice A1 n1 c1,.int .i64 y.kind,.string y.name,.int .i64 y.var,.slice A2 n2 c2] 32) w.heap.size (by simp;omega)).trans ((Below.heap_alloc (w.alloc (.cells #[.int .i64 x.kind,.string x.name,.int .i64 x.var,.slice A1 n1 c1] 32)) (.cells #[.int .i64 y.kind,.string y.name,.int .i64 y.var,.slice A2 n2 c2] 32) w.heap.size (by simp)).trans (heap_alloc_new w (.cells #[.int .i64 x.kind,.string x.name,.int .i64 x.var,.slice A1 n1 c1] 32))))
 have hnn:=heap_alloc_new (w.alloc (.cells #[.int .i64 x.kind,.string x.name,.int .i64 x.var,.slice A1 n1 c1] 32)) (.cells #[.int .i64 y.kind,.string y.name,.int .i64 y.var,.slice A2 n2 c2] 32)
 rw [show (w.alloc (.cells #[.int .i64 x.kind,.string x.name,.int .i64 x.var,.slice A1 n1 c1] 32)).heap.size=w.heap.size+1 by simp] at hnn
 have HN1:=Lib.hid ((Below.heap_alloc _ (.cells #[.int .i64 x.kind,.string x.name,.int .i64 x.var,.slice A1 n1 c1,.int .i64 y.kind,.string y.name,.int .i64 y.var,.slice A2 n2 c2] 32) (w.heap.size+1) (by rw [hsz];omega)).trans hnn)
 have HB3:=Lib.hid hb3
 have HS3:=Lib.hid (show (((w.alloc (.cells #[.int .i64 x.kind,.string x.name,.int .i64 x.var,.slice A1 n1 c1] 32)).alloc (.cells #[.int .i64 y.kind,.string y.name,.int .i64 y.var,.slice A2 n2 c2] 32)).alloc (.cells #[.int .i64 x.kind,.string x.name,.int .i64 x.var,.slice A1 n1 c1,.int .i64 y.kind,.string y.name,.int .i64 y.var,.slice A2 n2 c2] 32)).heap.size=w.heap.size+3 by simp)
 clear hb2 hvl2 hrow hsz hb3 hnn hx hy hfx hfy hvl ht he hnr
 go_enter Tryd.func18,Tryd.ntmps18
 go_wp2_with fail
 refine HR.out.mono ?_
 rintro e w1 ⟨rfl,hb1⟩
 have HB1:=Lib.hid (HB3.out.trans (hb1.mono HB3.out.size))
 have HA:=Lib.hid ((hb1.block w.heap.size (by have:=HS3.out;omega)).trans HN0.out)
 have HC:=Lib.hid ((hb1.block (w.heap.size+1) (by have:=HS3.out;omega)).trans HN1.out)
 have HSA:=Lib.hid (show w.heap.size+3≤w1.heap.size by have:=HS3.out;have:=hb1.size;omega)
 clear hb1 HR HN0 HN1 HB3 HS3
 go_upto_region 4 with fail
 have HA:Hid (w1.drew.heap[w.heap.size]?=_):=HA
 have HC:Hid (w1.drew.heap[w.heap.size+1]?=_):=HC
 have HSA:Hid (w.heap.size+3≤w1.drew.heap.size):=HSA
 have HB1:=Lib.hid (below_drw HB1.out)
 have a0:=(cellH HA.out 0).trans rfl
 have a1:=(cellH HA.out 1).trans rfl
 have a2:=(cellH HA.out 2).trans rfl
 have a3:=(cellH HA.out 3).trans rfl
 have b0:=(cellH HC.out 0).trans rfl
 have b1:=(cellH HC.out 1).trans rfl
 have b2:=(cellH HC.out 2).trans rfl
 have b3:=(cellH HC.out 3).trans rfl
 go_region_with (first
  | (go_at_call 51;with_reducible refine (HO1.out _ HB1.out).mono ?_;rintro e wA ⟨vA,rfl,hvA,hbA⟩;have HVA:=Lib.hid hvA;have HBA:=Lib.hid (HB1.out.trans (hbA.mono HB1.out.size));have HCA:=Lib.hid ((hbA.block (w.heap.size+1) (by have:=HSA.out;omega)).trans HC.out);have d0:=(cellH HCA.out 0).trans rfl;have d1:=(cellH HCA.out 1).trans rfl;have d2:=(cellH HCA.out 2).trans rfl;have d3:=(cellH HCA.out 3).trans rfl;clear hvA hbA)
  | (go_at_call 51;with_reducible refine (HO2.out _ HBA.out).mono ?_;rintro e wB ⟨vB,rfl,hvB,hbB⟩;have HVB:=Lib.hid hvB;have HVA2:=Lib.hid ((TyW.step d).below HVA.out hbB);have HBB:=Lib.hid (HBA.out.trans (hbB.mono HBA.out.size));clear hvB hbB)
  | (go_at_call 50;refine (HU.out _ _ _ HBB.out HVA2.out HVB.out).mono ?_;rintro e wC ⟨rfl,hQC⟩;have HQC:=Lib.hid hQC;clear hQC))
 all_goals
  go_wp2_with fail
  go_ret
  exact ⟨rfl,HQC.out⟩
/-- What resolved gives: what the head gives, if that has no arguments. -/
theorem resolved_leaf (b:Nat) (v:Value) (k n:Int) (s:ByteArray) (k1 n1:Int) (s1:ByteArray) (A1:Option Addr) (l1 c1:Nat) (A':Option Addr) (c':Nat) (w:World) (hv:v=.agg #[.int .i64 k1,.string s1,.int .i64 n1,.slice A1 l1 c1])
  (HH:Hid (∀ W,Below w.heap.size w W→Calls Tryd.prog 85 #[.pointer (some ⟨b,0,none⟩),v] W fun e w'=>e=.returned (.agg #[.int .i64 k,.string s,.int .i64 n,.slice A' 0 c'])∧Below W.heap.size W w')) :
  Calls Tryd.prog 57 #[.pointer (some ⟨b,0,none⟩),v] w fun e w'=>e=.returned (.agg #[.int .i64 k,.string s,.int .i64 n,.slice none 0 0])∧Below w.heap.size w w':=by
 subst hv
 have HX:=Lib.hid (HH.out ((w.alloc (.cells #[.int .i64 k1,.string s1,.int .i64 n1,.slice A1 l1 c1] 32)).alloc (.cells #[.int .i64 0,.string ⟨#[]⟩,.int .i64 0,.slice none 0 0] 32)) ((below_alloc _ _).alloc (by simp) _))
 have HB:=Lib.hid (show Below w.heap.size w ((w.alloc (.cells #[.int .i64 k1,.string s1,.int .i64 n1,.slice A1 l1 c1] 32)).alloc (.cells #[.int .i64 0,.string ⟨#[]⟩,.int .i64 0,.slice none 0 0] 32)) from (below_alloc _ _).alloc (by simp) _)
 have HA:=Lib.hid ((Below.heap_alloc (w.alloc (.cells #[.int .i64 k1,.string s1,.int .i64 n1,.slice A1 l1 c1] 32)) (.cells #[.int .i64 0,.string ⟨#[]⟩,.int .i64 0,.slice none 0 0] 32) w.heap.size (by simp)).trans (heap_alloc_new w (.cells #[.int .i64 k1,.string s1,.int .i64 n1,.slice A1 l1 c1] 32)))
 have hz:(w.alloc (.cells #[.int .i64 k1,.string s1,.int .i64 n1,.slice A1 l1 c1] 32)).heap.size=w.heap.size+1:=by simp
 have HR:=Lib.hid (heap_alloc_new (w.alloc (.cells #[.int .i64 k1,.string s1,.int .i64 n1,.slice A1 l1 c1] 32)) (.cells #[.int .i64 0,.string ⟨#[]⟩,.int .i64 0,.slice none 0 0] 32))
 rw [hz] at HR
 have HZ2:=Lib.hid (show ((w.alloc (.cells #[.int .i64 k1,.string s1,.int .i64 n1,.slice A1 l1 c1] 32)).alloc (.cells #[.int .i64 0,.string ⟨#[]⟩,.int .i64 0,.slice none 0 0] 32)).heap.size=w.heap.size+2 by simp)
 have HN:=Lib.hid (each_nil A' c')
 clear hz HH
 go_enter Tryd.func57,Tryd.ntmps57
 go_wp2_with fail
 refine HX.out.mono ?_
 rintro e w1 ⟨rfl,hb1⟩
 have HB1:=Lib.hid (HB.out.trans (hb1.mono HB.out.size))
 have HA1:=Lib.hid ((hb1.block w.heap.size (by have:=HZ2.out;omega)).trans HA.out)
 have HR1:=Lib.hid ((hb1.block (w.heap.size+1) (by have:=HZ2.out;omega)).trans HR.out)
 have hs1:w.heap.size+2≤w1.heap.size:=by have:=HZ2.out;have:=hb1.size;omega
 have a0:=(cellH HA1.out 0).trans rfl
 have a1:=(cellH HA1.out 1).trans rfl
 have a2:=(cellH HA1.out 2).trans rfl
 have a3:=(cellH HA1.out 3).trans rfl
 have f0:=frozenH HA1.out 0
 have f1:=frozenH HA1.out 1
 have f2:=frozenH HA1.out 2
 have f3:=frozenH HA1.out 3
 have hk:=kput4 w1 w.heap.size (.int .i64 k) (.string s) (.int .i64 n) (.slice A' 0 c')
 have hq:=put4 (.int .i64 k) (.string s) (.int .i64 n) (.slice A' 0 c') HA1.out
 have hr:=(hk.block (w.heap.size+1) (by omega) (by omega)).trans HR1.out
 have y3:=(cellH hq 3).trans rfl
 clear hb1 HX HA HR HZ2
 go_wp2_with fail
 have HK:=Lib.hid (HB1.out.trans (hk.below (by omega) (fun j e=>by omega)))
 have HSX:=Lib.hid (Nat.le_trans hs1 hk.size)
 clear a0 a1 a2 a3 f0 f1 f2 f3
 generalize ((((w1.setCell ⟨w.heap.size,0,none⟩ (.int .i64 k)).setCell ⟨w.heap.size,1,none⟩ (.string s)).setCell ⟨w.heap.size,2,none⟩ (.int .i64 n)).setCell ⟨w.heap.size,3,none⟩ (.slice A' 0 c'))=X at HK HSX hq hr y3 ⊢
 clear hk
 refine (HN.out _ _).mono ?_
 rintro e w2 ⟨rfl,rfl⟩
 have x0:=(cellH hq 0).trans rfl
 have x1:=(cellH hq 1).trans rfl
 have x2:=(cellH hq 2).trans rfl
 have fx3:=frozenH hq 3
 have r0:=(cellH hr 0).trans rfl
 have r1:=(cellH hr 1).trans rfl
 have r2:=(cellH hr 2).trans rfl
 have r3:=(cellH hr 3).trans rfl
 have fr0:=frozenH hr 0
 have fr1:=frozenH hr 1
 have fr2:=frozenH hr 2
 have fr3:=frozenH hr 3
 go_wp2_with fail
 have hr':=(Below.heap_setCell X ⟨w.heap.size,3,none⟩ (.slice none 0 0) (w.heap.size+1) (by show w.heap.size+1 ≠ w.heap.size;omega)).trans hr
 have hq2:=put4 (.int .i64 k) (.string s) (.int .i64 n) (.slice none 0 0) hr'
 have hk2:=((Kb.refl (fun j=>j=w.heap.size ∨ j=w.heap.size+1) X).put (p:=⟨w.heap.size,3,none⟩) (.inl rfl) (.slice none 0 0)).trans ((kput4 (X.setCell ⟨w.heap.size,3,none⟩ (.slice none 0 0)) (w.heap.size+1) (.int .i64 k) (.string s) (.int .i64 n) (.slice none 0 0)).wider (fun k _ e=>.inr e))
 clear x0 x1 x2 y3 fx3 r0 r1 r2 r3 fr0 fr1 fr2 fr3
 generalize (((((X.setCell ⟨w.heap.size,3,none⟩ (.slice none 0 0)).setCell ⟨w.heap.size+1,0,none⟩ (.int .i64 k)).setCell ⟨w.heap.size+1,1,none⟩ (.string s)).setCell ⟨w.heap.size+1,2,none⟩ (.int .i64 n)).setCell ⟨w.heap.size+1,3,none⟩ (.slice none 0 0))=W at hq2 hk2 ⊢
 have c0:=(cellH hq2 0).trans rfl
 have c1:=(cellH hq2 1).trans rfl
 have c2:=(cellH hq2 2).trans rfl
 have c3:=(cellH hq2 3).trans rfl
 have hsx:=HSX.out
 exact bodyPost_ret (v:=.agg #[.int .i64 k,.string s,.int .i64 n,.slice none 0 0]) (by simp [results,Tryd.results57,go_sem,c0,c1,c2,c3]) rfl ⟨rfl,HK.out.trans (hk2.below (by omega) (fun j e=>by omega))⟩
theorem own_free (i:Nat) (w:World):Calls Tryd.prog 51 #[.agg #[.int .i64 4,.string ⟨#[]⟩,.int .i64 i,.slice none 0 0]] w fun e w'=>e=.returned (.agg #[.int .i64 4,.string ⟨#[]⟩,.int .i64 i,.slice none 0 0])∧Below w.heap.size w w':=by
 have HB:=Lib.hid (fun (a b:Obj)=>((below_alloc w a).alloc (by simp) b:Below w.heap.size w ((w.alloc a).alloc b)))
 go_enter Tryd.func51,Tryd.ntmps51
 go_wp2_with fail
 exact bodyPost_ret (v:=.agg #[.int .i64 4,.string ⟨#[]⟩,.int .i64 i,.slice none 0 0]) (by simp [results,Tryd.results51,go_sem]) rfl ⟨rfl,HB.out _ _⟩
set_option maxRecDepth 100000 in
set_option maxHeartbeats 4000000 in
/-- Resolve of an unknown: what its head gives. -/
theorem resolve_free (f:Nat→Addr) (b m i:Nat) (k n:Int) (s:ByteArray) (A':Option Addr) (c':Nat) (w:World) (hi:i < m) (ht:CellT b m i 4 (.int .i64 1) w) (he:ErrU f w)
  (HH:Hid (∀ W,Below w.heap.size w W→Calls Tryd.prog 85 #[.pointer (some ⟨b,0,none⟩),.agg #[.int .i64 4,.string ⟨#[]⟩,.int .i64 i,.slice none 0 0]] W fun e w'=>e=.returned (.agg #[.int .i64 k,.string s,.int .i64 n,.slice A' 0 c'])∧Below W.heap.size W w')) :
  Calls Tryd.prog 20 #[.pointer (some ⟨b,0,none⟩),.agg #[.int .i64 4,.string ⟨#[]⟩,.int .i64 i,.slice none 0 0]] w fun e w'=>e=.returned (.tuple #[.agg #[.int .i64 k,.string s,.int .i64 n,.slice none 0 0],.nilIface])∧Below w.heap.size w w':=by
 have hty:TyW 1 (fun _=>False) (.mk 4 ⟨#[]⟩ i []) (.agg #[.int .i64 4,.string ⟨#[]⟩,.int .i64 i,.slice none 0 0]) w:=⟨_,rfl,RowW.nil _ _⟩
 have hb2:Below w.heap.size w ((w.alloc (.cells #[.int .i64 4,.string ⟨#[]⟩,.int .i64 i,.slice none 0 0] 32)).alloc (.cells #[.int .i64 0,.string ⟨#[]⟩,.int .i64 0,.slice none 0 0] 32)):=(below_alloc _ _).alloc (by simp) _
 have hrow:=row1 ((TyW.step 1).below hty hb2) (fun k e=>e.elim)
 have hsz:((w.alloc (.cells #[.int .i64 4,.string ⟨#[]⟩,.int .i64 i,.slice none 0 0] 32)).alloc (.cells #[.int .i64 0,.string ⟨#[]⟩,.int .i64 0,.slice none 0 0] 32)).heap.size=w.heap.size+2:=by simp
 rw [hsz] at hrow
 have hb3:=hb2.alloc (by rw [hsz];omega) (.cells #[.int .i64 4,.string ⟨#[]⟩,.int .i64 i,.slice none 0 0] 32)
 have htab:TabC b m w:=by
  obtain ⟨h0,g,c,h1,_⟩:=ht
  exact ⟨h0,_,_,h1⟩
 have HR:=Lib.hid (refuse_any f b m 1 (fun _=>False) [.mk 4 ⟨#[]⟩ i []] _ _ hrow (TabC.stay b m _ _ htab hb3) (ErrU.stay f _ _ he hb3))
 have hnr:refuseV f m [.mk 4 ⟨#[]⟩ i []]=.nilIface:=by
  have h1:¬ ((m:Int)≤(i:Int)):=by omega
  have h2:¬ ((i:Int) < 0):=by omega
  have h3:largeT (.mk 4 ⟨#[]⟩ i [])=false:=by
   have h4:nodesZ (.mk 4 ⟨#[]⟩ i [])=1:=by simp [nodesZ]
   unfold largeT
   rw [h4]
   decide
  simp [refuseV,strange,h1,h2,h3]
 rw [hnr] at HR
 have HO:=Lib.hid (own_free i)
 have HRS:=Lib.hid (fun W hb=>resolved_leaf b _ k n s 4 i ⟨#[]⟩ none 0 0 A' c' W rfl (Lib.hid (fun W' hb'=>HH.out W' (Below.trans hb (hb'.mono hb.size)))))
 have HND:Hid (∀ W,Below w.heap.size w W→Calls Tryd.prog 55 #[.agg #[.int .i64 4,.string ⟨#[]⟩,.int .i64 i,.slice none 0 0],.func (.func 56) #[.pointer (some ⟨b,0,none⟩)] #[]] W fun e w'=>e=.returned (.int .i64 1)∧Below W.heap.size W w'):=Lib.hid (fun W hb=>nodesT_free b m i 1 ⟨#[]⟩ none 0 0 W (CellT.stay b m i 4 _ _ _ ht hb) hi)
 have HB3:=Lib.hid hb3
 have HN0:=Lib.hid ((Below.heap_alloc _ (.cells #[.int .i64 4,.string ⟨#[]⟩,.int .i64 i,.slice none 0 0] 32) w.heap.size (by simp;omega)).trans ((Below.heap_alloc (w.alloc (.cells #[.int .i64 4,.string ⟨#[]⟩,.int .i64 i,.slice none 0 0] 32)) (.cells #[.int .i64 0,.string ⟨#[]⟩,.int .i64 0,.slice none 0 0] 32) w.heap.size (by simp)).trans (heap_alloc_new w (.cells #[.int .i64 4,.string ⟨#[]⟩,.int .i64 i,.slice none 0 0] 32))))
 have hnn:=heap_alloc_new (w.alloc (.cells #[.int .i64 4,.string ⟨#[]⟩,.int .i64 i,.slice none 0 0] 32)) (.cells #[.int .i64 0,.string ⟨#[]⟩,.int .i64 0,.slice none 0 0] 32)
 rw [show (w.alloc (.cells #[.int .i64 4,.string ⟨#[]⟩,.int .i64 i,.slice none 0 0] 32)).heap.size=w.heap.size+1 by simp] at hnn
 have HN1:=Lib.hid ((Below.heap_alloc _ (.cells #[.int .i64 4,.string ⟨#[]⟩,.int .i64 i,.slice none 0 0] 32) (w.heap.size+1) (by rw [hsz];omega)).trans hnn)
 have HS3:=Lib.hid (show (((w.alloc (.cells #[.int .i64 4,.string ⟨#[]⟩,.int .i64 i,.slice none 0 0] 32)).alloc (.cells #[.int .i64 0,.string ⟨#[]⟩,.int .i64 0,.slice none 0 0] 32)).alloc (.cells #[.int .i64 4,.string ⟨#[]⟩,.int .i64 i,.slice none 0 0] 32)).heap.size=w.heap.size+3 by simp)
 clear hty hb2 hrow hsz hb3 htab hnr hnn ht he HH
 go_enter Tryd.func20,Tryd.ntmps20
 go_wp2_with fail
 refine HR.out.mono ?_
 rintro e w1 ⟨rfl,hb1⟩
 have HB1:=Lib.hid (HB3.out.trans (hb1.mono HB3.out.size))
 have HA:=Lib.hid ((hb1.block w.heap.size (by have:=HS3.out;omega)).trans HN0.out)
 have HC:=Lib.hid ((hb1.block (w.heap.size+1) (by have:=HS3.out;omega)).trans HN1.out)
 have HSA:=Lib.hid (show w.heap.size+3≤w1.heap.size by have:=HS3.out;have:=hb1.size;omega)
 clear hb1 HR HN0 HN1 HB3 HS3
 have a0:=(cellH HA.out 0).trans rfl
 have a1:=(cellH HA.out 1).trans rfl
 have a2:=(cellH HA.out 2).trans rfl
 have a3:=(cellH HA.out 3).trans rfl
 go_wp2_with fail
 refine (HO.out _).mono ?_
 rintro e w2 ⟨rfl,hb2⟩
 have HB2:=Lib.hid (HB1.out.trans (hb2.mono HB1.out.size))
 have HA2:=Lib.hid ((hb2.block w.heap.size (by have:=HSA.out;omega)).trans HA.out)
 have HC2:=Lib.hid ((hb2.block (w.heap.size+1) (by have:=HSA.out;omega)).trans HC.out)
 have HS2:=Lib.hid (show w.heap.size+3≤w2.heap.size by have:=HSA.out;have:=hb2.size;omega)
 clear hb2 a0 a1 a2 a3 HA HC HSA HB1
 have a0:=(cellH HA2.out 0).trans rfl
 have a1:=(cellH HA2.out 1).trans rfl
 have a2:=(cellH HA2.out 2).trans rfl
 have a3:=(cellH HA2.out 3).trans rfl
 have f0:=frozenH HA2.out 0
 have f1:=frozenH HA2.out 1
 have f2:=frozenH HA2.out 2
 have f3:=frozenH HA2.out 3
 have hk:=kput4 w2 w.heap.size (.int .i64 4) (.string ⟨#[]⟩) (.int .i64 i) (.slice none 0 0)
 have hq:=put4 (.int .i64 4) (.string ⟨#[]⟩) (.int .i64 i) (.slice none 0 0) HA2.out
 have y0:=(cellH hq 0).trans rfl
 have y1:=(cellH hq 1).trans rfl
 have y2:=(cellH hq 2).trans rfl
 have y3:=(cellH hq 3).trans rfl
 go_wp2_with fail
 have hr:=(hk.block (w.heap.size+1) (by have:=HS2.out;omega) (by omega)).trans HC2.out
 have HBX:=Lib.hid (HB2.out.trans (hk.below (by have:=HS2.out;omega) (fun j e=>by omega)))
 have HSX:=Lib.hid (Nat.le_trans HS2.out hk.size)
 clear a0 a1 a2 a3 f0 f1 f2 f3 y0 y1 y2 y3
 generalize ((((w2.setCell ⟨w.heap.size,0,none⟩ (.int .i64 4)).setCell ⟨w.heap.size,1,none⟩ (.string ⟨#[]⟩)).setCell ⟨w.heap.size,2,none⟩ (.int .i64 i)).setCell ⟨w.heap.size,3,none⟩ (.slice none 0 0))=X at HBX HSX hq hr ⊢
 clear hk
 refine (HND.out X HBX.out).mono ?_
 rintro e w3 ⟨rfl,hb3⟩
 have HB3:=Lib.hid (HBX.out.trans (hb3.mono HBX.out.size))
 have HA3:=Lib.hid ((hb3.block w.heap.size (by have:=HSX.out;omega)).trans hq)
 have HC3:=Lib.hid ((hb3.block (w.heap.size+1) (by have:=HSX.out;omega)).trans hr)
 have HS3:=Lib.hid (show w.heap.size+3≤w3.heap.size by have:=HSX.out;have:=hb3.size;omega)
 clear hb3 hq hr
 have a0:=(cellH HA3.out 0).trans rfl
 have a1:=(cellH HA3.out 1).trans rfl
 have a2:=(cellH HA3.out 2).trans rfl
 have a3:=(cellH HA3.out 3).trans rfl
 go_wp2_with fail
 refine (HRS.out w3 HB3.out).mono ?_
 rintro e w4 ⟨rfl,hb4⟩
 have HB4:=Lib.hid (HB3.out.trans (hb4.mono HB3.out.size))
 have HC4:=Lib.hid ((hb4.block (w.heap.size+1) (by have:=HS3.out;omega)).trans HC3.out)
 have hs4:w.heap.size+3≤w4.heap.size:=by have:=HS3.out;have:=hb4.size;omega
 clear hb4 a0 a1 a2 a3
 have r0:=(cellH HC4.out 0).trans rfl
 have r1:=(cellH HC4.out 1).trans rfl
 have r2:=(cellH HC4.out 2).trans rfl
 have r3:=(cellH HC4.out 3).trans rfl
 have fr0:=frozenH HC4.out 0
 have fr1:=frozenH HC4.out 1
 have fr2:=frozenH HC4.out 2
 have fr3:=frozenH HC4.out 3
 go_wp2_with fail
 clear r0 r1 r2 r3 fr0 fr1 fr2 fr3
 have hk:=kput4 w4 (w.heap.size+1) (.int .i64 k) (.string s) (.int .i64 n) (.slice none 0 0)
 have hq:=put4 (.int .i64 k) (.string s) (.int .i64 n) (.slice none 0 0) HC4.out
 generalize ((((w4.setCell ⟨w.heap.size+1,0,none⟩ (.int .i64 k)).setCell ⟨w.heap.size+1,1,none⟩ (.string s)).setCell ⟨w.heap.size+1,2,none⟩ (.int .i64 n)).setCell ⟨w.heap.size+1,3,none⟩ (.slice none 0 0))=W at hk hq ⊢
 have c0:=(cellH hq 0).trans rfl
 have c1:=(cellH hq 1).trans rfl
 have c2:=(cellH hq 2).trans rfl
 have c3:=(cellH hq 3).trans rfl
 exact bodyPost_ret (v:=.tuple #[.agg #[.int .i64 k,.string s,.int .i64 n,.slice none 0 0],.nilIface]) (by simp [results,Tryd.results20,go_sem,c0,c1,c2,c3]) rfl ⟨rfl,HB4.out.trans (hk.below (by omega) (fun j e=>by omega))⟩
end Lx
end Go.Proofs.YtnpacamcgifabaaDoor
