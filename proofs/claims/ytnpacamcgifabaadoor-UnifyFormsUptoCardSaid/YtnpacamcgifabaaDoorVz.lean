/- Package unify: Resolve in general. Conditions: as each states. -/
import Derived.Test.YtnpacamcgifabaaDoorVy
import Derived.Test.YtnpacamcgifabaaDoorVh
namespace Go.Proofs.YtnpacamcgifabaaDoor
set_option linter.unusedSimpArgs false
set_option linter.unusedVariables false
namespace Lx
open Go Go.RowKit
abbrev zeroTy:Value:=.agg #[.int .i64 0,.string ⟨#[]⟩,.int .i64 0,.slice none 0 0]
/-- What Resolve leaves. -/
def ResolveP (fe:Nat→Addr) (Vol:Nat→Prop) (b g m cap:Nat) (r:Rho) (x:TyT) (w:World) (e:Ending) (w':World):Prop :=
 ∃ v' er,e=.returned (.tuple #[v',er])∧St Vol b g m cap r w'∧Kb (fun k=>k=g) w w' ∧
  ((er=.nilIface∧strange (m:Int) x=false∧sizeT (sub r (cleanT x))≤200∧TyE Vol (sub r (cleanT x)) v' w') ∨
   (v'=zeroTy∧er=errP (fe 0)∧strange (m:Int) x=false∧200 < sizeT (sub r (cleanT x))) ∨
   (v'=zeroTy∧er=errP (fe 1)∧strange (m:Int) x=true))
/-- The result's box is written: what holds then. -/
theorem res_fin {Vol:Nat→Prop} {b g m cap:Nat} {r:Rho} {w X:World} {y0 y1 y2 y3:Value} (hvg:Vol g) (hS:St (fun k=>Vol k ∨ k=w.heap.size ∨ k=w.heap.size+1) b g m cap r X) (hK:Kb (fun k=>k=g) w X) (h0:∃ cs fz,X.heap[w.heap.size]?=some (.cells cs 32 fz)) (h1:X.heap[w.heap.size+1]?=some (.cells #[y0,y1,y2,y3] 32 (0,0))) (a0 a1 a2 a3:Value) :
  ∀ W,W=((((X.setCell ⟨w.heap.size+1,0,none⟩ a0).setCell ⟨w.heap.size+1,1,none⟩ a1).setCell ⟨w.heap.size+1,2,none⟩ a2).setCell ⟨w.heap.size+1,3,none⟩ a3) →
   St Vol b g m cap r W∧Kb (fun k=>k=g) w W∧(∀ x v,TyE (fun k=>Vol k ∨ k=w.heap.size ∨ k=w.heap.size+1) x v X→TyE Vol x v W)∧W.heap[w.heap.size+1]?=some (.cells #[a0,a1,a2,a3] 32 (0,0)):=by
 rintro W rfl
 obtain ⟨cs,fz,h0⟩:=h0
 have hk:=kput4 X (w.heap.size+1) a0 a1 a2 a3
 have hq:=put4 a0 a1 a2 a3 h1
 have hn:=(hk.block w.heap.size (Array.getElem?_eq_some_iff.1 h0).1 (by omega)).trans h0
 have hS2:=hS.put h1 (.inr (.inr rfl)) hk
 have hkB:Kb (fun k=>Vol k ∨ k=w.heap.size ∨ k=w.heap.size+1) X _:=hk.wider (fun k _ e=>.inr (.inr e))
 generalize ((((X.setCell ⟨w.heap.size+1,0,none⟩ a0).setCell ⟨w.heap.size+1,1,none⟩ a1).setCell ⟨w.heap.size+1,2,none⟩ a2).setCell ⟨w.heap.size+1,3,none⟩ a3)=W at hk hq hn hS2 hkB ⊢
 refine ⟨hS2.narrow (fun k e=>.inl e) hvg (fun k e=>?_),hK.join hk (fun j hj e=>by omega),fun x v h=>TyE.step _ _ _ _ _ _ h hkB (fun k _ e=>.inl e),hq⟩
 ·rcases e with e | e | e
  ·exact .inl e
  ·subst e;exact .inr ⟨_,_,hn⟩
  ·subst e;exact .inr ⟨_,_,hq⟩
set_option maxRecDepth 100000 in
set_option maxHeartbeats 8000000 in
theorem Resolve_any (fe:Nat→Addr) (b g m cap d:Nat) (Vol:Nat→Prop) (r:Rho) (x:TyT) (v:Value) (w:World) (hx:TyW d Vol x v w) (hfx:fewT x) (hsx:smallT x) (hS:St Vol b g m cap r w) (hf:∀ x,x < m→sizeT (r x)≤200) (he:ErrV fe Vol w) (hvl:∀ k,Vol k→k < w.heap.size) :
  Calls Tryd.prog 20 #[.pointer (some ⟨b,0,none⟩),v] w (ResolveP fe Vol b g m cap r x w):=by
 obtain ⟨A1,n1,c1,rfl⟩:=hx.this
 obtain ⟨hbl,hgl,hnb,hvg⟩:=hS.lows
 have hb2:Below w.heap.size w ((w.alloc (.cells #[.int .i64 x.kind,.string x.name,.int .i64 x.var,.slice A1 n1 c1] 32)).alloc (.cells #[.int .i64 0,.string ⟨#[]⟩,.int .i64 0,.slice none 0 0] 32)):=(below_alloc _ _).alloc (by simp) _
 have hback:∀ k,k < w.heap.size→(Vol k ∨ k=w.heap.size ∨ k=w.heap.size+1)→Vol k:=fun k hk e=>by
  rcases e with e | e | e
  ·exact e
  ·omega
  ·omega
 have hsz:((w.alloc (.cells #[.int .i64 x.kind,.string x.name,.int .i64 x.var,.slice A1 n1 c1] 32)).alloc (.cells #[.int .i64 0,.string ⟨#[]⟩,.int .i64 0,.slice none 0 0] 32)).heap.size=w.heap.size+2:=by simp
 have hvlB:∀ W:World,w.heap.size+2≤W.heap.size→∀ k,(Vol k ∨ k=w.heap.size ∨ k=w.heap.size+1)→k < W.heap.size:=fun W h k e=>by
  rcases e with e | e | e
  ·have:=hvl k e;omega
  ·omega
  ·omega
 have hrow:=row1 (TyW.step d _ _ _ _ _ _ hx (Kb.of_below hb2) hback) (hvlB _ (by rw [hsz];omega))
 rw [hsz] at hrow
 have hb3:=hb2.alloc (by rw [hsz];omega) (.cells #[.int .i64 x.kind,.string x.name,.int .i64 x.var,.slice A1 n1 c1] 32)
 have htab:TabC b m w:=by
  obtain ⟨rk,B,us,rkU,⟨Bd,_,_,h3⟩,_⟩:=hS
  exact h3.tab
 have HR:=Lib.hid (refuse_any fe b m d _ [x] _ _ hrow (TabC.stay b m _ _ htab hb3) (ErrU.stay fe _ _ he.err hb3))
 have HST:=Lib.hid (hS.wide hb3 hback (fun _ e=>.inl e))
 have HV:=Lib.hid (TyW.step d _ _ _ _ _ _ hx (Kb.of_below hb3) hback)
 have HB3:=Lib.hid hb3
 have HN0:=Lib.hid ((Below.heap_alloc _ (.cells #[.int .i64 x.kind,.string x.name,.int .i64 x.var,.slice A1 n1 c1] 32) w.heap.size (by simp;omega)).trans ((Below.heap_alloc (w.alloc (.cells #[.int .i64 x.kind,.string x.name,.int .i64 x.var,.slice A1 n1 c1] 32)) (.cells #[.int .i64 0,.string ⟨#[]⟩,.int .i64 0,.slice none 0 0] 32) w.heap.size (by simp)).trans (heap_alloc_new w (.cells #[.int .i64 x.kind,.string x.name,.int .i64 x.var,.slice A1 n1 c1] 32))))
 have hnn:=heap_alloc_new (w.alloc (.cells #[.int .i64 x.kind,.string x.name,.int .i64 x.var,.slice A1 n1 c1] 32)) (.cells #[.int .i64 0,.string ⟨#[]⟩,.int .i64 0,.slice none 0 0] 32)
 rw [show (w.alloc (.cells #[.int .i64 x.kind,.string x.name,.int .i64 x.var,.slice A1 n1 c1] 32)).heap.size=w.heap.size+1 by simp] at hnn
 have HN1:=Lib.hid ((Below.heap_alloc _ (.cells #[.int .i64 x.kind,.string x.name,.int .i64 x.var,.slice A1 n1 c1] 32) (w.heap.size+1) (by rw [hsz];omega)).trans hnn)
 have HS3:=Lib.hid (show (((w.alloc (.cells #[.int .i64 x.kind,.string x.name,.int .i64 x.var,.slice A1 n1 c1] 32)).alloc (.cells #[.int .i64 0,.string ⟨#[]⟩,.int .i64 0,.slice none 0 0] 32)).alloc (.cells #[.int .i64 x.kind,.string x.name,.int .i64 x.var,.slice A1 n1 c1] 32)).heap.size=w.heap.size+3 by simp)
 have HVLB:=Lib.hid hvlB
 have HVG:=Lib.hid hvg
 have HGL:=Lib.hid hgl
 have HE:=Lib.hid he
 have HF:=Lib.hid hf
 have HFX:=Lib.hid hfx
 have hlx:=large_small hsx
 have hq:refuseV fe m [x]=if strange (m:Int) x=true then errP (fe 1) else if largeT x=true then errP (fe 0) else .nilIface:=by simp [refuseV]
 rw [hq] at HR
 clear hb2 hrow hsz hb3 htab hnn hx hfx hS hf he hvl hq hbl hgl hnb hvg hback hvlB hsx
 by_cases hs:strange (m:Int) x=true
 ·rw [if_pos hs] at HR
  have HQ:=Lib.hid hs
  clear hs hlx
  go_enter Tryd.func20,Tryd.ntmps20
  go_wp2_with fail
  refine HR.out.mono ?_
  rintro e w1 ⟨rfl,hb1⟩
  have HA:=Lib.hid ((hb1.block w.heap.size (by have:=HS3.out;omega)).trans HN0.out)
  have HC:=Lib.hid ((hb1.block (w.heap.size+1) (by have:=HS3.out;omega)).trans HN1.out)
  have HST1:=Lib.hid (HST.out.wide hb1 (fun _ _ e=>e) (fun _ e=>e))
  have HK1:=Lib.hid (show Kb (fun k=>k=g) w w1 from Kb.of_below (HB3.out.trans (hb1.mono HB3.out.size)))
  clear hb1 HR HN0 HN1 HB3 HS3 HST HV
  have r0:=(cellH HC.out 0).trans rfl
  have r1:=(cellH HC.out 1).trans rfl
  have r2:=(cellH HC.out 2).trans rfl
  have r3:=(cellH HC.out 3).trans rfl
  have fr0:=frozenH HC.out 0
  have fr1:=frozenH HC.out 1
  have fr2:=frozenH HC.out 2
  have fr3:=frozenH HC.out 3
  go_wp2_with fail
  clear r0 r1 r2 r3 fr0 fr1 fr2 fr3
  obtain ⟨q1,q2,_,q4⟩:=res_fin HVG.out HST1.out HK1.out ⟨_,_,HA.out⟩ HC.out (.int .i64 0) (.string ⟨#[]⟩) (.int .i64 0) (.slice none 0 0) _ rfl
  generalize ((((w1.setCell ⟨w.heap.size+1,0,none⟩ (.int .i64 0)).setCell ⟨w.heap.size+1,1,none⟩ (.string ⟨#[]⟩)).setCell ⟨w.heap.size+1,2,none⟩ (.int .i64 0)).setCell ⟨w.heap.size+1,3,none⟩ (.slice none 0 0))=W at q1 q2 q4 ⊢
  have c0:=(cellH q4 0).trans rfl
  have c1:=(cellH q4 1).trans rfl
  have c2:=(cellH q4 2).trans rfl
  have c3:=(cellH q4 3).trans rfl
  exact bodyPost_ret (v:=.tuple #[.agg #[.int .i64 0,.string ⟨#[]⟩,.int .i64 0,.slice none 0 0],errP (fe 1)]) (by simp [results,Tryd.results20,go_sem,c0,c1,c2,c3]) rfl ⟨_,_,rfl,q1,q2,.inr (.inr ⟨rfl,rfl,HQ.out⟩)⟩
 ·have hs:strange (m:Int) x=false:=by cases h:strange (m:Int) x;rfl;exact absurd h hs
  rw [if_neg (by rw [hs];decide)] at HR
  by_cases hl:200 < sizeT (cleanT x)
  ·rw [hlx,if_pos (by simpa using hl)] at HR
   have HSG:=Lib.hid hs
   have HLG:=Lib.hid (Nat.lt_of_lt_of_le hl (size_sub_le _ _ (Nat.le_refl _) (good_clean m x hs) r))
   clear hlx hl hs
   go_enter Tryd.func20,Tryd.ntmps20
   go_wp2_with fail
   refine HR.out.mono ?_
   rintro e w1 ⟨rfl,hb1⟩
   have HA:=Lib.hid ((hb1.block w.heap.size (by have:=HS3.out;omega)).trans HN0.out)
   have HC:=Lib.hid ((hb1.block (w.heap.size+1) (by have:=HS3.out;omega)).trans HN1.out)
   have HST1:=Lib.hid (HST.out.wide hb1 (fun _ _ e=>e) (fun _ e=>e))
   have HK1:=Lib.hid (show Kb (fun k=>k=g) w w1 from Kb.of_below (HB3.out.trans (hb1.mono HB3.out.size)))
   clear hb1 HR HN0 HN1 HB3 HS3 HST HV
   have r0:=(cellH HC.out 0).trans rfl
   have r1:=(cellH HC.out 1).trans rfl
   have r2:=(cellH HC.out 2).trans rfl
   have r3:=(cellH HC.out 3).trans rfl
   have fr0:=frozenH HC.out 0
   have fr1:=frozenH HC.out 1
   have fr2:=frozenH HC.out 2
   have fr3:=frozenH HC.out 3
   go_wp2_with fail
   clear r0 r1 r2 r3 fr0 fr1 fr2 fr3
   obtain ⟨q1,q2,_,q4⟩:=res_fin HVG.out HST1.out HK1.out ⟨_,_,HA.out⟩ HC.out (.int .i64 0) (.string ⟨#[]⟩) (.int .i64 0) (.slice none 0 0) _ rfl
   generalize ((((w1.setCell ⟨w.heap.size+1,0,none⟩ (.int .i64 0)).setCell ⟨w.heap.size+1,1,none⟩ (.string ⟨#[]⟩)).setCell ⟨w.heap.size+1,2,none⟩ (.int .i64 0)).setCell ⟨w.heap.size+1,3,none⟩ (.slice none 0 0))=W at q1 q2 q4 ⊢
   have c0:=(cellH q4 0).trans rfl
   have c1:=(cellH q4 1).trans rfl
   have c2:=(cellH q4 2).trans rfl
   have c3:=(cellH q4 3).trans rfl
   exact bodyPost_ret (v:=.tuple #[.agg #[.int .i64 0,.string ⟨#[]⟩,.int .i64 0,.slice none 0 0],errP (fe 0)]) (by simp [results,Tryd.results20,go_sem,c0,c1,c2,c3]) rfl ⟨_,_,rfl,q1,q2,.inr (.inl ⟨rfl,rfl,HSG.out,HLG.out⟩)⟩
  ·rw [hlx,if_neg (by simpa using hl)] at HR
   have HGC:=Lib.hid (good_clean m x hs)
   have HZC:=Lib.hid (show sizeT (cleanT x)≤200 by omega)
   have HSG:=Lib.hid hs
   clear hlx hl hs
   go_enter Tryd.func20,Tryd.ntmps20
   go_wp2_with fail
   refine HR.out.mono ?_
   rintro e w1 ⟨rfl,hb1⟩
   have HA:=Lib.hid ((hb1.block w.heap.size (by have:=HS3.out;omega)).trans HN0.out)
   have HC:=Lib.hid ((hb1.block (w.heap.size+1) (by have:=HS3.out;omega)).trans HN1.out)
   have HSA:=Lib.hid (show w.heap.size+3≤w1.heap.size by have:=HS3.out;have:=hb1.size;omega)
   have HST1:=Lib.hid (HST.out.wide hb1 (fun _ _ e=>e) (fun _ e=>e))
   have HV1:=Lib.hid ((TyW.step d).below HV.out hb1)
   have HK1:=Lib.hid (show Kb (fun k=>k=g) w w1 from Kb.of_below (HB3.out.trans (hb1.mono HB3.out.size)))
   have HOW:=Lib.hid (own_any d _ x _ w1 HV1.out HFX.out (HVLB.out w1 (by have:=HSA.out;omega)))
   clear hb1 HR HN0 HN1 HB3 HS3 HST HV
   have a0:=(cellH HA.out 0).trans rfl
   have a1:=(cellH HA.out 1).trans rfl
   have a2:=(cellH HA.out 2).trans rfl
   have a3:=(cellH HA.out 3).trans rfl
   go_wp2_with fail
   refine HOW.out.mono ?_
   rintro e w2 ⟨v2,rfl,hv2,hb2⟩
   obtain ⟨A2,n2,c2,rfl⟩:=hv2.this
   have HA2:=Lib.hid ((hb2.block w.heap.size (by have:=HSA.out;omega)).trans HA.out)
   have HC2:=Lib.hid ((hb2.block (w.heap.size+1) (by have:=HSA.out;omega)).trans HC.out)
   have HS2:=Lib.hid (show w.heap.size+3≤w2.heap.size by have:=HSA.out;have:=hb2.size;omega)
   have HST2:=Lib.hid (HST1.out.wide hb2 (fun _ _ e=>e) (fun _ e=>e))
   have HV2:=Lib.hid hv2
   have HK2:=Lib.hid (HK1.out.trans (Kb.of_below hb2))
   clear hb2 hv2 a0 a1 a2 a3 HA HC HSA HST1 HV1 HK1 HOW
   have a0:=(cellH HA2.out 0).trans rfl
   have a1:=(cellH HA2.out 1).trans rfl
   have a2:=(cellH HA2.out 2).trans rfl
   have a3:=(cellH HA2.out 3).trans rfl
   have f0:=frozenH HA2.out 0
   have f1:=frozenH HA2.out 1
   have f2:=frozenH HA2.out 2
   have f3:=frozenH HA2.out 3
   have hk:=kput4 w2 w.heap.size (.int .i64 (cleanT x).kind) (.string (cleanT x).name) (.int .i64 (cleanT x).var) (.slice A2 n2 c2)
   have hq:=put4 (.int .i64 (cleanT x).kind) (.string (cleanT x).name) (.int .i64 (cleanT x).var) (.slice A2 n2 c2) HA2.out
   have y0:=(cellH hq 0).trans rfl
   have y1:=(cellH hq 1).trans rfl
   have y2:=(cellH hq 2).trans rfl
   have y3:=(cellH hq 3).trans rfl
   go_wp2_with fail
   have hkB:Kb (fun k=>Vol k ∨ k=w.heap.size ∨ k=w.heap.size+1) w2 _:=hk.wider (fun k _ e=>.inr (.inl e))
   have HA3:=Lib.hid hq
   have HC3:=Lib.hid ((hk.block (w.heap.size+1) (by have:=HS2.out;omega) (by omega)).trans HC2.out)
   have HS3:=Lib.hid (Nat.le_trans HS2.out hk.size)
   have HST3:=Lib.hid (HST2.out.put HA2.out (.inr (.inl rfl)) hk)
   have HV3:=Lib.hid (TyW.step d _ _ _ _ _ _ HV2.out hkB (fun _ _ e=>e))
   have HK3:=Lib.hid (HK2.out.join hk (fun j hj e=>by omega))
   clear a0 a1 a2 a3 f0 f1 f2 f3 y0 y1 y2 y3 hkB hq HA2 HC2 HS2 HST2 HV2 HK2
   generalize ((((w2.setCell ⟨w.heap.size,0,none⟩ (.int .i64 (cleanT x).kind)).setCell ⟨w.heap.size,1,none⟩ (.string (cleanT x).name)).setCell ⟨w.heap.size,2,none⟩ (.int .i64 (cleanT x).var)).setCell ⟨w.heap.size,3,none⟩ (.slice A2 n2 c2))=X at hk HA3 HC3 HS3 HST3 HV3 HK3 ⊢
   clear hk
   have HNOD:Hid (Calls Tryd.prog 55 #[.agg #[.int .i64 (cleanT x).kind,.string (cleanT x).name,.int .i64 (cleanT x).var,.slice A2 n2 c2],.func (.func 56) #[.pointer (some ⟨b,0,none⟩)] #[]] X fun e w'=>e=.returned (.int .i64 ((sizeT (sub r (cleanT x)):Nat):Int))∧Below X.heap.size X w'):=Lib.hid (by
    obtain ⟨rk,B,us,rkU,h1,h2,_,_⟩:=HST3.out
    refine (nodesG_any b m r HF d _ (cleanT x) _ X HV3.out HGC.out (h2.cntN h1)).mono ?_
    rintro e w' ⟨rfl,h⟩
    refine ⟨?_,h⟩
    congr 2
    have h5:=size_sub_few r HF.out (cleanT x) HGC.out
    have h6:=HZC.out
    exact IntWalk.i64_in _ (by omega))
   have a0:=(cellH HA3.out 0).trans rfl
   have a1:=(cellH HA3.out 1).trans rfl
   have a2:=(cellH HA3.out 2).trans rfl
   have a3:=(cellH HA3.out 3).trans rfl
   refine HNOD.out.mono ?_
   rintro e w3 ⟨rfl,hb3⟩
   have HA4:=Lib.hid ((hb3.block w.heap.size (by have:=HS3.out;omega)).trans HA3.out)
   have HC4:=Lib.hid ((hb3.block (w.heap.size+1) (by have:=HS3.out;omega)).trans HC3.out)
   have HS4:=Lib.hid (show w.heap.size+3≤w3.heap.size by have:=HS3.out;have:=hb3.size;omega)
   have HST4:=Lib.hid (HST3.out.wide hb3 (fun _ _ e=>e) (fun _ e=>e))
   have HV4:=Lib.hid ((TyW.step d).below HV3.out hb3)
   have HK4:=Lib.hid (HK3.out.trans (Kb.of_below hb3))
   have hle:=(HE.out.keep (HK4.out.wider (S':=Vol) (fun k _ (e:k=g)=>by subst e;exact HVG.out)) (fun _ _ e=>e)).err.large
   clear hb3 HNOD a0 a1 a2 a3 HA3 HC3 HS3 HST3 HV3 HK3
   by_cases hbig:200 < sizeT (sub r (cleanT x))
   ·have hdb:decide ((200:Int) < ((sizeT (sub r (cleanT x)):Nat):Int))=true:=by simp;omega
    have HBIG:=Lib.hid hbig
    clear hbig
    generalize ((sizeT (sub r (cleanT x)):Nat):Int)=M at hdb ⊢
    have r0:=(cellH HC4.out 0).trans rfl
    have r1:=(cellH HC4.out 1).trans rfl
    have r2:=(cellH HC4.out 2).trans rfl
    have r3:=(cellH HC4.out 3).trans rfl
    have fr0:=frozenH HC4.out 0
    have fr1:=frozenH HC4.out 1
    have fr2:=frozenH HC4.out 2
    have fr3:=frozenH HC4.out 3
    have s0:w3.drew.cell? _=_:=r0
    have s1:w3.drew.cell? _=_:=r1
    have s2:w3.drew.cell? _=_:=r2
    have s3:w3.drew.cell? _=_:=r3
    have fs0:w3.drew.frozen? _=_:=fr0
    have fs1:w3.drew.frozen? _=_:=fr1
    have fs2:w3.drew.frozen? _=_:=fr2
    have fs3:w3.drew.frozen? _=_:=fr3
    have hld:w3.drew.cell? ⟨0,0,none⟩=some (errP (fe 0)):=hle
    go_wp2_with fail
    go_region
    clear r0 r1 r2 r3 fr0 fr1 fr2 fr3 s0 s1 s2 s3 fs0 fs1 fs2 fs3 hld hle
    obtain ⟨q1,q2,_,q4⟩:=res_fin HVG.out HST4.out HK4.out ⟨_,_,HA4.out⟩ HC4.out (.int .i64 0) (.string ⟨#[]⟩) (.int .i64 0) (.slice none 0 0) _ rfl
    go_wp2_with fail
    generalize ((((w3.setCell ⟨w.heap.size+1,0,none⟩ (.int .i64 0)).setCell ⟨w.heap.size+1,1,none⟩ (.string ⟨#[]⟩)).setCell ⟨w.heap.size+1,2,none⟩ (.int .i64 0)).setCell ⟨w.heap.size+1,3,none⟩ (.slice none 0 0))=W at q1 q2 q4 ⊢
    have hdr:=below_drw (Below.refl W.heap.size W)
    have q4:W.drew.heap[w.heap.size+1]?=_:=q4
    have c0:=(cellH q4 0).trans rfl
    have c1:=(cellH q4 1).trans rfl
    have c2:=(cellH q4 2).trans rfl
    have c3:=(cellH q4 3).trans rfl
    exact bodyPost_ret (v:=.tuple #[.agg #[.int .i64 0,.string ⟨#[]⟩,.int .i64 0,.slice none 0 0],errP (fe 0)]) (by simp [results,Tryd.results20,go_sem,c0,c1,c2,c3]) rfl ⟨_,_,rfl,q1.wide hdr (fun _ _ e=>e) (fun _ e=>e),q2.trans (Kb.of_below hdr),.inr (.inl ⟨rfl,rfl,HSG.out,HBIG.out⟩)⟩
   ·have hdb:decide ((200:Int) < ((sizeT (sub r (cleanT x)):Nat):Int))=false:=by simp;omega
    have HFIT:=Lib.hid (show sizeT (sub r (cleanT x))≤200 by omega)
    clear hbig hle
    have HRES:Hid (Calls Tryd.prog 57 #[.pointer (some ⟨b,0,none⟩),.agg #[.int .i64 (cleanT x).kind,.string (cleanT x).name,.int .i64 (cleanT x).var,.slice A2 n2 c2]] w3 fun e w'=>∃ v',e=.returned v'∧TyE (fun k=>Vol k ∨ k=w.heap.size ∨ k=w.heap.size+1) (sub r (cleanT x)) v' w'∧St (fun k=>Vol k ∨ k=w.heap.size ∨ k=w.heap.size+1) b g m cap r w'∧HeadK g w3 w'):=Lib.hid (by
     obtain ⟨rk,B,us,rkU,h1,h2,h3,h4⟩:=HST4.out
     refine (res_any b g m cap r rk (sizeT (sub r (cleanT x))+1) (by have:=HFIT.out;omega) _ _ (cleanT x) _ w3 ⟨d,HV4.out⟩ HGC.out (by omega) h1 (HVLB.out w3 (by have:=HS4.out;omega))).mono ?_
     rintro e w' ⟨v',e1,e2,e3,e4⟩
     exact ⟨v',e1,e2,⟨rk,B,us,rkU,e3,h2.head e4,h3.head e3 e4,h4⟩,e4⟩)
    generalize ((sizeT (sub r (cleanT x)):Nat):Int)=M at hdb ⊢
    have a0:=(cellH HA4.out 0).trans rfl
    have a1:=(cellH HA4.out 1).trans rfl
    have a2:=(cellH HA4.out 2).trans rfl
    have a3:=(cellH HA4.out 3).trans rfl
    go_wp2_with fail
    refine HRES.out.mono ?_
    rintro e w4 ⟨v4,rfl,hv4,hS4,hK4⟩
    obtain ⟨A4,n4,c4,rfl⟩:=hv4.this
    have hNg:¬ w.heap.size=g:=by have:=HGL.out;omega
    have hNg1:¬ w.heap.size+1=g:=by have:=HGL.out;omega
    have HA5:=Lib.hid ((hK4.kb.block w.heap.size (by have:=HS4.out;omega) hNg).trans HA4.out)
    have HC5:=Lib.hid ((hK4.kb.block (w.heap.size+1) (by have:=HS4.out;omega) hNg1).trans HC4.out)
    have HK5:=Lib.hid (HK4.out.trans hK4.kb)
    have HST5:=Lib.hid hS4
    have HV5:=Lib.hid hv4
    clear hS4 hK4 hv4 a0 a1 a2 a3 hNg hNg1 HA4 HC4 HS4 HST4 HV4 HK4 HRES
    have r0:=(cellH HC5.out 0).trans rfl
    have r1:=(cellH HC5.out 1).trans rfl
    have r2:=(cellH HC5.out 2).trans rfl
    have r3:=(cellH HC5.out 3).trans rfl
    have fr0:=frozenH HC5.out 0
    have fr1:=frozenH HC5.out 1
    have fr2:=frozenH HC5.out 2
    have fr3:=frozenH HC5.out 3
    generalize hT:sub r (cleanT x)=T at HV5 HFIT
    go_wp2_with fail
    clear r0 r1 r2 r3 fr0 fr1 fr2 fr3
    obtain ⟨q1,q2,q3,q4⟩:=res_fin HVG.out HST5.out HK5.out ⟨_,_,HA5.out⟩ HC5.out (.int .i64 T.kind) (.string T.name) (.int .i64 T.var) (.slice A4 n4 c4) _ rfl
    have hv5:=q3 _ _ HV5.out
    generalize ((((w4.setCell ⟨w.heap.size+1,0,none⟩ (.int .i64 T.kind)).setCell ⟨w.heap.size+1,1,none⟩ (.string T.name)).setCell ⟨w.heap.size+1,2,none⟩ (.int .i64 T.var)).setCell ⟨w.heap.size+1,3,none⟩ (.slice A4 n4 c4))=W at q1 q2 q4 hv5 ⊢
    have c0:=(cellH q4 0).trans rfl
    have c1:=(cellH q4 1).trans rfl
    have c2:=(cellH q4 2).trans rfl
    have c3:=(cellH q4 3).trans rfl
    exact bodyPost_ret (v:=.tuple #[.agg #[.int .i64 T.kind,.string T.name,.int .i64 T.var,.slice A4 n4 c4],.nilIface]) (by simp [results,Tryd.results20,go_sem,c0,c1,c2,c3]) rfl ⟨_,_,rfl,q1,q2,.inl ⟨rfl,HSG.out,by rw [hT];exact HFIT.out,by rw [hT];exact hv5⟩⟩
end Lx
end Go.Proofs.YtnpacamcgifabaaDoor
