/- Package unify: bind in general. Conditions: as each states. -/
import Derived.Test.YtnpacamcgifabaaDoorVxO
import Derived.BigRegion
namespace Go.Proofs.YtnpacamcgifabaaDoor
set_option linter.unusedSimpArgs false
set_option linter.unusedVariables false
namespace Lx
open Go Go.RowKit
/-- The error of a code. -/
def errC (fe:Nat→Addr) (c:Nat):Value:=if c=0 then .nilIface else if c=1 then errP (fe 2) else errP (fe 0)
/-- What binding leaves. -/
def BindP (fe:Nat→Addr) (Vol:Nat→Prop) (b g m cap:Nat) (r:Rho) (v:Nat) (A:TyT) (w:World) (e:Ending) (w':World):Prop :=
 ∃ (code:Nat) (r':Rho) (Vol':Nat→Prop),Bind m r v A code r'∧e=.returned (errC fe code)∧(∀ k,k < w.heap.size→Vol' k→Vol k)∧(∀ k,Vol k→Vol' k)∧(∀ k,Vol' k→k < w'.heap.size)∧St Vol' b g m cap r' w'∧KV Vol g w w'
theorem size_sub_le {m:Nat}:∀ (n:Nat) (t:TyT),sizeT t≤n→goodT m t→∀ r:Rho,sizeT t≤sizeT (sub r t):=by
 intro n
 induction n with
 | zero=>intro t ht;have:=size_pos t;omega
 | succ n ih =>
  intro t ht gt r
  by_cases k4:t.kind=4
  ·obtain ⟨w,_,rfl⟩:=good_free gt k4
   rw [sub_fr]
   exact size_pos (r w)
  ·have gl:=good_args gt k4
   rw [sub_args k4]
   obtain ⟨k,s,z,l⟩:=t
   have hs:sizeTs l≤n:=by rw [sizeT] at ht;omega
   show sizeT (.mk k s z l)≤sizeT (.mk k s z (subs r l))
   rw [sizeT,sizeT]
   have:∀ l':List TyT,sizeTs l'≤n→goodTs m l'→sizeTs l'≤sizeTs (subs r l'):=by
    intro l'
    induction l' with
    | nil=>intro _ _;simp [subs,sizeTs]
    | cons y l' ih2 =>
     intro h1 h2
     rw [sizeTs] at h1
     rw [subs,sizeTs,sizeTs]
     have:=ih2 (by omega) h2.2
     have:=ih y (by omega) h2.1 r
     omega
   have:=this l hs gl
   omega
theorem TSt.iff {Vol:Nat→Prop} {b g m cap:Nat} {r:Rho} {rk:Nat→Nat} {F F':Nat→Prop} {w:World} (h:TSt Vol b g m cap r rk F w) (hF:∀ i,F i ↔ F' i):TSt Vol b g m cap r rk F' w:=by
 obtain ⟨Bd,h1,h2,h3⟩:=h
 exact ⟨Bd,h1,fun i=>(h2 i).trans (hF i),h3⟩
theorem bindB_none {B:Nat→Option TyT} {v:Nat} {t:TyT} (i:Nat):(B i=none∧i ≠ v) ↔ bindB B v t i=none:=by
 unfold bindB
 by_cases e:i=v
 ·subst e;simp
 ·simp [e]
section
variable (fe:Nat→Addr) (b g m cap:Nat) (r:Rho) (v:Nat)
set_option maxRecDepth 100000 in
set_option maxHeartbeats 4000000 in
theorem bind_gen (hms:m≤1000000000) (Vol:Nat→Prop) (t:TyT) (val:Value) (w:World) (hv:∃ d,TyW d Vol t val w) (gt:goodT m t) (hvm:v < m) (hrv:r v=fr v) (hun:t.kind=4→sub r t=t) (htv:t ≠ fr v) (hsz:sizeT (sub r t)≤100000) (hS:St Vol b g m cap r w) (hf:∀ x,x < m→sizeT (r x)≤200) (he:ErrV fe Vol w) (hvl:∀ k,Vol k→k < w.heap.size) :
  Calls Tryd.prog 86 #[.pointer (some ⟨b,0,none⟩),.int .i64 v,val] w (BindP fe Vol b g m cap r v (sub r t) w):=by
 obtain ⟨rk,B,us,rkU,hT,hC,hU,hUs⟩:=hS
 have hB:=hT.freeOf hvm hrv
 have hR:=hT.res
 obtain ⟨d,hv⟩:=hv
 obtain ⟨P,l,c,rfl⟩:=hv.this
 have hl:∀ u,t=fr u→u ≠ v∧B u=none:=fun u e=>by
  have h1:r u=fr u:=by have:=hun (by rw [e];rfl);rw [e,sub_fr] at this;exact this
  exact ⟨fun e2=>htv (e2 ▸ e),hT.freeOf (fr_lt (e ▸ gt)) h1⟩
 obtain ⟨M,hM⟩:∃ M,sizeT (sub r t)=M+1:=⟨sizeT (sub r t) - 1,by have:=size_pos (sub r t);omega⟩
 obtain ⟨hbl,hgl,hnb,hvg⟩:=hU.lows
 have hb0:=below_alloc w (.cells #[.int .i64 t.kind,.string t.name,.int .i64 t.var,.slice P l c] 32)
 have HT0:=Lib.hid (hT.below hb0)
 have HC0:Hid (CntG g m (fun x=>sizeT (r x)) _):=Lib.hid (fun i hi=>(World.cell?_of_block (hb0.block g hgl)).trans (hC i hi))
 have HU0:=Lib.hid (hU.wider hb0 (fun _ e=>e) hnb)
 have HV0:=Lib.hid ((TyW.step d).below hv hb0)
 have HBX:=Lib.hid (heap_alloc_new w (.cells #[.int .i64 t.kind,.string t.name,.int .i64 t.var,.slice P l c] 32))
 have HE0:=Lib.hid (he.keep (Kb.of_below hb0) (fun _ _ e=>e))
 have HB0:=Lib.hid hb0
 have hvl0:=fun k (e:Vol k)=>Nat.lt_of_lt_of_le (hvl k e) hb0.size
 have HOCC:=Lib.hid (occ_any b g m cap r rk v (sizeT (sub r t)+1) Vol _ t _ _ ⟨d,HV0.out⟩ gt (by omega) HT0.out hvl0)
 have HGT:=Lib.hid gt
 have HVL:=Lib.hid hvl
 have HF:=Lib.hid hf
 have HUS:=Lib.hid hUs
 have HBN:=Lib.hid hB
 have HL:=Lib.hid hl
 have HM:=Lib.hid hM
 have HR:=Lib.hid hR
 have HGL:=Lib.hid hgl
 have HNV:Hid (¬ Vol w.heap.size):=Lib.hid (fun e=>by have:=hvl _ e;omega)
 clear hT hC hU hUs hB hR hv hl hb0 gt hvl hf he hvl0 hrv hun htv hM hbl hgl hnb
 by_cases ho:occT v (sub r t)=0
 ·have hd:decide (occT v (sub r t) ≠ 0)=false:=by simp [ho]
  rw [hd] at HOCC
  clear hd
  have HO:=Lib.hid ho
  clear ho
  go_enter Tryd.func86,Tryd.ntmps86
  go_wp2_with fail
  generalize (w.alloc (.cells #[.int .i64 t.kind,.string t.name,.int .i64 t.var,.slice P l c] 32))=W at HT0 HC0 HU0 HV0 HBX HE0 HB0 HOCC ⊢
  refine HOCC.out.mono ?_
  rintro e w1 ⟨rfl,hT1,hK1⟩
  have HT1:=Lib.hid hT1
  have HC1:=Lib.hid (HC0.out.head hK1)
  have HU1:=Lib.hid (HU0.out.head hT1 hK1)
  have hkv:KV Vol g W w1:=KV.of_g hK1.kb hvg
  have HV1:=Lib.hid (TyW.step d _ _ _ _ _ _ HV0.out hkv.kb (fun _ _ e=>e))
  have HBX1:=Lib.hid ((hkv.kb.block _ (Array.getElem?_eq_some_iff.1 HBX.out).1 HNV.out).trans HBX.out)
  have HE1:=Lib.hid (HE0.out.keep hkv.kb (fun _ _ e=>e))
  have HK1:=Lib.hid ((KV.of_below HB0.out:KV Vol g w W).trans hkv)
  clear hT1 hK1 hkv HT0 HC0 HU0 HV0 HBX HE0 HB0 HOCC
  have a0:=(cellH HBX1.out 0).trans rfl
  have a1:=(cellH HBX1.out 1).trans rfl
  have a2:=(cellH HBX1.out 2).trans rfl
  have a3:=(cellH HBX1.out 3).trans rfl
  have HNOD:Hid (Calls Tryd.prog 55 #[.agg #[.int .i64 t.kind,.string t.name,.int .i64 t.var,.slice P l c],.func (.func 56) #[.pointer (some ⟨b,0,none⟩)] #[]] w1 fun e w'=>e=.returned (.int .i64 ((M+1:Nat):Int))∧Below w1.heap.size w1 w'):=Lib.hid ((nodesG_any b m r HF d Vol t _ w1 HV1.out HGT.out (HC1.out.cntN HT1.out)).mono (by
   rintro e w' ⟨rfl,h⟩
   refine ⟨?_,h⟩
   rw [HM.out]
   congr 2
   exact IntWalk.i64_in _ (by have:=HM.out;omega)))
  have hsub:((M+1:Nat):Int) - 1=(M:Int):=by omega
  have hMb:M≤100000:=by have:=HM.out;omega
  have hw:wrap64 (M:Int)=(M:Int):=by simp only [wrap64];omega
  go_wp2_with (go_at_call 55;refine HNOD.out.mono ?_;rintro e w2 ⟨rfl,hb2⟩)
  have HT2:=Lib.hid (HT1.out.below hb2)
  have HC2:Hid (CntG g m (fun x=>sizeT (r x)) w2):=Lib.hid (fun i hi=>(World.cell?_of_block (hb2.block g HT1.out.glt)).trans (HC1.out i hi))
  have HU2:=Lib.hid (HU1.out.wider hb2 (fun _ e=>e) HU1.out.lows.2.2.1)
  have HV2:=Lib.hid ((TyW.step d).below HV1.out hb2)
  have HBX2:=Lib.hid ((hb2.block _ (Array.getElem?_eq_some_iff.1 HBX1.out).1).trans HBX1.out)
  have HE2:=Lib.hid (HE1.out.keep (Kb.of_below hb2) (fun _ _ e=>e))
  have HK2:=Lib.hid (HK1.out.trans (KV.of_below hb2:KV Vol g w1 w2))
  clear hb2 HT1 HC1 HU1 HV1 HBX1 HE1 HK1 HNOD a0 a1 a2 a3 hsub hw
  have HGR:=Lib.hid (grow_st Vol b g m cap r B us rk rkU v M HUS.out HBN.out hvm HF.out hMb hms w2 HT2.out HC2.out HU2.out)
  refine HGR.out.mono ?_
  rintro e w3 ⟨hT3,hU3,hk3,(⟨rfl,hfit,hC3⟩ | ⟨rfl,hbig,hC3⟩)⟩
  ·have HT3:=Lib.hid hT3
   have HC3:=Lib.hid hC3
   have HU3:=Lib.hid hU3
   have HFIT:=Lib.hid hfit
   have HV3:=Lib.hid (TyW.step d _ _ _ _ _ _ HV2.out hk3.kb (fun _ _ e=>e))
   have HBX3:=Lib.hid ((hk3.kb.block _ (Array.getElem?_eq_some_iff.1 HBX2.out).1 HNV.out).trans HBX2.out)
   have HK3:=Lib.hid (HK2.out.trans hk3)
   clear hT3 hC3 hU3 hfit hk3 HGR HT2 HC2 HU2 HV2 HBX2 HE2 HK2
   have hT3:=HT3.out
   obtain ⟨Bd3,_,_,hTT⟩:=hT3
   obtain ⟨cs3,hr3,hs3⟩:=hTT.row
   have hd:∀ j,j < 4→∃ z,w3.cell? ⟨g,v * 6+j,none⟩=some z:=fun j hj=>⟨_,(cellH hr3 _).trans (Array.getElem?_eq_getElem (by omega))⟩
   obtain ⟨z0,d0⟩:=hd 0 (by decide)
   obtain ⟨z1,d1⟩:=hd 1 (by decide)
   obtain ⟨z2,d2⟩:=hd 2 (by decide)
   obtain ⟨z3,d3⟩:=hd 3 (by decide)
   rw [Nat.add_zero] at d0
   have t0:=(cellH (hTT.blkP hvm) 0).trans rfl
   have f0:=frozenH hr3 (v * 6)
   have f1:=frozenH hr3 (v * 6+1)
   have f2:=frozenH hr3 (v * 6+2)
   have f3:=frozenH hr3 (v * 6+3)
   have dd0:w3.drew.cell? ⟨g,v * 6,none⟩=some z0:=d0
   have dd1:w3.drew.cell? ⟨g,v * 6+1,none⟩=some z1:=d1
   have dd2:w3.drew.cell? ⟨g,v * 6+2,none⟩=some z2:=d2
   have dd3:w3.drew.cell? ⟨g,v * 6+3,none⟩=some z3:=d3
   have ff0:w3.drew.frozen? ⟨g,v * 6,none⟩=false:=f0
   have ff1:w3.drew.frozen? ⟨g,v * 6+1,none⟩=false:=f1
   have ff2:w3.drew.frozen? ⟨g,v * 6+2,none⟩=false:=f2
   have ff3:w3.drew.frozen? ⟨g,v * 6+3,none⟩=false:=f3
   have a0:=(cellH HBX3.out 0).trans rfl
   have a1:=(cellH HBX3.out 1).trans rfl
   have a2:=(cellH HBX3.out 2).trans rfl
   have a3:=(cellH HBX3.out 3).trans rfl
   have hv0:(0:Int)≤(v:Int):=by omega
   have hv1:(v:Int) < (m:Int):=by omega
   clear hTT hr3 hs3 hd
   go_wp2_with fail
   go_region
   clear t0 d0 d1 d2 d3 f0 f1 f2 f3 dd0 dd1 dd2 dd3 ff0 ff1 ff2 ff3 a0 a1 a2 a3
   obtain ⟨⟨rk',hTB⟩,hKB⟩:=HT3.out.bind hvm HBN.out HGT.out rfl HO.out HL.out ⟨d,HV3.out⟩
   have hdr:=below_drw (Below.refl ((((w3.setCell ⟨g,v * 6,none⟩ (.int .i64 t.kind)).setCell ⟨g,v * 6+1,none⟩ (.string t.name)).setCell ⟨g,v * 6+2,none⟩ (.int .i64 t.var)).setCell ⟨g,v * 6+3,none⟩ (.slice P l c)).heap.size ((((w3.setCell ⟨g,v * 6,none⟩ (.int .i64 t.kind)).setCell ⟨g,v * 6+1,none⟩ (.string t.name)).setCell ⟨g,v * 6+2,none⟩ (.int .i64 t.var)).setCell ⟨g,v * 6+3,none⟩ (.slice P l c)))
   have hTX:=hTB.below hdr
   have hKX:=hKB.trans (HeadK.of_below hTB.glt hdr)
   have HTX:=Lib.hid hTX
   have HCX:=Lib.hid (HC3.out.head hKX)
   have HUX:=Lib.hid (HU3.out.head hTX hKX)
   have hkv:KV Vol g w3 _:=KV.of_g hKX.kb hvg
   have HVX:=Lib.hid (TyW.step d _ _ _ _ _ _ HV3.out hkv.kb (fun _ _ e=>e))
   have HBXX:=Lib.hid ((hkv.kb.block _ (Array.getElem?_eq_some_iff.1 HBX3.out).1 HNV.out).trans HBX3.out)
   have HKW:=Lib.hid (HK3.out.trans hkv)
   clear hTB hKB hdr hTX hKX hkv HT3 HC3 HU3 HV3 HBX3 HK3
   generalize ((((w3.setCell ⟨g,v * 6,none⟩ (.int .i64 t.kind)).setCell ⟨g,v * 6+1,none⟩ (.string t.name)).setCell ⟨g,v * 6+2,none⟩ (.int .i64 t.var)).setCell ⟨g,v * 6+3,none⟩ (.slice P l c)).drew=X at HTX HCX HUX HVX HBXX HKW ⊢
   have HUSE:=Lib.hid (use_any b g m cap v hvm d Vol us t _ X HVX.out HGT.out HUX.out (fun u hu=>by
    have h1:=HUS.out.short HF.out u hu
    have h2:=size_sub_le _ t (Nat.le_refl _) HGT.out r
    omega))
   have a0:=(cellH HBXX.out 0).trans rfl
   have a1:=(cellH HBXX.out 1).trans rfl
   have a2:=(cellH HBXX.out 2).trans rfl
   have a3:=(cellH HBXX.out 3).trans rfl
   go_wp2_with fail
   refine HUSE.out.mono ?_
   rintro e w4 ⟨rfl,hU4,hk4,hc4⟩
   have HU4:=Lib.hid hU4
   have HK4:=Lib.hid hk4
   have HC4:=Lib.hid hc4
   clear hU4 hk4 hc4 a0 a1 a2 a3
   go_wp2_with fail
   go_ret
   have hTF:=(HTX.out.use rfl HU4.out HK4.out.kb HC4.out).iff (fun i=>bindB_none (t:=t) i)
   have hCF:=HCX.out.use HC4.out
   refine ⟨0,fun x=>sub (one v (sub r t)) (r x),VolX Vol X.heap.size w4,.done HO.out (fun x hx=>?_),rfl,fun k hk e=>e.elim id (fun q=>by have:=HKW.out.size;omega),fun k e=>.inl e,fun k e=>e.elim (fun q=>Nat.lt_of_lt_of_le (HVL.out k q) (Nat.le_trans HKW.out.size HK4.out.size)) (fun q=>q.2),⟨rk',bindB B v t,bindU us v t,bindK B rkU v,hTF,fun x hx=>?_,HU4.out,HUS.out.bind HR.out HBN.out hvm HGT.out rfl HO.out HL.out⟩,HKW.out.trans HK4.out⟩
   ·rw [sizes_bind HR.out x hx,HM.out]
    exact HFIT.out x hx
   ·have q:=hCF x hx
    have e:sizeT (r x)+M * occT v (r x)=sizeT (sub (one v (sub r t)) (r x)):=by rw [sizes_bind HR.out x hx,HM.out];rfl
    show _=some (Value.int .i64 ((sizeT (sub (one v (sub r t)) (r x)):Nat):Int))
    rw [← e]
    exact q
  ·have hll:=(HE2.out.keep hk3.kb (fun _ _ e=>e)).err.large
   have HST:Hid (St Vol b g m cap r w3):=Lib.hid ⟨rk,B,us,rkU,hT3,hC3,hU3,HUS.out⟩
   have HK3:=Lib.hid (HK2.out.trans hk3)
   have HBIG:=Lib.hid hbig
   clear hT3 hC3 hU3 hbig hk3
   go_wp2_with fail
   go_ret
   refine ⟨2,r,Vol,.large HO.out ?_,rfl,fun _ _ e=>e,fun _ e=>e,fun k e=>Nat.lt_of_lt_of_le (HVL.out k e) HK3.out.size,HST.out,HK3.out⟩
   obtain ⟨x,hx,hb⟩:=HBIG.out
   refine ⟨x,hx,?_⟩
   rw [sizes_bind HR.out x hx,HM.out]
   exact hb
 ·have hd:decide (occT v (sub r t) ≠ 0)=true:=by simp [ho]
  rw [hd] at HOCC
  clear hd
  have HO:=Lib.hid ho
  clear ho
  go_enter Tryd.func86,Tryd.ntmps86
  go_wp2_with fail
  generalize (w.alloc (.cells #[.int .i64 t.kind,.string t.name,.int .i64 t.var,.slice P l c] 32))=W at HT0 HC0 HU0 HV0 HBX HE0 HB0 HOCC ⊢
  refine HOCC.out.mono ?_
  rintro e w1 ⟨rfl,hT1,hK1⟩
  have hkv:KV Vol g W w1:=KV.of_g hK1.kb hvg
  have HST:Hid (St Vol b g m cap r w1):=Lib.hid ⟨rk,B,us,rkU,hT1,HC0.out.head hK1,HU0.out.head hT1 hK1,HUS.out⟩
  have HK1:=Lib.hid ((KV.of_below HB0.out:KV Vol g w W).trans hkv)
  have hlt:=(HE0.out.keep hkv.kb (fun _ _ e=>e)).err.types
  clear hT1 hK1 hkv
  go_wp2_with fail
  go_ret
  exact ⟨1,r,Vol,.inside HO.out,rfl,fun _ _ e=>e,fun _ e=>e,fun k e=>Nat.lt_of_lt_of_le (HVL.out k e) HK1.out.size,HST.out,HK1.out⟩
end
end Lx
end Go.Proofs.YtnpacamcgifabaaDoor
