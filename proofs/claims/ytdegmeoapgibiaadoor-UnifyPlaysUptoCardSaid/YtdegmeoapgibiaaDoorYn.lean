/- The walk of the statement UnifyPlays: it returns true. Conditions: the error variables hold their errors; the types are ones that memory holds, of bounded size. -/
import Derived.Test.YtdegmeoapgibiaaDoorYxF
import Derived.Test.YtdegmeoapgibiaaDoorWxC
import Derived.Deep.CutRange
import Derived.Deep.RegionHeld3
namespace Go.Proofs.YtdegmeoapgibiaaDoor
set_option linter.unusedSimpArgs false
set_option linter.unusedVariables false
namespace Lx
open Go Go.RowKit
theorem Two.fine {b g m cap b2:Nat} {W0 W:World} {r:Rho} {Vol:Nat→Prop} (h:Two b g m cap b2 W0 W r Vol) (hm:m≤1000000):RFine m r:=⟨h.ls.1.res,h.ls.2.1,hm⟩
theorem Two.volg {b g m cap b2:Nat} {W0 W:World} {r:Rho} {Vol:Nat→Prop} (h:Two b g m cap b2 W0 W r Vol):Vol g:=h.ls.1.lows.2.2.2
theorem Half.low {b g m cap b2:Nat} {W0 W:World} {r r':Rho} {Vol:Nat→Prop} (h:Half b g m cap b2 W0 W r r' Vol):Below W0.heap.size W0 W:=h.ls.2.2.2
theorem freeW (Vol:Nat→Prop) (z:Int) (w:World):TyW 1 Vol (.mk 4 ⟨#[]⟩ z []) (.agg #[.int .i64 4,.string ⟨#[]⟩,.int .i64 z,.slice none 0 0]) w:=⟨_,rfl,RowW.nil _ _⟩
theorem free_few (z:Int):fewT (.mk 4 ⟨#[]⟩ z []):=few_small _ (by simp [sizeT,sizeTs])
theorem free_smallT (z:Int):smallT (.mk 4 ⟨#[]⟩ z []):=by
 unfold smallT
 simp [cleanT,sizeT,sizeTs]
theorem LS.tabC {b g m cap:Nat} {W0 W:World} {r:Rho} {Vol:Nat→Prop} (h:LS b g m cap W0 W r Vol):TabC b m W:=by
 obtain ⟨rk,B,us,rkU,⟨Bd,_,_,h3⟩,_⟩:=h.1
 exact h3.tab
set_option maxRecDepth 100000 in
set_option maxHeartbeats 4000000 in
theorem lawPlays_any (f:Nat→Addr) (dp:Nat) (l:List (TyT × TyT)) (u:Int) (vp:Value) (w:World) (hv:RowW 8 (PairW dp) (fun _=>False) l vp w) (hf:∀ p ∈ l,fewT p.1∧fewT p.2∧smallT p.1∧smallT p.2) (he:Sents w f) :
  Calls Tryd.prog 3 #[.int .i64 u,vp] w fun e w'=>e=.returned (.bool true)∧Below w.heap.size w w':=by
 obtain ⟨A1,c1,rfl⟩:=hv.slice
 have hfew:=hv.few
 unfold maxLen at hfew
 obtain ⟨n,hn12,hn⟩:∃ n:Nat,n < 12∧Int.tmod (Int.tmod u 12+12) 12=(n:Int):=by
  have h1:0≤Int.tmod (Int.tmod u 12+12) 12:=Int.tmod_nonneg 12 (by have:=Int.lt_tmod_of_pos u (show (0:Int) < 12 by decide);omega)
  have h2:Int.tmod (Int.tmod u 12+12) 12 < 12:=Int.tmod_lt_of_pos _ (by decide)
  exact ⟨(Int.tmod (Int.tmod u 12+12) 12).toNat,by omega,by omega⟩
 have hlo:-12 < Int.tmod u 12:=by have:=Int.lt_tmod_of_pos u (show (0:Int) < 12 by decide);omega
 have hhi:Int.tmod u 12 < 12:=Int.tmod_lt_of_pos _ (by decide)
 have HV:=Lib.hid hv
 have HF:=Lib.hid hf
 have HE:=Lib.hid he
 have HERR:=Lib.hid he.three
 obtain ⟨i0,hi0,hz0,hz1,hz2⟩:=info_parts infoTy
 have HI0:=Lib.hid hi0
 have HI1:=Lib.hid hz0
 have HI2:=Lib.hid hz1
 have HI3:=Lib.hid hz2
 clear hi0 hz0 hz1 hz2
 have HAL:=Lib.hid (alive_gh (three f) _ he.three)
 clear hv hf he
 go_enter Tryd.func3,Tryd.ntmps3
 go_wp2_with fail
 refine HAL.out.mono ?_
 rintro e w1 ⟨rfl,hb1,g0,cs0,hg0,hgb⟩
 have HB1:=Lib.hid hb1
 have HG0:=Lib.hid hg0
 have HGB:=Lib.hid hgb
 clear hb1 HAL hg0 hgb
 go_wp2_with fail
 refine (new_any w1).mono ?_
 rintro e w2 ⟨rfl,hT2,hb2⟩
 have hba:=below_alloc w2 (.cells #[.slice none 0 0] 29)
 have HM:=Lib.hid hb2.size
 have HT2:Hid (TabF w1.heap.size w1.heap.size 0 none 0 _):=Lib.hid (hT2.aside (Kb.of_below (S:=fun _=>False) hba) (fun e=>e) (fun _ _ e=>e))
 have HQ2:Hid (TabQ w2.heap.size w2.heap.size 0 none 0 _):=Lib.hid ⟨Nat.le_refl _,heap_alloc_new w2 (.cells #[.slice none 0 0] 29),World.ownsRow_nil _ _ _ _⟩
 have HB2:=Lib.hid (hb2.trans (hba.mono hb2.size))
 clear hT2 hb2 hba
 go_wp2_with fail
 generalize (w2.alloc (.cells #[.slice none 0 0] 29))=w3 at HT2 HQ2 HB2 ⊢
 generalize w2.heap.size=M at HM HQ2 ⊢
 go_loopw [29] (fun t wr=>∃ (q:Nat) (A:Option Addr) (c:Nat) (A2:Option Addr) (c2:Nat),q≤n∧t=.int .i64 q∧Hid (TabF w1.heap.size w1.heap.size q A c wr)∧Hid (TabQ M M q A2 c2 wr)∧Hid (q=0→A=none)∧Hid (Below w1.heap.size w1 wr)) (fun t _=>n - (intOf t).toNat)
 case atStart=>exact ⟨0,none,0,none,0,Nat.zero_le _,rfl,HT2,HQ2,Lib.hid (fun _=>rfl),HB2⟩
 case round =>
  obtain ⟨q,A,c,A2,c2,hq,rfl,HT,HQ,HQ0,HB⟩:=hrel
  by_cases hlt:q < n
  ·have hdc:decide ((q:Int) < (n:Int))=true:=by simpa using hlt
   have HFR:=Lib.hid (fresh_fine w1.heap.size w1.heap.size q A c wr HT.out (by omega) HB.out.size)
   go_wp2_with (first
    | (go_at_call 11;refine HFR.out.mono ?_;rintro e w3 ⟨rfl,⟨A',c',hT3,_⟩,hb3,hk3⟩;have HT3:=Lib.hid hT3;have HQ3:=Lib.hid (HQ.out.beside HT.out hk3);have HB3:=Lib.hid (HB.out.trans hb3);clear hT3 hb3 hk3)
    | (go_at_call 12;refine (rFresh_any M M q A2 c2 w3 HQ3.out (by omega) (Nat.le_of_lt (Array.getElem?_eq_some_iff.1 HQ3.out.blk).1)).mono ?_;rintro e w4 ⟨rfl,⟨g4,c4,hQ4⟩,hb4,hk4⟩;have HT4:=Lib.hid (HT3.out.beside HQ3.out hk4);have HQ4:=Lib.hid hQ4;have HB4:=Lib.hid (HB3.out.trans (hb4.mono HM.out));clear hQ4 hb4 hk4)
    | (go_at_call 10;refine (sameFree _ _).mono ?_;rintro e w5 ⟨rfl,hb5⟩;have HT5:=Lib.hid (HT4.out.aside (Kb.of_below (S:=fun _=>False) hb5) (fun e=>e) (fun _ _ e=>e));have HQ5:=Lib.hid (HQ4.out.below hb5);have HB5:=Lib.hid (HB4.out.trans (hb5.mono HB4.out.size));clear hb5))
   go_roundw
   case rel=>exact ⟨q+1,_,c',_,c4,by omega,by go_num,HT5,HQ5,Lib.hid (fun e=>by omega),HB5⟩
   case measure=>simp [intOf];omega
  ·obtain rfl:q=n:=by omega
   have hdc:decide ((q:Int) < (q:Int))=false:=by simp
   obtain ⟨g,Vol0,hTWO⟩:=two_start HT.out HQ0.out HQ.out ((HB.out.block g0 (Array.getElem?_eq_some_iff.1 HGB.out).1).trans HGB.out) HG0.out HB1.out.size (Nat.le_trans HB1.out.size HM.out) (HB1.out.trans (HB.out.mono HB1.out.size))
   have HTWO:=Lib.hid hTWO
   clear hTWO HT2 HQ2 HB2 HT HQ HQ0 HGB HG0
   go_wp2_with fail
   clear hdc
   generalize hwq:wr=wq at HTWO HB ⊢
   clear hwq
   go_loopw [40] (fun t wr=>∃ k:Nat,k≤l.length∧t=.int .i64 k∧∃ r Vol,Hid (Two w1.heap.size g q c M w wr r Vol)) (fun t _=>l.length - (intOf t).toNat)
   case atStart=>exact ⟨0,Nat.zero_le _,rfl,fr,_,HTWO⟩
   case round =>
    obtain ⟨k,hk,rfl,r,Vol,HLK⟩:=hrel
    by_cases hlt2:k < l.length
    ·obtain ⟨b1,o1,vi,rfl,hb1l,_,hpi,hc⟩:=RowW.at (RowW.step (PairW.step dp) _ Vol _ _ _ _ HV.out (Kb.of_below HLK.out.ls.2.2.2) (fun k hk1 e=>by have:=(HLK.out.ls.2.2.1 k e).1;omega)) k hlt2
     have HFP:=Lib.hid (HF.out l[k] (List.getElem_mem hlt2))
     obtain ⟨x,y,hxy⟩:∃ x y,l[k]=(x,y):=⟨_,_,rfl⟩
     rw [hxy] at HFP hpi
     obtain ⟨_,_,_,_,_,_,_,_,rfl,hx,hy⟩:=hpi
     obtain ⟨B1,n1,m1,ex⟩:=hx.this
     obtain ⟨B2,n2,m2,ey⟩:=hy.this
     have hx:TyW dp Vol x _ wr:=hx
     have hy:TyW dp Vol y _ wr:=hy
     simp only [Value.agg.injEq,Array.mk.injEq,List.cons.injEq,and_true] at ex ey
     obtain ⟨rfl,rfl,rfl,rfl⟩:=ex
     obtain ⟨rfl,rfl,rfl,rfl⟩:=ey
     have p0:=(hc 0 (by decide)).trans rfl
     have p1:=(hc 1 (by decide)).trans rfl
     have p2:=(hc 2 (by decide)).trans rfl
     have p3:=(hc 3 (by decide)).trans rfl
     have p4:=(hc 4 (by decide)).trans rfl
     have p5:=(hc 5 (by decide)).trans rfl
     have p6:=(hc 6 (by decide)).trans rfl
     have p7:=(hc 7 (by decide)).trans rfl
     simp only [cellsL,Value.cells,List.getElem?_cons_zero,List.getElem?_cons_succ,Nat.add_zero] at p0 p1 p2 p3 p4 p5 p6 p7
     have hk0:(0:Int)≤(k:Int):=by omega
     have hk1:(k:Int) < (l.length:Int):=by omega
     have hdc:decide (k < l.length)=true:=by simpa using hlt2
     have HX:=Lib.hid hx
     have HY:=Lib.hid hy
     clear hx hy hc hxy
     by_cases h60:k > 60
     ·have hd6:decide ((k:Int) > 60)=true:=by simp;omega
      go_wp2_with fail
      go_ret
      exact ⟨rfl,(HLK.out.ls.below (below_alloc wr _)).2.2.2⟩
     ·have hd6:decide ((k:Int) > 60)=false:=by simp;omega
      clear h60
      go_upto_region 15 with fail
      have hbP:=below_alloc wr (.cells #[.int .i64 x.kind,.string x.name,.int .i64 x.var,.slice B1 n1 m1,.int .i64 y.kind,.string y.name,.int .i64 y.var,.slice B2 n2 m2] 35)
      have HP:=Lib.hid (heap_alloc_new wr (.cells #[.int .i64 x.kind,.string x.name,.int .i64 x.var,.slice B1 n1 m1,.int .i64 y.kind,.string y.name,.int .i64 y.var,.slice B2 n2 m2] 35))
      have HX:=Lib.hid ((TyW.step dp).below HX.out hbP)
      have HY:=Lib.hid ((TyW.step dp).below HY.out hbP)
      have HNP:Hid (¬ Vol wr.heap.size):=Lib.hid (fun e=>by have:=HLK.out.lt _ e;omega)
      have HLP:=Lib.hid (HLK.out.below hbP)
      clear hbP p0 p1 p2 p3 p4 p5 p6 p7 hdc hd6
      generalize (wr.alloc (.cells #[.int .i64 x.kind,.string x.name,.int .i64 x.var,.slice B1 n1 m1,.int .i64 y.kind,.string y.name,.int .i64 y.var,.slice B2 n2 m2] 35))=Wp at HP HX HY HLP ⊢
      generalize hPP:wr.heap.size=P at HP HNP ⊢
      clear hPP HLK
      go_cut [60] from 47 to 123 (fun sv wc=>sv=.bool false∧∃ r1 Vol1,Hid (Two w1.heap.size g q c M w wc r1 Vol1)∧Hid (wc.heap[P]?=some (.cells #[.int .i64 x.kind,.string x.name,.int .i64 x.var,.slice B1 n1 m1,.int .i64 y.kind,.string y.name,.int .i64 y.var,.slice B2 n2 m2] 35 (0,0)))∧Hid (TyW dp Vol1 x (.agg #[.int .i64 x.kind,.string x.name,.int .i64 x.var,.slice B1 n1 m1]) wc)∧Hid (¬ Vol1 P))
      case first =>
       have hdr:=below_drw (Below.refl Wp.heap.size Wp)
       have HLP:=Lib.hid (HLP.out.below hdr)
       have HX:=Lib.hid ((TyW.step dp).below HX.out hdr)
       have HY:=Lib.hid ((TyW.step dp).below HY.out hdr)
       have HP:Hid (Wp.drew.heap[P]?=_):=HP
       clear hdr
       have H1:=Lib.hid (two_unify (f:=f) HERR.out (by omega) HLP.out HX.out HY.out HFP.out.1 HFP.out.2.1 HFP.out.2.2.1 HFP.out.2.2.2)
       have p0:=(cellH HP.out 0).trans rfl;have p1:=(cellH HP.out 1).trans rfl;have p2:=(cellH HP.out 2).trans rfl;have p3:=(cellH HP.out 3).trans rfl;have p4:=(cellH HP.out 4).trans rfl;have p5:=(cellH HP.out 5).trans rfl;have p6:=(cellH HP.out 6).trans rfl;have p7:=(cellH HP.out 7).trans rfl
       go_region_held3 (fun W=>W.cell? ⟨P,0,none⟩=some (.int .i64 x.kind)∧W.cell? ⟨P,1,none⟩=some (.string x.name)∧W.cell? ⟨P,2,none⟩=some (.int .i64 x.var)∧W.cell? ⟨P,3,none⟩=some (.slice B1 n1 m1)∧W.cell? ⟨P,4,none⟩=some (.int .i64 y.kind)∧W.cell? ⟨P,5,none⟩=some (.string y.name)∧W.cell? ⟨P,6,none⟩=some (.int .i64 y.var)∧W.cell? ⟨P,7,none⟩=some (.slice B2 n2 m2)) (first | exact ⟨p0,p1,p2,p3,p4,p5,p6,p7⟩ | exact ⟨a0,a1,a2,a3,a4,a5,a6,a7⟩ | exact ⟨d0,d1,d2,d3,d4,d5,d6,d7⟩ | exact ⟨s0,s1,s2,s3,s4,s5,s6,s7⟩) (first
        | (go_at_call 14;have h1q:=H1.out;with_reducible refine h1q.mono ?_;rintro e wA ⟨nn,r1,Vol1,rfl,hN,hH,hkA,hnar⟩;have HNN:=Lib.hid hN;have HHF:=Lib.hid hH;have HPA:=Lib.hid ((hkA.block P (Array.getElem?_eq_some_iff.1 HP.out).1 HNP.out).trans HP.out);have HN1:Hid (¬ Vol1 P):=Lib.hid (fun e=>absurd (hnar P (Array.getElem?_eq_some_iff.1 HP.out).1 e) HNP.out);have HXA:=Lib.hid (tyGo HX.out hkA hnar);have HYA:=Lib.hid (tyGo HY.out hkA hnar);have a0:=(cellH HPA.out 0).trans rfl;have a1:=(cellH HPA.out 1).trans rfl;have a2:=(cellH HPA.out 2).trans rfl;have a3:=(cellH HPA.out 3).trans rfl;have a4:=(cellH HPA.out 4).trans rfl;have a5:=(cellH HPA.out 5).trans rfl;have a6:=(cellH HPA.out 6).trans rfl;have a7:=(cellH HPA.out 7).trans rfl;clear hN hH hkA hnar)
        | (go_at_call 13;have hq2:=num_okN f HNN.out.ok wA (HE.out.below HHF.out.low);with_reducible refine hq2.mono ?_;rintro e wB ⟨rfl,hbB⟩;have HHB:=Lib.hid (HHF.out.below hbB);have HPB:=Lib.hid ((hbB.block P (Array.getElem?_eq_some_iff.1 HPA.out).1).trans HPA.out);have HXB:=Lib.hid ((TyW.step dp).below HXA.out hbB);have HYB:=Lib.hid ((TyW.step dp).below HYA.out hbB);have d0:=(cellH HPB.out 0).trans rfl;have d1:=(cellH HPB.out 1).trans rfl;have d2:=(cellH HPB.out 2).trans rfl;have d3:=(cellH HPB.out 3).trans rfl;have d4:=(cellH HPB.out 4).trans rfl;have d5:=(cellH HPB.out 5).trans rfl;have d6:=(cellH HPB.out 6).trans rfl;have d7:=(cellH HPB.out 7).trans rfl;clear hbB)
        | (go_at_call 15;have hq3:=rUnify_any M q dp r (HLP.out.fine (by omega)) Vol1 x y _ _ wB HXB.out HYB.out HFP.out.1 HFP.out.2.1 HFP.out.2.2.1 HFP.out.2.2.2 HHB.out.tab HHB.out.vol HHB.out.lt HNN.out;with_reducible refine hq3.mono ?_;rintro e wC ⟨rfl,hTC,hkC⟩;have HTC:=Lib.hid (HHB.out.two hTC hkC);have HPC:=Lib.hid ((hkC.block P (Array.getElem?_eq_some_iff.1 HPB.out).1 (fun e=>absurd (e ▸ HHB.out.vol) HN1.out)).trans HPB.out);have HXC:=Lib.hid (tyGo HXB.out (hkC.wider (fun k _ (e:k=M)=>e ▸ HHB.out.vol)) (fun _ _ e=>e));clear hTC hkC;have s0:=(cellH HPC.out 0).trans rfl;have s1:=(cellH HPC.out 1).trans rfl;have s2:=(cellH HPC.out 2).trans rfl;have s3:=(cellH HPC.out 3).trans rfl;have s4:=(cellH HPC.out 4).trans rfl;have s5:=(cellH HPC.out 5).trans rfl;have s6:=(cellH HPC.out 6).trans rfl;have s7:=(cellH HPC.out 7).trans rfl))
       all_goals
        have hnn:(nn != nn)=false:=by simp
        clear p0 p1 p2 p3 p4 p5 p6 p7 a0 a1 a2 a3 a4 a5 a6 a7 d0 d1 d2 d3 d4 d5 d6 d7 s0 s1 s2 s3 s4 s5 s6 s7
        go_wp2_with fail
        go_meet
        exact ⟨rfl,r1,Vol1,HTC,HPC,HXC,HN1⟩
      case rest =>
       obtain ⟨rfl,r1,Vol1,HTC,HPC,HXC,HN1⟩:=hcut
       have HPG:Hid (¬ P=g):=Lib.hid (fun e=>HN1.out (e ▸ HTC.out.volg))
       clear HP HX HY HLP HNP
       go_wp2_with fail
       go_loopw [9] (fun t W=>∃ j:Nat,j≤q+2∧t=.int .i64 ((j:Int) - 1)∧Hid (Two w1.heap.size g q c M w W r1 Vol1)∧Hid (Kb (fun k=>k=g) wc W)) (fun t _=>q+2 - (intOf t+1).toNat)
       case atStart=>exact ⟨0,Nat.zero_le _,rfl,HTC,Lib.hid (Kb.refl _ _)⟩
       case round =>
        obtain ⟨j,hj,rfl,HTW,HKW⟩:=hrel
        by_cases hlt3:j < q+2
        ·obtain ⟨z,hz⟩:∃ z:Int,(j:Int) - 1=z:=⟨_,rfl⟩
         rw [hz]
         have hzq:z≤(q:Int):=by omega
         have hdc:decide (z≤(q:Int))=true:=by simpa using hzq
         have HZ:=Lib.hid hz
         have hz1:-1≤z:=by omega
         clear hz
         go_wp2_with fail
         go_at_call 17
         refine (free_any _ _).mono ?_
         rintro e wF ⟨rfl,hbF⟩
         have HTW:=Lib.hid (HTW.out.below hbF)
         have HKW:=Lib.hid (HKW.out.trans (Kb.of_below (S:=fun k=>k=g) hbF))
         clear hbF
         go_wp2_with fail
         go_at_call 16
         refine (two_resolve HERR.out HTW.out (d:=1) (x:=(.mk 4 ⟨#[]⟩ z [])) (freeW _ _ _) (free_few z) (free_smallT z)).mono ?_
         rintro e wR ⟨v5,nn,zz,rfl,hres,hv5,hT5,hk5⟩
         obtain ⟨y5,y6,y7,rfl⟩:=hv5.this
         have hbA:=below_alloc wR (.cells #[.int .i64 zz.kind,.string zz.name,.int .i64 zz.var,.slice y5 y6 y7] 32)
         have HRN:=Lib.hid hres
         have HVA:=Lib.hid (TyE.step.below hv5 hbA)
         have HBA:=Lib.hid (heap_alloc_new wR (.cells #[.int .i64 zz.kind,.string zz.name,.int .i64 zz.var,.slice y5 y6 y7] 32))
         have HKW:=Lib.hid ((HKW.out.trans hk5).trans (Kb.of_below (S:=fun k=>k=g) hbA))
         have HTW:=Lib.hid (hT5.below hbA)
         clear hres hv5 hT5 hk5 hbA
         go_wp2_with fail
         generalize (wR.alloc (.cells #[.int .i64 zz.kind,.string zz.name,.int .i64 zz.var,.slice y5 y6 y7] 32))=WA at HVA HBA HTW HKW ⊢
         generalize wR.heap.size=NA at HBA ⊢
         go_at_call 17
         refine (free_any _ _).mono ?_
         rintro e wG ⟨rfl,hbG⟩
         have HTW:=Lib.hid (HTW.out.below hbG)
         have HKW:=Lib.hid (HKW.out.trans (Kb.of_below (S:=fun k=>k=g) hbG))
         have HBA:=Lib.hid ((hbG.block NA (Array.getElem?_eq_some_iff.1 HBA.out).1).trans HBA.out)
         have HVA:=Lib.hid (TyE.step.below HVA.out hbG)
         clear hbG
         go_wp2_with fail
         go_at_call 18
         refine (rResolve_any M q 1 r1 (HTW.out.fine (by omega)) _ (.mk 4 ⟨#[]⟩ z []) _ _ (freeW _ _ _) (free_few z) (free_smallT z) HTW.out.tab HTW.out.lt HRN.out).mono ?_
         rintro e wS ⟨v6,rfl,hv6,hb6⟩
         obtain ⟨z5,z6,z7,rfl⟩:=hv6.this
         have hbB:=hb6.trans ((below_alloc wS (.cells #[.int .i64 zz.kind,.string zz.name,.int .i64 zz.var,.slice z5 z6 z7] 32)).mono hb6.size)
         have HVB:=Lib.hid (TyE.step.below hv6 (below_alloc wS (.cells #[.int .i64 zz.kind,.string zz.name,.int .i64 zz.var,.slice z5 z6 z7] 32)))
         have HBB:=Lib.hid (heap_alloc_new wS (.cells #[.int .i64 zz.kind,.string zz.name,.int .i64 zz.var,.slice z5 z6 z7] 32))
         have HBA:=Lib.hid ((hbB.block NA (Array.getElem?_eq_some_iff.1 HBA.out).1).trans HBA.out)
         have HVA:=Lib.hid (TyE.step.below HVA.out hbB)
         have HTW:=Lib.hid (HTW.out.below hbB)
         have HKW:=Lib.hid (HKW.out.trans (Kb.of_below (S:=fun k=>k=g) hbB))
         clear hv6 hb6 hbB
         go_wp2_with fail
         generalize (wS.alloc (.cells #[.int .i64 zz.kind,.string zz.name,.int .i64 zz.var,.slice z5 z6 z7] 32))=WB at HVA HVB HBA HBB HTW HKW ⊢
         generalize wS.heap.size=NB at HBB ⊢
         go_at_call 13
         refine (num_okN f HRN.out.ok _ (HE.out.below HTW.out.ls.2.2.2)).mono ?_
         rintro e wN ⟨rfl,hbN⟩
         have HBA:=Lib.hid ((hbN.block NA (Array.getElem?_eq_some_iff.1 HBA.out).1).trans HBA.out)
         have HBB:=Lib.hid ((hbN.block NB (Array.getElem?_eq_some_iff.1 HBB.out).1).trans HBB.out)
         have HVA:=Lib.hid (TyE.step.below HVA.out hbN)
         have HVB:=Lib.hid (TyE.step.below HVB.out hbN)
         have HTW:=Lib.hid (HTW.out.below hbN)
         have HKW:=Lib.hid (HKW.out.trans (Kb.of_below (S:=fun k=>k=g) hbN))
         clear hbN
         have hnn:(nn != nn)=false:=by simp
         have a0:=(cellH HBA.out 0).trans rfl;have a1:=(cellH HBA.out 1).trans rfl;have a2:=(cellH HBA.out 2).trans rfl;have a3:=(cellH HBA.out 3).trans rfl
         have d0:=(cellH HBB.out 0).trans rfl;have d1:=(cellH HBB.out 1).trans rfl;have d2:=(cellH HBB.out 2).trans rfl;have d3:=(cellH HBB.out 3).trans rfl
         go_wp2_with fail
         go_at_call 10
         refine (same_eq HVA.out HVB.out).mono ?_
         rintro e wQ ⟨rfl,hbQ⟩
         have HTW:=Lib.hid (HTW.out.below hbQ)
         have HKW:=Lib.hid (HKW.out.trans (Kb.of_below (S:=fun k=>k=g) hbQ))
         clear hbQ a0 a1 a2 a3 d0 d1 d2 d3 hnn HVA HVB HBA HBB HRN
         go_wp2_with fail
         go_roundw
         case rel=>exact ⟨j+1,by omega,by have:=HZ.out;go_num,HTW,HKW⟩
         case measure=>have:=HZ.out;simp [intOf];omega
        ·obtain rfl:j=q+2:=by omega
         obtain ⟨z,hz⟩:∃ z:Int,((q+2:Nat):Int) - 1=z:=⟨_,rfl⟩
         rw [hz]
         have hzq:¬ z≤(q:Int):=by omega
         have hdc:decide (z≤(q:Int))=false:=by simpa using hzq
         have HPW:=Lib.hid ((HKW.out.block P (Array.getElem?_eq_some_iff.1 HPC.out).1 HPG.out).trans HPC.out)
         have HXW:=Lib.hid (tyGo HXC.out (HTC.out.ls.kbg HKW.out) (fun _ _ e=>e))
         clear hz HPC HXC HTC HKW
         have p0:=(cellH HPW.out 0).trans rfl;have p1:=(cellH HPW.out 1).trans rfl;have p2:=(cellH HPW.out 2).trans rfl;have p3:=(cellH HPW.out 3).trans rfl
         go_wp2_with fail
         go_at_call 16
         refine (two_resolve HERR.out HTW.out (d:=dp) (x:=x) HXW.out HFP.out.1 HFP.out.2.2.1).mono ?_
         rintro e wR ⟨v5,nn,zz,rfl,hres,hv5,hT5,hk5⟩
         obtain ⟨y5,y6,y7,rfl⟩:=hv5.this
         have hbA:=below_alloc wR (.cells #[.int .i64 zz.kind,.string zz.name,.int .i64 zz.var,.slice y5 y6 y7] 32)
         have HRN:=Lib.hid hres
         have HVA:=Lib.hid (TyE.step.below hv5 hbA)
         have HBA:=Lib.hid (heap_alloc_new wR (.cells #[.int .i64 zz.kind,.string zz.name,.int .i64 zz.var,.slice y5 y6 y7] 32))
         have HPW:=Lib.hid ((hbA.block P (Nat.lt_of_lt_of_le (Array.getElem?_eq_some_iff.1 HPW.out).1 hk5.size)).trans ((hk5.block P (Array.getElem?_eq_some_iff.1 HPW.out).1 HPG.out).trans HPW.out))
         have HXW:=Lib.hid ((TyW.step dp).below (tyGo HXW.out (HTW.out.ls.kbg hk5) (fun _ _ e=>e)) hbA)
         have HTW:=Lib.hid (hT5.below hbA)
         clear hres hv5 hT5 hk5 hbA p0 p1 p2 p3
         have p0:=(cellH HPW.out 0).trans rfl;have p1:=(cellH HPW.out 1).trans rfl;have p2:=(cellH HPW.out 2).trans rfl;have p3:=(cellH HPW.out 3).trans rfl
         go_wp2_with fail
         generalize (wR.alloc (.cells #[.int .i64 zz.kind,.string zz.name,.int .i64 zz.var,.slice y5 y6 y7] 32))=WA at HVA HBA HTW HPW HXW p0 p1 p2 p3 ⊢
         generalize wR.heap.size=NA at HBA ⊢
         go_at_call 18
         refine (rResolve_any M q dp r1 (HTW.out.fine (by omega)) _ x _ _ HXW.out HFP.out.1 HFP.out.2.2.1 HTW.out.tab HTW.out.lt HRN.out).mono ?_
         rintro e wS ⟨v6,rfl,hv6,hb6⟩
         obtain ⟨z5,z6,z7,rfl⟩:=hv6.this
         have hbB:=hb6.trans ((below_alloc wS (.cells #[.int .i64 zz.kind,.string zz.name,.int .i64 zz.var,.slice z5 z6 z7] 32)).mono hb6.size)
         have HVB:=Lib.hid (TyE.step.below hv6 (below_alloc wS (.cells #[.int .i64 zz.kind,.string zz.name,.int .i64 zz.var,.slice z5 z6 z7] 32)))
         have HBB:=Lib.hid (heap_alloc_new wS (.cells #[.int .i64 zz.kind,.string zz.name,.int .i64 zz.var,.slice z5 z6 z7] 32))
         have HBA:=Lib.hid ((hbB.block NA (Array.getElem?_eq_some_iff.1 HBA.out).1).trans HBA.out)
         have HVA:=Lib.hid (TyE.step.below HVA.out hbB)
         have HTW:=Lib.hid (HTW.out.below hbB)
         clear p0 p1 p2 p3
         clear hv6 hb6 hbB
         go_wp2_with fail
         generalize (wS.alloc (.cells #[.int .i64 zz.kind,.string zz.name,.int .i64 zz.var,.slice z5 z6 z7] 32))=WB at HVA HVB HBA HBB HTW ⊢
         generalize wS.heap.size=NB at HBB ⊢
         go_at_call 13
         refine (num_okN f HRN.out.ok _ (HE.out.below HTW.out.ls.2.2.2)).mono ?_
         rintro e wN ⟨rfl,hbN⟩
         have HBA:=Lib.hid ((hbN.block NA (Array.getElem?_eq_some_iff.1 HBA.out).1).trans HBA.out)
         have HBB:=Lib.hid ((hbN.block NB (Array.getElem?_eq_some_iff.1 HBB.out).1).trans HBB.out)
         have HVA:=Lib.hid (TyE.step.below HVA.out hbN)
         have HVB:=Lib.hid (TyE.step.below HVB.out hbN)
         have HTW:=Lib.hid (HTW.out.below hbN)
         clear hbN
         have hnn:(nn != nn)=false:=by simp
         have a0:=(cellH HBA.out 0).trans rfl;have a1:=(cellH HBA.out 1).trans rfl;have a2:=(cellH HBA.out 2).trans rfl;have a3:=(cellH HBA.out 3).trans rfl
         have d0:=(cellH HBB.out 0).trans rfl;have d1:=(cellH HBB.out 1).trans rfl;have d2:=(cellH HBB.out 2).trans rfl;have d3:=(cellH HBB.out 3).trans rfl
         go_wp2_with fail
         go_at_call 10
         refine (same_eq HVA.out HVB.out).mono ?_
         rintro e wQ ⟨rfl,hbQ⟩
         have HTW:=Lib.hid (HTW.out.below hbQ)
         clear hbQ a0 a1 a2 a3 d0 d1 d2 d3 hnn HVA HVB HBA HBB HRN
         obtain ⟨val,hrow0,hrow1⟩:=HTW.out.tab.row
         obtain ⟨Ar,cr,rfl⟩:=hrow1.slice
         have t0:=(cellH hrow0 0).trans rfl
         simp only [List.length_map,List.length_range] at t0
         have hqq:((q:Int) != (q:Int))=false:=by simp
         have HLEN:=Lib.hid (len_any w1.heap.size q wQ (LS.tabC HTW.out.ls))
         clear hrow0 hrow1
         go_wp2_with (go_at_call 19;refine HLEN.out.mono ?_;rintro e wL ⟨rfl,rfl⟩)
         go_roundw
         case rel=>exact ⟨k+1,by omega,by go_num,r1,Vol1,HTW⟩
         case measure=>simp [intOf];omega
    ·obtain rfl:k=l.length:=by omega
     have hdc:decide (l.length < l.length)=false:=by simp
     go_wp2_with fail
     go_ret
     exact ⟨rfl,HLK.out.ls.2.2.2⟩
end Lx
end Go.Proofs.YtdegmeoapgibiaaDoor
