/- The walk of the statement UnifyMakes: it returns true. Conditions: the error variables hold their errors; the types are ones that memory holds, of bounded size. -/
import Derived.Test.YtiamniljgdjakaaDoorWxF
import Derived.Test.YtiamniljgdjakaaDoorWb
import Derived.Test.YtiamniljgdjakaaDoorWxC
import Derived.Deep.CutRange
namespace Go.Proofs.YtiamniljgdjakaaDoor
set_option linter.unusedSimpArgs false
set_option linter.unusedVariables false
namespace Lx
open Go Go.RowKit
set_option maxRecDepth 100000 in
set_option maxHeartbeats 4000000 in
theorem lawMakes_any (f:Nat→Addr) (dp:Nat) (l:List (TyT × TyT)) (u:Int) (vp:Value) (w:World) (hv:RowW 8 (PairW dp) (fun _=>False) l vp w) (hf:∀ p ∈ l,fewT p.1∧fewT p.2∧smallT p.1∧smallT p.2) (he:Sents w f) :
  Calls Tryd.prog 5 #[.int .i64 u,vp] w fun e w'=>e=.returned (.bool true)∧Below w.heap.size w w':=by
 obtain ⟨A1,c1,rfl⟩:=hv.slice
 have hfew:=hv.few
 unfold maxLen at hfew
 obtain ⟨n,hn12,hn⟩:∃ n:Nat,n < 12∧Int.tmod (Int.tmod u 12+12) 12=(n:Int):=by
  have h1:0≤Int.tmod (Int.tmod u 12+12) 12:=Int.tmod_nonneg 12 (by have:=Int.lt_tmod_of_pos u (show (0:Int) < 12 by decide);omega)
  have h2:Int.tmod (Int.tmod u 12+12) 12 < 12:=Int.tmod_lt_of_pos _ (by decide)
  exact ⟨(Int.tmod (Int.tmod u 12+12) 12).toNat,by omega,by omega⟩
 have hlo:-12 < Int.tmod u 12:=by have:=Int.lt_tmod_of_pos u (show (0:Int) < 12 by decide);omega
 have hhi:Int.tmod u 12 < 12:=Int.tmod_lt_of_pos _ (by decide)
 have HV:=Lib.hid hv
 have HF:=Lib.hid hf
 have HE:=Lib.hid he
 have HERR:=Lib.hid he.three
 obtain ⟨i0,hi0,hz0,hz1,hz2⟩:=info_parts infoTy
 have HI0:=Lib.hid hi0
 have HI1:=Lib.hid hz0
 have HI2:=Lib.hid hz1
 have HI3:=Lib.hid hz2
 clear hi0 hz0 hz1 hz2
 have HAL:=Lib.hid (alive_gh (three f) _ he.three)
 clear hv hf he
 go_enter Tryd.func5,Tryd.ntmps5
 go_wp2_with fail
 refine HAL.out.mono ?_
 rintro e w1 ⟨rfl,hb1,g0,cs0,hg0,hgb⟩
 have HB1:=Lib.hid hb1
 have HG0:=Lib.hid hg0
 have HGB:=Lib.hid hgb
 clear hb1 HAL hg0 hgb
 go_wp2_with fail
 refine (new_any w1).mono ?_
 rintro e w2 ⟨rfl,hT2,hb2⟩
 have HT2:=Lib.hid hT2
 have HB2:=Lib.hid hb2
 clear hT2 hb2
 go_wp2_with fail
 go_loopw [29] (fun t wr=>∃ (q:Nat) (A:Option Addr) (c:Nat),q≤n∧t=.int .i64 q∧Hid (TabF w1.heap.size w1.heap.size q A c wr)∧Hid (q=0→A=none)∧Hid (Below w1.heap.size w1 wr)) (fun t _=>n - (intOf t).toNat)
 case atStart=>exact ⟨0,none,0,Nat.zero_le _,rfl,HT2,Lib.hid (fun _=>rfl),HB2⟩
 case round =>
  obtain ⟨q,A,c,hq,rfl,HT,HQ0,HB⟩:=hrel
  by_cases hlt:q < n
  ·have hdc:decide ((q:Int) < (n:Int))=true:=by simpa using hlt
   have HFR:=Lib.hid (fresh_any w1.heap.size w1.heap.size q A c wr HT.out (by omega) HB.out.size)
   go_wp2_with (go_at_call 11;refine HFR.out.mono ?_;rintro e w3 ⟨rfl,⟨A',c',hT3⟩,hb3⟩;have HT3:=Lib.hid hT3;have HB3:=Lib.hid (HB.out.trans hb3);clear hT3 hb3)
   go_roundw
   case rel=>exact ⟨q+1,A',c',by omega,by go_num,HT3,Lib.hid (fun e=>by omega),HB3⟩
   case measure=>simp [intOf];omega
  ·obtain rfl:q=n:=by omega
   have hdc:decide ((q:Int) < (q:Int))=false:=by simp
   have hst:=st_start (B0:=w.heap.size) HT.out HQ0.out ((HB.out.block g0 (Array.getElem?_eq_some_iff.1 HGB.out).1).trans HGB.out) HG0.out HB1.out.size
   obtain ⟨g,hgB,hS⟩:=hst
   have HLS:Hid (LS w1.heap.size g q c w wr fr (fun k=>k=g)):=Lib.hid ⟨hS,fun x _=>by rw [size_fr];decide,fun k (e:k=g)=>by subst e;exact ⟨hgB,hS.lows.2.1⟩,HB1.out.trans (HB.out.mono HB1.out.size)⟩
   clear hS hgB HT2 HB2 HT HQ0 HGB HG0
   go_wp2_with fail
   clear hdc
   generalize hwq:wr=wq at HLS HB ⊢
   clear hwq
   go_loopw [36] (fun t wr=>∃ k:Nat,k≤l.length∧t=.int .i64 k∧∃ r Vol,Hid (LS w1.heap.size g q c w wr r Vol)) (fun t _=>l.length - (intOf t).toNat)
   case atStart=>exact ⟨0,Nat.zero_le _,rfl,fr,_,HLS⟩
   case round =>
    obtain ⟨k,hk,rfl,r,Vol,HLK⟩:=hrel
    by_cases hlt2:k < l.length
    ·obtain ⟨b1,o1,vi,rfl,hb1l,_,hpi,hc⟩:=RowW.at (RowW.step (PairW.step dp) _ Vol _ _ _ _ HV.out (Kb.of_below HLK.out.2.2.2) (fun k hk1 e=>by have:=(HLK.out.2.2.1 k e).1;omega)) k hlt2
     have HFP:=Lib.hid (HF.out l[k] (List.getElem_mem hlt2))
     obtain ⟨x,y,hxy⟩:∃ x y,l[k]=(x,y):=⟨_,_,rfl⟩
     rw [hxy] at HFP hpi
     obtain ⟨_,_,_,_,_,_,_,_,rfl,hx,hy⟩:=hpi
     obtain ⟨B1,n1,m1,ex⟩:=hx.this
     obtain ⟨B2,n2,m2,ey⟩:=hy.this
     have hx:TyW dp Vol x _ wr:=hx
     have hy:TyW dp Vol y _ wr:=hy
     simp only [Value.agg.injEq,Array.mk.injEq,List.cons.injEq,and_true] at ex ey
     obtain ⟨rfl,rfl,rfl,rfl⟩:=ex
     obtain ⟨rfl,rfl,rfl,rfl⟩:=ey
     have p0:=(hc 0 (by decide)).trans rfl
     have p1:=(hc 1 (by decide)).trans rfl
     have p2:=(hc 2 (by decide)).trans rfl
     have p3:=(hc 3 (by decide)).trans rfl
     have p4:=(hc 4 (by decide)).trans rfl
     have p5:=(hc 5 (by decide)).trans rfl
     have p6:=(hc 6 (by decide)).trans rfl
     have p7:=(hc 7 (by decide)).trans rfl
     simp only [cellsL,Value.cells,List.getElem?_cons_zero,List.getElem?_cons_succ,Nat.add_zero] at p0 p1 p2 p3 p4 p5 p6 p7
     have hk0:(0:Int)≤(k:Int):=by omega
     have hk1:(k:Int) < (l.length:Int):=by omega
     have hdc:decide (k < l.length)=true:=by simpa using hlt2
     have HX:=Lib.hid hx
     have HY:=Lib.hid hy
     clear hx hy hc hxy
     by_cases h60:k > 60
     ·have hd6:decide ((k:Int) > 60)=true:=by simp;omega
      go_wp2_with fail
      go_ret
      exact ⟨rfl,(HLK.out.below (below_alloc wr _)).2.2.2⟩
     ·have hd6:decide ((k:Int) > 60)=false:=by simp;omega
      clear h60
      go_wp2_with fail
      have hbP:=below_alloc wr (.cells #[.int .i64 x.kind,.string x.name,.int .i64 x.var,.slice B1 n1 m1,.int .i64 y.kind,.string y.name,.int .i64 y.var,.slice B2 n2 m2] 35)
      have HP:=Lib.hid (heap_alloc_new wr (.cells #[.int .i64 x.kind,.string x.name,.int .i64 x.var,.slice B1 n1 m1,.int .i64 y.kind,.string y.name,.int .i64 y.var,.slice B2 n2 m2] 35))
      have HX:=Lib.hid ((TyW.step dp).below HX.out hbP)
      have HY:=Lib.hid ((TyW.step dp).below HY.out hbP)
      have HLP:=Lib.hid (HLK.out.below hbP)
      have HNP:Hid (¬ Vol wr.heap.size):=Lib.hid (fun e=>by have:=(HLK.out.2.2.1 _ e).2;omega)
      have hwas:=WasR.start HLP.out
      have hsz:(wr.alloc (.cells #[.int .i64 x.kind,.string x.name,.int .i64 x.var,.slice B1 n1 m1,.int .i64 y.kind,.string y.name,.int .i64 y.var,.slice B2 n2 m2] 35)).heap.size=wr.heap.size+1:=by simp
      rw [hsz] at hwas
      have HWAS:=Lib.hid hwas
      clear hwas hsz hbP p0 p1 p2 p3 p4 p5 p6 p7 hdc hd6
      generalize (wr.alloc (.cells #[.int .i64 x.kind,.string x.name,.int .i64 x.var,.slice B1 n1 m1,.int .i64 y.kind,.string y.name,.int .i64 y.var,.slice B2 n2 m2] 35))=Wp at HP HX HY HLP HWAS ⊢
      generalize hPP:wr.heap.size=P at HP HNP HWAS ⊢
      clear hPP HLK
      go_loopw [8,9] (fun s t W=>∃ (i S cw:Nat) (vs:List Value),i≤q∧s=.slice (some ⟨S,0,none⟩) i cw∧t=.int .i64 i∧Hid (WasR Vol w1.heap.size g q c w Wp W r S cw ((List.range i).map r) vs)) (fun _ t _=>q - (intOf t).toNat)
      case atStart=>exact ⟨0,_,0,[],Nat.zero_le _,rfl,rfl,HWAS⟩
      case round =>
       obtain ⟨i,S,cw,vs,hi,rfl,rfl,HW⟩:=hrel
       have hli:((List.range i).map r).length=i:=by simp
       have HLI:=Lib.hid hli
       clear hli
       by_cases hlt3:i < q
       ·have hdc:decide ((i:Int) < (q:Int))=true:=by simpa using hlt3
        have HRI:=Lib.hid (show (List.range (i+1)).map r=(List.range i).map r++[r i] by rw [List.range_succ,List.map_append];rfl)
        generalize hri:r i=z at HRI
        go_wp2_with (first
         | (go_at_call 17;refine (free_any _ _).mono ?_;rintro e wF ⟨rfl,hbF⟩;have HWF:=Lib.hid (HW.out.below hbF);clear hbF)
         | (go_at_call 16;refine (ls_free HERR.out HWF.out.ls (i:=i) hlt3).mono ?_;rintro e w4 ⟨v4,rfl,hL4,hk4,hv4⟩;rw [hri] at hv4;obtain ⟨y5,y6,y7,rfl⟩:=hv4.this;have HW4:=Lib.hid (HWF.out.later hL4 hk4);have HV4:=Lib.hid hv4;clear hL4 hk4 hv4;have hb4:Below w4.heap.size w4 ((w4.alloc (.cells #[.int .i64 z.kind,.string z.name,.int .i64 z.var,.slice y5 y6 y7] 32)).alloc (.cells #[.int .i64 z.kind,.string z.name,.int .i64 z.var,.slice y5 y6 y7] 32)):=(below_alloc _ _).alloc (by simp) _;have HWX:=Lib.hid (HW4.out.below hb4);have HVX:=Lib.hid (TyE.step.below HV4.out hb4);have hown:=HWX.out.own;rw [HLI.out] at hown;have HOX:=Lib.hid hown;clear hown hb4)
         | (at_builtin;refine wpList_append_lies _ rfl _ _ 27 rfl Wp.heap.size 32 i0 (.agg #[.int .i64 0,.string ⟨#[]⟩,.int .i64 0,.slice none 0 0]) 4 56 Tryd.underlying27 HI0.out HI1.out HI2.out HI3.out rfl (by decide) _ _ _ rfl HOX.out ⟨w4.heap.size+1,0,none⟩ 1 1 [.int .i64 z.kind,.string z.name,.int .i64 z.var,.slice y5 y6 y7] rfl rfl (cells_new _ #[.int .i64 z.kind,.string z.name,.int .i64 z.var,.slice y5 y6 y7] _ _ (by simp)) (by simp [Value.oneCell']) (by decide) (by unfold maxLen;omega) (by omega) (by have:=HWX.out.kb.size;exact this) _ rfl ?_;intro g2 cap2 w6 hown6 hg6 hat6 _;have HO6:=Lib.hid hown6;have HG6:=Lib.hid hg6;have HA6:=Lib.hid hat6;clear hown6 hg6 hat6))
        have HNX:Hid (WasR Vol w1.heap.size g q c w Wp w6 r g2 cap2 ((List.range (i+1)).map r) (vs++[Value.agg #[.int .i64 z.kind,.string z.name,.int .i64 z.var,.slice y5 y6 y7]])):=Lib.hid (by
         rw [HRI.out]
         exact HWX.out.snoc HVX.out (by rw [HLI.out];exact HO6.out) HG6.out HA6.out)
        go_roundw
        case rel=>exact ⟨i+1,g2,cap2,_,by omega,rfl,by go_num,HNX⟩
        case measure=>simp [intOf];omega
       ·obtain rfl:i=q:=by omega
        have hdc:decide ((i:Int) < (i:Int))=false:=by simp
        obtain ⟨hrow,hls⟩:=HW.out.fin
        rw [HLI.out] at hrow
        have HROW:=Lib.hid hrow
        have HLR:=Lib.hid hls
        have HKR:=Lib.hid HW.out.kb
        have HPR:=Lib.hid ((HKR.out.block P (Array.getElem?_eq_some_iff.1 HP.out).1 HNP.out).trans HP.out)
        have HXR:=Lib.hid (tyGo HX.out HKR.out (fun _ _ e=>e))
        have HYR:=Lib.hid (tyGo HY.out HKR.out (fun _ _ e=>e))
        have HRESR:=Lib.hid hls.1.res
        clear hrow hls HX HY HP HKR HWAS HLP HLI
        have p0:=(cellH HPR.out 0).trans rfl
        have p1:=(cellH HPR.out 1).trans rfl
        have p2:=(cellH HPR.out 2).trans rfl
        have p3:=(cellH HPR.out 3).trans rfl
        have p4:=(cellH HPR.out 4).trans rfl
        have p5:=(cellH HPR.out 5).trans rfl
        have p6:=(cellH HPR.out 6).trans rfl
        have p7:=(cellH HPR.out 7).trans rfl
        go_wp2_with fail
        go_at_call 14
        refine (ls_unify HERR.out (by omega) HLR.out HXR.out HYR.out HFP.out.1 HFP.out.2.1 HFP.out.2.2.1 HFP.out.2.2.2).mono ?_
        rintro e w5 ⟨zz,r1,Vol1,rfl,hL5,hk5,hnar,hwid,hext,hzz⟩
        have HL5:=Lib.hid hL5
        have HK5:=Lib.hid hk5
        have HNAR:=Lib.hid hnar
        have HEXT:=Lib.hid hext
        clear hL5 hk5 hnar hwid hext p0 p1 p2 p3 p4 p5 p6 p7
        rcases hzz with ⟨rfl,s1,s2,z1,z2,heq⟩ | ⟨a,rfl⟩
        ·have HP5:=Lib.hid ((HK5.out.block P (Array.getElem?_eq_some_iff.1 HPR.out).1 HNP.out).trans HPR.out)
         have HNP5:Hid (¬ Vol1 P):=Lib.hid (fun e=>HNP.out (HNAR.out P (Array.getElem?_eq_some_iff.1 HPR.out).1 e))
         have HX5:=Lib.hid (tyGo HXR.out HK5.out HNAR.out)
         have HY5:=Lib.hid (tyGo HYR.out HK5.out HNAR.out)
         have HR5:=Lib.hid (RowW.step TyE.step _ Vol1 _ _ _ _ HROW.out HK5.out HNAR.out)
         have HS1:=Lib.hid s1
         have HS2:=Lib.hid s2
         have HZ1:=Lib.hid z1
         have HZ2:=Lib.hid z2
         have HEQ:=Lib.hid heq
         have HPG:Hid (¬ P=g):=Lib.hid (fun e=>HNP5.out (e ▸ HL5.out.1.lows.2.2.2))
         clear s1 s2 z1 z2 heq HXR HYR HPR HROW HLR HK5 HNAR HNP HNP5
         by_cases hfit:sizeT (sub r1 (cleanT x))≤200
         ·have p0:=(cellH HP5.out 0).trans rfl
          have p1:=(cellH HP5.out 1).trans rfl
          have p2:=(cellH HP5.out 2).trans rfl
          have p3:=(cellH HP5.out 3).trans rfl
          have p4:=(cellH HP5.out 4).trans rfl
          have p5:=(cellH HP5.out 5).trans rfl
          have p6:=(cellH HP5.out 6).trans rfl
          have p7:=(cellH HP5.out 7).trans rfl
          go_wp2_with fail
          go_at_call 16
          refine (ls_fit HERR.out HL5.out HX5.out HFP.out.1 HFP.out.2.2.1 HS1.out hfit).mono ?_
          rintro e wA ⟨vA,rfl,hLA,hkA,hvA⟩
          generalize hTA:sub r1 (cleanT x)=TA at hvA
          obtain ⟨e5,e6,e7,rfl⟩:=hvA.this
          have HTA:=Lib.hid hTA
          have hbA:=below_alloc wA (.cells #[.int .i64 TA.kind,.string TA.name,.int .i64 TA.var,.slice e5 e6 e7] 32)
          have HPA:=Lib.hid ((hbA.block P (Nat.lt_of_lt_of_le (Array.getElem?_eq_some_iff.1 HP5.out).1 hkA.size)).trans ((hkA.block P (Array.getElem?_eq_some_iff.1 HP5.out).1 HPG.out).trans HP5.out))
          have HXA:=Lib.hid ((TyW.step dp).below (tyGo HX5.out (hLA.kbg hkA) (fun _ _ e=>e)) hbA)
          have HYA:=Lib.hid ((TyW.step dp).below (tyGo HY5.out (hLA.kbg hkA) (fun _ _ e=>e)) hbA)
          have HRA:=Lib.hid ((RowW.step TyE.step).below (RowW.step TyE.step _ _ _ _ _ _ HR5.out (hLA.kbg hkA) (fun _ _ e=>e)) hbA)
          have HLA:=Lib.hid (hLA.below hbA)
          have HVA:=Lib.hid (TyE.step.below hvA hbA)
          have HBA:=Lib.hid (heap_alloc_new wA (.cells #[.int .i64 TA.kind,.string TA.name,.int .i64 TA.var,.slice e5 e6 e7] 32))
          have HGA:Hid (¬ wA.heap.size=g):=Lib.hid (fun e=>by have:=hLA.1.lows.2.1;omega)
          clear p0 p1 p2 p3 p4 p5 p6 p7 hLA hkA hvA hTA hbA HP5 HX5 HY5 HR5 HL5
          have p0:=(cellH HPA.out 0).trans rfl
          have p1:=(cellH HPA.out 1).trans rfl
          have p2:=(cellH HPA.out 2).trans rfl
          have p3:=(cellH HPA.out 3).trans rfl
          have p4:=(cellH HPA.out 4).trans rfl
          have p5:=(cellH HPA.out 5).trans rfl
          have p6:=(cellH HPA.out 6).trans rfl
          have p7:=(cellH HPA.out 7).trans rfl
          go_wp2_with fail
          generalize (wA.alloc (.cells #[.int .i64 TA.kind,.string TA.name,.int .i64 TA.var,.slice e5 e6 e7] 32))=WA at HPA HXA HYA HRA HLA HVA HBA p0 p1 p2 p3 p4 p5 p6 p7 ⊢
          generalize wA.heap.size=NA at HBA HGA ⊢
          go_at_call 16
          refine (ls_fit HERR.out HLA.out HYA.out HFP.out.2.1 HFP.out.2.2.2 HS2.out (by rw [← HEQ.out];exact hfit)).mono ?_
          rintro e wB ⟨vB,rfl,hLB,hkB,hvB⟩
          rw [← HEQ.out,HTA.out] at hvB
          obtain ⟨f5,f6,f7,rfl⟩:=hvB.this
          have hbB:=below_alloc wB (.cells #[.int .i64 TA.kind,.string TA.name,.int .i64 TA.var,.slice f5 f6 f7] 32)
          have HPB:=Lib.hid ((hbB.block P (Nat.lt_of_lt_of_le (Array.getElem?_eq_some_iff.1 HPA.out).1 hkB.size)).trans ((hkB.block P (Array.getElem?_eq_some_iff.1 HPA.out).1 HPG.out).trans HPA.out))
          have HBB:=Lib.hid ((hbB.block NA (Nat.lt_of_lt_of_le (Array.getElem?_eq_some_iff.1 HBA.out).1 hkB.size)).trans ((hkB.block NA (Array.getElem?_eq_some_iff.1 HBA.out).1 HGA.out).trans HBA.out))
          have HXB:=Lib.hid ((TyW.step dp).below (tyGo HXA.out (hLB.kbg hkB) (fun _ _ e=>e)) hbB)
          have HYB:=Lib.hid ((TyW.step dp).below (tyGo HYA.out (hLB.kbg hkB) (fun _ _ e=>e)) hbB)
          have HRB:=Lib.hid ((RowW.step TyE.step).below (RowW.step TyE.step _ _ _ _ _ _ HRA.out (hLB.kbg hkB) (fun _ _ e=>e)) hbB)
          have HVAB:=Lib.hid (TyE.step.below (TyE.step _ _ _ _ _ _ HVA.out (hLB.kbg hkB) (fun _ _ e=>e)) hbB)
          have HLB:=Lib.hid (hLB.below hbB)
          have HVB:=Lib.hid (TyE.step.below hvB hbB)
          have HBB2:=Lib.hid (heap_alloc_new wB (.cells #[.int .i64 TA.kind,.string TA.name,.int .i64 TA.var,.slice f5 f6 f7] 32))
          clear p0 p1 p2 p3 p4 p5 p6 p7 hLB hkB hvB hbB HPA HXA HYA HRA HLA HVA HBA
          go_wp2_with fail
          generalize (wB.alloc (.cells #[.int .i64 TA.kind,.string TA.name,.int .i64 TA.var,.slice f5 f6 f7] 32))=WB at HPB HBB HXB HYB HRB HVAB HLB HVB HBB2 ⊢
          generalize wB.heap.size=NB at HBB2 ⊢
          go_at_call 13
          refine (num_nil _).mono ?_
          rintro e wN ⟨rfl,rfl⟩
          go_wp2_with fail
          go_at_call 13
          refine (num_nil _).mono ?_
          rintro e wN ⟨rfl,rfl⟩
          have a0:=(cellH HBB.out 0).trans rfl
          have a1:=(cellH HBB.out 1).trans rfl
          have a2:=(cellH HBB.out 2).trans rfl
          have a3:=(cellH HBB.out 3).trans rfl
          have d0:=(cellH HBB2.out 0).trans rfl
          have d1:=(cellH HBB2.out 1).trans rfl
          have d2:=(cellH HBB2.out 2).trans rfl
          have d3:=(cellH HBB2.out 3).trans rfl
          go_wp2_with fail
          go_at_call 10
          refine (same_eq HVAB.out HVB.out).mono ?_
          rintro e wS ⟨rfl,hbS⟩
          have HPS:=Lib.hid ((hbS.block P (Array.getElem?_eq_some_iff.1 HPB.out).1).trans HPB.out)
          have HXS:=Lib.hid ((TyW.step dp).below HXB.out hbS)
          have HYS:=Lib.hid ((TyW.step dp).below HYB.out hbS)
          have HRS:=Lib.hid ((RowW.step TyE.step).below HRB.out hbS)
          have HLS:=Lib.hid (HLB.out.below hbS)
          clear hbS a0 a1 a2 a3 d0 d1 d2 d3 HPB HXB HYB HRB HLB HVAB HVB HBB HBB2
          have p0:=(cellH HPS.out 0).trans rfl
          have p1:=(cellH HPS.out 1).trans rfl
          have p2:=(cellH HPS.out 2).trans rfl
          have p3:=(cellH HPS.out 3).trans rfl
          have p4:=(cellH HPS.out 4).trans rfl
          have p5:=(cellH HPS.out 5).trans rfl
          have p6:=(cellH HPS.out 6).trans rfl
          have p7:=(cellH HPS.out 7).trans rfl
          go_wp2_with fail
          go_at_call 14
          refine (ls_again HERR.out (by omega) HLS.out HXS.out HYS.out HFP.out.1 HFP.out.2.1 HS1.out HS2.out HZ1.out HZ2.out HEQ.out).mono ?_
          rintro e wU ⟨Vol2,rfl,hLU,hkU,hnU,_⟩
          have HLU:=Lib.hid hLU
          have HRU:=Lib.hid (RowW.step TyE.step _ Vol2 _ _ _ _ HRS.out hkU hnU)
          clear hLU hkU hnU p0 p1 p2 p3 p4 p5 p6 p7 HPS HXS HYS HRS HLS
          go_wp2_with fail
          go_loopw [16] (fun t W=>∃ j:Nat,j≤i∧t=.int .i64 j∧Hid (LS w1.heap.size g i c w W r1 Vol2)∧Hid (RowW 4 TyE Vol2 ((List.range i).map r) (.slice (some ⟨S,0,none⟩) i cw) W)) (fun t _=>i - (intOf t).toNat)
          case atStart=>exact ⟨0,Nat.zero_le _,rfl,HLU,HRU⟩
          case round =>
           obtain ⟨j,hj,rfl,HLI4,HRI4⟩:=hrel
           by_cases hlt4:j < i
           ·have hdc:decide ((j:Int) < (i:Int))=true:=by simpa using hlt4
            have hi0:(0:Int)≤(j:Int):=by omega
            have hi1:(j:Int) < (i:Int):=by omega
            have hex:=HEXT.out j hlt4
            have hgr:=HRESR.out.good j hlt4
            have HFEW:=Lib.hid (HLI4.out.2.1 j hlt4)
            have HLT4:=Lib.hid hlt4
            go_wp2_with fail
            go_at_call 17
            refine (free_any _ _).mono ?_
            rintro e wF ⟨rfl,hbF⟩
            have HLF:=Lib.hid (HLI4.out.below hbF)
            have HRF:=Lib.hid ((RowW.step TyE.step).below HRI4.out hbF)
            clear hbF
            go_wp2_with fail
            go_at_call 16
            refine (ls_free HERR.out HLF.out (i:=j) HLT4.out).mono ?_
            rintro e w7 ⟨v7,rfl,hL7,hk7,hv7⟩
            generalize r1 j=z7 at hv7 hex HFEW
            obtain ⟨y5,y6,y7,rfl⟩:=hv7.this
            have hb7:=below_alloc w7 (.cells #[.int .i64 z7.kind,.string z7.name,.int .i64 z7.var,.slice y5 y6 y7] 32)
            have hrw:=(RowW.step TyE.step).below (RowW.step TyE.step _ _ _ _ _ _ HRF.out (hL7.kbg hk7) (fun _ _ e=>e)) hb7
            have HL7:=Lib.hid (hL7.below hb7)
            have HR7:=Lib.hid hrw
            have HV7:=Lib.hid (TyE.step.below hv7 hb7)
            have HX7:=Lib.hid (heap_alloc_new w7 (.cells #[.int .i64 z7.kind,.string z7.name,.int .i64 z7.var,.slice y5 y6 y7] 32))
            have HG7:Hid (¬ w7.heap.size=g):=Lib.hid (fun e=>by have:=hL7.1.lows.2.1;omega)
            obtain ⟨b8,o8,v8,e8,hb8l,_,hv8,hc8⟩:=RowW.at hrw j (by simpa using HLT4.out)
            injection e8 with e8
            injection e8 with e8 o8e
            subst e8
            subst o8e
            simp only [List.getElem_map,List.getElem_range,Nat.zero_add] at hv8 hc8
            generalize r j=z8 at hv8 hex hgr
            obtain ⟨x5,x6,x7,rfl⟩:=hv8.this
            have d0:=(hc8 0 (by decide)).trans rfl
            have d1:=(hc8 1 (by decide)).trans rfl
            have d2:=(hc8 2 (by decide)).trans rfl
            have d3:=(hc8 3 (by decide)).trans rfl
            simp only [cellsL,Value.cells,List.getElem?_cons_zero,List.getElem?_cons_succ,Nat.add_zero] at d0 d1 d2 d3
            have HV8:=Lib.hid hv8
            have HEX:=Lib.hid hex
            have HGR:=Lib.hid hgr
            clear hL7 hk7 hv7 hb7 hrw hv8 hc8 hb8l hex hgr
            go_wp2_with fail
            generalize (w7.alloc (.cells #[.int .i64 z7.kind,.string z7.name,.int .i64 z7.var,.slice y5 y6 y7] 32))=W7 at HL7 HR7 HV7 HV8 HX7 d0 d1 d2 d3 ⊢
            generalize w7.heap.size=N7 at HX7 HG7 ⊢
            go_at_call 16
            refine (ls_good HERR.out HL7.out HV8.out HGR.out (by rw [← HEX.out];exact HFEW.out)).mono ?_
            rintro e w9 ⟨v9,rfl,hL9,hk9,hv9⟩
            rw [← HEX.out] at hv9
            obtain ⟨t5,t6,t7,rfl⟩:=hv9.this
            have hb9:=below_alloc w9 (.cells #[.int .i64 z7.kind,.string z7.name,.int .i64 z7.var,.slice t5 t6 t7] 32)
            have HL9:=Lib.hid (hL9.below hb9)
            have HR9:=Lib.hid ((RowW.step TyE.step).below (RowW.step TyE.step _ _ _ _ _ _ HR7.out (hL9.kbg hk9) (fun _ _ e=>e)) hb9)
            have HV79:=Lib.hid (TyE.step.below (TyE.step _ _ _ _ _ _ HV7.out (hL9.kbg hk9) (fun _ _ e=>e)) hb9)
            have HV9:=Lib.hid (TyE.step.below hv9 hb9)
            have HX79:=Lib.hid ((hb9.block N7 (Nat.lt_of_lt_of_le (Array.getElem?_eq_some_iff.1 HX7.out).1 hk9.size)).trans ((hk9.block N7 (Array.getElem?_eq_some_iff.1 HX7.out).1 HG7.out).trans HX7.out))
            have a0:=(cellH HX79.out 0).trans rfl
            have a1:=(cellH HX79.out 1).trans rfl
            have a2:=(cellH HX79.out 2).trans rfl
            have a3:=(cellH HX79.out 3).trans rfl
            clear hL9 hk9 hv9 hb9 d0 d1 d2 d3
            go_wp2_with fail
            go_at_call 10
            refine (same_eq HV79.out HV9.out).mono ?_
            rintro e wS ⟨rfl,hbS⟩
            have HLS4:=Lib.hid (HL9.out.below hbS)
            have HRS4:=Lib.hid ((RowW.step TyE.step).below HR9.out hbS)
            clear hbS a0 a1 a2 a3
            go_wp2_with fail
            go_roundw
            case rel=>exact ⟨j+1,by have:=HLT4.out;omega,by go_num,HLS4,HRS4⟩
            case measure=>have:=HLT4.out;simp [intOf];omega
           ·obtain rfl:j=i:=by omega
            have hdc:decide ((j:Int) < (j:Int))=false:=by simp
            go_wp2_with fail
            go_roundw
            case rel=>exact ⟨k+1,by omega,by go_num,r1,Vol2,HLI4⟩
            case measure=>simp [intOf];omega
         ·have p0:=(cellH HP5.out 0).trans rfl
          have p1:=(cellH HP5.out 1).trans rfl
          have p2:=(cellH HP5.out 2).trans rfl
          have p3:=(cellH HP5.out 3).trans rfl
          have p4:=(cellH HP5.out 4).trans rfl
          have p5:=(cellH HP5.out 5).trans rfl
          have p6:=(cellH HP5.out 6).trans rfl
          have p7:=(cellH HP5.out 7).trans rfl
          go_wp2_with fail
          go_at_call 16
          refine (ls_big HERR.out HL5.out HX5.out HFP.out.1 HFP.out.2.2.1 HS1.out (by omega)).mono ?_
          rintro e wA ⟨rfl,hLA,hkA⟩
          have hbA:=below_alloc wA (.cells #[.int .i64 0,.string ⟨#[]⟩,.int .i64 0,.slice none 0 0] 32)
          have HPA:=Lib.hid ((hbA.block P (Nat.lt_of_lt_of_le (Array.getElem?_eq_some_iff.1 HP5.out).1 hkA.size)).trans ((hkA.block P (Array.getElem?_eq_some_iff.1 HP5.out).1 HPG.out).trans HP5.out))
          have HXA:=Lib.hid ((TyW.step dp).below (tyGo HX5.out (hLA.kbg hkA) (fun _ _ e=>e)) hbA)
          have HYA:=Lib.hid ((TyW.step dp).below (tyGo HY5.out (hLA.kbg hkA) (fun _ _ e=>e)) hbA)
          have HRA:=Lib.hid ((RowW.step TyE.step).below (RowW.step TyE.step _ _ _ _ _ _ HR5.out (hLA.kbg hkA) (fun _ _ e=>e)) hbA)
          have HLA:=Lib.hid (hLA.below hbA)
          have HBA:=Lib.hid (heap_alloc_new wA (.cells #[.int .i64 0,.string ⟨#[]⟩,.int .i64 0,.slice none 0 0] 32))
          have HGA:Hid (¬ wA.heap.size=g):=Lib.hid (fun e=>by have:=hLA.1.lows.2.1;omega)
          clear p0 p1 p2 p3 p4 p5 p6 p7 hLA hkA hbA HP5 HX5 HY5 HR5 HL5
          have p0:=(cellH HPA.out 0).trans rfl
          have p1:=(cellH HPA.out 1).trans rfl
          have p2:=(cellH HPA.out 2).trans rfl
          have p3:=(cellH HPA.out 3).trans rfl
          have p4:=(cellH HPA.out 4).trans rfl
          have p5:=(cellH HPA.out 5).trans rfl
          have p6:=(cellH HPA.out 6).trans rfl
          have p7:=(cellH HPA.out 7).trans rfl
          go_wp2_with fail
          generalize (wA.alloc (.cells #[.int .i64 0,.string ⟨#[]⟩,.int .i64 0,.slice none 0 0] 32))=WA at HPA HXA HYA HRA HLA HBA p0 p1 p2 p3 p4 p5 p6 p7 ⊢
          generalize wA.heap.size=NA at HBA HGA ⊢
          go_at_call 16
          refine (ls_big HERR.out HLA.out HYA.out HFP.out.2.1 HFP.out.2.2.2 HS2.out (by rw [← HEQ.out];omega)).mono ?_
          rintro e wB ⟨rfl,hLB,hkB⟩
          have hbB:=below_alloc wB (.cells #[.int .i64 0,.string ⟨#[]⟩,.int .i64 0,.slice none 0 0] 32)
          have HPB:=Lib.hid ((hbB.block P (Nat.lt_of_lt_of_le (Array.getElem?_eq_some_iff.1 HPA.out).1 hkB.size)).trans ((hkB.block P (Array.getElem?_eq_some_iff.1 HPA.out).1 HPG.out).trans HPA.out))
          have HBB:=Lib.hid ((hbB.block NA (Nat.lt_of_lt_of_le (Array.getElem?_eq_some_iff.1 HBA.out).1 hkB.size)).trans ((hkB.block NA (Array.getElem?_eq_some_iff.1 HBA.out).1 HGA.out).trans HBA.out))
          have HXB:=Lib.hid ((TyW.step dp).below (tyGo HXA.out (hLB.kbg hkB) (fun _ _ e=>e)) hbB)
          have HYB:=Lib.hid ((TyW.step dp).below (tyGo HYA.out (hLB.kbg hkB) (fun _ _ e=>e)) hbB)
          have HRB:=Lib.hid ((RowW.step TyE.step).below (RowW.step TyE.step _ _ _ _ _ _ HRA.out (hLB.kbg hkB) (fun _ _ e=>e)) hbB)
          have HLB:=Lib.hid (hLB.below hbB)
          have HBB2:=Lib.hid (heap_alloc_new wB (.cells #[.int .i64 0,.string ⟨#[]⟩,.int .i64 0,.slice none 0 0] 32))
          clear p0 p1 p2 p3 p4 p5 p6 p7 hLB hkB hbB HPA HXA HYA HRA HLA HBA
          go_wp2_with fail
          generalize (wB.alloc (.cells #[.int .i64 0,.string ⟨#[]⟩,.int .i64 0,.slice none 0 0] 32))=WB at HPB HBB HXB HYB HRB HLB HBB2 ⊢
          generalize wB.heap.size=NB at HBB2 ⊢
          go_at_call 13
          refine (num_at f 3 (by decide) WB (HE.out.below0 HLB.out.2.2.2)).mono ?_
          rintro e wN ⟨rfl,hbN⟩
          have HB1N:=Lib.hid hbN
          clear hbN
          go_wp2_with fail
          go_at_call 13
          refine (num_at f 3 (by decide) wN (HE.out.below0 (HLB.out.below HB1N.out).2.2.2)).mono ?_
          rintro e wM ⟨rfl,hbM⟩
          have hbNM:=HB1N.out.trans (hbM.mono HB1N.out.size)
          have HPM:=Lib.hid ((hbNM.block P (Array.getElem?_eq_some_iff.1 HPB.out).1).trans HPB.out)
          have HBM:=Lib.hid ((hbNM.block NA (Array.getElem?_eq_some_iff.1 HBB.out).1).trans HBB.out)
          have HBM2:=Lib.hid ((hbNM.block NB (Array.getElem?_eq_some_iff.1 HBB2.out).1).trans HBB2.out)
          have HXM:=Lib.hid ((TyW.step dp).below HXB.out hbNM)
          have HYM:=Lib.hid ((TyW.step dp).below HYB.out hbNM)
          have HRM:=Lib.hid ((RowW.step TyE.step).below HRB.out hbNM)
          have HLM:=Lib.hid (HLB.out.below hbNM)
          have hle:=(HLM.out.err HERR.out).err.large
          have heq3:=neqE_same (three f 0)
          have a0:=(cellH HBM.out 0).trans rfl
          have a1:=(cellH HBM.out 1).trans rfl
          have a2:=(cellH HBM.out 2).trans rfl
          have a3:=(cellH HBM.out 3).trans rfl
          have d0:=(cellH HBM2.out 0).trans rfl
          have d1:=(cellH HBM2.out 1).trans rfl
          have d2:=(cellH HBM2.out 2).trans rfl
          have d3:=(cellH HBM2.out 3).trans rfl
          clear hbM hbNM HB1N HPB HBB HBB2 HXB HYB HRB HLB
          go_wp2_with fail
          go_at_call 10
          refine (same_eq (Vol:=fun _=>False) (Vol2:=fun _=>False) (x:=.mk 0 ⟨#[]⟩ 0 []) ⟨1,_,rfl,RowW.nil _ _⟩ ⟨1,_,rfl,RowW.nil _ _⟩).mono ?_
          rintro e wS ⟨rfl,hbS⟩
          have HPS:=Lib.hid ((hbS.block P (Array.getElem?_eq_some_iff.1 HPM.out).1).trans HPM.out)
          have HXS:=Lib.hid ((TyW.step dp).below HXM.out hbS)
          have HYS:=Lib.hid ((TyW.step dp).below HYM.out hbS)
          have HRS:=Lib.hid ((RowW.step TyE.step).below HRM.out hbS)
          have HLS:=Lib.hid (HLM.out.below hbS)
          clear hbS a0 a1 a2 a3 d0 d1 d2 d3 HPM HXM HYM HRM HLM HBM HBM2 hle heq3
          have p0:=(cellH HPS.out 0).trans rfl
          have p1:=(cellH HPS.out 1).trans rfl
          have p2:=(cellH HPS.out 2).trans rfl
          have p3:=(cellH HPS.out 3).trans rfl
          have p4:=(cellH HPS.out 4).trans rfl
          have p5:=(cellH HPS.out 5).trans rfl
          have p6:=(cellH HPS.out 6).trans rfl
          have p7:=(cellH HPS.out 7).trans rfl
          go_wp2_with fail
          go_at_call 14
          refine (ls_again HERR.out (by omega) HLS.out HXS.out HYS.out HFP.out.1 HFP.out.2.1 HS1.out HS2.out HZ1.out HZ2.out HEQ.out).mono ?_
          rintro e wU ⟨Vol2,rfl,hLU,hkU,hnU,_⟩
          have HLU:=Lib.hid hLU
          have HRU:=Lib.hid (RowW.step TyE.step _ Vol2 _ _ _ _ HRS.out hkU hnU)
          clear hLU hkU hnU p0 p1 p2 p3 p4 p5 p6 p7 HPS HXS HYS HRS HLS
          go_wp2_with fail
          go_loopw [16] (fun t W=>∃ j:Nat,j≤i∧t=.int .i64 j∧Hid (LS w1.heap.size g i c w W r1 Vol2)∧Hid (RowW 4 TyE Vol2 ((List.range i).map r) (.slice (some ⟨S,0,none⟩) i cw) W)) (fun t _=>i - (intOf t).toNat)
          case atStart=>exact ⟨0,Nat.zero_le _,rfl,HLU,HRU⟩
          case round =>
           obtain ⟨j,hj,rfl,HLI4,HRI4⟩:=hrel
           by_cases hlt4:j < i
           ·have hdc:decide ((j:Int) < (i:Int))=true:=by simpa using hlt4
            have hi0:(0:Int)≤(j:Int):=by omega
            have hi1:(j:Int) < (i:Int):=by omega
            have hex:=HEXT.out j hlt4
            have hgr:=HRESR.out.good j hlt4
            have HFEW:=Lib.hid (HLI4.out.2.1 j hlt4)
            have HLT4:=Lib.hid hlt4
            go_wp2_with fail
            go_at_call 17
            refine (free_any _ _).mono ?_
            rintro e wF ⟨rfl,hbF⟩
            have HLF:=Lib.hid (HLI4.out.below hbF)
            have HRF:=Lib.hid ((RowW.step TyE.step).below HRI4.out hbF)
            clear hbF
            go_wp2_with fail
            go_at_call 16
            refine (ls_free HERR.out HLF.out (i:=j) HLT4.out).mono ?_
            rintro e w7 ⟨v7,rfl,hL7,hk7,hv7⟩
            generalize r1 j=z7 at hv7 hex HFEW
            obtain ⟨y5,y6,y7,rfl⟩:=hv7.this
            have hb7:=below_alloc w7 (.cells #[.int .i64 z7.kind,.string z7.name,.int .i64 z7.var,.slice y5 y6 y7] 32)
            have hrw:=(RowW.step TyE.step).below (RowW.step TyE.step _ _ _ _ _ _ HRF.out (hL7.kbg hk7) (fun _ _ e=>e)) hb7
            have HL7:=Lib.hid (hL7.below hb7)
            have HR7:=Lib.hid hrw
            have HV7:=Lib.hid (TyE.step.below hv7 hb7)
            have HX7:=Lib.hid (heap_alloc_new w7 (.cells #[.int .i64 z7.kind,.string z7.name,.int .i64 z7.var,.slice y5 y6 y7] 32))
            have HG7:Hid (¬ w7.heap.size=g):=Lib.hid (fun e=>by have:=hL7.1.lows.2.1;omega)
            obtain ⟨b8,o8,v8,e8,hb8l,_,hv8,hc8⟩:=RowW.at hrw j (by simpa using HLT4.out)
            injection e8 with e8
            injection e8 with e8 o8e
            subst e8
            subst o8e
            simp only [List.getElem_map,List.getElem_range,Nat.zero_add] at hv8 hc8
            generalize r j=z8 at hv8 hex hgr
            obtain ⟨x5,x6,x7,rfl⟩:=hv8.this
            have d0:=(hc8 0 (by decide)).trans rfl
            have d1:=(hc8 1 (by decide)).trans rfl
            have d2:=(hc8 2 (by decide)).trans rfl
            have d3:=(hc8 3 (by decide)).trans rfl
            simp only [cellsL,Value.cells,List.getElem?_cons_zero,List.getElem?_cons_succ,Nat.add_zero] at d0 d1 d2 d3
            have HV8:=Lib.hid hv8
            have HEX:=Lib.hid hex
            have HGR:=Lib.hid hgr
            clear hL7 hk7 hv7 hb7 hrw hv8 hc8 hb8l hex hgr
            go_wp2_with fail
            generalize (w7.alloc (.cells #[.int .i64 z7.kind,.string z7.name,.int .i64 z7.var,.slice y5 y6 y7] 32))=W7 at HL7 HR7 HV7 HV8 HX7 d0 d1 d2 d3 ⊢
            generalize w7.heap.size=N7 at HX7 HG7 ⊢
            go_at_call 16
            refine (ls_good HERR.out HL7.out HV8.out HGR.out (by rw [← HEX.out];exact HFEW.out)).mono ?_
            rintro e w9 ⟨v9,rfl,hL9,hk9,hv9⟩
            rw [← HEX.out] at hv9
            obtain ⟨t5,t6,t7,rfl⟩:=hv9.this
            have hb9:=below_alloc w9 (.cells #[.int .i64 z7.kind,.string z7.name,.int .i64 z7.var,.slice t5 t6 t7] 32)
            have HL9:=Lib.hid (hL9.below hb9)
            have HR9:=Lib.hid ((RowW.step TyE.step).below (RowW.step TyE.step _ _ _ _ _ _ HR7.out (hL9.kbg hk9) (fun _ _ e=>e)) hb9)
            have HV79:=Lib.hid (TyE.step.below (TyE.step _ _ _ _ _ _ HV7.out (hL9.kbg hk9) (fun _ _ e=>e)) hb9)
            have HV9:=Lib.hid (TyE.step.below hv9 hb9)
            have HX79:=Lib.hid ((hb9.block N7 (Nat.lt_of_lt_of_le (Array.getElem?_eq_some_iff.1 HX7.out).1 hk9.size)).trans ((hk9.block N7 (Array.getElem?_eq_some_iff.1 HX7.out).1 HG7.out).trans HX7.out))
            have a0:=(cellH HX79.out 0).trans rfl
            have a1:=(cellH HX79.out 1).trans rfl
            have a2:=(cellH HX79.out 2).trans rfl
            have a3:=(cellH HX79.out 3).trans rfl
            clear hL9 hk9 hv9 hb9 d0 d1 d2 d3
            go_wp2_with fail
            go_at_call 10
            refine (same_eq HV79.out HV9.out).mono ?_
            rintro e wS ⟨rfl,hbS⟩
            have HLS4:=Lib.hid (HL9.out.below hbS)
            have HRS4:=Lib.hid ((RowW.step TyE.step).below HR9.out hbS)
            clear hbS a0 a1 a2 a3
            go_wp2_with fail
            go_roundw
            case rel=>exact ⟨j+1,by have:=HLT4.out;omega,by go_num,HLS4,HRS4⟩
            case measure=>have:=HLT4.out;simp [intOf];omega
           ·obtain rfl:j=i:=by omega
            have hdc:decide ((j:Int) < (j:Int))=false:=by simp
            go_wp2_with fail
            go_roundw
            case rel=>exact ⟨k+1,by omega,by go_num,r1,Vol2,HLI4⟩
            case measure=>simp [intOf];omega
        ·go_wp2_with fail
         go_roundw
         case rel=>exact ⟨k+1,by omega,by go_num,r1,Vol1,HL5⟩
         case measure=>simp [intOf];omega
    ·obtain rfl:k=l.length:=by omega
     have hdc:decide (l.length < l.length)=false:=by simp
     go_wp2_with fail
     go_ret
     exact ⟨rfl,HLK.out.2.2.2⟩
end Lx
end Go.Proofs.YtiamniljgdjakaaDoor
