/- The walk of the statement DataSizes: it returns true. Conditions: the error variables hold their errors; the data are ones that memory holds. -/
import Derived.Test.YtnpacamcgifabaaDoorDg
namespace Go.Proofs.YtnpacamcgifabaaDoor
set_option linter.unusedSimpArgs false
set_option linter.unusedVariables false
namespace Lx
open Go Go.RowKit
set_option maxRecDepth 100000 in
set_option maxHeartbeats 8000000 in
theorem lawSizes_any (f:Nat→Addr) (d:Nat) (x:DaT) (v:Value) (w:World) (hv:DaW (d+1) (fun _=>False) x v w) (he:ErrD f w) :
  Calls Tryd.prog 10 #[v] w fun e w'=>e=.returned (.bool true)∧Below w.heap.size w w':=by
 have hv0:=hv
 obtain ⟨c,n,s,l⟩:=x
 obtain ⟨va,rfl,hr⟩:=hv
 obtain ⟨A,k,rfl⟩:=hr.slice
 have hfew:=hr.few
 unfold maxLen at hfew
 have hb:=below_alloc w (.cells #[.bool c,.int .i64 n,.string s,.slice A l.length k] 68)
 have HB:=Lib.hid hb
 have HV:=Lib.hid ((DaW.step (d+1)).below hv0 hb)
 have HR:=Lib.hid ((RowW.step (DaW.step d)).below hr hb)
 have HX:=Lib.hid (heap_alloc_new w (.cells #[.bool c,.int .i64 n,.string s,.slice A l.length k] 68))
 have HAL:=Lib.hid (dalive_any f _ (he.stay hb))
 clear hv0 hr hb he
 go_enter Tryd.func10,Tryd.ntmps10
 go_wp2_with fail
 generalize (w.alloc (.cells #[.bool c,.int .i64 n,.string s,.slice A l.length k] 68))=W at HB HV HR HX HAL ⊢
 try go_at_call 36
 refine HAL.out.mono ?_
 rintro e w1 ⟨rfl,hb1⟩
 have HZ:Hid (w.heap.size≤W.heap.size):=Lib.hid HB.out.size
 have HB1:=Lib.hid (HB.out.trans (hb1.mono HZ.out))
 have HX1:=Lib.hid ((hb1.block w.heap.size (Array.getElem?_eq_some_iff.1 HX.out).1).trans HX.out)
 have HV1:=Lib.hid ((DaW.step (d+1)).below HV.out hb1)
 have HR1:=Lib.hid ((RowW.step (DaW.step d)).below HR.out hb1)
 clear hb1 HAL HB HX HV HR
 have x0:=(cellH HX1.out 0).trans rfl
 have x1:=(cellH HX1.out 1).trans rfl
 have x2:=(cellH HX1.out 2).trans rfl
 have x3:=(cellH HX1.out 3).trans rfl
 go_wp2_with fail
 clear x0 x1 x2 x3
 try go_at_call 43
 refine (rgood_any (d+1) _ _ _ w1 HV1.out).mono ?_
 rintro e w2 ⟨rfl,hb2⟩
 have HB2:=Lib.hid (HB1.out.trans (hb2.mono HB1.out.size))
 have HX2:=Lib.hid ((hb2.block w.heap.size (Array.getElem?_eq_some_iff.1 HX1.out).1).trans HX1.out)
 have HV2:=Lib.hid ((DaW.step (d+1)).below HV1.out hb2)
 have HR2:=Lib.hid ((RowW.step (DaW.step d)).below HR1.out hb2)
 clear hb2 HX1 HV1 HR1 HB1
 obtain ⟨G,hG⟩:∃ G,goodD (.mk c n s l)=G:=⟨_,rfl⟩
 have HG:=Lib.hid hG
 rw [hG]
 clear hG
 cases G
 ·cases c
  ·have x0:=(cellH HX2.out 0).trans rfl
   have x1:=(cellH HX2.out 1).trans rfl
   have x2:=(cellH HX2.out 2).trans rfl
   have x3:=(cellH HX2.out 3).trans rfl
   go_wp2_with fail
   clear x0 x1 x2 x3
   try go_at_call 46
   refine (nodes_any (d+1) _ _ _ w2 HV2.out).mono ?_
   rintro e w3 ⟨rfl,hb3⟩
   have HB3:=Lib.hid (HB2.out.trans (hb3.mono HB2.out.size))
   clear hb3
   obtain ⟨N,hN,h1⟩:∃ N:Nat,min (sizeD (.mk false n s l)) 4097=N∧1≤N:=⟨_,rfl,by have:=sizeD_pos (.mk false n s l);omega⟩
   rw [hN]
   have hd1:decide (1≤N)=true:=by simpa using h1
   have hd2:decide ((1:Int)≤(N:Int))=true:=by simp;omega
   have hd3:decide ((N:Int) ≥ (1:Int))=true:=by simp;omega
   go_wp2_with fail
   go_ret
   exact ⟨by first | rfl | simp [hd1,hd2,hd3],HB3.out⟩
  ·have x0:=(cellH HX2.out 0).trans rfl
   have x1:=(cellH HX2.out 1).trans rfl
   have x2:=(cellH HX2.out 2).trans rfl
   have x3:=(cellH HX2.out 3).trans rfl
   go_wp2_with fail
   clear x0 x1 x2 x3
   try go_at_call 46
   refine (nodes_any (d+1) _ _ _ w2 HV2.out).mono ?_
   rintro e w3 ⟨rfl,hb3⟩
   have HB3:=Lib.hid (HB2.out.trans (hb3.mono HB2.out.size))
   clear hb3
   obtain ⟨N,hN,h1⟩:∃ N:Nat,min (sizeD (.mk true n s l)) 4097=N∧1≤N:=⟨_,rfl,by have:=sizeD_pos (.mk true n s l);omega⟩
   rw [hN]
   have hd1:decide (1≤N)=true:=by simpa using h1
   have hd2:decide ((1:Int)≤(N:Int))=true:=by simp;omega
   have hd3:decide ((N:Int) ≥ (1:Int))=true:=by simp;omega
   go_wp2_with fail
   go_ret
   exact ⟨by first | rfl | simp [hd1,hd2,hd3],HB3.out⟩
 ·cases c
  ·have x0:=(cellH HX2.out 0).trans rfl
   have x1:=(cellH HX2.out 1).trans rfl
   have x2:=(cellH HX2.out 2).trans rfl
   have x3:=(cellH HX2.out 3).trans rfl
   go_wp2_with fail
   clear x0 x1 x2 x3
   try go_at_call 46
   refine (nodes_any (d+1) _ _ _ w2 HV2.out).mono ?_
   rintro e w3 ⟨rfl,hb3⟩
   have HB3:=Lib.hid (HB2.out.trans (hb3.mono HB2.out.size))
   clear hb3
   obtain ⟨N,hN,h1⟩:∃ N:Nat,min (sizeD (.mk false n s l)) 4097=N∧1≤N:=⟨_,rfl,by have:=sizeD_pos (.mk false n s l);omega⟩
   rw [hN]
   have hd1:decide (1≤N)=true:=by simpa using h1
   have hd2:decide ((1:Int)≤(N:Int))=true:=by simp;omega
   have hd3:decide ((N:Int) ≥ (1:Int))=true:=by simp;omega
   go_wp2_with fail
   go_ret
   exact ⟨by first | rfl | simp [hd1,hd2,hd3],HB3.out⟩
  ·have hgs:1+sizeDs l≤4096:=by
    have h:=HG.out
    unfold goodD at h
    simp only [Bool.and_eq_true,decide_eq_true_eq] at h
    have h2:=h.1
    rw [sizeD] at h2
    simpa using h2
   have HGS:=Lib.hid hgs
   clear hgs
   have x0:=(cellH HX2.out 0).trans rfl
   have x1:=(cellH HX2.out 1).trans rfl
   have x2:=(cellH HX2.out 2).trans rfl
   have x3:=(cellH HX2.out 3).trans rfl
   go_wp2_with fail
   clear x0 x1 x2 x3
   go_loopw [3,22] (fun u t wr=>∃ i:Nat,i≤l.length∧t=.int .i64 i∧u=.int .i64 ((1+sizeDs (l.take i):Nat):Int)∧Hid (Below w2.heap.size w2 wr)) (fun _ t _=>l.length - (intOf t).toNat)
   case atStart=>exact ⟨0,Nat.zero_le _,rfl,by rw [List.take_zero,sizeDs];rfl,Lib.hid (Below.refl _ _)⟩
   case round =>
    obtain ⟨i,hi,rfl,rfl,HBR⟩:=hrel
    by_cases hlt:i < l.length
    ·obtain ⟨gg,o,vi,rfl,hg,_,hvi,hc⟩:=RowW.at ((RowW.step (DaW.step d)).below HR2.out HBR.out) i hlt
     obtain ⟨B1,n1,m1,rfl⟩:=hvi.this
     have a0:=(hc 0 (by decide)).trans rfl
     have a1:=(hc 1 (by decide)).trans rfl
     have a2:=(hc 2 (by decide)).trans rfl
     have a3:=(hc 3 (by decide)).trans rfl
     simp only [cellsL,Value.cells,List.getElem?_cons_zero,List.getElem?_cons_succ,Nat.add_zero] at a0 a1 a2 a3
     have hi0:(0:Int)≤(i:Int):=by omega
     have hi1:(i:Int) < (l.length:Int):=by omega
     have hdc:decide (i < l.length)=true:=by simpa using hlt
     have hst:=sizeDs_take hlt
     have hsp:=sizeDs_part l (i+1)
     have HLT:=Lib.hid hlt
     generalize hyy:l[i]=y at hvi a0 a1 a2 a3 hst
     have hbx:=below_alloc wr (.cells #[.bool y.ctor,.int .i64 y.int,.string y.name,.slice B1 n1 m1] 68)
     have HVI:=Lib.hid ((DaW.step d).below hvi hbx)
     have HXB:=Lib.hid (heap_alloc_new wr (.cells #[.bool y.ctor,.int .i64 y.int,.string y.name,.slice B1 n1 m1] 68))
     have HBX:=Lib.hid (HBR.out.trans (hbx.mono HBR.out.size))
     have hbd:1+sizeDs (l.take i)+sizeD y≤4096:=by have:=HGS.out;omega
     have HBD:=Lib.hid hbd
     have HST:Hid (1+sizeDs (l.take (i+1))=1+sizeDs (l.take i)+sizeD y):=Lib.hid (by omega)
     obtain ⟨N,hN⟩:∃ N:Nat,1+sizeDs (l.take i)=N:=⟨_,rfl⟩
     rw [hN] at HBD HST
     rw [hN]
     clear hvi hbx hst hsp hyy hlt hc hbd hN
     have b0:=(cellH HXB.out 0).trans rfl
     have b1:=(cellH HXB.out 1).trans rfl
     have b2:=(cellH HXB.out 2).trans rfl
     have b3:=(cellH HXB.out 3).trans rfl
     go_wp2_with fail
     clear a0 a1 a2 a3 b0 b1 b2 b3 hdc
     try go_at_call 46
     refine (nodes_any d _ y _ _ HVI.out).mono ?_
     rintro e w3 ⟨rfl,hb3⟩
     rw [show min (sizeD y) 4097=sizeD y by have:=HBD.out;omega]
     have HB3:=Lib.hid (HBX.out.trans (hb3.mono HBX.out.size))
     have hbd:=HBD.out
     clear hb3
     go_wp2_with fail
     go_roundw
     case rel=>exact ⟨i+1,by have:=HLT.out;omega,by go_num,by rw [HST.out];go_num,HB3⟩
     case measure=>have:=HLT.out;simp [intOf];omega
    ·obtain rfl:i=l.length:=by omega
     have hdc:decide (l.length < l.length)=false:=by simp
     rw [List.take_length]
     have HV4:=Lib.hid ((DaW.step (d+1)).below HV2.out HBR.out)
     have HX4:=Lib.hid ((HBR.out.block w.heap.size (Array.getElem?_eq_some_iff.1 HX2.out).1).trans HX2.out)
     have HB4:=Lib.hid (HB2.out.trans (HBR.out.mono HB2.out.size))
     have x0:=(cellH HX4.out 0).trans rfl
     have x1:=(cellH HX4.out 1).trans rfl
     have x2:=(cellH HX4.out 2).trans rfl
     have x3:=(cellH HX4.out 3).trans rfl
     go_wp2_with fail
     clear x0 x1 x2 x3 hdc
     try go_at_call 46
     refine (nodes_any (d+1) _ _ _ wr HV4.out).mono ?_
     rintro e w5 ⟨rfl,hb5⟩
     have HB5:=Lib.hid (HB4.out.trans (hb5.mono HB4.out.size))
     have HX5:=Lib.hid ((hb5.block w.heap.size (Array.getElem?_eq_some_iff.1 HX4.out).1).trans HX4.out)
     have HV5:=Lib.hid ((DaW.step (d+1)).below HV4.out hb5)
     clear hb5
     obtain ⟨N,hN,hN2⟩:∃ N:Nat,min (sizeD (.mk true n s l)) 4097=N∧1+sizeDs l=N:=⟨_,rfl,by rw [sizeD];simp;have:=HGS.out;omega⟩
     rw [hN,hN2]
     have hee:((N:Int) == (N:Int))=true:=beq_self_eq_true _
     have hee2:(N == N)=true:=beq_self_eq_true _
     have x0:=(cellH HX5.out 0).trans rfl
     have x1:=(cellH HX5.out 1).trans rfl
     have x2:=(cellH HX5.out 2).trans rfl
     have x3:=(cellH HX5.out 3).trans rfl
     go_wp2_with fail
     clear x0 x1 x2 x3
     try go_at_call 47
     refine (good_any (d+1) _ _ _ w5 HV5.out).mono ?_
     rintro e w6 ⟨rfl,hb6⟩
     rw [HG.out]
     have HB6:=Lib.hid (HB5.out.trans (hb6.mono HB5.out.size))
     clear hb6
     go_wp2_with fail
     go_ret
     exact ⟨rfl,HB6.out⟩
end Lx
end Go.Proofs.YtnpacamcgifabaaDoor
