/- The reference printer at goals: their forms. Conditions: the terms numbers are a machine s; at most 2^40 bytes. -/
import Derived.Test.YtajomoclbpobhaaGreatDoorQi
import Derived.Test.YtajomoclbpobhaaGreatDoorSameA
import Derived.Deep.Cut
namespace Go.Proofs.YtajomoclbpobhaaGreatDoor
set_option linter.unusedSimpArgs false
set_option linter.unusedVariables false
namespace Lx
open Go Go.RowKit
mutual
/-- What a goal's forms come to: none is past 2^40 bytes. -/
def goalFit:GoalT→Prop
 | .mk k a b _ l gs=>(termOk a∧termOk b∧termsOk l)∧gs.length≤1099511627776∧kidsFit k gs
def kidsFit (k:Int):List GoalT→Prop
 | []=>True
 | g :: l=>((innerF k g).length≤1099511627776∧goalFit g)∧kidsFit k l
end
theorem kidsFit_iff (k:Int):∀ l,kidsFit k l ↔ ∀ x ∈ l,(innerF k x).length≤1099511627776∧goalFit x
 | []=>by simp [kidsFit]
 | x :: l=>by rw [kidsFit,kidsFit_iff k l];simp
def partI (k:Int) (gs:List GoalT) (i:Nat):List UInt8:=match gs[i]? with
 | some x=>innerF k x
 | none=>[]
theorem partI_ge {k:Int} {gs:List GoalT} {i:Nat} (h:gs.length≤i):partI k gs i=[]:=by
 unfold partI
 rw [List.getElem?_eq_none h]
theorem partI_lt {k:Int} {gs:List GoalT} {i:Nat} (h:i < gs.length):partI k gs i=(gs.map (innerF k))[i]'(by simpa using h):=by
 unfold partI
 rw [List.getElem?_eq_getElem h]
 simp
theorem partW_I {k:Int} (hk:k=7 ∨ k=9) (gs:List GoalT) (i:Nat):partW (goalsF gs) i=partI k gs i:=by
 rw [goalsF_map]
 unfold partW partI
 rw [List.getElem?_map]
 cases gs[i]? with
 | none=>rfl
 | some x =>
  show primW _=innerF k x
  unfold innerF
  rcases hk with rfl | rfl <;> simp
theorem Wds.emptyAt {w0 wr:World} (ws:List (List UInt8)) (h:Below w0.heap.size w0 wr) {cs:Array Value} (hs:cs.size=0) {n:Nat} (hn:wr.heap.size=n):Wds w0 ws 0 (some ⟨n,0,none⟩) 0 (wr.alloc (.cells cs 9)):=by
 subst hn
 exact Wds.empty ws h hs
theorem mapW_5 (gs:List GoalT):(goalsF gs).map primW=gs.map (innerF 5):=by
 rw [goalsF_map,List.map_map]
 exact List.map_congr_left fun x _=>by simp [innerF]
theorem mapW_6 (gs:List GoalT):(goalsF gs).map conjW=gs.map (innerF 6):=by
 rw [goalsF_map,List.map_map]
 exact List.map_congr_left fun x _=>by simp [innerF]
set_option maxRecDepth 100000 in
set_option maxHeartbeats 4000000 in
theorem r3goal_step (d:Nat) (IH:Hid (Says 13 (GoalV d) goalFit goalF)):Says 13 (GoalV (d+1)) goalFit goalF:=by
 rintro ⟨k,ta,tb,s,xs,gs⟩ v lo hi w hv hok hh hl
 rw [goalFit,termsOk_iff,kidsFit_iff] at hok
 obtain ⟨⟨oka,okb,okl⟩,hfew,okg⟩:=hok
 obtain ⟨y2,y3,y4,y5,y6,y7,y8,y9,y10,y11,y12,y13,y14,y15,y16,y17,y18,y19,y20,e1⟩:=GoalV.shape _ _ _ _ _ _ hv
 have e2:v=.agg #[.int .i64 k,.int .i64 y2,.string y3,.int .i64 y4,.slice y5 y6 y7,.int .i64 y8,.string y9,.int .i64 y10,.slice y11 y12 y13,.string y14,.slice y15 y16 y17,.slice y18 y19 y20]:=e1
 clear e1
 subst e2
 obtain ⟨p0,p1,p2,p3,p4,p5,p6,p7,pa,pg,hp,A1,B1,L1,G1⟩:=hv
 simp only [Value.agg.injEq,Array.mk.injEq,List.cons.injEq,and_true,true_and] at hp
 obtain ⟨rfl,rfl,rfl,rfl,rfl,rfl,rfl,rfl,e14,rfl,rfl⟩:=hp
 injection e14 with e14
 subst e14
 have hce:∀ x v lo hi w,GoalV d x v lo hi w→(cellsL v).length=12:=fun x v lo hi w h=>GoalV.cells h
 obtain ⟨A,c,e9,_⟩:=G1.at hce (by decide)
 injection e9 with e9 e10 e11
 subst e9 e10 e11
 have hF:goalF (.mk k ta tb s xs gs)=goalW k (termF ta) (termF tb) s (termsF xs) (goalsF gs):=by rw [goalF]
 rw [termsF_map] at hF
 rw [hF] at hl ⊢
 clear hF
 have hb1:Below w.heap.size w (w.alloc (.cells #[.int .i64 k,.int .i64 y2,.string y3,.int .i64 y4,.slice y5 y6 y7,.int .i64 y8,.string y9,.int .i64 y10,.slice y11 y12 y13,.string (bs s),.slice y15 y16 y17,.slice y18 gs.length y20] 31)):=(Below.refl _ _).alloc (Nat.le_refl _) _
 have HB1:=Lib.hid hb1
 have hz1:(w.alloc (.cells #[.int .i64 k,.int .i64 y2,.string y3,.int .i64 y4,.slice y5 y6 y7,.int .i64 y8,.string y9,.int .i64 y10,.slice y11 y12 y13,.string (bs s),.slice y15 y16 y17,.slice y18 gs.length y20] 31)).heap.size=w.heap.size+1:=by simp
 have HTA:=Lib.hid (stays (TermV.stable 66) A1 hb1 hh)
 have HTB:=Lib.hid (stays (TermV.stable 66) B1 hb1 hh)
 have HXS:=Lib.hid (stays (ArgsV.stable _ _ (TermV.stable 66)) L1 hb1 hh)
 have HV:=Lib.hid (stays (ArgsV.stable _ _ (GoalV.stable d)) G1 hb1 hh)
 have HOK:=Lib.hid okg
 have HOA:=Lib.hid oka
 have HOB:=Lib.hid okb
 have HOL:=Lib.hid okl
 have hhi:hi≤(w.alloc (.cells #[.int .i64 k,.int .i64 y2,.string y3,.int .i64 y4,.slice y5 y6 y7,.int .i64 y8,.string y9,.int .i64 y10,.slice y11 y12 y13,.string (bs s),.slice y15 y16 y17,.slice y18 gs.length y20] 31)).heap.size:=by omega
 have HBX:=Lib.hid (show (w.alloc (.cells #[.int .i64 k,.int .i64 y2,.string y3,.int .i64 y4,.slice y5 y6 y7,.int .i64 y8,.string y9,.int .i64 y10,.slice y11 y12 y13,.string (bs s),.slice y15 y16 y17,.slice y18 gs.length y20] 31)).heap[w.heap.size]?=_ from heap_alloc_new w _)
 obtain ⟨i0,hi0,hi1,hi2,hi3⟩:=info_parts infoSt
 have HI0:=Lib.hid hi0
 have HI1:=Lib.hid hi1
 have HI2:=Lib.hid hi2
 have HI3:=Lib.hid hi3
 have HL:=Lib.hid hl
 clear hi0 hi1 hi2 hi3 A1 B1 L1 G1 oka okb okl okg hb1 hl
 go_enter Tryz.func13,Tryz.ntmps13
 go_wp2_with fail
 have HST:=Lib.hid (Wds.emptyAt (w0:=(w.alloc (.cells #[.int .i64 k,.int .i64 y2,.string y3,.int .i64 y4,.slice y5 y6 y7,.int .i64 y8,.string y9,.int .i64 y10,.slice y11 y12 y13,.string (bs s),.slice y15 y16 y17,.slice y18 gs.length y20] 31))) (gs.map (innerF k)) (Below.refl _ _) (cs:=#[]) rfl hz1)
 go_loopw [3,12] (fun sl t wr=>∃ n A' cap',n≤gs.length∧t=.int .i64 (n:Nat)∧sl=.slice A' n cap'∧Hid (Wds (w.alloc (.cells #[.int .i64 k,.int .i64 y2,.string y3,.int .i64 y4,.slice y5 y6 y7,.int .i64 y8,.string y9,.int .i64 y10,.slice y11 y12 y13,.string (bs s),.slice y15 y16 y17,.slice y18 gs.length y20] 31)) (gs.map (innerF k)) n A' cap' wr)) (fun _ t _=>gs.length - (intOf t).toNat)
 case atStart=>exact ⟨0,_,_,Nat.zero_le _,rfl,rfl,HST⟩
 case round =>
  obtain ⟨n,A',cap',hn,rfl,rfl,HI⟩:=hrel
  have hsz:=HI.out.below.size
  have HXB:=Lib.hid ((HI.out.below.block w.heap.size (by omega)).trans HBX.out)
  by_cases hlt:n < gs.length
  ·have r1:=stays (ArgsV.stable _ _ (GoalV.stable d)) HV.out HI.out.below hhi
   obtain ⟨_,_,q1,r1⟩:=r1.at hce (by decide)
   injection q1 with q1 _ qc1
   subst q1
   clear qc1
   obtain ⟨g1,u1,p1,t1,rfl,_,m1,hv1,cc1⟩:=r1 n hlt
   obtain ⟨z0,z1,z2,z3,z4,z5,z6,z7,z8,z9,z10,z11,z12,z13,z14,z15,z16,z17,z18,z19,rfl⟩:=GoalV.this d _ _ _ _ _ hv1
   have a0:=(cc1 0 (by decide)).trans rfl
   have a1:=(cc1 1 (by decide)).trans rfl
   have a2:=(cc1 2 (by decide)).trans rfl
   have a3:=(cc1 3 (by decide)).trans rfl
   have a4:=(cc1 4 (by decide)).trans rfl
   have a5:=(cc1 5 (by decide)).trans rfl
   have a6:=(cc1 6 (by decide)).trans rfl
   have a7:=(cc1 7 (by decide)).trans rfl
   have a8:=(cc1 8 (by decide)).trans rfl
   have a9:=(cc1 9 (by decide)).trans rfl
   have a10:=(cc1 10 (by decide)).trans rfl
   have a11:=(cc1 11 (by decide)).trans rfl
   simp only [cellsL,Value.cells,List.getElem?_cons_zero,List.getElem?_cons_succ,Nat.add_zero] at a0 a1 a2 a3 a4 a5 a6 a7 a8 a9 a10 a11
   have HV1:=Lib.hid (stays (GoalV.stable d) hv1 ((Below.refl wr.heap.size wr).alloc (Nat.le_refl _) (.cells #[.int .i64 z0,.int .i64 z1,.string z2,.int .i64 z3,.slice z4 z5 z6,.int .i64 z7,.string z8,.int .i64 z9,.slice z10 z11 z12,.string z13,.slice z14 z15 z16,.slice z17 z18 z19] 31)) (by omega))
   have hk0:(0:Int)≤(n:Int):=by omega
   have hk1:(n:Int) < (gs.length:Int):=by omega
   have hdc:decide (n < gs.length)=true:=by simpa using hlt
   have hkm:n < (gs.map (innerF k)).length:=by simpa using hlt
   have hz3:(wr.alloc (.cells #[.int .i64 z0,.int .i64 z1,.string z2,.int .i64 z3,.slice z4 z5 z6,.int .i64 z7,.string z8,.int .i64 z9,.slice z10 z11 z12,.string z13,.slice z14 z15 z16,.slice z17 z18 z19] 31)).heap.size=wr.heap.size+1:=by simp
   have HB2:=Lib.hid ((Below.refl wr.heap.size wr).alloc (Nat.le_refl _) (.cells #[.int .i64 z0,.int .i64 z1,.string z2,.int .i64 z3,.slice z4 z5 z6,.int .i64 z7,.string z8,.int .i64 z9,.slice z10 z11 z12,.string z13,.slice z14 z15 z16,.slice z17 z18 z19] 31))
   have hok:=HOK.out _ (List.getElem_mem hlt)
   have hok1:=hok.1
   have HOKn:=Lib.hid hok.2
   have d0:wr.cell? ⟨w.heap.size,0,none⟩=some (.int .i64 k):=(Lib.cell_of_heap HXB.out 0).trans rfl
   have hlt2:w.heap.size < wr.heap.size:=by omega
   clear cc1 hv1 r1 hok
   have e9:(gs.map (innerF k))[n]=innerF k gs[n]:=by simp
   go_wp2_with (first | (go_at_call 39;refine (r3inner d goalFit IH k gs[n] _ p1 t1 _ HV1.out HOKn.out (by omega) hok1).mono ?_;rintro e w3 ⟨rfl,hb3⟩;have HB3:=Lib.hid (HB2.out.trans (hb3.mono HB2.out.size));have HO4:=Lib.hid (own_below HI.out.own HB3.out);have hs3:=HB3.out.size;clear hb3 HV1 hz3 HB2 d0 a0 a1 a2 a3 a4 a5 a6 a7 a8 a9 a10 a11) | (at_builtin;refine wpList_append_lies _ rfl _ _ 22 rfl _ 9 i0 (.string ⟨#[]⟩) 1 16 Tryz.underlying22 HI0.out HI1.out HI2.out HI3.out rfl (by decide) _ _ _ rfl (own_below HO4.out ((Below.refl _ _).alloc (Nat.le_refl _) _)) ⟨w3.heap.size,0,none⟩ 1 1 [.string (bs (innerF k gs[n]))] rfl rfl (cells_new _ #[.string (bs (innerF k gs[n]))] _ _ rfl) (by simp [Value.oneCell']) (by decide) (by unfold maxLen;omega) (by omega) (by simp;omega) _ rfl ?_;intro g2 cap2 w6 hown6 hg6 _ _;have HNX:=Lib.hid (Wds.next HI.out hkm e9 HB3.out hown6 hg6);clear hown6 hg6))
   go_roundw
   case rel=>exact ⟨n+1,_,_,by omega,by go_num,rfl,HNX⟩
   case measure=>simp [intOf];omega
  ·obtain rfl:n=gs.length:=by omega
   have hdc:decide (gs.length < gs.length)=false:=by simp
   have HD:=HI.out
   rw [show gs.length=(gs.map (innerF k)).length by simp] at HD
   have hSR:=HD.done (by rw [List.length_map];omega)
   rw [List.length_map] at hSR
   have HSR:=Lib.hid hSR
   have HBW:=Lib.hid (HB1.out.trans (HI.out.below.mono HB1.out.size))
   have HTA2:=Lib.hid (stays (TermV.stable 66) HTA.out HI.out.below hhi)
   have HTB2:=Lib.hid (stays (TermV.stable 66) HTB.out HI.out.below hhi)
   have HXS2:=Lib.hid (stays (ArgsV.stable _ _ (TermV.stable 66)) HXS.out HI.out.below hhi)
   have hlt2:w.heap.size < wr.heap.size:=by omega
   have hhw:hi≤wr.heap.size:=by omega
   have HHW:=Lib.hid hhw
   have HLT:=Lib.hid hlt2
   clear HD hSR HI HTA HTB HXS HV hsz hz1 hn hhi hhw hlt2 HST HI0 HI1 HI2 HI3 HB1 HBX
   obtain ⟨AA,cpp,e5,_,hrow⟩:=HSR.out
   injection e5 with e5 e7 e6
   clear e7
   subst e5 e6
   have HROW:=Lib.hid hrow
   clear hrow
   go_upto_if 26 with fail
   go_cut [6] from 24 (fun sv wc=>sv=.string (bs (partI k gs 0))∧Hid (wc=wr))
   case first =>
    rcases Nat.lt_or_ge 0 gs.length with h0 | h0
    ·obtain ⟨b2,o2,rfl,hb2,hc2⟩:=HROW.out (by intro e;rw [List.map_eq_nil_iff] at e;rw [e] at h0;simp at h0)
     have hcz:=hc2 0 (by simpa using h0)
     have hq:decide (0 < gs.length)=true:=decide_eq_true h0
     have hk1:(0:Int) < (gs.length:Int):=by omega
     try simp only [Nat.add_zero] at hcz
     have hE:=partI_lt (k:=k) h0
     generalize hf:(gs.map (innerF k))[0]'_=fst at hcz hE
     have HE:=Lib.hid hE
     clear hc2 hf hE
     go_wp2_with fail
     go_meet
     case rel=>exact ⟨by rw [HE.out],Lib.hid rfl⟩
    ·have hq:decide (0 < gs.length)=false:=decide_eq_false (by omega)
     have HE:=Lib.hid (partI_ge (k:=k) h0)
     have h1:gs.length=0 ∨ gs.length=1:=by omega
     go_wp2_with fail
     go_meet
     case rel=>exact ⟨by rw [HE.out];rfl,Lib.hid rfl⟩
   case rest =>
    obtain ⟨rfl,hwc⟩:=hcut
    obtain rfl:=hwc.out
    go_upto_if 32 with fail
    go_cut [7] from 24 (fun sv wd=>sv=.string (bs (partI k gs 1))∧Hid (wd=wc))
    case first =>
     rcases Nat.lt_or_ge 1 gs.length with h0 | h0
     ·obtain ⟨b2,o2,rfl,hb2,hc2⟩:=HROW.out (by intro e;rw [List.map_eq_nil_iff] at e;rw [e] at h0;simp at h0)
      have hcz:=hc2 1 (by simpa using h0)
      have hq:decide ((1:Int) < (gs.length:Int))=true:=decide_eq_true (by omega)
      have hk1:(1:Int) < (gs.length:Int):=by omega
      try simp only [Nat.add_zero] at hcz
      have hE:=partI_lt (k:=k) h0
      generalize hf:(gs.map (innerF k))[1]'_=fst at hcz hE
      have HE:=Lib.hid hE
      generalize bs (partI k gs 0)=f0 at *
      clear hc2 hf hE
      go_wp2_with fail
      go_meet
      case rel=>exact ⟨by rw [HE.out],Lib.hid rfl⟩
     ·have hq:decide ((1:Int) < (gs.length:Int))=false:=decide_eq_false (by omega)
      have HE:=Lib.hid (partI_ge (k:=k) h0)
      generalize bs (partI k gs 0)=f0 at *
      have h1:gs.length=0 ∨ gs.length=1:=by omega
      go_wp2_with fail
      go_meet
      case rel=>exact ⟨by rw [HE.out];rfl,Lib.hid rfl⟩
    case rest =>
     obtain ⟨rfl,hwc⟩:=hcut
     obtain rfl:=hwc.out
     clear HROW
     have hz4:=HLT.out
     have HBV2:=HXB
     have d0:wc.cell? ⟨w.heap.size,0,none⟩=some (.int .i64 k):=(Lib.cell_of_heap HBV2.out 0).trans rfl
     have d1:wc.cell? ⟨w.heap.size,1,none⟩=some (.int .i64 y2):=(Lib.cell_of_heap HBV2.out 1).trans rfl
     have d2:wc.cell? ⟨w.heap.size,2,none⟩=some (.string y3):=(Lib.cell_of_heap HBV2.out 2).trans rfl
     have d3:wc.cell? ⟨w.heap.size,3,none⟩=some (.int .i64 y4):=(Lib.cell_of_heap HBV2.out 3).trans rfl
     have d4:wc.cell? ⟨w.heap.size,4,none⟩=some (.slice y5 y6 y7):=(Lib.cell_of_heap HBV2.out 4).trans rfl
     have d5:wc.cell? ⟨w.heap.size,5,none⟩=some (.int .i64 y8):=(Lib.cell_of_heap HBV2.out 5).trans rfl
     have d6:wc.cell? ⟨w.heap.size,6,none⟩=some (.string y9):=(Lib.cell_of_heap HBV2.out 6).trans rfl
     have d7:wc.cell? ⟨w.heap.size,7,none⟩=some (.int .i64 y10):=(Lib.cell_of_heap HBV2.out 7).trans rfl
     have d8:wc.cell? ⟨w.heap.size,8,none⟩=some (.slice y11 y12 y13):=(Lib.cell_of_heap HBV2.out 8).trans rfl
     have d9:wc.cell? ⟨w.heap.size,9,none⟩=some (.string (bs s)):=(Lib.cell_of_heap HBV2.out 9).trans rfl
     have d10:wc.cell? ⟨w.heap.size,10,none⟩=some (.slice y15 y16 y17):=(Lib.cell_of_heap HBV2.out 10).trans rfl
     have d11:wc.cell? ⟨w.heap.size,11,none⟩=some (.slice y18 gs.length y20):=(Lib.cell_of_heap HBV2.out 11).trans rfl
     have hl:=HL.out
     obtain ⟨r,hr⟩:∃ r,goalW k (termF ta) (termF tb) s (xs.map termF) (goalsF gs)=r:=⟨_,rfl⟩
     rw [hr] at hl
     have hr0:=hr
     unfold goalW at hr
     clear HL
     by_cases k1:k=1
     ·subst k1
      simp only [if_true] at hr
      subst hr
      have HG:=Lib.hid hr0
      clear hr0
      go_wp2_with fail
      go_ret
      exact ⟨(congrArg (fun l=>Ending.returned (Value.string (bs l))) HG.out).symm,HBW.out⟩
     rw [if_neg k1] at hr
     have q1:(k == 1)=false:=by simpa using k1
     by_cases k2:k=2
     ·subst k2
      simp only [if_true,show ¬ ((2:Int)=1) by decide,if_false] at hr
      clear k1 q1
      subst hr
      have HG:=Lib.hid hr0
      clear hr0
      go_wp2_with fail
      go_ret
      exact ⟨(congrArg (fun l=>Ending.returned (Value.string (bs l))) HG.out).symm,HBW.out⟩
     rw [if_neg k2] at hr
     have q2:(k == 2)=false:=by simpa using k2
     by_cases k3:k=3
     ·subst k3
      simp only [if_true,show ¬ ((3:Int)=1) by decide,show ¬ ((3:Int)=2) by decide,if_false] at hr
      clear k1 q1 k2 q2
      subst hr
      have HG:=Lib.hid hr0
      clear hr0
      simp only [List.length_append,List.length_cons,List.length_nil] at hl
      have r1:=r3add (termF ta) [32,61,32] (by simp only [List.length_append,List.length_cons,List.length_nil];omega)
      have r2:=r3add (termF ta++[32,61,32]) (termF tb) (by simp only [List.length_append,List.length_cons,List.length_nil];omega)
      rw [show bs [32,61,32]=⟨#[32,61,32]⟩ from rfl] at r1
      rw [List.append_assoc] at r2
      generalize bs (termF ta++[32,61,32])=x1 at *
      have hla:(termF ta).length≤1099511627776:=by omega
      have hlb:(termF tb).length≤1099511627776:=by omega
      have HCA:Hid (∀ W,Below wc.heap.size wc W→Calls Tryz.prog 15 #[.agg #[.int .i64 y2,.string y3,.int .i64 y4,.slice y5 y6 y7]] W (fun e W'=>e=.returned (.string (bs (termF ta)))∧Below W.heap.size W W')):=Lib.hid (fun W hW=>r3term_any 66 ta _ lo hi W (stays (TermV.stable 66) HTA2.out hW HHW.out) HOA.out (Nat.le_trans HHW.out hW.size) hla)
      have HCB:Hid (∀ W,Below wc.heap.size wc W→Calls Tryz.prog 15 #[.agg #[.int .i64 y8,.string y9,.int .i64 y10,.slice y11 y12 y13]] W (fun e W'=>e=.returned (.string (bs (termF tb)))∧Below W.heap.size W W')):=Lib.hid (fun W hW=>r3term_any 66 tb _ lo hi W (stays (TermV.stable 66) HTB2.out hW HHW.out) HOB.out (Nat.le_trans HHW.out hW.size) hlb)
      have HD:=Lib.hid ((Below.refl wc.heap.size wc).drew)
      generalize bs (partI 3 gs 1)=snd at *
      generalize bs (partI 3 gs 0)=fst at *
      clear hl hla hlb
      have HBV:=HBV2
      go_upto_region 18 with fail
      go_region_law (first
       | (go_simp;go_at_call 15;with_reducible refine (HCA.out _ HD.out).mono ?_;rintro e w3 ⟨rfl,hb3⟩;have HB3:=Lib.hid (HD.out.trans (hb3.mono HD.out.size));have HX3:=Lib.hid ((HB3.out.block w.heap.size HLT.out).trans HBV.out);have d1:w3.cell? ⟨w.heap.size,1,none⟩=some (.int .i64 y2):=(Lib.cell_of_heap HX3.out 1).trans rfl;have d2:w3.cell? ⟨w.heap.size,2,none⟩=some (.string y3):=(Lib.cell_of_heap HX3.out 2).trans rfl;have d3:w3.cell? ⟨w.heap.size,3,none⟩=some (.int .i64 y4):=(Lib.cell_of_heap HX3.out 3).trans rfl;have d4:w3.cell? ⟨w.heap.size,4,none⟩=some (.slice y5 y6 y7):=(Lib.cell_of_heap HX3.out 4).trans rfl;have d5:w3.cell? ⟨w.heap.size,5,none⟩=some (.int .i64 y8):=(Lib.cell_of_heap HX3.out 5).trans rfl;have d6:w3.cell? ⟨w.heap.size,6,none⟩=some (.string y9):=(Lib.cell_of_heap HX3.out 6).trans rfl;have d7:w3.cell? ⟨w.heap.size,7,none⟩=some (.int .i64 y10):=(Lib.cell_of_heap HX3.out 7).trans rfl;have d8:w3.cell? ⟨w.heap.size,8,none⟩=some (.slice y11 y12 y13):=(Lib.cell_of_heap HX3.out 8).trans rfl;clear hb3)
       | (go_simp;go_at_call 15;with_reducible refine (HCB.out _ HD.out).mono ?_;rintro e w3 ⟨rfl,hb3⟩;have HB3:=Lib.hid (HD.out.trans (hb3.mono HD.out.size));have HX3:=Lib.hid ((HB3.out.block w.heap.size HLT.out).trans HBV.out);have d1:w3.cell? ⟨w.heap.size,1,none⟩=some (.int .i64 y2):=(Lib.cell_of_heap HX3.out 1).trans rfl;have d2:w3.cell? ⟨w.heap.size,2,none⟩=some (.string y3):=(Lib.cell_of_heap HX3.out 2).trans rfl;have d3:w3.cell? ⟨w.heap.size,3,none⟩=some (.int .i64 y4):=(Lib.cell_of_heap HX3.out 3).trans rfl;have d4:w3.cell? ⟨w.heap.size,4,none⟩=some (.slice y5 y6 y7):=(Lib.cell_of_heap HX3.out 4).trans rfl;have d5:w3.cell? ⟨w.heap.size,5,none⟩=some (.int .i64 y8):=(Lib.cell_of_heap HX3.out 5).trans rfl;have d6:w3.cell? ⟨w.heap.size,6,none⟩=some (.string y9):=(Lib.cell_of_heap HX3.out 6).trans rfl;have d7:w3.cell? ⟨w.heap.size,7,none⟩=some (.int .i64 y10):=(Lib.cell_of_heap HX3.out 7).trans rfl;have d8:w3.cell? ⟨w.heap.size,8,none⟩=some (.slice y11 y12 y13):=(Lib.cell_of_heap HX3.out 8).trans rfl;clear hb3)
       | (go_simp;go_at_call 15;with_reducible refine (HCA.out _ HB3.out).mono ?_;rintro e w4 ⟨rfl,hb4⟩;have HB4:=Lib.hid (HB3.out.trans (hb4.mono HB3.out.size));clear hb4)
       | (go_simp;go_at_call 15;with_reducible refine (HCB.out _ HB3.out).mono ?_;rintro e w4 ⟨rfl,hb4⟩;have HB4:=Lib.hid (HB3.out.trans (hb4.mono HB3.out.size));clear hb4))
      all_goals
       have HBY:=Lib.hid (HBW.out.trans (HB4.out.mono HBW.out.size))
       go_wp2_with fail
       go_ret
       exact ⟨(congrArg (fun l=>Ending.returned (Value.string (bs l))) HG.out).symm,HBY.out⟩
     rw [if_neg k3] at hr
     have q3:(k == 3)=false:=by simpa using k3
     by_cases k4:k=4
     ·subst k4
      simp only [if_true,show ¬ ((4:Int)=1) by decide,show ¬ ((4:Int)=2) by decide,show ¬ ((4:Int)=3) by decide,if_false] at hr
      clear k1 q1 k2 q2 k3 q3
      subst hr
      have HG:=Lib.hid hr0
      clear hr0
      have hlj:(joinF [44,32] (xs.map termF)).length≤1099511627776:=by
       have h9:(joinF [44,32] (xs.map termF)).length≤(argsF (xs.map termF)).length:=by
        unfold argsF
        split
        ·rename_i e
         rw [e]
         simp [joinF]
        ·simp
         omega
       simp only [List.length_append] at hl
       omega
      have hla:(argsF (xs.map termF)).length≤1099511627776:=by simp only [List.length_append] at hl;omega
      have r1:=r3add s (argsF (xs.map termF)) (by simp only [List.length_append] at hl;omega)
      generalize bs (partI 4 gs 1)=snd at *
      generalize bs (partI 4 gs 0)=fst at *
      clear hl
      have HCT:Hid (∀ W,Below wc.heap.size wc W→Calls Tryz.prog 37 #[.slice y15 y16 y17] W (fun e W'=>(∃ v',e=.returned v'∧StrRow (xs.map termF) v' W')∧Below W.heap.size W W')):=Lib.hid (fun W hW=>r3terms _ (TermV.stable 66) (TermV.this 66) termOk termF (Lib.hid (r3term_any 66)) xs _ lo hi W (stays (ArgsV.stable _ _ (TermV.stable 66)) HXS2.out hW HHW.out) HOL.out (Nat.le_trans HHW.out hW.size) hlj)
      have HD:=Lib.hid ((Below.refl wc.heap.size wc).drew)
      have HBV:=HBV2
      go_upto_region 20 with fail
      go_region_law (first
       | (go_simp;go_at_call 37;refine (HCT.out _ HD.out).mono ?_;rintro e w3 ⟨⟨v3,rfl,hs⟩,hb3⟩;have HB3:=Lib.hid (HD.out.trans (hb3.mono HD.out.size));have d9:w3.cell? ⟨w.heap.size,9,none⟩=some (.string (bs s)):=(Lib.cell_of_heap ((HB3.out.block w.heap.size HLT.out).trans HBV.out) 9).trans rfl)
       | (go_simp;go_at_call 34;refine (r3row_any _ _ _ hs hla).mono ?_;rintro e w4 ⟨rfl,rfl⟩))
      all_goals
       have HBY:=Lib.hid (HBW.out.trans (HB3.out.mono HBW.out.size))
       clear hb3 hs
       go_wp2_with fail
       go_ret
       exact ⟨(congrArg (fun l=>Ending.returned (Value.string (bs l))) HG.out).symm,HBY.out⟩
     rw [if_neg k4] at hr
     have q4:(k == 4)=false:=by simpa using k4
     by_cases k5:k=5
     ·subst k5
      simp only [if_true,show ¬ ((5:Int)=1) by decide,show ¬ ((5:Int)=2) by decide,show ¬ ((5:Int)=3) by decide,show ¬ ((5:Int)=4) by decide,if_false] at hr
      clear k1 q1 k2 q2 k3 q3 k4 q4
      rw [mapW_5] at hr
      subst hr
      have HG:=Lib.hid hr0
      clear hr0
      have HJ:=Lib.hid (r3join_any [44,32] _ rfl (gs.map (innerF 5)) _ _ HSR.out hl)
      generalize bs (partI 5 gs 1)=snd at *
      generalize bs (partI 5 gs 0)=fst at *
      clear hl
      go_wp2_with fail
      go_at_call 36
      refine HJ.out.mono ?_
      rintro e w1 ⟨rfl,rfl⟩
      go_wp2_with fail
      go_ret
      exact ⟨(congrArg (fun l=>Ending.returned (Value.string (bs l))) HG.out).symm,HBW.out⟩
     rw [if_neg k5] at hr
     have q5:(k == 5)=false:=by simpa using k5
     by_cases k6:k=6
     ·subst k6
      simp only [if_true,show ¬ ((6:Int)=1) by decide,show ¬ ((6:Int)=2) by decide,show ¬ ((6:Int)=3) by decide,show ¬ ((6:Int)=4) by decide,show ¬ ((6:Int)=5) by decide,if_false] at hr
      clear k1 q1 k2 q2 k3 q3 k4 q4 k5 q5
      rw [mapW_6] at hr
      subst hr
      have HG:=Lib.hid hr0
      clear hr0
      have HJ:=Lib.hid (r3join_any [32,59,32] _ rfl (gs.map (innerF 6)) _ _ HSR.out hl)
      generalize bs (partI 6 gs 1)=snd at *
      generalize bs (partI 6 gs 0)=fst at *
      clear hl
      go_wp2_with fail
      go_at_call 36
      refine HJ.out.mono ?_
      rintro e w1 ⟨rfl,rfl⟩
      go_wp2_with fail
      go_ret
      exact ⟨(congrArg (fun l=>Ending.returned (Value.string (bs l))) HG.out).symm,HBW.out⟩
     rw [if_neg k6] at hr
     have q6:(k == 6)=false:=by simpa using k6
     by_cases k7:k=7
     ·subst k7
      simp only [if_true,show ¬ ((7:Int)=1) by decide,show ¬ ((7:Int)=2) by decide,show ¬ ((7:Int)=3) by decide,show ¬ ((7:Int)=4) by decide,show ¬ ((7:Int)=5) by decide,show ¬ ((7:Int)=6) by decide,if_false] at hr
      clear k1 q1 k2 q2 k3 q3 k4 q4 k5 q5 k6 q6
      rw [partW_I (.inl rfl)] at hr
      subst hr
      have HG:=Lib.hid hr0
      clear hr0
      have r1:=r3add [110,111,116,32] (partI 7 gs 0) (by simp only [List.length_append] at hl;omega)
      rw [show bs [110,111,116,32]=⟨#[110,111,116,32]⟩ from rfl] at r1
      generalize bs (partI 7 gs 1)=snd at *
      generalize bs (partI 7 gs 0)=fst at *
      clear hl
      go_wp2_with fail
      go_ret
      exact ⟨(congrArg (fun l=>Ending.returned (Value.string (bs l))) HG.out).symm,HBW.out⟩
     rw [if_neg k7] at hr
     have q7:(k == 7)=false:=by simpa using k7
     by_cases k8:k=8
     ·subst k8
      simp only [if_true,show ¬ ((8:Int)=1) by decide,show ¬ ((8:Int)=2) by decide,show ¬ ((8:Int)=3) by decide,show ¬ ((8:Int)=4) by decide,show ¬ ((8:Int)=5) by decide,show ¬ ((8:Int)=6) by decide,show ¬ ((8:Int)=7) by decide,if_false] at hr
      clear k1 q1 k2 q2 k3 q3 k4 q4 k5 q5 k6 q6 k7 q7
      subst hr
      have HG:=Lib.hid hr0
      clear hr0
      have r1:=r3add [116,104,114,111,119,32] (termF ta) (by simp only [List.length_append] at hl;omega)
      rw [show bs [116,104,114,111,119,32]=⟨#[116,104,114,111,119,32]⟩ from rfl] at r1
      have HC:=Lib.hid (r3term_any 66 ta _ lo hi _ HTA2.out HOA.out HHW.out (by simp only [List.length_append] at hl;omega))
      generalize bs (partI 8 gs 1)=snd at *
      generalize bs (partI 8 gs 0)=fst at *
      clear hl
      go_wp2_with fail
      go_at_call 15
      refine HC.out.mono ?_
      rintro e w1 ⟨rfl,hb⟩
      have HBY:=Lib.hid (HBW.out.trans (hb.mono HBW.out.size))
      clear hb
      go_wp2_with fail
      go_ret
      exact ⟨(congrArg (fun l=>Ending.returned (Value.string (bs l))) HG.out).symm,HBY.out⟩
     rw [if_neg k8] at hr
     have q8:(k == 8)=false:=by simpa using k8
     by_cases k9:k=9
     ·subst k9
      simp only [if_true,show ¬ ((9:Int)=1) by decide,show ¬ ((9:Int)=2) by decide,show ¬ ((9:Int)=3) by decide,show ¬ ((9:Int)=4) by decide,show ¬ ((9:Int)=5) by decide,show ¬ ((9:Int)=6) by decide,show ¬ ((9:Int)=7) by decide,show ¬ ((9:Int)=8) by decide,if_false] at hr
      clear k1 q1 k2 q2 k3 q3 k4 q4 k5 q5 k6 q6 k7 q7 k8 q8
      rw [partW_I (.inr rfl),partW_I (.inr rfl)] at hr
      subst hr
      have HG:=Lib.hid hr0
      clear hr0
      simp only [List.length_append,List.length_cons,List.length_nil] at hl
      have r1:=r3add [116,114,121,32] (partI 9 gs 0) (by simp only [List.length_append,List.length_cons,List.length_nil];omega)
      have r2:=r3add ([116,114,121,32]++partI 9 gs 0) [32,99,97,116,99,104,32] (by simp only [List.length_append,List.length_cons,List.length_nil];omega)
      have r3:=r3add ([116,114,121,32]++partI 9 gs 0++[32,99,97,116,99,104,32]) s (by simp only [List.length_append,List.length_cons,List.length_nil];omega)
      have r4:=r3add ([116,114,121,32]++partI 9 gs 0++[32,99,97,116,99,104,32]++s) [32,116,104,101,110,32] (by simp only [List.length_append,List.length_cons,List.length_nil];omega)
      have r5:=r3add ([116,114,121,32]++partI 9 gs 0++[32,99,97,116,99,104,32]++s++[32,116,104,101,110,32]) (partI 9 gs 1) (by simp only [List.length_append,List.length_cons,List.length_nil];omega)
      rw [show bs [116,114,121,32]=⟨#[116,114,121,32]⟩ from rfl] at r1
      rw [show bs [32,99,97,116,99,104,32]=⟨#[32,99,97,116,99,104,32]⟩ from rfl] at r2
      rw [show bs [32,116,104,101,110,32]=⟨#[32,116,104,101,110,32]⟩ from rfl] at r4
      rw [show [116,114,121,32]++partI 9 gs 0++[32,99,97,116,99,104,32]++s++[32,116,104,101,110,32]++partI 9 gs 1=[116,114,121,32]++(partI 9 gs 0++([32,99,97,116,99,104,32]++(s++([32,116,104,101,110,32]++partI 9 gs 1)))) by simp] at r5
      generalize bs ([116,114,121,32]++partI 9 gs 0)=x1 at *
      generalize bs ([116,114,121,32]++partI 9 gs 0++[32,99,97,116,99,104,32])=x2 at *
      generalize bs ([116,114,121,32]++partI 9 gs 0++[32,99,97,116,99,104,32]++s)=x3 at *
      generalize bs ([116,114,121,32]++partI 9 gs 0++[32,99,97,116,99,104,32]++s++[32,116,104,101,110,32])=x4 at *
      generalize bs (partI 9 gs 1)=snd at *
      generalize bs (partI 9 gs 0)=fst at *
      generalize bs s=bss at *
      clear hl
      go_wp2_with fail
      go_ret
      exact ⟨(congrArg (fun l=>Ending.returned (Value.string (bs l))) HG.out).symm,HBW.out⟩
     rw [if_neg k9] at hr
     have q9:(k == 9)=false:=by simpa using k9
     subst hr
     have HG:=Lib.hid hr0
     clear hr0
     go_wp2_with fail
     go_ret
     exact ⟨(congrArg (fun l=>Ending.returned (Value.string (bs l))) HG.out).symm,HBW.out⟩
theorem r3goal_any:∀ d,Says 13 (GoalV d) goalFit goalF
 | 0=>fun _ _ _ _ _ h=>h.elim
 | d+1=>r3goal_step d (Lib.hid (r3goal_any d))
end Lx
end Go.Proofs.YtajomoclbpobhaaGreatDoor
