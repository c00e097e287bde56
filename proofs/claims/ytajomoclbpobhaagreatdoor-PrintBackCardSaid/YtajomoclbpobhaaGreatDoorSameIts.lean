/- The contract of the reference's SameItems at two values that hold the same items: true. No conditions. -/
import Derived.Test.YtajomoclbpobhaaGreatDoorSameIt
import Derived.Test.YtajomoclbpobhaaGreatDoorItemC
namespace Go.Proofs.YtajomoclbpobhaaGreatDoor
set_option linter.unusedSimpArgs false
set_option linter.unusedVariables false
namespace Lx
open Go Go.RowKit
theorem ItemV.cells {x:ItemT} {v:Value} {lo hi:Nat} {w:World} (h:ItemV x v lo hi w):(cellsL v).length=20:=by
 obtain ⟨vv,vc,vt,vi,va,b0,b1,b2,b3,b4,b5,b6,b7,b8,b9,b10,b11,rfl,_⟩:=h
 rfl
/-- A struct read as a whole, where nothing is written. -/
theorem wpStill_load {ops:Array Oper} {w:World} {Q:Act→Prop} {a:Act} {o:Oper} {rest:List Oper} (hw:Region.wanted o (yielded ops a.tmps)=true) (ty:TypeId) (x:Operand) (ho:o.op=.load ty x)
  (b q:Nat) (hx:a.eval x=.pointer (some ⟨b,q,none⟩)) (cs:List Value) (d:TypeDesc) (hc:w.rangeAt b q cs) (hu:Tryz.prog.underlying ty=some d) (hd:d.isRow=true) (hi:(Tryz.prog.info? ty).map (·.size)=some cs.length)
  (h:wpStill Tryz.prog ops w Q rest (a.put o.dst (.agg cs.toArray))):wpStill Tryz.prog ops w Q (o :: rest) a:=by
 refine wpStill_step fun K hK=>?_
 rw [if_pos hw]
 unfold Oper.still execOp
 simp only [ho,hx,Instr.loadAt,Instr.sureAddr,Sem.run_bind,Sem.run_pure,Result.andThen_ok,run_loadVar_mid w b q ty cs d hc hu hd hi]
 exact ⟨rfl,hK _ h⟩
theorem itemV_row {x:ItemT} {v:Value} {lo hi:Nat} {w:World} (h:ItemV x v lo hi w):∃ C:Array Value,v=.agg C∧C.size=20:=by
 obtain ⟨vv,vc,vt,vi,va,b0,b1,b2,b3,b4,b5,b6,b7,b8,b9,b10,b11,rfl,_⟩:=h
 exact ⟨_,rfl,rfl⟩
theorem range_row {w:World} {g q:Nat} {C:Array Value} (hC:C.size=20) (h:∀ j,j < 20→w.cell? ⟨g,q+j,none⟩=(cellsL (.agg C))[j]?):w.drew.rangeAt g q C.toList:=by
 intro j v hv
 have hj:j < 20:=by
  have:=(List.getElem?_eq_some_iff.1 hv).1
  simp at this
  omega
 exact (h j hj).trans hv
set_option maxRecDepth 100000 in
set_option maxHeartbeats 4000000 in
theorem sameItems_pre (HS:Hid (SameOk 46 ItemV)):SameOk 20 (ArgsV 33 20 ItemV):=by
 intro l v1 v2 lo1 hi1 lo2 hi2 w h1 h2 b1 b2
 have H1:=Lib.hid h1
 have H2:=Lib.hid h2
 obtain ⟨A1,c1,rfl,_⟩:=h1.at (fun _ _ _ _ _ h=>ItemV.cells h) (by decide)
 obtain ⟨A2,c2,rfl,_⟩:=h2.at (fun _ _ _ _ _ h=>ItemV.cells h) (by decide)
 have hlen:=h1.few
 unfold maxLen at hlen
 clear h1 h2
 go_enter Tryz.func20,Tryz.ntmps20
 go_wp2_with fail
 go_loopw [13] (fun t wr=>∃ k:Nat,k≤l.length∧t=.int .i64 k∧Hid (Below w.heap.size w wr)) (fun t _=>l.length - (intOf t).toNat)
 case atStart=>exact ⟨0,Nat.zero_le _,rfl,Lib.hid (Below.refl _ _)⟩
 case round =>
  obtain ⟨k,hk,rfl,HB⟩:=hrel
  by_cases hlt:k < l.length
  ·have r1:=same_of_below (ArgsV.stable _ _ ItemV.stable) H1.out HB.out b1
   have r2:=same_of_below (ArgsV.stable _ _ ItemV.stable) H2.out HB.out b2
   obtain ⟨_,_,q1,r1⟩:=r1.at (fun _ _ _ _ _ h=>ItemV.cells h) (by decide)
   obtain ⟨_,_,q2,r2⟩:=r2.at (fun _ _ _ _ _ h=>ItemV.cells h) (by decide)
   injection q1 with q1 _ qc1
   injection q2 with q2 _ qc2
   subst q1 q2
   clear qc1 qc2
   obtain ⟨g1,u1,p1,t1,rfl,_,m1,hv1,cc1⟩:=r1 k hlt
   obtain ⟨g2,u2,p2,t2,rfl,_,m2,hv2,cc2⟩:=r2 k hlt
   obtain ⟨C1,rfl,hC1⟩:=itemV_row hv1
   obtain ⟨C2,rfl,hC2⟩:=itemV_row hv2
   have hr1:=range_row hC1 cc1
   have hr2:=range_row hC2 cc2
   have HR1:=Lib.hid hr1
   have HR2:=Lib.hid hr2
   have HC1:Hid ((Tryz.prog.info? 33).map (·.size)=some C1.toList.length):=Lib.hid (by rw [Array.length_toList,hC1];exact infoItem)
   have HC2:Hid ((Tryz.prog.info? 33).map (·.size)=some C2.toList.length):=Lib.hid (by rw [Array.length_toList,hC2];exact infoItem)
   clear hr1 hr2 hC1 hC2
   have HV1:=Lib.hid hv1
   have HV2:=Lib.hid hv2
   have hk0:(0:Int)≤(k:Int):=by omega
   have hk1:(k:Int) < (l.length:Int):=by omega
   have hdc:decide (k < l.length)=true:=by simpa using hlt
   have hsz:=HB.out.size
   clear cc1 cc2 hv1 hv2 r1 r2
   go_wp2_with fail
   refine wp_region_still_tail 8 (by kernel_rfl) (by kernel_rfl) ?_
   simp only [List.take_succ_cons,List.take_zero,List.drop_succ_cons,List.drop_zero]
   still_step
   still_step
   still_step
   refine wpStill_load rfl 33 (.tmp 18) rfl g1 (k * 20) rfl C1.toList _ HR1.out Tryz.underlying33 rfl HC1.out ?_
   still_step
   still_step
   still_step
   refine wpStill_load rfl 33 (.tmp 22) rfl g2 (k * 20) rfl C2.toList _ HR2.out Tryz.underlying33 rfl HC2.out ?_
   refine wpStill_nil ?_
   have HBX:Below w.heap.size w wr.drew:=⟨HB.out.os,HB.out.tape,HB.out.output,HB.out.size,HB.out.block⟩
   have HV1:=Lib.hid (ItemV.stable _ _ _ _ _ wr.drew HV1.out (fun _ _ _=>rfl))
   have HV2:=Lib.hid (ItemV.stable _ _ _ _ _ wr.drew HV2.out (fun _ _ _=>rfl))
   have hsz2:w.heap.size≤wr.drew.heap.size:=hsz
   change wpList _ _ _ _ _ wr.drew
   generalize wr.drew=X at HBX HV1 HV2 hsz2 ⊢
   have HBX:=Lib.hid HBX
   go_wp2_with fail
   go_at_call 46
   refine (HS.out _ _ _ p1 t1 p2 t2 _ HV1.out HV2.out (by omega) (by omega)).mono ?_
   rintro e w3 ⟨rfl,hb3⟩
   have HB3:=Lib.hid (HBX.out.trans (hb3.mono HBX.out.size))
   clear hb3
   go_wp2_with fail
   go_roundw
   case rel=>exact ⟨k+1,by omega,by go_num,HB3⟩
   case measure=>simp [intOf];omega
  ·obtain rfl:k=l.length:=by omega
   have hdc:decide (l.length < l.length)=false:=by simp
   go_wp2_with fail
   go_ret
   exact ⟨rfl,HB.out⟩
theorem sameItem_any:SameOk 46 ItemV:=sameItem_pre (Lib.hid (sameTypes_any 66)) (Lib.hid (sameTerms_any 66)) (Lib.hid (sameGoal_any 134))
theorem sameItems_any:SameOk 20 (ArgsV 33 20 ItemV):=sameItems_pre (Lib.hid sameItem_any)
end Lx
end Go.Proofs.YtajomoclbpobhaaGreatDoor
