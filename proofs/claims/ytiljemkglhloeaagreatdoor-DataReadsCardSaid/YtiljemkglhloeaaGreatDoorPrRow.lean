/- The contract of package print's row at terms: the forms with the mark between each two, for whatever form the function it is handed puts. Conditions: the printer's block is its own; at most 2^40 bytes. -/
import Derived.Test.YtiljemkglhloeaaGreatDoorPrP
import Derived.StillTailTactics
namespace Go.Proofs.YtiljemkglhloeaaGreatDoor
set_option linter.unusedSimpArgs false
set_option linter.unusedVariables false
namespace Lx
open Go Go.RowKit
set_option maxRecDepth 100000 in
set_option maxHeartbeats 2000000 in
theorem prowTe (V:Holds TermT) (hV:Stable V) (hT:ThisTerm V) (ok:TermT→Prop) (f:TermT→List UInt8) (HF:Hid (Puts 39 V ok f)) (B b:Nat) (l:List UInt8) (xs:List TermT) (v:Value) (lo hi:Nat) (w:World) (m:List UInt8) (x:ByteArray) (hx:x=bs m) (h:Pri B b l w) (hv:ArgsV 28 4 V xs v lo hi w) (hok:∀ x ∈ xs,ok x) (hh:hi≤B) (hl:l.length+(joinF m (xs.map f)).length≤1099511627776) :
  Calls Tryz.prog 101 #[.pointer (some ⟨b,0,none⟩),.string x,v,.func (.func 39) #[.pointer (some ⟨b,0,none⟩)] #[]] w fun e w'=>PutR B b l (joinF m (xs.map f)) w e w':=by
 subst hx
 have hce:∀ x v lo hi w,V x v lo hi w→(cellsL v).length=4:=fun x v lo hi w h=>by obtain ⟨z0,z1,z2,z3,z4,z5,rfl⟩:=hT _ _ _ _ _ h;rfl
 have HP:=Lib.hid h
 have HV:=Lib.hid hv
 have HOK:=Lib.hid hok
 clear hok
 obtain ⟨A,c,rfl,_⟩:=hv.at hce (by decide)
 have hlen:=hv.few
 unfold maxLen at hlen
 have hl0:=h.lt
 clear hv h
 go_enter Tryz.func101,Tryz.ntmps101
 go_wp2_with fail
 go_loopw [12] (fun t wr=>∃ k:Nat,k≤xs.length∧t=.int .i64 k∧Hid (Pri B b (l++joinF m ((xs.map f).take k)) wr)∧Hid (Kept B b w wr)) (fun t _=>xs.length - (intOf t).toNat)
 case atStart=>exact ⟨0,Nat.zero_le _,rfl,Lib.hid (by simpa [joinF] using HP.out),Lib.hid (Kept.refl _ _ _)⟩
 case round =>
  obtain ⟨k,hk,rfl,HI,HK⟩:=hrel
  by_cases hlt:k < xs.length
  ·have r1:=stays (ArgsV.stable _ _ hV) HV.out HK.out.below hh
   obtain ⟨_,_,q1,r1⟩:=r1.at hce (by decide)
   injection q1 with q1 _ qc1
   subst q1
   clear qc1
   obtain ⟨g1,u1,p1,t1,rfl,_,m1,hv1,cc1⟩:=r1 k hlt
   obtain ⟨z0,z1,z2,z3,z4,z5,rfl⟩:=hT _ _ _ _ _ hv1
   have a0:=(cc1 0 (by decide)).trans rfl
   have a1:=(cc1 1 (by decide)).trans rfl
   have a2:=(cc1 2 (by decide)).trans rfl
   have a3:=(cc1 3 (by decide)).trans rfl
   simp only [cellsL,Value.cells,List.getElem?_cons_zero,List.getElem?_cons_succ,Nat.add_zero] at a0 a1 a2 a3
   have HV1:=Lib.hid hv1
   have hk0:(0:Int)≤(k:Int):=by omega
   have hk1:(k:Int) < (xs.length:Int):=by omega
   have hdc:decide (k < xs.length)=true:=by simpa using hlt
   have hpl:=HI.out.lt
   obtain ⟨hj,hjl⟩:=joinF_step m f xs k hlt
   have HJ:=Lib.hid hj
   have hT1:t1≤B:=by omega
   have hjl2:l.length+(joinF m ((xs.map f).take (k+1))).length≤1099511627776:=by omega
   rw [hj] at hjl2
   clear cc1 hv1 r1 hj hjl
   by_cases h0:k=0
   ·have hk3:decide (0 < k)=false:=by simp;omega
    have HE:l++joinF m ((xs.map f).take k)=l:=by rw [h0];simp [joinF]
    rw [HE] at HI
    rw [if_pos h0] at hjl2
    have HJ0:Hid (joinF m ((xs.map f).take (k+1))=f xs[k]):=Lib.hid (by rw [HJ.out,if_pos h0])
    clear h0 HJ
    go_wp2_with fail
    clear a0 a1 a2 a3
    go_at_call 39
    refine (HF.out B b l _ _ p1 t1 _ (HI.out.alloc _) (stays hV HV1.out (((Below.refl B wr)).alloc (by omega) _) hT1) (HOK.out _ (List.getElem_mem hlt)) hT1 hjl2).mono ?_
    rintro e w3 ⟨rfl,hp3,hk3⟩
    have HP3:Hid (Pri B b (l++joinF m ((xs.map f).take (k+1))) w3):=Lib.hid (by rw [HJ0.out];exact hp3)
    have HK3:=Lib.hid ((HK.out.alloc (by omega) _).trans hk3)
    clear hp3 hk3
    go_wp2_with fail
    go_roundw
    case rel=>exact ⟨k+1,by omega,by go_num,HP3,HK3⟩
    case measure=>simp [intOf];omega
   ·have hk3:decide (0 < k)=true:=by simp;omega
    rw [if_neg h0] at hjl2
    simp only [List.length_append] at hjl2
    have HJ0:Hid (l++joinF m ((xs.map f).take (k+1))=((l++joinF m ((xs.map f).take k))++m)++f xs[k]):=Lib.hid (by rw [HJ.out,if_neg h0];simp [List.append_assoc])
    clear h0 HJ
    go_wp2_with fail
    clear a0 a1 a2 a3
    go_at_call 59
    refine (put_one B b _ m _ rfl _ _ (by simp) (HI.out.alloc _) (by rw [List.length_append];omega)).mono ?_
    rintro e w2 ⟨rfl,hp2,hk2⟩
    have HP2:=Lib.hid hp2
    have HK2:=Lib.hid ((HK.out.alloc (by omega) _).trans hk2)
    have HV2:=Lib.hid (stays hV (stays hV HV1.out (((Below.refl B wr)).alloc (by omega) _) hT1) hk2.below hT1)
    have hbx:=hk2.cells (heap_alloc_new wr (.cells #[.int .i64 z0,.string z1,.int .i64 z2,.slice z3 z4 z5] 28)) (by decide) (by omega)
    have d0:w2.cell? ⟨wr.heap.size,0,none⟩=some (.int .i64 z0):=(Lib.cell_of_heap hbx 0).trans rfl
    have d1:w2.cell? ⟨wr.heap.size,1,none⟩=some (.string z1):=(Lib.cell_of_heap hbx 1).trans rfl
    have d2:w2.cell? ⟨wr.heap.size,2,none⟩=some (.int .i64 z2):=(Lib.cell_of_heap hbx 2).trans rfl
    have d3:w2.cell? ⟨wr.heap.size,3,none⟩=some (.slice z3 z4 z5):=(Lib.cell_of_heap hbx 3).trans rfl
    clear hbx
    clear hp2 hk2
    go_wp2_with fail
    clear d0 d1 d2 d3
    go_at_call 39
    refine (HF.out B b _ _ _ p1 t1 _ HP2.out HV2.out (HOK.out _ (List.getElem_mem hlt)) hT1 (by rw [List.length_append,List.length_append];omega)).mono ?_
    rintro e w3 ⟨rfl,hp3,hk3⟩
    have HP3:Hid (Pri B b (l++joinF m ((xs.map f).take (k+1))) w3):=Lib.hid (by rw [HJ0.out];exact hp3)
    have HK3:=Lib.hid (HK2.out.trans hk3)
    clear hp3 hk3
    go_wp2_with fail
    go_roundw
    case rel=>exact ⟨k+1,by omega,by go_num,HP3,HK3⟩
    case measure=>simp [intOf];omega
  ·obtain rfl:k=xs.length:=by omega
   have hdc:decide (xs.length < xs.length)=false:=by simp
   go_wp2_with fail
   go_end0
   exact ⟨rfl,by have:=HI.out;rwa [List.take_of_length_le (by simp)] at this,HK.out⟩
set_option maxRecDepth 100000 in
set_option maxHeartbeats 2000000 in
theorem pargsTe (V:Holds TermT) (hV:Stable V) (hT:ThisTerm V) (ok:TermT→Prop) (f:TermT→List UInt8) (HF:Hid (Puts 39 V ok f)):PutsA 69 39 28 4 V ok f:=by
 intro B b l xs v lo hi w h hv hok hh hl
 have hce:∀ x v lo hi w,V x v lo hi w→(cellsL v).length=4:=fun x v lo hi w h=>by obtain ⟨z0,z1,z2,z3,z4,z5,rfl⟩:=hT _ _ _ _ _ h;rfl
 have HP:=Lib.hid h
 have HV:=Lib.hid hv
 obtain ⟨A,c,rfl,_⟩:=hv.at hce (by decide)
 have hlen:=hv.few
 unfold maxLen at hlen
 have hl0:=h.lt
 clear hv h
 by_cases hx:xs=[]
 ·subst hx
  go_enter Tryz.func69,Tryz.ntmps69
  go_wp2_with fail
  go_end0
  exact ⟨rfl,by simpa [argsF] using HP.out,Kept.refl _ _ _⟩
 ·have hx0:xs.length ≠ 0:=fun e=>hx (List.eq_nil_of_length_eq_zero e)
  have hq:((xs.length:Int) == 0)=false:=by simpa using hx
  have hfa:argsF (xs.map f)=[40]++(joinF [44,32] (xs.map f)++[41]):=by unfold argsF;rw [if_neg (by simpa using hx)];rfl
  have HFA:=Lib.hid hfa
  rw [hfa] at hl
  simp only [List.length_append,List.length_cons,List.length_nil] at hl
  clear hx hx0 hfa
  go_enter Tryz.func69,Tryz.ntmps69
  go_wp2_with fail
  go_at_call 59
  refine (put_one B b l [40] _ rfl _ _ (by simp) HP.out (by simp only [List.length_cons,List.length_nil];omega)).mono ?_
  rintro e w1 ⟨rfl,hp1,hk1⟩
  have HP1:=Lib.hid hp1
  have HK1:=Lib.hid hk1
  have HV1:=Lib.hid (stays (ArgsV.stable _ _ hV) HV.out hk1.below hh)
  clear hp1 hk1
  go_wp2_with fail
  go_at_call 101
  refine (prowTe V hV hT ok f HF B b _ xs _ lo hi _ [44,32] _ rfl HP1.out HV1.out hok hh (by simp only [List.length_append,List.length_cons,List.length_nil];omega)).mono ?_
  rintro e w2 ⟨rfl,hp2,hk2⟩
  have HP2:=Lib.hid hp2
  have HK2:=Lib.hid (HK1.out.trans hk2)
  clear hp2 hk2
  go_wp2_with fail
  go_at_call 59
  refine (put_one B b _ [41] _ rfl _ _ (by simp) HP2.out (by simp only [List.length_append,List.length_cons,List.length_nil];omega)).mono ?_
  rintro e w3 ⟨rfl,hp3,hk3⟩
  go_wp2_with fail
  go_end0
  exact ⟨rfl,by rw [HFA.out,← List.append_assoc,← List.append_assoc];exact hp3,HK2.out.trans hk3⟩
end Lx
end Go.Proofs.YtiljemkglhloeaaGreatDoor
