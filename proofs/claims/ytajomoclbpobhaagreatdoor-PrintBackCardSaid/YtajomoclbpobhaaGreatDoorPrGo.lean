/- The contracts of the calls of package print's printer that put a goal where a conj or a prim stands, or a part of a goal, given that of a goal. Conditions: the printer's block is its own; at most 2^40 bytes; the terms' numbers are a machine's. -/
/- The contract of the call of package print's printer that puts a goal, kind by kind, given those of a prim and a conj. Conditions: the printer's block is its own; at most 2^40 bytes; the terms' numbers are a machine's. -/
/- The contract of the call of package print's printer that puts a goal, kind by kind, given those of a prim and a conj. Conditions: the printer's block is its own; at most 2^40 bytes; the terms' numbers are a machine's. -/
/- The contract of the call of package print's printer that puts a goal, kind by kind, given those of a prim and a conj. Conditions: the printer's block is its own; at most 2^40 bytes; the terms' numbers are a machine's. -/
/- The contract of the call of package print's printer that puts a goal. Conditions: the printer's block is its own; at most 2^40 bytes; the terms' numbers are a machine's. -/
import Derived.Test.YtajomoclbpobhaaGreatDoorPrT
import Derived.Test.YtajomoclbpobhaaGreatDoorPrRow
namespace Go.Proofs.YtajomoclbpobhaaGreatDoor
set_option linter.unusedSimpArgs false
set_option linter.unusedVariables false
namespace Lx
open Go Go.RowKit
theorem GoalV.shape:∀ (d:Nat) (x:GoalT) (v:Value) (lo hi:Nat) (w:World),GoalV d x v lo hi w→∃ y2 y3 y4 y5 y6 y7 y8 y9 y10 y11 y12 y13 y14 y15 y16 y17 y18 y19 y20,v=.agg #[.int .i64 (kindG x),.int .i64 y2,.string y3,.int .i64 y4,.slice y5 y6 y7,.int .i64 y8,.string y9,.int .i64 y10,.slice y11 y12 y13,.string y14,.slice y15 y16 y17,.slice y18 y19 y20]
 | 0,_,_,_,_,_,h=>h.elim
 | d+1,.mk k a b s l gs,v,lo,hi,w,h=>by
  obtain ⟨z1,y2,y3,y4,y5,y6,y7,y8,y9,y10,y11,y12,y13,y14,y15,y16,y17,y18,y19,y20,hz⟩:=GoalV.this (d+1) _ _ _ _ _ h
  obtain ⟨x0,x1,x2,x3,u0,u1,u2,u3,va,vg,hv,_⟩:=h
  rw [hv] at hz
  simp only [Value.agg.injEq,Array.mk.injEq,List.cons.injEq,and_true] at hz
  obtain ⟨e1,rfl,rfl,rfl,rfl,rfl,rfl,rfl,rfl,e2,rfl,rfl⟩:=hz
  exact ⟨y2,y3,y4,y5,y6,y7,y8,y9,y10,y11,y12,y13,y14,y15,y16,y17,y18,y19,y20,by rw [hv,e2];rfl⟩
set_option maxRecDepth 100000 in
set_option maxHeartbeats 2000000 in
theorem pinner_step (d:Nat) (HG:Hid (Puts 38 (GoalV d) goalOk goalF)):Puts 110 (GoalV d) goalOk (fun g=>parenF (goalF g)):=by
 intro B b l x v lo hi w h hv hok hh hl
 have HP:=Lib.hid h
 have HV:=Lib.hid hv
 have hl0:=h.lt
 obtain ⟨y2,y3,y4,y5,y6,y7,y8,y9,y10,y11,y12,y13,y14,y15,y16,y17,y18,y19,y20,rfl⟩:=GoalV.shape _ _ _ _ _ _ hv
 have hw0:(w.alloc (.cells #[.int .i64 (kindG x),.int .i64 y2,.string y3,.int .i64 y4,.slice y5 y6 y7,.int .i64 y8,.string y9,.int .i64 y10,.slice y11 y12 y13,.string y14,.slice y15 y16 y17,.slice y18 y19 y20] 31)).heap.size=w.heap.size+1:=by simp
 clear hv h
 have hfe:parenF (goalF x)=[40]++(goalF x++[41]):=rfl
 simp only [hfe,List.length_append,List.length_cons,List.length_nil] at hl
 go_enter Tryz.func110,Tryz.ntmps110
 go_wp2_with fail
 go_at_call 62
 refine (put_one B b _ [40] _ rfl _ _ (by simp) (HP.out.alloc _) (by (try simp only [List.length_append,List.length_cons,List.length_nil]);omega)).mono ?_
 rintro e w1 ⟨rfl,hp,hk⟩
 have HP1:=Lib.hid hp
 have HK1:=Lib.hid (((Kept.refl B b w).alloc (by omega) _).trans hk)
 have HB1:=Lib.hid (hk.cells (heap_alloc_new w _) (by decide) (by omega))
 clear hp hk
 have c0:w1.cell? ⟨w.heap.size,0,none⟩=some (.int .i64 (kindG x)):=(Lib.cell_of_heap HB1.out 0).trans rfl
 have c1:w1.cell? ⟨w.heap.size,1,none⟩=some (.int .i64 y2):=(Lib.cell_of_heap HB1.out 1).trans rfl
 have c2:w1.cell? ⟨w.heap.size,2,none⟩=some (.string y3):=(Lib.cell_of_heap HB1.out 2).trans rfl
 have c3:w1.cell? ⟨w.heap.size,3,none⟩=some (.int .i64 y4):=(Lib.cell_of_heap HB1.out 3).trans rfl
 have c4:w1.cell? ⟨w.heap.size,4,none⟩=some (.slice y5 y6 y7):=(Lib.cell_of_heap HB1.out 4).trans rfl
 have c5:w1.cell? ⟨w.heap.size,5,none⟩=some (.int .i64 y8):=(Lib.cell_of_heap HB1.out 5).trans rfl
 have c6:w1.cell? ⟨w.heap.size,6,none⟩=some (.string y9):=(Lib.cell_of_heap HB1.out 6).trans rfl
 have c7:w1.cell? ⟨w.heap.size,7,none⟩=some (.int .i64 y10):=(Lib.cell_of_heap HB1.out 7).trans rfl
 have c8:w1.cell? ⟨w.heap.size,8,none⟩=some (.slice y11 y12 y13):=(Lib.cell_of_heap HB1.out 8).trans rfl
 have c9:w1.cell? ⟨w.heap.size,9,none⟩=some (.string y14):=(Lib.cell_of_heap HB1.out 9).trans rfl
 have c10:w1.cell? ⟨w.heap.size,10,none⟩=some (.slice y15 y16 y17):=(Lib.cell_of_heap HB1.out 10).trans rfl
 have c11:w1.cell? ⟨w.heap.size,11,none⟩=some (.slice y18 y19 y20):=(Lib.cell_of_heap HB1.out 11).trans rfl
 go_wp2_with fail
 clear c0 c1 c2 c3 c4 c5 c6 c7 c8 c9 c10 c11
 go_at_call 38
 refine (HG.out B b _ x _ lo hi _ HP1.out (stays (GoalV.stable d) HV.out HK1.out.below hh) hok hh (by (try simp only [List.length_append,List.length_cons,List.length_nil]);omega)).mono ?_
 rintro e w2 ⟨rfl,hp,hk⟩
 have HP2:=Lib.hid hp
 have HK2:=Lib.hid (HK1.out.trans hk)
 have HB2:=Lib.hid (hk.cells HB1.out (by decide) (by omega))
 clear hp hk
 have c0:w2.cell? ⟨w.heap.size,0,none⟩=some (.int .i64 (kindG x)):=(Lib.cell_of_heap HB2.out 0).trans rfl
 have c1:w2.cell? ⟨w.heap.size,1,none⟩=some (.int .i64 y2):=(Lib.cell_of_heap HB2.out 1).trans rfl
 have c2:w2.cell? ⟨w.heap.size,2,none⟩=some (.string y3):=(Lib.cell_of_heap HB2.out 2).trans rfl
 have c3:w2.cell? ⟨w.heap.size,3,none⟩=some (.int .i64 y4):=(Lib.cell_of_heap HB2.out 3).trans rfl
 have c4:w2.cell? ⟨w.heap.size,4,none⟩=some (.slice y5 y6 y7):=(Lib.cell_of_heap HB2.out 4).trans rfl
 have c5:w2.cell? ⟨w.heap.size,5,none⟩=some (.int .i64 y8):=(Lib.cell_of_heap HB2.out 5).trans rfl
 have c6:w2.cell? ⟨w.heap.size,6,none⟩=some (.string y9):=(Lib.cell_of_heap HB2.out 6).trans rfl
 have c7:w2.cell? ⟨w.heap.size,7,none⟩=some (.int .i64 y10):=(Lib.cell_of_heap HB2.out 7).trans rfl
 have c8:w2.cell? ⟨w.heap.size,8,none⟩=some (.slice y11 y12 y13):=(Lib.cell_of_heap HB2.out 8).trans rfl
 have c9:w2.cell? ⟨w.heap.size,9,none⟩=some (.string y14):=(Lib.cell_of_heap HB2.out 9).trans rfl
 have c10:w2.cell? ⟨w.heap.size,10,none⟩=some (.slice y15 y16 y17):=(Lib.cell_of_heap HB2.out 10).trans rfl
 have c11:w2.cell? ⟨w.heap.size,11,none⟩=some (.slice y18 y19 y20):=(Lib.cell_of_heap HB2.out 11).trans rfl
 go_wp2_with fail
 clear c0 c1 c2 c3 c4 c5 c6 c7 c8 c9 c10 c11
 go_at_call 62
 refine (put_one B b _ [41] _ rfl _ _ (by simp) HP2.out (by (try simp only [List.length_append,List.length_cons,List.length_nil]);omega)).mono ?_
 rintro e w3 ⟨rfl,hp,hk⟩
 have HP3:=Lib.hid hp
 have HK3:=Lib.hid (HK2.out.trans hk)
 have HB3:=Lib.hid (hk.cells HB2.out (by decide) (by omega))
 clear hp hk
 go_wp2_with fail
 go_end0
 exact ⟨rfl,by simp only [hfe];simpa only [List.append_assoc] using HP3.out,HK3.out⟩
set_option maxRecDepth 100000 in
set_option maxHeartbeats 2000000 in
theorem pconj_step (d:Nat) (HY:Hid (Puts 110 (GoalV d) goalOk (fun g=>parenF (goalF g)))) (HN:Hid (Puts 38 (GoalV d) goalOk goalF)):Puts 75 (GoalV d) goalOk conjF:=by
 intro B b l x v lo hi w h hv hok hh hl
 have HP:=Lib.hid h
 have HV:=Lib.hid hv
 have hl0:=h.lt
 obtain ⟨y2,y3,y4,y5,y6,y7,y8,y9,y10,y11,y12,y13,y14,y15,y16,y17,y18,y19,y20,rfl⟩:=GoalV.shape _ _ _ _ _ _ hv
 have hw0:(w.alloc (.cells #[.int .i64 (kindG x),.int .i64 y2,.string y3,.int .i64 y4,.slice y5 y6 y7,.int .i64 y8,.string y9,.int .i64 y10,.slice y11 y12 y13,.string y14,.slice y15 y16 y17,.slice y18 y19 y20] 31)).heap.size=w.heap.size+1:=by simp
 clear hv h
 by_cases hq:kindG x=6
 ·have hfe:conjF x=parenF (goalF x):=by unfold conjF conjW;rw [if_pos hq]
  rw [hfe] at hl
  have hq2:(kindG x == 6)=true:=by simp [hq]
  clear hq
  go_enter Tryz.func75,Tryz.ntmps75
  go_wp2_with fail
  go_at_call 110
  refine (HY.out B b _ x _ lo hi _ (HP.out.alloc _) (stays (GoalV.stable d) HV.out ((Kept.refl B b w).alloc (by omega) _).below hh) hok hh hl).mono ?_
  rintro e w1 ⟨rfl,hp,hk⟩
  have HP1:=Lib.hid hp
  have HK1:=Lib.hid (((Kept.refl B b w).alloc (by omega) _).trans hk)
  have HB1:=Lib.hid (hk.cells (heap_alloc_new w _) (by decide) (by omega))
  clear hp hk
  go_wp2_with fail
  go_end0
  exact ⟨rfl,by rw [hfe];exact HP1.out,HK1.out⟩
 ·have hfe:conjF x=goalF x:=by unfold conjF conjW;rw [if_neg hq]
  rw [hfe] at hl
  have hq2:(kindG x == 6)=false:=by simp [hq]
  clear hq
  go_enter Tryz.func75,Tryz.ntmps75
  go_wp2_with fail
  go_at_call 38
  refine (HN.out B b _ x _ lo hi _ (HP.out.alloc _) (stays (GoalV.stable d) HV.out ((Kept.refl B b w).alloc (by omega) _).below hh) hok hh hl).mono ?_
  rintro e w1 ⟨rfl,hp,hk⟩
  have HP1:=Lib.hid hp
  have HK1:=Lib.hid (((Kept.refl B b w).alloc (by omega) _).trans hk)
  have HB1:=Lib.hid (hk.cells (heap_alloc_new w _) (by decide) (by omega))
  clear hp hk
  go_wp2_with fail
  go_end0
  exact ⟨rfl,by rw [hfe];exact HP1.out,HK1.out⟩
set_option maxRecDepth 100000 in
set_option maxHeartbeats 2000000 in
theorem pprim_step (d:Nat) (HY:Hid (Puts 110 (GoalV d) goalOk (fun g=>parenF (goalF g)))) (HN:Hid (Puts 75 (GoalV d) goalOk conjF)):Puts 74 (GoalV d) goalOk primF:=by
 intro B b l x v lo hi w h hv hok hh hl
 have HP:=Lib.hid h
 have HV:=Lib.hid hv
 have hl0:=h.lt
 obtain ⟨y2,y3,y4,y5,y6,y7,y8,y9,y10,y11,y12,y13,y14,y15,y16,y17,y18,y19,y20,rfl⟩:=GoalV.shape _ _ _ _ _ _ hv
 have hw0:(w.alloc (.cells #[.int .i64 (kindG x),.int .i64 y2,.string y3,.int .i64 y4,.slice y5 y6 y7,.int .i64 y8,.string y9,.int .i64 y10,.slice y11 y12 y13,.string y14,.slice y15 y16 y17,.slice y18 y19 y20] 31)).heap.size=w.heap.size+1:=by simp
 clear hv h
 by_cases hq:kindG x=5
 ·have hfe:primF x=parenF (goalF x):=by unfold primF primW;rw [if_pos hq]
  rw [hfe] at hl
  have hq2:(kindG x == 5)=true:=by simp [hq]
  clear hq
  go_enter Tryz.func74,Tryz.ntmps74
  go_wp2_with fail
  go_at_call 110
  refine (HY.out B b _ x _ lo hi _ (HP.out.alloc _) (stays (GoalV.stable d) HV.out ((Kept.refl B b w).alloc (by omega) _).below hh) hok hh hl).mono ?_
  rintro e w1 ⟨rfl,hp,hk⟩
  have HP1:=Lib.hid hp
  have HK1:=Lib.hid (((Kept.refl B b w).alloc (by omega) _).trans hk)
  have HB1:=Lib.hid (hk.cells (heap_alloc_new w _) (by decide) (by omega))
  clear hp hk
  go_wp2_with fail
  go_end0
  exact ⟨rfl,by rw [hfe];exact HP1.out,HK1.out⟩
 ·have hfe:primF x=conjF x:=by unfold primF primW;rw [if_neg hq];rfl
  rw [hfe] at hl
  have hq2:(kindG x == 5)=false:=by simp [hq]
  clear hq
  go_enter Tryz.func74,Tryz.ntmps74
  go_wp2_with fail
  go_at_call 75
  refine (HN.out B b _ x _ lo hi _ (HP.out.alloc _) (stays (GoalV.stable d) HV.out ((Kept.refl B b w).alloc (by omega) _).below hh) hok hh hl).mono ?_
  rintro e w1 ⟨rfl,hp,hk⟩
  have HP1:=Lib.hid hp
  have HK1:=Lib.hid (((Kept.refl B b w).alloc (by omega) _).trans hk)
  have HB1:=Lib.hid (hk.cells (heap_alloc_new w _) (by decide) (by omega))
  clear hp hk
  go_wp2_with fail
  go_end0
  exact ⟨rfl,by rw [hfe];exact HP1.out,HK1.out⟩
theorem partW_in (gs:List GoalT) (i:Nat) (h:i < gs.length):partW (goalsF gs) i=primF gs[i]:=by
 unfold partW
 rw [goalsF_map,List.getElem?_map,List.getElem?_eq_getElem h]
 rfl
theorem partW_out (gs:List GoalT) (i:Nat) (h:¬ i < gs.length):partW (goalsF gs) i=[]:=by
 unfold partW
 rw [goalsF_map,List.getElem?_map,List.getElem?_eq_none (by omega)]
 rfl
set_option maxRecDepth 100000 in
set_option maxHeartbeats 2000000 in
theorem ppart_step (d:Nat) (HR:Hid (Puts 74 (GoalV d) goalOk primF)) (B b:Nat) (l:List UInt8) (gs:List GoalT) (v:Value) (lo hi:Nat) (w:World) (i:Nat) (z:Int) (hz:z=(i:Int)) (h:Pri B b l w) (hv:ArgsV 31 12 (GoalV d) gs v lo hi w) (hok:∀ x ∈ gs,goalOk x) (hh:hi≤B) (hl:l.length+(partW (goalsF gs) i).length≤1099511627776) (hi1:i≤1) :
  Calls Tryz.prog 76 #[.pointer (some ⟨b,0,none⟩),v,.int .i64 z] w fun e w'=>PutR B b l (partW (goalsF gs) i) w e w':=by
 subst hz
 have HP:=Lib.hid h
 have hl0:=h.lt
 have hlen:=hv.few
 unfold maxLen at hlen
 obtain ⟨A,c,rfl,r1⟩:=hv.at (fun _ _ _ _ _ h=>GoalV.cells h) (by decide)
 clear hv h
 by_cases hlt:i < gs.length
 ·obtain ⟨g1,u1,p1,t1,rfl,_,m1,hv1,cc1⟩:=r1 i hlt
  obtain ⟨y2,y3,y4,y5,y6,y7,y8,y9,y10,y11,y12,y13,y14,y15,y16,y17,y18,y19,y20,rfl⟩:=GoalV.shape _ _ _ _ _ _ hv1
  have a0:=(cc1 0 (by decide)).trans rfl
  have a1:=(cc1 1 (by decide)).trans rfl
  have a2:=(cc1 2 (by decide)).trans rfl
  have a3:=(cc1 3 (by decide)).trans rfl
  have a4:=(cc1 4 (by decide)).trans rfl
  have a5:=(cc1 5 (by decide)).trans rfl
  have a6:=(cc1 6 (by decide)).trans rfl
  have a7:=(cc1 7 (by decide)).trans rfl
  have a8:=(cc1 8 (by decide)).trans rfl
  have a9:=(cc1 9 (by decide)).trans rfl
  have a10:=(cc1 10 (by decide)).trans rfl
  have a11:=(cc1 11 (by decide)).trans rfl
  simp only [cellsL,Value.cells,List.getElem?_cons_zero,List.getElem?_cons_succ,Nat.add_zero] at a0 a1 a2 a3 a4 a5 a6 a7 a8 a9 a10 a11
  have HV1:=Lib.hid hv1
  have hk0:(0:Int)≤(i:Int):=by omega
  have hk1:(i:Int) < (gs.length:Int):=by omega
  have hq:decide ((i:Int) < (gs.length:Int))=true:=by simpa using hlt
  have hq2:decide (i < gs.length)=true:=by simpa using hlt
  rw [partW_in gs i hlt] at hl ⊢
  have hok1:=hok _ (List.getElem_mem hlt)
  clear cc1 hv1 r1 hok
  go_enter Tryz.func76,Tryz.ntmps76
  go_wp2_with fail
  go_at_call 74
  refine (HR.out B b _ _ _ p1 t1 _ HP.out HV1.out hok1 (by omega) hl).mono ?_
  rintro e w1 ⟨rfl,hp,hk⟩
  have HP1:=Lib.hid hp
  have HK1:=Lib.hid ((Kept.refl B b w).trans hk)
  clear hp hk
  go_wp2_with fail
  go_end0
  exact ⟨rfl,HP1.out,HK1.out⟩
 ·have hq:decide ((i:Int) < (gs.length:Int))=false:=by simp;omega
  have hq2:decide (i < gs.length)=false:=by simpa using hlt
  rw [partW_out gs i hlt] at hl ⊢
  go_enter Tryz.func76,Tryz.ntmps76
  go_wp2_with fail
  go_end0
  exact ⟨rfl,by simpa using HP.out,Kept.refl _ _ _⟩
end Lx
end Go.Proofs.YtajomoclbpobhaaGreatDoor
namespace Go.Proofs.YtajomoclbpobhaaGreatDoor
set_option linter.unusedSimpArgs false
set_option linter.unusedVariables false
namespace Lx
open Go Go.RowKit
set_option maxRecDepth 100000 in
set_option maxHeartbeats 2000000 in
theorem pgoal_1 (d:Nat) (HT:Hid (Puts 40 (TermV 66) termOk termF)) (HTA:Hid (PutsA 72 40 28 4 (TermV 66) termOk termF)) (HR:Hid (Puts 74 (GoalV d) goalOk primF)) (HC:Hid (Puts 75 (GoalV d) goalOk conjF))
  (B b:Nat) (l:List UInt8) (ta tb:TermT) (s:List UInt8) (xs:List TermT) (gs:List GoalT) (v:Value) (lo hi:Nat) (w:World) (h:Pri B b l w) (hv:GoalV (d+1) (.mk 1 ta tb s xs gs) v lo hi w) (hok:goalOk (.mk 1 ta tb s xs gs)) (hh:hi≤B) (hl:l.length+(goalF (.mk 1 ta tb s xs gs)).length≤1099511627776) :
  Calls Tryz.prog 38 #[.pointer (some ⟨b,0,none⟩),v] w fun e w'=>PutR B b l (goalF (.mk 1 ta tb s xs gs)) w e w':=by
 rw [goalOk,termsOk_iff,goalsOk_iff] at hok
 have hfe:goalF (.mk 1 ta tb s xs gs)=[116,114,117,101]:=by
  rw [goalF]
  simp only [goalW,if_false,if_true]
 rw [hfe] at hl ⊢
 clear hfe
 simp only [List.length_append,List.length_cons,List.length_nil] at hl
 have hmf:∀ (fn:Fn) (first cap:Array Value) (w:World),(Instr.makeFunc fn first cap).run Tryz.prog w=.ok (.func fn first cap) w:=fun _ _ _ _=>rfl
 have HP:=Lib.hid h
 have hl0:=h.lt
 obtain ⟨y2,y3,y4,y5,y6,y7,y8,y9,y10,y11,y12,y13,y14,y15,y16,y17,y18,y19,y20,e1⟩:=GoalV.shape _ _ _ _ _ _ hv
 have e2:v=.agg #[.int .i64 1,.int .i64 y2,.string y3,.int .i64 y4,.slice y5 y6 y7,.int .i64 y8,.string y9,.int .i64 y10,.slice y11 y12 y13,.string y14,.slice y15 y16 y17,.slice y18 y19 y20]:=e1
 clear e1
 subst e2
 obtain ⟨p0,p1,p2,p3,p4,p5,p6,p7,pa,pg,hp,A1,B1,L1,G1⟩:=hv
 simp only [Value.agg.injEq,Array.mk.injEq,List.cons.injEq,and_true,true_and] at hp
 obtain ⟨rfl,rfl,rfl,rfl,rfl,rfl,rfl,rfl,e14,rfl,rfl⟩:=hp
 injection e14 with e14
 subst e14
 have HTa:=Lib.hid A1
 have HTb:=Lib.hid B1
 have HXs:=Lib.hid L1
 have HGs:=Lib.hid G1
 clear A1 B1 L1 G1 h
 have hw0:(w.alloc (.cells #[.int .i64 1,.int .i64 y2,.string y3,.int .i64 y4,.slice y5 y6 y7,.int .i64 y8,.string y9,.int .i64 y10,.slice y11 y12 y13,.string (bs s),.slice y15 y16 y17,.slice y18 y19 y20] 31)).heap.size=w.heap.size+1:=by simp
 have t1:=(HP.out.alloc (.cells #[.int .i64 1,.int .i64 y2,.string y3,.int .i64 y4,.slice y5 y6 y7,.int .i64 y8,.string y9,.int .i64 y10,.slice y11 y12 y13,.string (bs s),.slice y15 y16 y17,.slice y18 y19 y20] 31)).words.2 1 (by decide)
 have u1:=HP.out.words.2 1 (by decide)
 go_enter Tryz.func38,Tryz.ntmps38
 go_wp2_with fail
 clear t1 u1
 go_at_call 62
 refine (put_one B b _ [116,114,117,101] _ rfl _ _ (by simp) (HP.out.alloc _) (by (try simp only [List.length_append,List.length_cons,List.length_nil]);omega)).mono ?_
 rintro e w1 ⟨rfl,hp,hk⟩
 have HP1:=Lib.hid hp
 have HK1:=Lib.hid (((Kept.refl B b w).alloc (by omega) _).trans hk)
 have HB1:=Lib.hid (hk.cells (heap_alloc_new w _) (by decide) (by omega))
 clear hp hk
 go_wp2_with fail
 go_end0
 exact ⟨rfl,by have e:=HP1.out;(try simp only [List.append_assoc,List.cons_append,List.nil_append] at e ⊢);exact e,HK1.out⟩
set_option maxRecDepth 100000 in
set_option maxHeartbeats 2000000 in
theorem pgoal_2 (d:Nat) (HT:Hid (Puts 40 (TermV 66) termOk termF)) (HTA:Hid (PutsA 72 40 28 4 (TermV 66) termOk termF)) (HR:Hid (Puts 74 (GoalV d) goalOk primF)) (HC:Hid (Puts 75 (GoalV d) goalOk conjF))
  (B b:Nat) (l:List UInt8) (ta tb:TermT) (s:List UInt8) (xs:List TermT) (gs:List GoalT) (v:Value) (lo hi:Nat) (w:World) (h:Pri B b l w) (hv:GoalV (d+1) (.mk 2 ta tb s xs gs) v lo hi w) (hok:goalOk (.mk 2 ta tb s xs gs)) (hh:hi≤B) (hl:l.length+(goalF (.mk 2 ta tb s xs gs)).length≤1099511627776) :
  Calls Tryz.prog 38 #[.pointer (some ⟨b,0,none⟩),v] w fun e w'=>PutR B b l (goalF (.mk 2 ta tb s xs gs)) w e w':=by
 rw [goalOk,termsOk_iff,goalsOk_iff] at hok
 have hfe:goalF (.mk 2 ta tb s xs gs)=[102,97,105,108]:=by
  rw [goalF]
  simp only [goalW,show ¬ ((2:Int)=1) by decide,if_false,if_true]
 rw [hfe] at hl ⊢
 clear hfe
 simp only [List.length_append,List.length_cons,List.length_nil] at hl
 have hmf:∀ (fn:Fn) (first cap:Array Value) (w:World),(Instr.makeFunc fn first cap).run Tryz.prog w=.ok (.func fn first cap) w:=fun _ _ _ _=>rfl
 have HP:=Lib.hid h
 have hl0:=h.lt
 obtain ⟨y2,y3,y4,y5,y6,y7,y8,y9,y10,y11,y12,y13,y14,y15,y16,y17,y18,y19,y20,e1⟩:=GoalV.shape _ _ _ _ _ _ hv
 have e2:v=.agg #[.int .i64 2,.int .i64 y2,.string y3,.int .i64 y4,.slice y5 y6 y7,.int .i64 y8,.string y9,.int .i64 y10,.slice y11 y12 y13,.string y14,.slice y15 y16 y17,.slice y18 y19 y20]:=e1
 clear e1
 subst e2
 obtain ⟨p0,p1,p2,p3,p4,p5,p6,p7,pa,pg,hp,A1,B1,L1,G1⟩:=hv
 simp only [Value.agg.injEq,Array.mk.injEq,List.cons.injEq,and_true,true_and] at hp
 obtain ⟨rfl,rfl,rfl,rfl,rfl,rfl,rfl,rfl,e14,rfl,rfl⟩:=hp
 injection e14 with e14
 subst e14
 have HTa:=Lib.hid A1
 have HTb:=Lib.hid B1
 have HXs:=Lib.hid L1
 have HGs:=Lib.hid G1
 clear A1 B1 L1 G1 h
 have hw0:(w.alloc (.cells #[.int .i64 2,.int .i64 y2,.string y3,.int .i64 y4,.slice y5 y6 y7,.int .i64 y8,.string y9,.int .i64 y10,.slice y11 y12 y13,.string (bs s),.slice y15 y16 y17,.slice y18 y19 y20] 31)).heap.size=w.heap.size+1:=by simp
 have t2:=(HP.out.alloc (.cells #[.int .i64 2,.int .i64 y2,.string y3,.int .i64 y4,.slice y5 y6 y7,.int .i64 y8,.string y9,.int .i64 y10,.slice y11 y12 y13,.string (bs s),.slice y15 y16 y17,.slice y18 y19 y20] 31)).words.2 2 (by decide)
 have u2:=HP.out.words.2 2 (by decide)
 go_enter Tryz.func38,Tryz.ntmps38
 go_wp2_with fail
 clear t2 u2
 go_at_call 62
 refine (put_one B b _ [102,97,105,108] _ rfl _ _ (by simp) (HP.out.alloc _) (by (try simp only [List.length_append,List.length_cons,List.length_nil]);omega)).mono ?_
 rintro e w1 ⟨rfl,hp,hk⟩
 have HP1:=Lib.hid hp
 have HK1:=Lib.hid (((Kept.refl B b w).alloc (by omega) _).trans hk)
 have HB1:=Lib.hid (hk.cells (heap_alloc_new w _) (by decide) (by omega))
 clear hp hk
 go_wp2_with fail
 go_end0
 exact ⟨rfl,by have e:=HP1.out;(try simp only [List.append_assoc,List.cons_append,List.nil_append] at e ⊢);exact e,HK1.out⟩
set_option maxRecDepth 100000 in
set_option maxHeartbeats 2000000 in
theorem pgoal_3 (d:Nat) (HT:Hid (Puts 40 (TermV 66) termOk termF)) (HTA:Hid (PutsA 72 40 28 4 (TermV 66) termOk termF)) (HR:Hid (Puts 74 (GoalV d) goalOk primF)) (HC:Hid (Puts 75 (GoalV d) goalOk conjF))
  (B b:Nat) (l:List UInt8) (ta tb:TermT) (s:List UInt8) (xs:List TermT) (gs:List GoalT) (v:Value) (lo hi:Nat) (w:World) (h:Pri B b l w) (hv:GoalV (d+1) (.mk 3 ta tb s xs gs) v lo hi w) (hok:goalOk (.mk 3 ta tb s xs gs)) (hh:hi≤B) (hl:l.length+(goalF (.mk 3 ta tb s xs gs)).length≤1099511627776) :
  Calls Tryz.prog 38 #[.pointer (some ⟨b,0,none⟩),v] w fun e w'=>PutR B b l (goalF (.mk 3 ta tb s xs gs)) w e w':=by
 rw [goalOk,termsOk_iff,goalsOk_iff] at hok
 have hfe:goalF (.mk 3 ta tb s xs gs)=termF ta++([32,61,32]++termF tb):=by
  rw [goalF]
  simp only [goalW,show ¬ ((3:Int)=1) by decide,show ¬ ((3:Int)=2) by decide,if_false,if_true]
 rw [hfe] at hl ⊢
 clear hfe
 simp only [List.length_append,List.length_cons,List.length_nil] at hl
 have hmf:∀ (fn:Fn) (first cap:Array Value) (w:World),(Instr.makeFunc fn first cap).run Tryz.prog w=.ok (.func fn first cap) w:=fun _ _ _ _=>rfl
 have HP:=Lib.hid h
 have hl0:=h.lt
 obtain ⟨y2,y3,y4,y5,y6,y7,y8,y9,y10,y11,y12,y13,y14,y15,y16,y17,y18,y19,y20,e1⟩:=GoalV.shape _ _ _ _ _ _ hv
 have e2:v=.agg #[.int .i64 3,.int .i64 y2,.string y3,.int .i64 y4,.slice y5 y6 y7,.int .i64 y8,.string y9,.int .i64 y10,.slice y11 y12 y13,.string y14,.slice y15 y16 y17,.slice y18 y19 y20]:=e1
 clear e1
 subst e2
 obtain ⟨p0,p1,p2,p3,p4,p5,p6,p7,pa,pg,hp,A1,B1,L1,G1⟩:=hv
 simp only [Value.agg.injEq,Array.mk.injEq,List.cons.injEq,and_true,true_and] at hp
 obtain ⟨rfl,rfl,rfl,rfl,rfl,rfl,rfl,rfl,e14,rfl,rfl⟩:=hp
 injection e14 with e14
 subst e14
 have HTa:=Lib.hid A1
 have HTb:=Lib.hid B1
 have HXs:=Lib.hid L1
 have HGs:=Lib.hid G1
 clear A1 B1 L1 G1 h
 have hw0:(w.alloc (.cells #[.int .i64 3,.int .i64 y2,.string y3,.int .i64 y4,.slice y5 y6 y7,.int .i64 y8,.string y9,.int .i64 y10,.slice y11 y12 y13,.string (bs s),.slice y15 y16 y17,.slice y18 y19 y20] 31)).heap.size=w.heap.size+1:=by simp
 have t3:=(HP.out.alloc (.cells #[.int .i64 3,.int .i64 y2,.string y3,.int .i64 y4,.slice y5 y6 y7,.int .i64 y8,.string y9,.int .i64 y10,.slice y11 y12 y13,.string (bs s),.slice y15 y16 y17,.slice y18 y19 y20] 31)).words.2 3 (by decide)
 have u3:=HP.out.words.2 3 (by decide)
 go_enter Tryz.func38,Tryz.ntmps38
 go_wp2_with fail
 clear t3 u3
 go_at_call 40
 refine (HT.out B b _ ta _ lo hi _ (HP.out.alloc _) (stays (TermV.stable 66) HTa.out ((Kept.refl B b w).alloc (by omega) _).below hh) hok.1 hh (by (try simp only [List.length_append,List.length_cons,List.length_nil]);omega)).mono ?_
 rintro e w1 ⟨rfl,hp,hk⟩
 have HP1:=Lib.hid hp
 have HK1:=Lib.hid (((Kept.refl B b w).alloc (by omega) _).trans hk)
 have HB1:=Lib.hid (hk.cells (heap_alloc_new w _) (by decide) (by omega))
 clear hp hk
 have c0:w1.cell? ⟨w.heap.size,0,none⟩=some (.int .i64 3):=(Lib.cell_of_heap HB1.out 0).trans rfl
 have t3:=HP1.out.words.2 3 (by decide)
 go_wp2_with fail
 clear c0
 clear t3
 go_at_call 62
 refine (put_one B b _ [32,61,32] _ rfl _ _ (by simp) HP1.out (by (try simp only [List.length_append,List.length_cons,List.length_nil]);omega)).mono ?_
 rintro e w2 ⟨rfl,hp,hk⟩
 have HP2:=Lib.hid hp
 have HK2:=Lib.hid (HK1.out.trans hk)
 have HB2:=Lib.hid (hk.cells HB1.out (by decide) (by omega))
 clear hp hk
 have c5:w2.cell? ⟨w.heap.size,5,none⟩=some (.int .i64 y8):=(Lib.cell_of_heap HB2.out 5).trans rfl
 have c6:w2.cell? ⟨w.heap.size,6,none⟩=some (.string y9):=(Lib.cell_of_heap HB2.out 6).trans rfl
 have c7:w2.cell? ⟨w.heap.size,7,none⟩=some (.int .i64 y10):=(Lib.cell_of_heap HB2.out 7).trans rfl
 have c8:w2.cell? ⟨w.heap.size,8,none⟩=some (.slice y11 y12 y13):=(Lib.cell_of_heap HB2.out 8).trans rfl
 go_wp2_with fail
 clear c5 c6 c7 c8
 go_at_call 40
 refine (HT.out B b _ tb _ lo hi _ HP2.out (stays (TermV.stable 66) HTb.out HK2.out.below hh) hok.2.1 hh (by (try simp only [List.length_append,List.length_cons,List.length_nil]);omega)).mono ?_
 rintro e w3 ⟨rfl,hp,hk⟩
 have HP3:=Lib.hid hp
 have HK3:=Lib.hid (HK2.out.trans hk)
 have HB3:=Lib.hid (hk.cells HB2.out (by decide) (by omega))
 clear hp hk
 go_wp2_with fail
 go_end0
 exact ⟨rfl,by have e:=HP3.out;(try simp only [List.append_assoc,List.cons_append,List.nil_append] at e ⊢);exact e,HK3.out⟩
set_option maxRecDepth 100000 in
set_option maxHeartbeats 2000000 in
theorem pgoal_4 (d:Nat) (HT:Hid (Puts 40 (TermV 66) termOk termF)) (HTA:Hid (PutsA 72 40 28 4 (TermV 66) termOk termF)) (HR:Hid (Puts 74 (GoalV d) goalOk primF)) (HC:Hid (Puts 75 (GoalV d) goalOk conjF))
  (B b:Nat) (l:List UInt8) (ta tb:TermT) (s:List UInt8) (xs:List TermT) (gs:List GoalT) (v:Value) (lo hi:Nat) (w:World) (h:Pri B b l w) (hv:GoalV (d+1) (.mk 4 ta tb s xs gs) v lo hi w) (hok:goalOk (.mk 4 ta tb s xs gs)) (hh:hi≤B) (hl:l.length+(goalF (.mk 4 ta tb s xs gs)).length≤1099511627776) :
  Calls Tryz.prog 38 #[.pointer (some ⟨b,0,none⟩),v] w fun e w'=>PutR B b l (goalF (.mk 4 ta tb s xs gs)) w e w':=by
 rw [goalOk,termsOk_iff,goalsOk_iff] at hok
 have hfe:goalF (.mk 4 ta tb s xs gs)=s++argsF (xs.map termF):=by
  rw [goalF,termsF_map]
  simp only [goalW,show ¬ ((4:Int)=1) by decide,show ¬ ((4:Int)=2) by decide,show ¬ ((4:Int)=3) by decide,if_false,if_true]
 rw [hfe] at hl ⊢
 clear hfe
 simp only [List.length_append,List.length_cons,List.length_nil] at hl
 have hmf:∀ (fn:Fn) (first cap:Array Value) (w:World),(Instr.makeFunc fn first cap).run Tryz.prog w=.ok (.func fn first cap) w:=fun _ _ _ _=>rfl
 have HP:=Lib.hid h
 have hl0:=h.lt
 obtain ⟨y2,y3,y4,y5,y6,y7,y8,y9,y10,y11,y12,y13,y14,y15,y16,y17,y18,y19,y20,e1⟩:=GoalV.shape _ _ _ _ _ _ hv
 have e2:v=.agg #[.int .i64 4,.int .i64 y2,.string y3,.int .i64 y4,.slice y5 y6 y7,.int .i64 y8,.string y9,.int .i64 y10,.slice y11 y12 y13,.string y14,.slice y15 y16 y17,.slice y18 y19 y20]:=e1
 clear e1
 subst e2
 obtain ⟨p0,p1,p2,p3,p4,p5,p6,p7,pa,pg,hp,A1,B1,L1,G1⟩:=hv
 simp only [Value.agg.injEq,Array.mk.injEq,List.cons.injEq,and_true,true_and] at hp
 obtain ⟨rfl,rfl,rfl,rfl,rfl,rfl,rfl,rfl,e14,rfl,rfl⟩:=hp
 injection e14 with e14
 subst e14
 have HTa:=Lib.hid A1
 have HTb:=Lib.hid B1
 have HXs:=Lib.hid L1
 have HGs:=Lib.hid G1
 clear A1 B1 L1 G1 h
 have hw0:(w.alloc (.cells #[.int .i64 4,.int .i64 y2,.string y3,.int .i64 y4,.slice y5 y6 y7,.int .i64 y8,.string y9,.int .i64 y10,.slice y11 y12 y13,.string (bs s),.slice y15 y16 y17,.slice y18 y19 y20] 31)).heap.size=w.heap.size+1:=by simp
 go_enter Tryz.func38,Tryz.ntmps38
 go_wp2_with fail
 go_at_call 62
 refine (put_one B b _ s _ rfl _ _ (by simp) (HP.out.alloc _) (by (try simp only [List.length_append,List.length_cons,List.length_nil]);omega)).mono ?_
 rintro e w1 ⟨rfl,hp,hk⟩
 have HP1:=Lib.hid hp
 have HK1:=Lib.hid (((Kept.refl B b w).alloc (by omega) _).trans hk)
 have HB1:=Lib.hid (hk.cells (heap_alloc_new w _) (by decide) (by omega))
 clear hp hk
 have c10:w1.cell? ⟨w.heap.size,10,none⟩=some (.slice y15 y16 y17):=(Lib.cell_of_heap HB1.out 10).trans rfl
 go_wp2_with fail
 clear c10
 go_at_call 72
 refine (HTA.out B b _ xs _ lo hi _ HP1.out (stays (ArgsV.stable _ _ (TermV.stable 66)) HXs.out HK1.out.below hh) hok.2.2.1 hh (by (try simp only [List.length_append,List.length_cons,List.length_nil]);omega)).mono ?_
 rintro e w2 ⟨rfl,hp,hk⟩
 have HP2:=Lib.hid hp
 have HK2:=Lib.hid (HK1.out.trans hk)
 have HB2:=Lib.hid (hk.cells HB1.out (by decide) (by omega))
 clear hp hk
 go_wp2_with fail
 go_end0
 exact ⟨rfl,by have e:=HP2.out;(try simp only [List.append_assoc,List.cons_append,List.nil_append] at e ⊢);exact e,HK2.out⟩
end Lx
end Go.Proofs.YtajomoclbpobhaaGreatDoor
namespace Go.Proofs.YtajomoclbpobhaaGreatDoor
set_option linter.unusedSimpArgs false
set_option linter.unusedVariables false
namespace Lx
open Go Go.RowKit
set_option maxRecDepth 100000 in
set_option maxHeartbeats 2000000 in
theorem pgoal_5 (d:Nat) (HT:Hid (Puts 40 (TermV 66) termOk termF)) (HTA:Hid (PutsA 72 40 28 4 (TermV 66) termOk termF)) (HR:Hid (Puts 74 (GoalV d) goalOk primF)) (HC:Hid (Puts 75 (GoalV d) goalOk conjF))
  (B b:Nat) (l:List UInt8) (ta tb:TermT) (s:List UInt8) (xs:List TermT) (gs:List GoalT) (v:Value) (lo hi:Nat) (w:World) (h:Pri B b l w) (hv:GoalV (d+1) (.mk 5 ta tb s xs gs) v lo hi w) (hok:goalOk (.mk 5 ta tb s xs gs)) (hh:hi≤B) (hl:l.length+(goalF (.mk 5 ta tb s xs gs)).length≤1099511627776) :
  Calls Tryz.prog 38 #[.pointer (some ⟨b,0,none⟩),v] w fun e w'=>PutR B b l (goalF (.mk 5 ta tb s xs gs)) w e w':=by
 rw [goalOk,termsOk_iff,goalsOk_iff] at hok
 have hfe:goalF (.mk 5 ta tb s xs gs)=joinF [44,32] (gs.map primF):=by
  rw [goalF,goalsF_map]
  simp only [goalW,show ¬ ((5:Int)=1) by decide,show ¬ ((5:Int)=2) by decide,show ¬ ((5:Int)=3) by decide,show ¬ ((5:Int)=4) by decide,if_false,if_true,List.map_map]
  rfl
 rw [hfe] at hl ⊢
 clear hfe
 have hmf:∀ (fn:Fn) (first cap:Array Value) (w:World),(Instr.makeFunc fn first cap).run Tryz.prog w=.ok (.func fn first cap) w:=fun _ _ _ _=>rfl
 have HP:=Lib.hid h
 have hl0:=h.lt
 obtain ⟨y2,y3,y4,y5,y6,y7,y8,y9,y10,y11,y12,y13,y14,y15,y16,y17,y18,y19,y20,e1⟩:=GoalV.shape _ _ _ _ _ _ hv
 have e2:v=.agg #[.int .i64 5,.int .i64 y2,.string y3,.int .i64 y4,.slice y5 y6 y7,.int .i64 y8,.string y9,.int .i64 y10,.slice y11 y12 y13,.string y14,.slice y15 y16 y17,.slice y18 y19 y20]:=e1
 clear e1
 subst e2
 obtain ⟨p0,p1,p2,p3,p4,p5,p6,p7,pa,pg,hp,A1,B1,L1,G1⟩:=hv
 simp only [Value.agg.injEq,Array.mk.injEq,List.cons.injEq,and_true,true_and] at hp
 obtain ⟨rfl,rfl,rfl,rfl,rfl,rfl,rfl,rfl,e14,rfl,rfl⟩:=hp
 injection e14 with e14
 subst e14
 have HTa:=Lib.hid A1
 have HTb:=Lib.hid B1
 have HXs:=Lib.hid L1
 have HGs:=Lib.hid G1
 clear A1 B1 L1 G1 h
 have hw0:(w.alloc (.cells #[.int .i64 5,.int .i64 y2,.string y3,.int .i64 y4,.slice y5 y6 y7,.int .i64 y8,.string y9,.int .i64 y10,.slice y11 y12 y13,.string (bs s),.slice y15 y16 y17,.slice y18 y19 y20] 31)).heap.size=w.heap.size+1:=by simp
 have t5:=(HP.out.alloc (.cells #[.int .i64 5,.int .i64 y2,.string y3,.int .i64 y4,.slice y5 y6 y7,.int .i64 y8,.string y9,.int .i64 y10,.slice y11 y12 y13,.string (bs s),.slice y15 y16 y17,.slice y18 y19 y20] 31)).words.2 5 (by decide)
 have u5:=HP.out.words.2 5 (by decide)
 go_enter Tryz.func38,Tryz.ntmps38
 go_wp2_with fail
 go_region_held3 (fun W=>W.cell? ⟨w.heap.size,0,none⟩=some (.int .i64 5)∧W.cell? ⟨w.heap.size,11,none⟩=some (.slice y18 y19 y20)∧W.cell? ⟨1,5,none⟩=some (.string (bs wordsT[5]))) (go_keep) ((go_at_call 73;refine (prowGp _ (GoalV.stable d) (GoalV.this d) _ _ HR B b _ gs _ lo hi _ [44,32] _ rfl (HP.out.alloc _).drew (stays (ArgsV.stable _ _ (GoalV.stable d)) HGs.out (((Below.refl B w).alloc (by omega) _).drew) hh) hok.2.2.2 hh hl).mono ?_;rintro e w1 ⟨rfl,hp,hk⟩;have hbx:=hk.cells (heap_alloc_new w (.cells #[.int .i64 5,.int .i64 y2,.string y3,.int .i64 y4,.slice y5 y6 y7,.int .i64 y8,.string y9,.int .i64 y10,.slice y11 y12 y13,.string (bs s),.slice y15 y16 y17,.slice y18 y19 y20] 31)) (by decide) (by omega);have d0:w1.cell? ⟨w.heap.size,0,none⟩=some (.int .i64 5):=(Lib.cell_of_heap hbx 0).trans rfl;have d11:w1.cell? ⟨w.heap.size,11,none⟩=some (.slice y18 y19 y20):=(Lib.cell_of_heap hbx 11).trans rfl;have v5:=hp.words.2 5 (by decide)))
 go_wp2_with fail
 go_end0
 exact ⟨rfl,hp,((Kept.refl B b w).alloc (by omega) _).drew.trans hk⟩
set_option maxRecDepth 100000 in
set_option maxHeartbeats 2000000 in
theorem pgoal_6 (d:Nat) (HT:Hid (Puts 40 (TermV 66) termOk termF)) (HTA:Hid (PutsA 72 40 28 4 (TermV 66) termOk termF)) (HR:Hid (Puts 74 (GoalV d) goalOk primF)) (HC:Hid (Puts 75 (GoalV d) goalOk conjF))
  (B b:Nat) (l:List UInt8) (ta tb:TermT) (s:List UInt8) (xs:List TermT) (gs:List GoalT) (v:Value) (lo hi:Nat) (w:World) (h:Pri B b l w) (hv:GoalV (d+1) (.mk 6 ta tb s xs gs) v lo hi w) (hok:goalOk (.mk 6 ta tb s xs gs)) (hh:hi≤B) (hl:l.length+(goalF (.mk 6 ta tb s xs gs)).length≤1099511627776) :
  Calls Tryz.prog 38 #[.pointer (some ⟨b,0,none⟩),v] w fun e w'=>PutR B b l (goalF (.mk 6 ta tb s xs gs)) w e w':=by
 rw [goalOk,termsOk_iff,goalsOk_iff] at hok
 have hfe:goalF (.mk 6 ta tb s xs gs)=joinF [32,59,32] (gs.map conjF):=by
  rw [goalF,goalsF_map]
  simp only [goalW,show ¬ ((6:Int)=1) by decide,show ¬ ((6:Int)=2) by decide,show ¬ ((6:Int)=3) by decide,show ¬ ((6:Int)=4) by decide,show ¬ ((6:Int)=5) by decide,if_false,if_true,List.map_map]
  rfl
 rw [hfe] at hl ⊢
 clear hfe
 have hmf:∀ (fn:Fn) (first cap:Array Value) (w:World),(Instr.makeFunc fn first cap).run Tryz.prog w=.ok (.func fn first cap) w:=fun _ _ _ _=>rfl
 have HP:=Lib.hid h
 have hl0:=h.lt
 obtain ⟨y2,y3,y4,y5,y6,y7,y8,y9,y10,y11,y12,y13,y14,y15,y16,y17,y18,y19,y20,e1⟩:=GoalV.shape _ _ _ _ _ _ hv
 have e2:v=.agg #[.int .i64 6,.int .i64 y2,.string y3,.int .i64 y4,.slice y5 y6 y7,.int .i64 y8,.string y9,.int .i64 y10,.slice y11 y12 y13,.string y14,.slice y15 y16 y17,.slice y18 y19 y20]:=e1
 clear e1
 subst e2
 obtain ⟨p0,p1,p2,p3,p4,p5,p6,p7,pa,pg,hp,A1,B1,L1,G1⟩:=hv
 simp only [Value.agg.injEq,Array.mk.injEq,List.cons.injEq,and_true,true_and] at hp
 obtain ⟨rfl,rfl,rfl,rfl,rfl,rfl,rfl,rfl,e14,rfl,rfl⟩:=hp
 injection e14 with e14
 subst e14
 have HTa:=Lib.hid A1
 have HTb:=Lib.hid B1
 have HXs:=Lib.hid L1
 have HGs:=Lib.hid G1
 clear A1 B1 L1 G1 h
 have hw0:(w.alloc (.cells #[.int .i64 6,.int .i64 y2,.string y3,.int .i64 y4,.slice y5 y6 y7,.int .i64 y8,.string y9,.int .i64 y10,.slice y11 y12 y13,.string (bs s),.slice y15 y16 y17,.slice y18 y19 y20] 31)).heap.size=w.heap.size+1:=by simp
 have t6:=(HP.out.alloc (.cells #[.int .i64 6,.int .i64 y2,.string y3,.int .i64 y4,.slice y5 y6 y7,.int .i64 y8,.string y9,.int .i64 y10,.slice y11 y12 y13,.string (bs s),.slice y15 y16 y17,.slice y18 y19 y20] 31)).words.2 6 (by decide)
 have u6:=HP.out.words.2 6 (by decide)
 go_enter Tryz.func38,Tryz.ntmps38
 go_wp2_with fail
 go_region_held3 (fun W=>W.cell? ⟨w.heap.size,0,none⟩=some (.int .i64 6)∧W.cell? ⟨w.heap.size,11,none⟩=some (.slice y18 y19 y20)∧W.cell? ⟨1,6,none⟩=some (.string (bs wordsT[6]))) (go_keep) ((go_at_call 73;refine (prowGc _ (GoalV.stable d) (GoalV.this d) _ _ HC B b _ gs _ lo hi _ [32,59,32] _ rfl (HP.out.alloc _).drew (stays (ArgsV.stable _ _ (GoalV.stable d)) HGs.out (((Below.refl B w).alloc (by omega) _).drew) hh) hok.2.2.2 hh hl).mono ?_;rintro e w1 ⟨rfl,hp,hk⟩;have hbx:=hk.cells (heap_alloc_new w (.cells #[.int .i64 6,.int .i64 y2,.string y3,.int .i64 y4,.slice y5 y6 y7,.int .i64 y8,.string y9,.int .i64 y10,.slice y11 y12 y13,.string (bs s),.slice y15 y16 y17,.slice y18 y19 y20] 31)) (by decide) (by omega);have d0:w1.cell? ⟨w.heap.size,0,none⟩=some (.int .i64 6):=(Lib.cell_of_heap hbx 0).trans rfl;have d11:w1.cell? ⟨w.heap.size,11,none⟩=some (.slice y18 y19 y20):=(Lib.cell_of_heap hbx 11).trans rfl;have v5:=hp.words.2 6 (by decide)))
 go_wp2_with fail
 go_end0
 exact ⟨rfl,hp,((Kept.refl B b w).alloc (by omega) _).drew.trans hk⟩
end Lx
end Go.Proofs.YtajomoclbpobhaaGreatDoor
namespace Go.Proofs.YtajomoclbpobhaaGreatDoor
set_option linter.unusedSimpArgs false
set_option linter.unusedVariables false
namespace Lx
open Go Go.RowKit
set_option maxRecDepth 100000 in
set_option maxHeartbeats 2000000 in
theorem pgoal_7 (d:Nat) (HT:Hid (Puts 40 (TermV 66) termOk termF)) (HTA:Hid (PutsA 72 40 28 4 (TermV 66) termOk termF)) (HR:Hid (Puts 74 (GoalV d) goalOk primF)) (HC:Hid (Puts 75 (GoalV d) goalOk conjF))
  (B b:Nat) (l:List UInt8) (ta tb:TermT) (s:List UInt8) (xs:List TermT) (gs:List GoalT) (v:Value) (lo hi:Nat) (w:World) (h:Pri B b l w) (hv:GoalV (d+1) (.mk 7 ta tb s xs gs) v lo hi w) (hok:goalOk (.mk 7 ta tb s xs gs)) (hh:hi≤B) (hl:l.length+(goalF (.mk 7 ta tb s xs gs)).length≤1099511627776) :
  Calls Tryz.prog 38 #[.pointer (some ⟨b,0,none⟩),v] w fun e w'=>PutR B b l (goalF (.mk 7 ta tb s xs gs)) w e w':=by
 rw [goalOk,termsOk_iff,goalsOk_iff] at hok
 have hfe:goalF (.mk 7 ta tb s xs gs)=[110,111,116,32]++partW (goalsF gs) 0:=by
  rw [goalF]
  simp only [goalW,show ¬ ((7:Int)=1) by decide,show ¬ ((7:Int)=2) by decide,show ¬ ((7:Int)=3) by decide,show ¬ ((7:Int)=4) by decide,show ¬ ((7:Int)=5) by decide,show ¬ ((7:Int)=6) by decide,if_false,if_true]
 rw [hfe] at hl ⊢
 clear hfe
 simp only [List.length_append,List.length_cons,List.length_nil] at hl
 have hmf:∀ (fn:Fn) (first cap:Array Value) (w:World),(Instr.makeFunc fn first cap).run Tryz.prog w=.ok (.func fn first cap) w:=fun _ _ _ _=>rfl
 have HP:=Lib.hid h
 have hl0:=h.lt
 obtain ⟨y2,y3,y4,y5,y6,y7,y8,y9,y10,y11,y12,y13,y14,y15,y16,y17,y18,y19,y20,e1⟩:=GoalV.shape _ _ _ _ _ _ hv
 have e2:v=.agg #[.int .i64 7,.int .i64 y2,.string y3,.int .i64 y4,.slice y5 y6 y7,.int .i64 y8,.string y9,.int .i64 y10,.slice y11 y12 y13,.string y14,.slice y15 y16 y17,.slice y18 y19 y20]:=e1
 clear e1
 subst e2
 obtain ⟨p0,p1,p2,p3,p4,p5,p6,p7,pa,pg,hp,A1,B1,L1,G1⟩:=hv
 simp only [Value.agg.injEq,Array.mk.injEq,List.cons.injEq,and_true,true_and] at hp
 obtain ⟨rfl,rfl,rfl,rfl,rfl,rfl,rfl,rfl,e14,rfl,rfl⟩:=hp
 injection e14 with e14
 subst e14
 have HTa:=Lib.hid A1
 have HTb:=Lib.hid B1
 have HXs:=Lib.hid L1
 have HGs:=Lib.hid G1
 clear A1 B1 L1 G1 h
 have hw0:(w.alloc (.cells #[.int .i64 7,.int .i64 y2,.string y3,.int .i64 y4,.slice y5 y6 y7,.int .i64 y8,.string y9,.int .i64 y10,.slice y11 y12 y13,.string (bs s),.slice y15 y16 y17,.slice y18 y19 y20] 31)).heap.size=w.heap.size+1:=by simp
 have t7:=(HP.out.alloc (.cells #[.int .i64 7,.int .i64 y2,.string y3,.int .i64 y4,.slice y5 y6 y7,.int .i64 y8,.string y9,.int .i64 y10,.slice y11 y12 y13,.string (bs s),.slice y15 y16 y17,.slice y18 y19 y20] 31)).words.2 7 (by decide)
 have u7:=HP.out.words.2 7 (by decide)
 go_enter Tryz.func38,Tryz.ntmps38
 go_wp2_with fail
 clear t7 u7
 go_at_call 62
 refine (put_one B b _ [110,111,116,32] _ rfl _ _ (by simp) (HP.out.alloc _) (by (try simp only [List.length_append,List.length_cons,List.length_nil]);omega)).mono ?_
 rintro e w1 ⟨rfl,hp,hk⟩
 have HP1:=Lib.hid hp
 have HK1:=Lib.hid (((Kept.refl B b w).alloc (by omega) _).trans hk)
 have HB1:=Lib.hid (hk.cells (heap_alloc_new w _) (by decide) (by omega))
 clear hp hk
 have c11:w1.cell? ⟨w.heap.size,11,none⟩=some (.slice y18 y19 y20):=(Lib.cell_of_heap HB1.out 11).trans rfl
 go_wp2_with fail
 clear c11
 go_at_call 76
 refine (ppart_step d HR B b _ gs _ lo hi _ 0 _ rfl HP1.out (stays (ArgsV.stable _ _ (GoalV.stable d)) HGs.out HK1.out.below hh) hok.2.2.2 hh (by (try simp only [List.length_append,List.length_cons,List.length_nil]);omega) (by decide)).mono ?_
 rintro e w2 ⟨rfl,hp,hk⟩
 have HP2:=Lib.hid hp
 have HK2:=Lib.hid (HK1.out.trans hk)
 have HB2:=Lib.hid (hk.cells HB1.out (by decide) (by omega))
 clear hp hk
 go_wp2_with fail
 go_end0
 exact ⟨rfl,by have e:=HP2.out;(try simp only [List.append_assoc,List.cons_append,List.nil_append] at e ⊢);exact e,HK2.out⟩
set_option maxRecDepth 100000 in
set_option maxHeartbeats 2000000 in
theorem pgoal_8 (d:Nat) (HT:Hid (Puts 40 (TermV 66) termOk termF)) (HTA:Hid (PutsA 72 40 28 4 (TermV 66) termOk termF)) (HR:Hid (Puts 74 (GoalV d) goalOk primF)) (HC:Hid (Puts 75 (GoalV d) goalOk conjF))
  (B b:Nat) (l:List UInt8) (ta tb:TermT) (s:List UInt8) (xs:List TermT) (gs:List GoalT) (v:Value) (lo hi:Nat) (w:World) (h:Pri B b l w) (hv:GoalV (d+1) (.mk 8 ta tb s xs gs) v lo hi w) (hok:goalOk (.mk 8 ta tb s xs gs)) (hh:hi≤B) (hl:l.length+(goalF (.mk 8 ta tb s xs gs)).length≤1099511627776) :
  Calls Tryz.prog 38 #[.pointer (some ⟨b,0,none⟩),v] w fun e w'=>PutR B b l (goalF (.mk 8 ta tb s xs gs)) w e w':=by
 rw [goalOk,termsOk_iff,goalsOk_iff] at hok
 have hfe:goalF (.mk 8 ta tb s xs gs)=[116,104,114,111,119,32]++termF ta:=by
  rw [goalF]
  simp only [goalW,show ¬ ((8:Int)=1) by decide,show ¬ ((8:Int)=2) by decide,show ¬ ((8:Int)=3) by decide,show ¬ ((8:Int)=4) by decide,show ¬ ((8:Int)=5) by decide,show ¬ ((8:Int)=6) by decide,show ¬ ((8:Int)=7) by decide,if_false,if_true]
 rw [hfe] at hl ⊢
 clear hfe
 simp only [List.length_append,List.length_cons,List.length_nil] at hl
 have hmf:∀ (fn:Fn) (first cap:Array Value) (w:World),(Instr.makeFunc fn first cap).run Tryz.prog w=.ok (.func fn first cap) w:=fun _ _ _ _=>rfl
 have HP:=Lib.hid h
 have hl0:=h.lt
 obtain ⟨y2,y3,y4,y5,y6,y7,y8,y9,y10,y11,y12,y13,y14,y15,y16,y17,y18,y19,y20,e1⟩:=GoalV.shape _ _ _ _ _ _ hv
 have e2:v=.agg #[.int .i64 8,.int .i64 y2,.string y3,.int .i64 y4,.slice y5 y6 y7,.int .i64 y8,.string y9,.int .i64 y10,.slice y11 y12 y13,.string y14,.slice y15 y16 y17,.slice y18 y19 y20]:=e1
 clear e1
 subst e2
 obtain ⟨p0,p1,p2,p3,p4,p5,p6,p7,pa,pg,hp,A1,B1,L1,G1⟩:=hv
 simp only [Value.agg.injEq,Array.mk.injEq,List.cons.injEq,and_true,true_and] at hp
 obtain ⟨rfl,rfl,rfl,rfl,rfl,rfl,rfl,rfl,e14,rfl,rfl⟩:=hp
 injection e14 with e14
 subst e14
 have HTa:=Lib.hid A1
 have HTb:=Lib.hid B1
 have HXs:=Lib.hid L1
 have HGs:=Lib.hid G1
 clear A1 B1 L1 G1 h
 have hw0:(w.alloc (.cells #[.int .i64 8,.int .i64 y2,.string y3,.int .i64 y4,.slice y5 y6 y7,.int .i64 y8,.string y9,.int .i64 y10,.slice y11 y12 y13,.string (bs s),.slice y15 y16 y17,.slice y18 y19 y20] 31)).heap.size=w.heap.size+1:=by simp
 have t8:=(HP.out.alloc (.cells #[.int .i64 8,.int .i64 y2,.string y3,.int .i64 y4,.slice y5 y6 y7,.int .i64 y8,.string y9,.int .i64 y10,.slice y11 y12 y13,.string (bs s),.slice y15 y16 y17,.slice y18 y19 y20] 31)).words.2 8 (by decide)
 have u8:=HP.out.words.2 8 (by decide)
 go_enter Tryz.func38,Tryz.ntmps38
 go_wp2_with fail
 clear t8 u8
 go_at_call 62
 refine (put_one B b _ [116,104,114,111,119,32] _ rfl _ _ (by simp) (HP.out.alloc _) (by (try simp only [List.length_append,List.length_cons,List.length_nil]);omega)).mono ?_
 rintro e w1 ⟨rfl,hp,hk⟩
 have HP1:=Lib.hid hp
 have HK1:=Lib.hid (((Kept.refl B b w).alloc (by omega) _).trans hk)
 have HB1:=Lib.hid (hk.cells (heap_alloc_new w _) (by decide) (by omega))
 clear hp hk
 have c1:w1.cell? ⟨w.heap.size,1,none⟩=some (.int .i64 y2):=(Lib.cell_of_heap HB1.out 1).trans rfl
 have c2:w1.cell? ⟨w.heap.size,2,none⟩=some (.string y3):=(Lib.cell_of_heap HB1.out 2).trans rfl
 have c3:w1.cell? ⟨w.heap.size,3,none⟩=some (.int .i64 y4):=(Lib.cell_of_heap HB1.out 3).trans rfl
 have c4:w1.cell? ⟨w.heap.size,4,none⟩=some (.slice y5 y6 y7):=(Lib.cell_of_heap HB1.out 4).trans rfl
 go_wp2_with fail
 clear c1 c2 c3 c4
 go_at_call 40
 refine (HT.out B b _ ta _ lo hi _ HP1.out (stays (TermV.stable 66) HTa.out HK1.out.below hh) hok.1 hh (by (try simp only [List.length_append,List.length_cons,List.length_nil]);omega)).mono ?_
 rintro e w2 ⟨rfl,hp,hk⟩
 have HP2:=Lib.hid hp
 have HK2:=Lib.hid (HK1.out.trans hk)
 have HB2:=Lib.hid (hk.cells HB1.out (by decide) (by omega))
 clear hp hk
 go_wp2_with fail
 go_end0
 exact ⟨rfl,by have e:=HP2.out;(try simp only [List.append_assoc,List.cons_append,List.nil_append] at e ⊢);exact e,HK2.out⟩
set_option maxRecDepth 100000 in
set_option maxHeartbeats 2000000 in
theorem pgoal_9 (d:Nat) (HT:Hid (Puts 40 (TermV 66) termOk termF)) (HTA:Hid (PutsA 72 40 28 4 (TermV 66) termOk termF)) (HR:Hid (Puts 74 (GoalV d) goalOk primF)) (HC:Hid (Puts 75 (GoalV d) goalOk conjF))
  (B b:Nat) (l:List UInt8) (ta tb:TermT) (s:List UInt8) (xs:List TermT) (gs:List GoalT) (v:Value) (lo hi:Nat) (w:World) (h:Pri B b l w) (hv:GoalV (d+1) (.mk 9 ta tb s xs gs) v lo hi w) (hok:goalOk (.mk 9 ta tb s xs gs)) (hh:hi≤B) (hl:l.length+(goalF (.mk 9 ta tb s xs gs)).length≤1099511627776) :
  Calls Tryz.prog 38 #[.pointer (some ⟨b,0,none⟩),v] w fun e w'=>PutR B b l (goalF (.mk 9 ta tb s xs gs)) w e w':=by
 rw [goalOk,termsOk_iff,goalsOk_iff] at hok
 have hfe:goalF (.mk 9 ta tb s xs gs)=[116,114,121,32]++(partW (goalsF gs) 0++([32,99,97,116,99,104,32]++(s++([32,116,104,101,110,32]++partW (goalsF gs) 1)))):=by
  rw [goalF]
  simp only [goalW,show ¬ ((9:Int)=1) by decide,show ¬ ((9:Int)=2) by decide,show ¬ ((9:Int)=3) by decide,show ¬ ((9:Int)=4) by decide,show ¬ ((9:Int)=5) by decide,show ¬ ((9:Int)=6) by decide,show ¬ ((9:Int)=7) by decide,show ¬ ((9:Int)=8) by decide,if_false,if_true]
 rw [hfe] at hl ⊢
 clear hfe
 simp only [List.length_append,List.length_cons,List.length_nil] at hl
 have hmf:∀ (fn:Fn) (first cap:Array Value) (w:World),(Instr.makeFunc fn first cap).run Tryz.prog w=.ok (.func fn first cap) w:=fun _ _ _ _=>rfl
 have HP:=Lib.hid h
 have hl0:=h.lt
 obtain ⟨y2,y3,y4,y5,y6,y7,y8,y9,y10,y11,y12,y13,y14,y15,y16,y17,y18,y19,y20,e1⟩:=GoalV.shape _ _ _ _ _ _ hv
 have e2:v=.agg #[.int .i64 9,.int .i64 y2,.string y3,.int .i64 y4,.slice y5 y6 y7,.int .i64 y8,.string y9,.int .i64 y10,.slice y11 y12 y13,.string y14,.slice y15 y16 y17,.slice y18 y19 y20]:=e1
 clear e1
 subst e2
 obtain ⟨p0,p1,p2,p3,p4,p5,p6,p7,pa,pg,hp,A1,B1,L1,G1⟩:=hv
 simp only [Value.agg.injEq,Array.mk.injEq,List.cons.injEq,and_true,true_and] at hp
 obtain ⟨rfl,rfl,rfl,rfl,rfl,rfl,rfl,rfl,e14,rfl,rfl⟩:=hp
 injection e14 with e14
 subst e14
 have HTa:=Lib.hid A1
 have HTb:=Lib.hid B1
 have HXs:=Lib.hid L1
 have HGs:=Lib.hid G1
 clear A1 B1 L1 G1 h
 have hw0:(w.alloc (.cells #[.int .i64 9,.int .i64 y2,.string y3,.int .i64 y4,.slice y5 y6 y7,.int .i64 y8,.string y9,.int .i64 y10,.slice y11 y12 y13,.string (bs s),.slice y15 y16 y17,.slice y18 y19 y20] 31)).heap.size=w.heap.size+1:=by simp
 have t9:=(HP.out.alloc (.cells #[.int .i64 9,.int .i64 y2,.string y3,.int .i64 y4,.slice y5 y6 y7,.int .i64 y8,.string y9,.int .i64 y10,.slice y11 y12 y13,.string (bs s),.slice y15 y16 y17,.slice y18 y19 y20] 31)).words.2 9 (by decide)
 have u9:=HP.out.words.2 9 (by decide)
 go_enter Tryz.func38,Tryz.ntmps38
 go_wp2_with fail
 clear t9 u9
 go_at_call 62
 refine (put_one B b _ [116,114,121,32] _ rfl _ _ (by simp) (HP.out.alloc _) (by (try simp only [List.length_append,List.length_cons,List.length_nil]);omega)).mono ?_
 rintro e w1 ⟨rfl,hp,hk⟩
 have HP1:=Lib.hid hp
 have HK1:=Lib.hid (((Kept.refl B b w).alloc (by omega) _).trans hk)
 have HB1:=Lib.hid (hk.cells (heap_alloc_new w _) (by decide) (by omega))
 clear hp hk
 have c11:w1.cell? ⟨w.heap.size,11,none⟩=some (.slice y18 y19 y20):=(Lib.cell_of_heap HB1.out 11).trans rfl
 go_wp2_with fail
 clear c11
 go_at_call 76
 refine (ppart_step d HR B b _ gs _ lo hi _ 0 _ rfl HP1.out (stays (ArgsV.stable _ _ (GoalV.stable d)) HGs.out HK1.out.below hh) hok.2.2.2 hh (by (try simp only [List.length_append,List.length_cons,List.length_nil]);omega) (by decide)).mono ?_
 rintro e w2 ⟨rfl,hp,hk⟩
 have HP2:=Lib.hid hp
 have HK2:=Lib.hid (HK1.out.trans hk)
 have HB2:=Lib.hid (hk.cells HB1.out (by decide) (by omega))
 clear hp hk
 have c9:w2.cell? ⟨w.heap.size,9,none⟩=some (.string (bs s)):=(Lib.cell_of_heap HB2.out 9).trans rfl
 go_wp2_with fail
 clear c9
 go_at_call 62
 refine (put_three B b _ [32,99,97,116,99,104,32] s [32,116,104,101,110,32] _ _ _ rfl rfl rfl _ _ (by simp) HP2.out (by (try simp only [List.length_append,List.length_cons,List.length_nil]);omega)).mono ?_
 rintro e w3 ⟨rfl,hp,hk⟩
 have HP3:=Lib.hid hp
 have HK3:=Lib.hid (HK2.out.trans hk)
 have HB3:=Lib.hid (hk.cells HB2.out (by decide) (by omega))
 clear hp hk
 have c11:w3.cell? ⟨w.heap.size,11,none⟩=some (.slice y18 y19 y20):=(Lib.cell_of_heap HB3.out 11).trans rfl
 go_wp2_with fail
 clear c11
 go_at_call 76
 refine (ppart_step d HR B b _ gs _ lo hi _ 1 _ rfl HP3.out (stays (ArgsV.stable _ _ (GoalV.stable d)) HGs.out HK3.out.below hh) hok.2.2.2 hh (by (try simp only [List.length_append,List.length_cons,List.length_nil]);omega) (by decide)).mono ?_
 rintro e w4 ⟨rfl,hp,hk⟩
 have HP4:=Lib.hid hp
 have HK4:=Lib.hid (HK3.out.trans hk)
 have HB4:=Lib.hid (hk.cells HB3.out (by decide) (by omega))
 clear hp hk
 go_wp2_with fail
 go_end0
 exact ⟨rfl,by have e:=HP4.out;(try simp only [List.append_assoc,List.cons_append,List.nil_append] at e ⊢);exact e,HK4.out⟩
end Lx
end Go.Proofs.YtajomoclbpobhaaGreatDoor
namespace Go.Proofs.YtajomoclbpobhaaGreatDoor
set_option linter.unusedSimpArgs false
set_option linter.unusedVariables false
namespace Lx
open Go Go.RowKit
set_option maxRecDepth 100000 in
set_option maxHeartbeats 2000000 in
theorem pgoal_else (d:Nat) (B b:Nat) (l:List UInt8) (k:Int) (ta tb:TermT) (s:List UInt8) (xs:List TermT) (gs:List GoalT) (hk:¬ k=1∧¬ k=2∧¬ k=3∧¬ k=4∧¬ k=5∧¬ k=6∧¬ k=7∧¬ k=8∧¬ k=9) (v:Value) (lo hi:Nat) (w:World) (h:Pri B b l w) (hv:GoalV (d+1) (.mk k ta tb s xs gs) v lo hi w) :
  Calls Tryz.prog 38 #[.pointer (some ⟨b,0,none⟩),v] w fun e w'=>PutR B b l (goalF (.mk k ta tb s xs gs)) w e w':=by
 obtain ⟨n1,n2,n3,n4,n5,n6,n7,n8,n9⟩:=hk
 have hfe:goalF (.mk k ta tb s xs gs)=[]:=by
  rw [goalF]
  unfold goalW
  rw [if_neg n1,if_neg n2,if_neg n3,if_neg n4,if_neg n5,if_neg n6,if_neg n7,if_neg n8,if_neg n9]
 rw [hfe]
 have HP:=Lib.hid h
 have hl0:=h.lt
 obtain ⟨y2,y3,y4,y5,y6,y7,y8,y9,y10,y11,y12,y13,y14,y15,y16,y17,y18,y19,y20,e1⟩:=GoalV.shape _ _ _ _ _ _ hv
 have e2:v=.agg #[.int .i64 k,.int .i64 y2,.string y3,.int .i64 y4,.slice y5 y6 y7,.int .i64 y8,.string y9,.int .i64 y10,.slice y11 y12 y13,.string y14,.slice y15 y16 y17,.slice y18 y19 y20]:=e1
 clear e1
 subst e2
 clear h hv
 have q1:(k == 1)=false:=by simp [n1]
 have q2:(k == 2)=false:=by simp [n2]
 have q3:(k == 3)=false:=by simp [n3]
 have q4:(k == 4)=false:=by simp [n4]
 have q5:(k == 5)=false:=by simp [n5]
 have q6:(k == 6)=false:=by simp [n6]
 have q7:(k == 7)=false:=by simp [n7]
 have q8:(k == 8)=false:=by simp [n8]
 have q9:(k == 9)=false:=by simp [n9]
 go_enter Tryz.func38,Tryz.ntmps38
 go_wp2_with fail
 go_end0
 exact ⟨rfl,by simpa using HP.out.alloc _,(Kept.refl B b w).alloc (by omega) _⟩
theorem pgoal_step (d:Nat) (HT:Hid (Puts 40 (TermV 66) termOk termF)) (HTA:Hid (PutsA 72 40 28 4 (TermV 66) termOk termF)) (HR:Hid (Puts 74 (GoalV d) goalOk primF)) (HC:Hid (Puts 75 (GoalV d) goalOk conjF)):Puts 38 (GoalV (d+1)) goalOk goalF:=by
 rintro B b l ⟨k,ta,tb,s,xs,gs⟩ v lo hi w h hv hok hh hl
 by_cases n1:k=1
 ·subst n1
  exact pgoal_1 d HT HTA HR HC B b l ta tb s xs gs v lo hi w h hv hok hh hl
 by_cases n2:k=2
 ·subst n2
  exact pgoal_2 d HT HTA HR HC B b l ta tb s xs gs v lo hi w h hv hok hh hl
 by_cases n3:k=3
 ·subst n3
  exact pgoal_3 d HT HTA HR HC B b l ta tb s xs gs v lo hi w h hv hok hh hl
 by_cases n4:k=4
 ·subst n4
  exact pgoal_4 d HT HTA HR HC B b l ta tb s xs gs v lo hi w h hv hok hh hl
 by_cases n5:k=5
 ·subst n5
  exact pgoal_5 d HT HTA HR HC B b l ta tb s xs gs v lo hi w h hv hok hh hl
 by_cases n6:k=6
 ·subst n6
  exact pgoal_6 d HT HTA HR HC B b l ta tb s xs gs v lo hi w h hv hok hh hl
 by_cases n7:k=7
 ·subst n7
  exact pgoal_7 d HT HTA HR HC B b l ta tb s xs gs v lo hi w h hv hok hh hl
 by_cases n8:k=8
 ·subst n8
  exact pgoal_8 d HT HTA HR HC B b l ta tb s xs gs v lo hi w h hv hok hh hl
 by_cases n9:k=9
 ·subst n9
  exact pgoal_9 d HT HTA HR HC B b l ta tb s xs gs v lo hi w h hv hok hh hl
 exact pgoal_else d B b l k ta tb s xs gs ⟨n1,n2,n3,n4,n5,n6,n7,n8,n9⟩ v lo hi w h hv
theorem pgoal_any:∀ d,Puts 38 (GoalV d) goalOk goalF
 | 0=>fun _ _ _ _ _ _ _ _ _ h=>h.elim
 | d+1 =>
  have HG:=Lib.hid (pgoal_any d)
  have HI:=Lib.hid (pinner_step d HG)
  have HC:=Lib.hid (pconj_step d HI HG)
  pgoal_step d (Lib.hid (pterm_any 66)) (Lib.hid (ptermA_any 66)) (Lib.hid (pprim_step d HI HC)) HC
end Lx
end Go.Proofs.YtajomoclbpobhaaGreatDoor
