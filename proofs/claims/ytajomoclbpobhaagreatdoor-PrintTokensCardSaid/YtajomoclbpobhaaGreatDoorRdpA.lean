/- The contract of the reference's reader's Prim: true, fail, throw, not. Conditions: the reader's block is its own; at most 16384 tokens, each of which is one by itself. -/
/- The contract of the reference's reader's Prim: a goal in brackets. Conditions: the reader's block is its own; at most 16384 tokens, each of which is one by itself. -/
/- The contract of the reference's reader's Prim: a unification or a call. Conditions: the reader's block is its own; at most 16384 tokens, each of which is one by itself. -/
/- The contract of the reference's reader's Prim: try. Conditions: the reader's block is its own; at most 16384 tokens, each of which is one by itself. -/
/- The contract of the reference's reader's Prim and Goal at whatever nest: what the parser's plain reading says. Conditions: the reader's block is its own; at most 16384 tokens, each of which is one by itself. -/
import Derived.Test.YtajomoclbpobhaaGreatDoorRdkA
import Derived.Deep.RegionHeld3
namespace Go.Proofs.YtajomoclbpobhaaGreatDoor
set_option linter.unusedSimpArgs false
set_option linter.unusedVariables false
namespace Lx
open Go Go.RowKit
theorem kw_true:KW (ByteArray.mk #[116,114,117,101]).data.toList:=⟨by simp,1,.inl rfl,rfl⟩
theorem kw_fail:KW (ByteArray.mk #[102,97,105,108]).data.toList:=⟨by simp,1,.inl rfl,rfl⟩
theorem kw_not:KW (ByteArray.mk #[110,111,116]).data.toList:=⟨by simp,1,.inl rfl,rfl⟩
theorem kw_throw:KW (ByteArray.mk #[116,104,114,111,119]).data.toList:=⟨by simp,1,.inl rfl,rfl⟩
theorem kw_try:KW (ByteArray.mk #[116,114,121]).data.toList:=⟨by simp,1,.inl rfl,rfl⟩
theorem kw_catch:KW (ByteArray.mk #[99,97,116,99,104]).data.toList:=⟨by simp,1,.inl rfl,rfl⟩
theorem kw_then:KW (ByteArray.mk #[116,104,101,110]).data.toList:=⟨by simp,1,.inl rfl,rfl⟩
theorem kw_eq:KW (ByteArray.mk #[61]).data.toList:=⟨by simp,4,.inr rfl,rfl⟩
set_option maxRecDepth 100000 in
set_option maxHeartbeats 4000000 in
theorem rprim_true (b:Nat) (A:Option Addr) (c:Nat) (ts:List Tok) (hw:WF ts) (d m:Nat) (ne:Int) (h0:0≤ne) (h1:ne≤60000) (w:World) (k:Nat) (er0:Int) (OT:Out GoalT) (h:Rd w b A c ts k er0) (hk:k≤ts.length) (hN:nestE ts k er0 (ne+1)=0) (hy:hasT ts k [116,114,117,101]=true) :
  Calls Tryz.prog 123 #[.pointer (some ⟨b,0,none⟩),.int .i64 (ne+1)] w fun e w'=>REnds b A c ts (GoalV (d+2)) ShGo w (.ok (.mk 1 zeroT zeroT [] [] []) (k+1)) e w':=by
 have HP:=Lib.hid h
 have HWF:=Lib.hid hw
 have hfw:=h.few
 have HBW:=Lib.hid h.lt
 have HNE:=Lib.hid (rnest_any (w.alloc (.cells #[.int .i64 0,.int .i64 0,.string ⟨#[]⟩,.int .i64 0,.slice none 0 0,.int .i64 0,.string ⟨#[]⟩,.int .i64 0,.slice none 0 0,.string ⟨#[]⟩,.slice none 0 0,.slice none 0 0] 31)) b A c ts k er0 (ne+1) (h.alloc _))
 rw [hN] at HNE
 have HK:=Lib.hid hk
 clear h hw hN hk
 have HY:=Lib.hid hy
 have HK1:Hid (k+1≤ts.length):=Lib.hid (by have:=hasT_in hy (by decide);omega)
 clear hy OT
 go_enter Tryz.func123,Tryz.ntmps123
 go_wp2_with fail
 go_at_call 122
 refine HNE.out.mono ?_
 rintro e w1 ⟨rfl,hp1,hf1⟩
 have HP1:=Lib.hid hp1
 have HF1:=Lib.hid hf1
 clear hp1 hf1 HNE
 have HG:=Lib.hid (rgot_yes HWF.out ⟨#[116,114,117,101]⟩ kw_true HP1.out HY.out)
 go_wp2_with fail
 go_at_call 97
 refine HG.out.mono ?_
 rintro e w2 ⟨rfl,hp,hf⟩
 have HP2:=Lib.hid hp
 have HF2:=Lib.hid (HF1.out.trans hf)
 clear hp hf HG HP1 HF1
 have hz:=box12r HF2.out HBW.out (heap_alloc_new w _)
 have cz0:=(Lib.cell_of_heap hz 0).trans rfl
 have cz1:=(Lib.cell_of_heap hz 1).trans rfl
 have cz2:=(Lib.cell_of_heap hz 2).trans rfl
 have cz3:=(Lib.cell_of_heap hz 3).trans rfl
 have cz4:=(Lib.cell_of_heap hz 4).trans rfl
 have cz5:=(Lib.cell_of_heap hz 5).trans rfl
 have cz6:=(Lib.cell_of_heap hz 6).trans rfl
 have cz7:=(Lib.cell_of_heap hz 7).trans rfl
 have cz8:=(Lib.cell_of_heap hz 8).trans rfl
 have cz9:=(Lib.cell_of_heap hz 9).trans rfl
 have cz10:=(Lib.cell_of_heap hz 10).trans rfl
 have cz11:=(Lib.cell_of_heap hz 11).trans rfl
 have fz0:=Lib.frozen_of_heap hz 0
 have fz1:=Lib.frozen_of_heap hz 1
 have fz2:=Lib.frozen_of_heap hz 2
 have fz3:=Lib.frozen_of_heap hz 3
 have fz4:=Lib.frozen_of_heap hz 4
 have fz5:=Lib.frozen_of_heap hz 5
 have fz6:=Lib.frozen_of_heap hz 6
 have fz7:=Lib.frozen_of_heap hz 7
 have fz8:=Lib.frozen_of_heap hz 8
 have fz9:=Lib.frozen_of_heap hz 9
 have fz10:=Lib.frozen_of_heap hz 10
 have fz11:=Lib.frozen_of_heap hz 11
 have HZB:Hid (zeroGB w2 w.heap.size):=Lib.hid hz
 clear hz
 go_wp2_with fail
 obtain ⟨t0,t1,t2,t3⟩:=rput12 HP.out (((PFr.refl b w).alloc _).trans HF2.out) HP2.out HZB.out (.int .i64 1) (.int .i64 0) (.string ⟨#[]⟩) (.int .i64 0) (.slice none 0 0) (.int .i64 0) (.string ⟨#[]⟩) (.int .i64 0) (.slice none 0 0) (.string ⟨#[]⟩) (.slice none 0 0) (.slice none 0 0)
 exact bodyPost_ret (v:=.agg #[.int .i64 1,.int .i64 0,.string ⟨#[]⟩,.int .i64 0,.slice none 0 0,.int .i64 0,.string ⟨#[]⟩,.int .i64 0,.slice none 0 0,.string ⟨#[]⟩,.slice none 0 0,.slice none 0 0]) (results_cell_row Tryz.results123 _ _ w.heap.size 31 #[.int .i64 1,.int .i64 0,.string ⟨#[]⟩,.int .i64 0,.slice none 0 0,.int .i64 0,.string ⟨#[]⟩,.int .i64 0,.slice none 0 0,.string ⟨#[]⟩,.slice none 0 0,.slice none 0 0] (0,0) _ rfl t0 Tryz.underlying31 rfl infoGo12) rfl (rends_of HK1.out ⟨_,_,_,_,_,_,_,_,_,_,_,_,_,_,_,_,_,_,_,_,rfl⟩ t1 t2 (.inl ⟨rfl,(.mk 1 zeroT zeroT [] [] []),⟨_,_,_,_,_,_,_,_,_,_,rfl,zeroT_holds _ _ _,zeroT_holds _ _ _,.inl ⟨rfl,rfl⟩,.inl ⟨rfl,rfl⟩⟩,rfl⟩))
set_option maxRecDepth 100000 in
set_option maxHeartbeats 4000000 in
theorem rprim_fail (b:Nat) (A:Option Addr) (c:Nat) (ts:List Tok) (hw:WF ts) (d m:Nat) (ne:Int) (h0:0≤ne) (h1:ne≤60000) (w:World) (k:Nat) (er0:Int) (OT:Out GoalT) (h:Rd w b A c ts k er0) (hk:k≤ts.length) (hN:nestE ts k er0 (ne+1)=0) (q0:isB ts k 0 [116,114,117,101]=false) (hy:hasT ts k [102,97,105,108]=true) :
  Calls Tryz.prog 123 #[.pointer (some ⟨b,0,none⟩),.int .i64 (ne+1)] w fun e w'=>REnds b A c ts (GoalV (d+2)) ShGo w (.ok (.mk 2 zeroT zeroT [] [] []) (k+1)) e w':=by
 have HP:=Lib.hid h
 have HWF:=Lib.hid hw
 have hfw:=h.few
 have HBW:=Lib.hid h.lt
 have HNE:=Lib.hid (rnest_any (w.alloc (.cells #[.int .i64 0,.int .i64 0,.string ⟨#[]⟩,.int .i64 0,.slice none 0 0,.int .i64 0,.string ⟨#[]⟩,.int .i64 0,.slice none 0 0,.string ⟨#[]⟩,.slice none 0 0,.slice none 0 0] 31)) b A c ts k er0 (ne+1) (h.alloc _))
 rw [hN] at HNE
 have HK:=Lib.hid hk
 have Q0:=Lib.hid q0
 clear h hw hN hk q0
 have HY:=Lib.hid hy
 have HK1:Hid (k+1≤ts.length):=Lib.hid (by have:=hasT_in hy (by decide);omega)
 clear hy OT
 go_enter Tryz.func123,Tryz.ntmps123
 go_wp2_with fail
 go_at_call 122
 refine HNE.out.mono ?_
 rintro e w1 ⟨rfl,hp1,hf1⟩
 have HP1:=Lib.hid hp1
 have HF1:=Lib.hid hf1
 clear hp1 hf1 HNE
 have HG:=Lib.hid (rgot_not HWF.out ⟨#[116,114,117,101]⟩ kw_true HP1.out HK.out Q0.out)
 go_wp2_with fail
 go_at_call 97
 refine HG.out.mono ?_
 rintro e w2 ⟨rfl,hp,hf⟩
 have HP2:=Lib.hid hp
 have HF2:=Lib.hid (HF1.out.trans hf)
 clear hp hf HG HP1 HF1 Q0
 have HG:=Lib.hid (rgot_yes HWF.out ⟨#[102,97,105,108]⟩ kw_fail HP2.out HY.out)
 go_wp2_with fail
 go_at_call 97
 refine HG.out.mono ?_
 rintro e w3 ⟨rfl,hp,hf⟩
 have HP3:=Lib.hid hp
 have HF3:=Lib.hid (HF2.out.trans hf)
 clear hp hf HG HP2 HF2
 have hz:=box12r HF3.out HBW.out (heap_alloc_new w _)
 have cz0:=(Lib.cell_of_heap hz 0).trans rfl
 have cz1:=(Lib.cell_of_heap hz 1).trans rfl
 have cz2:=(Lib.cell_of_heap hz 2).trans rfl
 have cz3:=(Lib.cell_of_heap hz 3).trans rfl
 have cz4:=(Lib.cell_of_heap hz 4).trans rfl
 have cz5:=(Lib.cell_of_heap hz 5).trans rfl
 have cz6:=(Lib.cell_of_heap hz 6).trans rfl
 have cz7:=(Lib.cell_of_heap hz 7).trans rfl
 have cz8:=(Lib.cell_of_heap hz 8).trans rfl
 have cz9:=(Lib.cell_of_heap hz 9).trans rfl
 have cz10:=(Lib.cell_of_heap hz 10).trans rfl
 have cz11:=(Lib.cell_of_heap hz 11).trans rfl
 have fz0:=Lib.frozen_of_heap hz 0
 have fz1:=Lib.frozen_of_heap hz 1
 have fz2:=Lib.frozen_of_heap hz 2
 have fz3:=Lib.frozen_of_heap hz 3
 have fz4:=Lib.frozen_of_heap hz 4
 have fz5:=Lib.frozen_of_heap hz 5
 have fz6:=Lib.frozen_of_heap hz 6
 have fz7:=Lib.frozen_of_heap hz 7
 have fz8:=Lib.frozen_of_heap hz 8
 have fz9:=Lib.frozen_of_heap hz 9
 have fz10:=Lib.frozen_of_heap hz 10
 have fz11:=Lib.frozen_of_heap hz 11
 have HZB:Hid (zeroGB w3 w.heap.size):=Lib.hid hz
 clear hz
 go_wp2_with fail
 obtain ⟨t0,t1,t2,t3⟩:=rput12 HP.out (((PFr.refl b w).alloc _).trans HF3.out) HP3.out HZB.out (.int .i64 2) (.int .i64 0) (.string ⟨#[]⟩) (.int .i64 0) (.slice none 0 0) (.int .i64 0) (.string ⟨#[]⟩) (.int .i64 0) (.slice none 0 0) (.string ⟨#[]⟩) (.slice none 0 0) (.slice none 0 0)
 exact bodyPost_ret (v:=.agg #[.int .i64 2,.int .i64 0,.string ⟨#[]⟩,.int .i64 0,.slice none 0 0,.int .i64 0,.string ⟨#[]⟩,.int .i64 0,.slice none 0 0,.string ⟨#[]⟩,.slice none 0 0,.slice none 0 0]) (results_cell_row Tryz.results123 _ _ w.heap.size 31 #[.int .i64 2,.int .i64 0,.string ⟨#[]⟩,.int .i64 0,.slice none 0 0,.int .i64 0,.string ⟨#[]⟩,.int .i64 0,.slice none 0 0,.string ⟨#[]⟩,.slice none 0 0,.slice none 0 0] (0,0) _ rfl t0 Tryz.underlying31 rfl infoGo12) rfl (rends_of HK1.out ⟨_,_,_,_,_,_,_,_,_,_,_,_,_,_,_,_,_,_,_,_,rfl⟩ t1 t2 (.inl ⟨rfl,(.mk 2 zeroT zeroT [] [] []),⟨_,_,_,_,_,_,_,_,_,_,rfl,zeroT_holds _ _ _,zeroT_holds _ _ _,.inl ⟨rfl,rfl⟩,.inl ⟨rfl,rfl⟩⟩,rfl⟩))
set_option maxRecDepth 100000 in
set_option maxHeartbeats 4000000 in
theorem rprim_throw (b:Nat) (A:Option Addr) (c:Nat) (ts:List Tok) (hw:WF ts) (d m:Nat) (ne:Int) (h0:0≤ne) (h1:ne≤60000) (w:World) (k:Nat) (er0:Int) (OT:Out GoalT) (h:Rd w b A c ts k er0) (hk:k≤ts.length) (hN:nestE ts k er0 (ne+1)=0) (q0:isB ts k 0 [116,114,117,101]=false) (q1:isB ts k 0 [102,97,105,108]=false) (q2:isB ts k 0 [110,111,116]=false) (hy:hasT ts k [116,104,114,111,119]=true) (hO:bindO (termO ts 66 (ne+1) (k+1)) (fun t k'=>.ok (.mk 8 t zeroT [] [] []) k')=OT) :
  Calls Tryz.prog 123 #[.pointer (some ⟨b,0,none⟩),.int .i64 (ne+1)] w fun e w'=>REnds b A c ts (GoalV (d+2)) ShGo w OT e w':=by
 have HP:=Lib.hid h
 have HWF:=Lib.hid hw
 have hfw:=h.few
 have HBW:=Lib.hid h.lt
 have HNE:=Lib.hid (rnest_any (w.alloc (.cells #[.int .i64 0,.int .i64 0,.string ⟨#[]⟩,.int .i64 0,.slice none 0 0,.int .i64 0,.string ⟨#[]⟩,.int .i64 0,.slice none 0 0,.string ⟨#[]⟩,.slice none 0 0,.slice none 0 0] 31)) b A c ts k er0 (ne+1) (h.alloc _))
 rw [hN] at HNE
 have HK:=Lib.hid hk
 have Q0:=Lib.hid q0
 have Q1:=Lib.hid q1
 have Q2:=Lib.hid q2
 clear h hw hN hk q0 q1 q2
 have HY:=Lib.hid hy
 have HO:=Lib.hid hO
 have HK1:Hid (k+1≤ts.length):=Lib.hid (by have:=hasT_in hy (by decide);omega)
 have HTG:=Lib.hid (rterm_genc b A c ts HWF.out (ne+1) (by omega) (by omega))
 clear hy hO
 go_enter Tryz.func123,Tryz.ntmps123
 go_wp2_with fail
 go_at_call 122
 refine HNE.out.mono ?_
 rintro e w1 ⟨rfl,hp1,hf1⟩
 have HP1:=Lib.hid hp1
 have HF1:=Lib.hid hf1
 clear hp1 hf1 HNE
 have HG:=Lib.hid (rgot_not HWF.out ⟨#[116,114,117,101]⟩ kw_true HP1.out HK.out Q0.out)
 go_wp2_with fail
 go_at_call 97
 refine HG.out.mono ?_
 rintro e w2 ⟨rfl,hp,hf⟩
 have HP2:=Lib.hid hp
 have HF2:=Lib.hid (HF1.out.trans hf)
 clear hp hf HG HP1 HF1 Q0
 have HG:=Lib.hid (rgot_not HWF.out ⟨#[102,97,105,108]⟩ kw_fail HP2.out HK.out Q1.out)
 go_wp2_with fail
 go_at_call 97
 refine HG.out.mono ?_
 rintro e w3 ⟨rfl,hp,hf⟩
 have HP3:=Lib.hid hp
 have HF3:=Lib.hid (HF2.out.trans hf)
 clear hp hf HG HP2 HF2 Q1
 have HG:=Lib.hid (rgot_not HWF.out ⟨#[110,111,116]⟩ kw_not HP3.out HK.out Q2.out)
 go_wp2_with fail
 go_at_call 97
 refine HG.out.mono ?_
 rintro e w4 ⟨rfl,hp,hf⟩
 have HP4:=Lib.hid hp
 have HF4:=Lib.hid (HF3.out.trans hf)
 clear hp hf HG HP3 HF3 Q2
 have HG:=Lib.hid (rgot_yes HWF.out ⟨#[116,104,114,111,119]⟩ kw_throw HP4.out HY.out)
 go_wp2_with fail
 go_at_call 97
 refine HG.out.mono ?_
 rintro e w5 ⟨rfl,hp,hf⟩
 have HP5:=Lib.hid hp
 have HF5:=Lib.hid (HF4.out.trans hf)
 clear hp hf HG HP4 HF4
 have HC:=Lib.hid (HTG.out.cont (termO_fwd ts 66 (ne+1)) TermV.sh HP5.out HK1.out (.inl ⟨rfl,HO.out⟩))
 go_wp2_with fail
 go_at_call 102
 refine HC.out.mono ?_
 rintro e w9 ⟨v9,k9,er9,rfl,⟨y1,y2,y3,y4,y5,y6,rfl⟩,hk9,hp9,hf9,hc9⟩
 have HP9:=Lib.hid hp9
 have HF9:=Lib.hid (HF5.out.trans hf9)
 have HC9:=Lib.hid hc9
 have HK9:=Lib.hid hk9
 have HS9:Hid (w.heap.size+1≤w5.heap.size):=Lib.hid (by have:=HF5.out.size;simp at this;omega)
 clear hp9 hf9 hc9 hk9 HC HTG HO
 have hz:=box12r HF9.out HBW.out (heap_alloc_new w _)
 have cz0:=(Lib.cell_of_heap hz 0).trans rfl
 have cz1:=(Lib.cell_of_heap hz 1).trans rfl
 have cz2:=(Lib.cell_of_heap hz 2).trans rfl
 have cz3:=(Lib.cell_of_heap hz 3).trans rfl
 have cz4:=(Lib.cell_of_heap hz 4).trans rfl
 have cz5:=(Lib.cell_of_heap hz 5).trans rfl
 have cz6:=(Lib.cell_of_heap hz 6).trans rfl
 have cz7:=(Lib.cell_of_heap hz 7).trans rfl
 have cz8:=(Lib.cell_of_heap hz 8).trans rfl
 have cz9:=(Lib.cell_of_heap hz 9).trans rfl
 have cz10:=(Lib.cell_of_heap hz 10).trans rfl
 have cz11:=(Lib.cell_of_heap hz 11).trans rfl
 have fz0:=Lib.frozen_of_heap hz 0
 have fz1:=Lib.frozen_of_heap hz 1
 have fz2:=Lib.frozen_of_heap hz 2
 have fz3:=Lib.frozen_of_heap hz 3
 have fz4:=Lib.frozen_of_heap hz 4
 have fz5:=Lib.frozen_of_heap hz 5
 have fz6:=Lib.frozen_of_heap hz 6
 have fz7:=Lib.frozen_of_heap hz 7
 have fz8:=Lib.frozen_of_heap hz 8
 have fz9:=Lib.frozen_of_heap hz 9
 have fz10:=Lib.frozen_of_heap hz 10
 have fz11:=Lib.frozen_of_heap hz 11
 have HZB:Hid (zeroGB w9 w.heap.size):=Lib.hid hz
 clear hz
 go_wp2_with fail
 obtain ⟨t0,t1,t2,t3⟩:=rput12 HP.out (((PFr.refl b w).alloc _).trans HF9.out) HP9.out HZB.out (.int .i64 8) (.int .i64 y1) (.string y2) (.int .i64 y3) (.slice y4 y5 y6) (.int .i64 0) (.string ⟨#[]⟩) (.int .i64 0) (.slice none 0 0) (.string ⟨#[]⟩) (.slice none 0 0) (.slice none 0 0)
 refine bodyPost_ret (v:=.agg #[.int .i64 8,.int .i64 y1,.string y2,.int .i64 y3,.slice y4 y5 y6,.int .i64 0,.string ⟨#[]⟩,.int .i64 0,.slice none 0 0,.string ⟨#[]⟩,.slice none 0 0,.slice none 0 0]) (results_cell_row Tryz.results123 _ _ w.heap.size 31 #[.int .i64 8,.int .i64 y1,.string y2,.int .i64 y3,.slice y4 y5 y6,.int .i64 0,.string ⟨#[]⟩,.int .i64 0,.slice none 0 0,.string ⟨#[]⟩,.slice none 0 0,.slice none 0 0] (0,0) _ rfl t0 Tryz.underlying31 rfl infoGo12) rfl (rends_of HK9.out ⟨_,_,_,_,_,_,_,_,_,_,_,_,_,_,_,_,_,_,_,_,rfl⟩ t1 t2 (HC9.out.imp (fun q=>?_)))
 obtain ⟨x,g1,_,g2⟩:=q
 refine ⟨_,?_,g2⟩
 have g3:=TermV.stable 66 _ _ _ _ _ _ g1 (fun j j1 _=>t3.block j (by have:=HS9.out;omega))
 exact ⟨_,_,_,_,_,_,_,_,_,_,rfl,TermV.wide _ _ _ _ _ _ _ _ g3 (by have:=HS9.out;omega) (by rw [t3.size];exact Nat.le_refl _),zeroT_holds _ _ _,.inl ⟨rfl,rfl⟩,.inl ⟨rfl,rfl⟩⟩
set_option maxRecDepth 100000 in
set_option maxHeartbeats 4000000 in
theorem rprim_not (b:Nat) (A:Option Addr) (c:Nat) (ts:List Tok) (hw:WF ts) (d m:Nat) (ne:Int) (h0:0≤ne) (h1:ne≤60000)
  (HR:Hid (GenC 123 #[.pointer (some ⟨b,0,none⟩),.int .i64 (ne+1+1)] b A c ts (GoalV d) ShGo (primO ts m (ne+1)))) (w:World) (k:Nat) (er0:Int) (OT:Out GoalT) (h:Rd w b A c ts k er0) (hk:k≤ts.length) (hN:nestE ts k er0 (ne+1)=0) (q0:isB ts k 0 [116,114,117,101]=false) (q1:isB ts k 0 [102,97,105,108]=false) (hy:hasT ts k [110,111,116]=true) (hO:bindO (primO ts m (ne+1) (k+1)) (fun g k'=>.ok (.mk 7 zeroT zeroT [] [] [g]) k')=OT) :
  Calls Tryz.prog 123 #[.pointer (some ⟨b,0,none⟩),.int .i64 (ne+1)] w fun e w'=>REnds b A c ts (GoalV (d+2)) ShGo w OT e w':=by
 have HP:=Lib.hid h
 have HWF:=Lib.hid hw
 have hfw:=h.few
 have HBW:=Lib.hid h.lt
 have HNE:=Lib.hid (rnest_any (w.alloc (.cells #[.int .i64 0,.int .i64 0,.string ⟨#[]⟩,.int .i64 0,.slice none 0 0,.int .i64 0,.string ⟨#[]⟩,.int .i64 0,.slice none 0 0,.string ⟨#[]⟩,.slice none 0 0,.slice none 0 0] 31)) b A c ts k er0 (ne+1) (h.alloc _))
 rw [hN] at HNE
 have HK:=Lib.hid hk
 have Q0:=Lib.hid q0
 have Q1:=Lib.hid q1
 clear h hw hN hk q0 q1
 have HY:=Lib.hid hy
 have HO:=Lib.hid hO
 have HK1:Hid (k+1≤ts.length):=Lib.hid (by have:=hasT_in hy (by decide);omega)
 clear hy hO
 go_enter Tryz.func123,Tryz.ntmps123
 go_wp2_with fail
 go_at_call 122
 refine HNE.out.mono ?_
 rintro e w1 ⟨rfl,hp1,hf1⟩
 have HP1:=Lib.hid hp1
 have HF1:=Lib.hid hf1
 clear hp1 hf1 HNE
 have HG:=Lib.hid (rgot_not HWF.out ⟨#[116,114,117,101]⟩ kw_true HP1.out HK.out Q0.out)
 go_wp2_with fail
 go_at_call 97
 refine HG.out.mono ?_
 rintro e w2 ⟨rfl,hp,hf⟩
 have HP2:=Lib.hid hp
 have HF2:=Lib.hid (HF1.out.trans hf)
 clear hp hf HG HP1 HF1 Q0
 have HG:=Lib.hid (rgot_not HWF.out ⟨#[102,97,105,108]⟩ kw_fail HP2.out HK.out Q1.out)
 go_wp2_with fail
 go_at_call 97
 refine HG.out.mono ?_
 rintro e w3 ⟨rfl,hp,hf⟩
 have HP3:=Lib.hid hp
 have HF3:=Lib.hid (HF2.out.trans hf)
 clear hp hf HG HP2 HF2 Q1
 have HG:=Lib.hid (rgot_yes HWF.out ⟨#[110,111,116]⟩ kw_not HP3.out HY.out)
 go_wp2_with fail
 go_at_call 97
 refine HG.out.mono ?_
 rintro e w4 ⟨rfl,hp,hf⟩
 have HP4:=Lib.hid hp
 have HF4:=Lib.hid (HF3.out.trans hf)
 clear hp hf HG HP3 HF3
 have HC:=Lib.hid (HR.out.cont (primO_fwd ts m (ne+1)) GoalV.sh HP4.out HK1.out (.inl ⟨rfl,HO.out⟩))
 go_wp2_with fail
 go_at_call 123
 refine HC.out.mono ?_
 rintro e w9 ⟨v9,k9,er9,rfl,⟨p1,p2,p3,p4,p5,p6,p7,p8,p9,pa,pb,pc,pd,pe,pf,pg,ph,pi,pj,pk,rfl⟩,hk9,hp9,hf9,hc9⟩
 have HP9:=Lib.hid hp9
 have HF9:=Lib.hid (HF4.out.trans hf9)
 have HC9:=Lib.hid hc9
 have HK9:=Lib.hid hk9
 have HS9:Hid (w.heap.size+1≤w4.heap.size∧w4.heap.size≤w9.heap.size):=Lib.hid (by have:=HF4.out.size;have:=hf9.size;simp at *;omega)
 have hlt:w.heap.size < w9.heap.size:=by have:=HS9.out;omega
 have hn1:¬ w.heap.size=w9.heap.size:=by omega
 have hn2:¬ w9.heap.size=w.heap.size:=by omega
 clear hp9 hf9 hc9 hk9 HC HR HO
 have hz:=box12r HF9.out HBW.out (heap_alloc_new w _)
 have cz0:=(Lib.cell_of_heap hz 0).trans rfl
 have cz1:=(Lib.cell_of_heap hz 1).trans rfl
 have cz2:=(Lib.cell_of_heap hz 2).trans rfl
 have cz3:=(Lib.cell_of_heap hz 3).trans rfl
 have cz4:=(Lib.cell_of_heap hz 4).trans rfl
 have cz5:=(Lib.cell_of_heap hz 5).trans rfl
 have cz6:=(Lib.cell_of_heap hz 6).trans rfl
 have cz7:=(Lib.cell_of_heap hz 7).trans rfl
 have cz8:=(Lib.cell_of_heap hz 8).trans rfl
 have cz9:=(Lib.cell_of_heap hz 9).trans rfl
 have cz10:=(Lib.cell_of_heap hz 10).trans rfl
 have cz11:=(Lib.cell_of_heap hz 11).trans rfl
 have fz0:=Lib.frozen_of_heap hz 0
 have fz1:=Lib.frozen_of_heap hz 1
 have fz2:=Lib.frozen_of_heap hz 2
 have fz3:=Lib.frozen_of_heap hz 3
 have fz4:=Lib.frozen_of_heap hz 4
 have fz5:=Lib.frozen_of_heap hz 5
 have fz6:=Lib.frozen_of_heap hz 6
 have fz7:=Lib.frozen_of_heap hz 7
 have fz8:=Lib.frozen_of_heap hz 8
 have fz9:=Lib.frozen_of_heap hz 9
 have fz10:=Lib.frozen_of_heap hz 10
 have fz11:=Lib.frozen_of_heap hz 11
 have HZB:Hid (zeroGB w9 w.heap.size):=Lib.hid hz
 clear hz
 go_wp2_with fail
 obtain ⟨t0,t1,t2,t3⟩:=rput12 HP.out (((PFr.refl b w).alloc _).trans HF9.out) HP9.out HZB.out (.int .i64 7) (.int .i64 0) (.string ⟨#[]⟩) (.int .i64 0) (.slice none 0 0) (.int .i64 0) (.string ⟨#[]⟩) (.int .i64 0) (.slice none 0 0) (.string ⟨#[]⟩) (.slice none 0 0) (.slice (some ⟨w9.heap.size,0,none⟩) 1 1)
 generalize ((((((((((((w9.setCell ⟨w.heap.size,0,none⟩ (.int .i64 7)).setCell ⟨w.heap.size,1,none⟩ (.int .i64 0)).setCell ⟨w.heap.size,2,none⟩ (.string ⟨#[]⟩)).setCell ⟨w.heap.size,3,none⟩ (.int .i64 0)).setCell ⟨w.heap.size,4,none⟩ (.slice none 0 0)).setCell ⟨w.heap.size,5,none⟩ (.int .i64 0)).setCell ⟨w.heap.size,6,none⟩ (.string ⟨#[]⟩)).setCell ⟨w.heap.size,7,none⟩ (.int .i64 0)).setCell ⟨w.heap.size,8,none⟩ (.slice none 0 0)).setCell ⟨w.heap.size,9,none⟩ (.string ⟨#[]⟩)).setCell ⟨w.heap.size,10,none⟩ (.slice none 0 0)).setCell ⟨w.heap.size,11,none⟩ (.slice (some ⟨w9.heap.size,0,none⟩) 1 1))=X at t0 t1 t2 t3 ⊢
 have hsz:=t3.size
 have u0:=(Below.heap_alloc X (.cells #[.int .i64 p1,.int .i64 p2,.string p3,.int .i64 p4,.slice p5 p6 p7,.int .i64 p8,.string p9,.int .i64 pa,.slice pb pc pd,.string pe,.slice pf pg ph,.slice pi pj pk] 31) w.heap.size (by rw [hsz];exact hlt)).trans t0
 refine bodyPost_ret (v:=.agg #[.int .i64 7,.int .i64 0,.string ⟨#[]⟩,.int .i64 0,.slice none 0 0,.int .i64 0,.string ⟨#[]⟩,.int .i64 0,.slice none 0 0,.string ⟨#[]⟩,.slice none 0 0,.slice (some ⟨w9.heap.size,0,none⟩) 1 1]) (results_cell_row Tryz.results123 _ _ w.heap.size 31 #[.int .i64 7,.int .i64 0,.string ⟨#[]⟩,.int .i64 0,.slice none 0 0,.int .i64 0,.string ⟨#[]⟩,.int .i64 0,.slice none 0 0,.string ⟨#[]⟩,.slice none 0 0,.slice (some ⟨w9.heap.size,0,none⟩) 1 1] (0,0) _ rfl u0 Tryz.underlying31 rfl infoGo12) rfl (rends_of HK9.out ⟨_,_,_,_,_,_,_,_,_,_,_,_,_,_,_,_,_,_,_,_,rfl⟩ (t1.alloc _) (t2.alloc _) (HC9.out.imp (fun q=>?_)))
 obtain ⟨x,g1,_,g2⟩:=q
 refine ⟨_,?_,g2⟩
 have g3:=hi_goal g1 HS9.out.1 t3
 have g4:=(RowH.one (B:=w.heap.size) (GoalV.stable d) g3 (by have:=HS9.out;omega) (by omega) (by omega) rfl rfl:RowH 31 12 (GoalV d) _ (X.alloc (.cells #[.int .i64 p1,.int .i64 p2,.string p3,.int .i64 p4,.slice p5 p6 p7,.int .i64 p8,.string p9,.int .i64 pa,.slice pb pc pd,.string pe,.slice pf pg ph,.slice pi pj pk] 31)) _ _ _ _ _).held
 rw [hsz] at g4
 exact GoalV.succ _ _ _ _ _ _ ⟨_,_,_,_,_,_,_,_,_,_,rfl,zeroT_holds _ _ _,zeroT_holds _ _ _,.inl ⟨rfl,rfl⟩,g4⟩
end Lx
end Go.Proofs.YtajomoclbpobhaaGreatDoor
namespace Go.Proofs.YtajomoclbpobhaaGreatDoor
set_option linter.unusedSimpArgs false
set_option linter.unusedVariables false
namespace Lx
open Go Go.RowKit
set_option maxRecDepth 100000 in
set_option maxHeartbeats 4000000 in
theorem rprim_open (b:Nat) (A:Option Addr) (c:Nat) (ts:List Tok) (hw:WF ts) (d m:Nat) (ne:Int) (h0:0≤ne) (h1:ne≤60000)
  (HR:Hid (GenC 123 #[.pointer (some ⟨b,0,none⟩),.int .i64 (ne+1+1)] b A c ts (GoalV d) ShGo (primO ts m (ne+1)))) (w:World) (k:Nat) (er0:Int) (OT:Out GoalT) (h:Rd w b A c ts k er0) (hk:k≤ts.length) (hN:nestE ts k er0 (ne+1)=0) (q0:isB ts k 0 [116,114,117,101]=false) (q1:isB ts k 0 [102,97,105,108]=false) (q2:isB ts k 0 [110,111,116]=false) (q3:isB ts k 0 [116,104,114,111,119]=false) (q4:isB ts k 0 [116,114,121]=false) (hy:hasT ts k [40]=true) (hO:bindO (goalO (primO ts m (ne+1)) ts (k+1)) (fun g k'=>bindO (expO ts k' [41]) (fun _ k2=>.ok g k2))=OT) :
  Calls Tryz.prog 123 #[.pointer (some ⟨b,0,none⟩),.int .i64 (ne+1)] w fun e w'=>REnds b A c ts (GoalV (d+2)) ShGo w OT e w':=by
 have HP:=Lib.hid h
 have HWF:=Lib.hid hw
 have hfw:=h.few
 have HBW:=Lib.hid h.lt
 have HNE:=Lib.hid (rnest_any (w.alloc (.cells #[.int .i64 0,.int .i64 0,.string ⟨#[]⟩,.int .i64 0,.slice none 0 0,.int .i64 0,.string ⟨#[]⟩,.int .i64 0,.slice none 0 0,.string ⟨#[]⟩,.slice none 0 0,.slice none 0 0] 31)) b A c ts k er0 (ne+1) (h.alloc _))
 rw [hN] at HNE
 have HK:=Lib.hid hk
 have Q0:=Lib.hid q0
 have Q1:=Lib.hid q1
 have Q2:=Lib.hid q2
 have Q3:=Lib.hid q3
 have Q4:=Lib.hid q4
 clear h hw hN hk q0 q1 q2 q3 q4
 have HY:=Lib.hid hy
 have HO:=Lib.hid hO
 have HK1:Hid (k+1≤ts.length):=Lib.hid (by have:=hasT_in hy (by decide);omega)
 have HGG:=Lib.hid (rgoal_genc b A c ts HWF.out (ne+1+1) d (primO ts m (ne+1)) (primO_fwd ts m (ne+1)) HR)
 clear hy hO HR
 go_enter Tryz.func123,Tryz.ntmps123
 go_wp2_with fail
 go_at_call 122
 refine HNE.out.mono ?_
 rintro e w1 ⟨rfl,hp1,hf1⟩
 have HP1:=Lib.hid hp1
 have HF1:=Lib.hid hf1
 clear hp1 hf1 HNE
 have HG:=Lib.hid (rgot_not HWF.out ⟨#[116,114,117,101]⟩ kw_true HP1.out HK.out Q0.out)
 go_wp2_with fail
 go_at_call 97
 refine HG.out.mono ?_
 rintro e w2 ⟨rfl,hp,hf⟩
 have HP2:=Lib.hid hp
 have HF2:=Lib.hid (HF1.out.trans hf)
 clear hp hf HG HP1 HF1 Q0
 have HG:=Lib.hid (rgot_not HWF.out ⟨#[102,97,105,108]⟩ kw_fail HP2.out HK.out Q1.out)
 go_wp2_with fail
 go_at_call 97
 refine HG.out.mono ?_
 rintro e w3 ⟨rfl,hp,hf⟩
 have HP3:=Lib.hid hp
 have HF3:=Lib.hid (HF2.out.trans hf)
 clear hp hf HG HP2 HF2 Q1
 have HG:=Lib.hid (rgot_not HWF.out ⟨#[110,111,116]⟩ kw_not HP3.out HK.out Q2.out)
 go_wp2_with fail
 go_at_call 97
 refine HG.out.mono ?_
 rintro e w4 ⟨rfl,hp,hf⟩
 have HP4:=Lib.hid hp
 have HF4:=Lib.hid (HF3.out.trans hf)
 clear hp hf HG HP3 HF3 Q2
 have HG:=Lib.hid (rgot_not HWF.out ⟨#[116,104,114,111,119]⟩ kw_throw HP4.out HK.out Q3.out)
 go_wp2_with fail
 go_at_call 97
 refine HG.out.mono ?_
 rintro e w5 ⟨rfl,hp,hf⟩
 have HP5:=Lib.hid hp
 have HF5:=Lib.hid (HF4.out.trans hf)
 clear hp hf HG HP4 HF4 Q3
 have HG:=Lib.hid (rgot_not HWF.out ⟨#[116,114,121]⟩ kw_try HP5.out HK.out Q4.out)
 go_wp2_with fail
 go_at_call 97
 refine HG.out.mono ?_
 rintro e w6 ⟨rfl,hp,hf⟩
 have HP6:=Lib.hid hp
 have HF6:=Lib.hid (HF5.out.trans hf)
 clear hp hf HG HP5 HF5 Q4
 have HG:=Lib.hid (rgot_yes HWF.out ⟨#[40]⟩ kw_open HP6.out HY.out)
 go_wp2_with fail
 go_at_call 97
 refine HG.out.mono ?_
 rintro e w7 ⟨rfl,hp,hf⟩
 have HP7:=Lib.hid hp
 have HF7:=Lib.hid (HF6.out.trans hf)
 clear hp hf HG HP6 HF6
 have HC:=Lib.hid (HGG.out.cont (joinO_fwd (joinO_fwd (primO_fwd ts m (ne+1)) [44] 5) [59] 6) GoalV.sh HP7.out HK1.out (.inl ⟨rfl,HO.out⟩))
 go_wp2_with fail
 go_at_call 103
 refine HC.out.mono ?_
 rintro e w9 ⟨v9,k9,er9,rfl,⟨p1,p2,p3,p4,p5,p6,p7,p8,p9,pa,pb,pc,pd,pe,pf,pg,ph,pi,pj,pk,rfl⟩,hk9,hp9,hf9,hc9⟩
 obtain ⟨x9,hc9⟩:=Cont.pull (.mk 0 zeroT zeroT [] [] []) hc9
 have HP9:=Lib.hid hp9
 have HF9:=Lib.hid (HF7.out.trans hf9)
 have HC9:=Lib.hid hc9
 have HK9:=Lib.hid hk9
 have HS9:Hid (w.heap.size+1≤w7.heap.size∧w7.heap.size≤w9.heap.size):=Lib.hid (by have:=HF7.out.size;have:=hf9.size;simp at *;omega)
 clear hp9 hf9 hc9 hk9 HC HGG HO
 have HND:=Lib.hid (rneed_contQ HWF.out ⟨#[41]⟩ kw_close (HP9.out.alloc (.cells #[.int .i64 p1,.int .i64 p2,.string p3,.int .i64 p4,.slice p5 p6 p7,.int .i64 p8,.string p9,.int .i64 pa,.slice pb pc pd,.string pe,.slice pf pg ph,.slice pi pj pk] 31)) HK9.out (HC9.out.imp (fun q=>(⟨q.1,q.2.2⟩:_∧_))))
 go_wp2_with fail
 go_at_call 59
 refine HND.out.mono ?_
 rintro e w10 ⟨k10,er10,rfl,hk10,hp10,hf10,hc10⟩
 have HP10:=Lib.hid hp10
 have HF10:=Lib.hid ((HF9.out.alloc _).trans hf10)
 have HC10:=Lib.hid hc10
 have HK10:=Lib.hid hk10
 have hb9:b < w9.heap.size:=by have:=HBW.out;have:=HS9.out;omega
 have hbx:=(hf10.block w9.heap.size (by simp) (by omega)).trans (heap_alloc_new w9 (.cells #[.int .i64 p1,.int .i64 p2,.string p3,.int .i64 p4,.slice p5 p6 p7,.int .i64 p8,.string p9,.int .i64 pa,.slice pb pc pd,.string pe,.slice pf pg ph,.slice pi pj pk] 31))
 have HH10:Hid (∀ j,b < j→j < w9.heap.size→w10.heap[j]?=w9.heap[j]?):=Lib.hid (fun j j1 j2=>(hf10.block j (by simp;omega) (by omega)).trans (Below.heap_alloc w9 _ j j2))
 have HS10:Hid (w9.heap.size+1≤w10.heap.size):=Lib.hid (by have:=hf10.size;simpa using this)
 clear hp10 hf10 hc10 hk10 HND hb9
 have hz:=box12r HF10.out HBW.out (heap_alloc_new w _)
 have cz0:=(Lib.cell_of_heap hz 0).trans rfl
 have cz1:=(Lib.cell_of_heap hz 1).trans rfl
 have cz2:=(Lib.cell_of_heap hz 2).trans rfl
 have cz3:=(Lib.cell_of_heap hz 3).trans rfl
 have cz4:=(Lib.cell_of_heap hz 4).trans rfl
 have cz5:=(Lib.cell_of_heap hz 5).trans rfl
 have cz6:=(Lib.cell_of_heap hz 6).trans rfl
 have cz7:=(Lib.cell_of_heap hz 7).trans rfl
 have cz8:=(Lib.cell_of_heap hz 8).trans rfl
 have cz9:=(Lib.cell_of_heap hz 9).trans rfl
 have cz10:=(Lib.cell_of_heap hz 10).trans rfl
 have cz11:=(Lib.cell_of_heap hz 11).trans rfl
 have fz0:=Lib.frozen_of_heap hz 0
 have fz1:=Lib.frozen_of_heap hz 1
 have fz2:=Lib.frozen_of_heap hz 2
 have fz3:=Lib.frozen_of_heap hz 3
 have fz4:=Lib.frozen_of_heap hz 4
 have fz5:=Lib.frozen_of_heap hz 5
 have fz6:=Lib.frozen_of_heap hz 6
 have fz7:=Lib.frozen_of_heap hz 7
 have fz8:=Lib.frozen_of_heap hz 8
 have fz9:=Lib.frozen_of_heap hz 9
 have fz10:=Lib.frozen_of_heap hz 10
 have fz11:=Lib.frozen_of_heap hz 11
 have cb0:=(Lib.cell_of_heap hbx 0).trans rfl
 have cb1:=(Lib.cell_of_heap hbx 1).trans rfl
 have cb2:=(Lib.cell_of_heap hbx 2).trans rfl
 have cb3:=(Lib.cell_of_heap hbx 3).trans rfl
 have cb4:=(Lib.cell_of_heap hbx 4).trans rfl
 have cb5:=(Lib.cell_of_heap hbx 5).trans rfl
 have cb6:=(Lib.cell_of_heap hbx 6).trans rfl
 have cb7:=(Lib.cell_of_heap hbx 7).trans rfl
 have cb8:=(Lib.cell_of_heap hbx 8).trans rfl
 have cb9:=(Lib.cell_of_heap hbx 9).trans rfl
 have cb10:=(Lib.cell_of_heap hbx 10).trans rfl
 have cb11:=(Lib.cell_of_heap hbx 11).trans rfl
 have HZB:Hid (zeroGB w10 w.heap.size):=Lib.hid hz
 clear hz hbx
 go_wp2_with fail
 obtain ⟨t0,t1,t2,t3⟩:=rput12 HP.out (((PFr.refl b w).alloc _).trans HF10.out) HP10.out HZB.out (.int .i64 p1) (.int .i64 p2) (.string p3) (.int .i64 p4) (.slice p5 p6 p7) (.int .i64 p8) (.string p9) (.int .i64 pa) (.slice pb pc pd) (.string pe) (.slice pf pg ph) (.slice pi pj pk)
 refine bodyPost_ret (v:=.agg #[.int .i64 p1,.int .i64 p2,.string p3,.int .i64 p4,.slice p5 p6 p7,.int .i64 p8,.string p9,.int .i64 pa,.slice pb pc pd,.string pe,.slice pf pg ph,.slice pi pj pk]) (results_cell_row Tryz.results123 _ _ w.heap.size 31 #[.int .i64 p1,.int .i64 p2,.string p3,.int .i64 p4,.slice p5 p6 p7,.int .i64 p8,.string p9,.int .i64 pa,.slice pb pc pd,.string pe,.slice pf pg ph,.slice pi pj pk] (0,0) _ rfl t0 Tryz.underlying31 rfl infoGo12) rfl (rends_of HK10.out ⟨_,_,_,_,_,_,_,_,_,_,_,_,_,_,_,_,_,_,_,_,rfl⟩ t1 t2 (HC10.out.imp (fun q=>?_)))
 obtain ⟨g1,_,g2⟩:=q
 refine ⟨_,?_,g2⟩
 have g3:=GoalV.stable _ _ _ _ _ _ w10 g1 (fun j j1 j2=>HH10.out j (by have:=HBW.out;have:=HS9.out;omega) j2)
 have g4:=hi_goal g3 HS9.out.1 t3
 exact GoalV.wide _ _ _ _ _ _ _ _ g4 (by have:=HS9.out;omega) (by rw [t3.size];have:=HS10.out;omega)
end Lx
end Go.Proofs.YtajomoclbpobhaaGreatDoor
namespace Go.Proofs.YtajomoclbpobhaaGreatDoor
set_option linter.unusedSimpArgs false
set_option linter.unusedVariables false
namespace Lx
open Go Go.RowKit
/-- A term's cells, all at once. -/
theorem term4 {w:World} {B:Nat} {t5 t6:Nat} {t4:Option Addr} {t1 t3:Int} {t2:ByteArray} (h:w.heap[B]?=some (.cells #[.int .i64 t1,.string t2,.int .i64 t3,.slice t4 t5 t6] 28 (0,0))):w.cell? ⟨B,0,none⟩=some (.int .i64 t1)∧w.cell? ⟨B,1,none⟩=some (.string t2)∧w.cell? ⟨B,2,none⟩=some (.int .i64 t3)∧w.cell? ⟨B,3,none⟩=some (.slice t4 t5 t6) :=
 ⟨(Lib.cell_of_heap h 0).trans rfl,(Lib.cell_of_heap h 1).trans rfl,(Lib.cell_of_heap h 2).trans rfl,(Lib.cell_of_heap h 3).trans rfl⟩
theorem TermV.kindEq {d:Nat} {x:TermT} {z:Int} {a1 a2 a3:Value} {lo hi:Nat} {w:World} (h:TermV d x (.agg #[.int .i64 z,a1,a2,a3]) lo hi w):x.kind=z:=by
 match d,x,h with
 | d+1,.mk k s z2 l,⟨va,hv,ha⟩ =>
  simp only [Value.agg.injEq,Array.mk.injEq,List.cons.injEq,Value.int.injEq,true_and] at hv
  exact hv.1.symm
theorem call_goal {d:Nat} {x:TermT} {y3:Int} {y2:ByteArray} {y4:Option Addr} {y5 y6 lo hi:Nat} {w:World} (h:TermV 66 x (.agg #[.int .i64 3,.string y2,.int .i64 y3,.slice y4 y5 y6]) lo hi w) :
  GoalV (d+1) (.mk 4 zeroT zeroT x.name x.args []) (.agg #[.int .i64 4,.int .i64 0,.string ⟨#[]⟩,.int .i64 0,.slice none 0 0,.int .i64 0,.string ⟨#[]⟩,.int .i64 0,.slice none 0 0,.string y2,.slice y4 y5 y6,.slice none 0 0]) lo hi w:=by
 obtain ⟨g4,g5⟩:=TermV.parts (d:=65) h
 rw [g4]
 exact ⟨_,_,_,_,_,_,_,_,_,_,rfl,zeroT_holds _ _ _,zeroT_holds _ _ _,ArgsV.imp (fun x v lo hi w h=>TermV.succ _ _ _ _ _ _ h) g5,.inl ⟨rfl,rfl⟩⟩
/-- The result's cells, all at once. -/
theorem zero12 {w:World} {B:Nat} (h:zeroGB w B):w.cell? ⟨B,0,none⟩=some (.int .i64 0)∧w.cell? ⟨B,1,none⟩=some (.int .i64 0)∧w.cell? ⟨B,2,none⟩=some (.string ⟨#[]⟩)∧w.cell? ⟨B,3,none⟩=some (.int .i64 0)∧w.cell? ⟨B,4,none⟩=some (.slice none 0 0)∧w.cell? ⟨B,5,none⟩=some (.int .i64 0)∧w.cell? ⟨B,6,none⟩=some (.string ⟨#[]⟩)∧w.cell? ⟨B,7,none⟩=some (.int .i64 0)∧w.cell? ⟨B,8,none⟩=some (.slice none 0 0)∧w.cell? ⟨B,9,none⟩=some (.string ⟨#[]⟩)∧w.cell? ⟨B,10,none⟩=some (.slice none 0 0)∧w.cell? ⟨B,11,none⟩=some (.slice none 0 0)∧w.frozen? ⟨B,0,none⟩=false∧w.frozen? ⟨B,1,none⟩=false∧w.frozen? ⟨B,2,none⟩=false∧w.frozen? ⟨B,3,none⟩=false∧w.frozen? ⟨B,4,none⟩=false∧w.frozen? ⟨B,5,none⟩=false∧w.frozen? ⟨B,6,none⟩=false∧w.frozen? ⟨B,7,none⟩=false∧w.frozen? ⟨B,8,none⟩=false∧w.frozen? ⟨B,9,none⟩=false∧w.frozen? ⟨B,10,none⟩=false∧w.frozen? ⟨B,11,none⟩=false :=
 ⟨(Lib.cell_of_heap h 0).trans rfl,(Lib.cell_of_heap h 1).trans rfl,(Lib.cell_of_heap h 2).trans rfl,(Lib.cell_of_heap h 3).trans rfl,(Lib.cell_of_heap h 4).trans rfl,(Lib.cell_of_heap h 5).trans rfl,(Lib.cell_of_heap h 6).trans rfl,(Lib.cell_of_heap h 7).trans rfl,(Lib.cell_of_heap h 8).trans rfl,(Lib.cell_of_heap h 9).trans rfl,(Lib.cell_of_heap h 10).trans rfl,(Lib.cell_of_heap h 11).trans rfl,Lib.frozen_of_heap h 0,Lib.frozen_of_heap h 1,Lib.frozen_of_heap h 2,Lib.frozen_of_heap h 3,Lib.frozen_of_heap h 4,Lib.frozen_of_heap h 5,Lib.frozen_of_heap h 6,Lib.frozen_of_heap h 7,Lib.frozen_of_heap h 8,Lib.frozen_of_heap h 9,Lib.frozen_of_heap h 10,Lib.frozen_of_heap h 11⟩
set_option maxRecDepth 100000 in
set_option maxHeartbeats 4000000 in
theorem rprim_uoc (b:Nat) (A:Option Addr) (c:Nat) (ts:List Tok) (hw:WF ts) (d m:Nat) (ne:Int) (h0:0≤ne) (h1:ne≤60000) (w:World) (k:Nat) (er0 er:Int) (OT:Out GoalT) (h:Rd w b A c ts k er0) (hk:k≤ts.length) (hN:nestE ts k er0 (ne+1)=er) (q0:isB ts k er [116,114,117,101]=false) (q1:isB ts k er [102,97,105,108]=false) (q2:isB ts k er [110,111,116]=false) (q3:isB ts k er [116,104,114,111,119]=false) (q4:isB ts k er [116,114,121]=false) (q5:isB ts k er [40]=false) (hc:Cont OT er (bindO (termO ts 66 (ne+1) k) (fun t k1=>if hasT ts k1 [61]=true then bindO (termO ts 66 (ne+1) (k1+1)) (fun u k2=>.ok (.mk 3 t u [] [] []) k2) else if t.kind=3 then .ok (.mk 4 zeroT zeroT t.name t.args []) k1 else .no 2)=OT)) :
  Calls Tryz.prog 123 #[.pointer (some ⟨b,0,none⟩),.int .i64 (ne+1)] w fun e w'=>REnds b A c ts (GoalV (d+2)) ShGo w OT e w':=by
 have HP:=Lib.hid h
 have HWF:=Lib.hid hw
 have hfw:=h.few
 have HBW:=Lib.hid h.lt
 have HNE:=Lib.hid (rnest_any (w.alloc (.cells #[.int .i64 0,.int .i64 0,.string ⟨#[]⟩,.int .i64 0,.slice none 0 0,.int .i64 0,.string ⟨#[]⟩,.int .i64 0,.slice none 0 0,.string ⟨#[]⟩,.slice none 0 0,.slice none 0 0] 31)) b A c ts k er0 (ne+1) (h.alloc _))
 rw [hN] at HNE
 have HK:=Lib.hid hk
 have Q0:=Lib.hid q0
 have Q1:=Lib.hid q1
 have Q2:=Lib.hid q2
 have Q3:=Lib.hid q3
 have Q4:=Lib.hid q4
 have Q5:=Lib.hid q5
 clear h hw hN hk q0 q1 q2 q3 q4 q5
 have HC0:=Lib.hid hc
 have HTG:=Lib.hid (rterm_genc b A c ts HWF.out (ne+1) (by omega) (by omega))
 clear hc
 go_enter Tryz.func123,Tryz.ntmps123
 go_wp2_with fail
 go_at_call 122
 refine HNE.out.mono ?_
 rintro e w1 ⟨rfl,hp1,hf1⟩
 have HP1:=Lib.hid hp1
 have HF1:=Lib.hid hf1
 clear hp1 hf1 HNE
 have HG:=Lib.hid (rgot_not HWF.out ⟨#[116,114,117,101]⟩ kw_true HP1.out HK.out Q0.out)
 go_wp2_with fail
 go_at_call 97
 refine HG.out.mono ?_
 rintro e w2 ⟨rfl,hp,hf⟩
 have HP2:=Lib.hid hp
 have HF2:=Lib.hid (HF1.out.trans hf)
 clear hp hf HG HP1 HF1 Q0
 have HG:=Lib.hid (rgot_not HWF.out ⟨#[102,97,105,108]⟩ kw_fail HP2.out HK.out Q1.out)
 go_wp2_with fail
 go_at_call 97
 refine HG.out.mono ?_
 rintro e w3 ⟨rfl,hp,hf⟩
 have HP3:=Lib.hid hp
 have HF3:=Lib.hid (HF2.out.trans hf)
 clear hp hf HG HP2 HF2 Q1
 have HG:=Lib.hid (rgot_not HWF.out ⟨#[110,111,116]⟩ kw_not HP3.out HK.out Q2.out)
 go_wp2_with fail
 go_at_call 97
 refine HG.out.mono ?_
 rintro e w4 ⟨rfl,hp,hf⟩
 have HP4:=Lib.hid hp
 have HF4:=Lib.hid (HF3.out.trans hf)
 clear hp hf HG HP3 HF3 Q2
 have HG:=Lib.hid (rgot_not HWF.out ⟨#[116,104,114,111,119]⟩ kw_throw HP4.out HK.out Q3.out)
 go_wp2_with fail
 go_at_call 97
 refine HG.out.mono ?_
 rintro e w5 ⟨rfl,hp,hf⟩
 have HP5:=Lib.hid hp
 have HF5:=Lib.hid (HF4.out.trans hf)
 clear hp hf HG HP4 HF4 Q3
 have HG:=Lib.hid (rgot_not HWF.out ⟨#[116,114,121]⟩ kw_try HP5.out HK.out Q4.out)
 go_wp2_with fail
 go_at_call 97
 refine HG.out.mono ?_
 rintro e w6 ⟨rfl,hp,hf⟩
 have HP6:=Lib.hid hp
 have HF6:=Lib.hid (HF5.out.trans hf)
 clear hp hf HG HP5 HF5 Q4
 have HG:=Lib.hid (rgot_not HWF.out ⟨#[40]⟩ kw_open HP6.out HK.out Q5.out)
 go_wp2_with fail
 go_at_call 97
 refine HG.out.mono ?_
 rintro e w7 ⟨rfl,hp,hf⟩
 have HP7:=Lib.hid hp
 have HF7:=Lib.hid (HF6.out.trans hf)
 clear hp hf HG HP6 HF6 Q5
 have HC:=Lib.hid (HTG.out.cont (termO_fwd ts 66 (ne+1)) TermV.sh HP7.out HK.out HC0.out)
 go_wp2_with fail
 go_at_call 102
 refine HC.out.mono ?_
 rintro e w9 ⟨v9,k9,er9,rfl,⟨y1,y2,y3,y4,y5,y6,rfl⟩,hk9,hp9,hf9,hc9⟩
 obtain ⟨x9,hc9⟩:=Cont.pull zeroT hc9
 have HP9:=Lib.hid hp9
 have HF9:=Lib.hid (HF7.out.trans hf9)
 have HC9:=Lib.hid hc9
 have HK9:=Lib.hid hk9
 have HS9:Hid (w.heap.size+1≤w7.heap.size∧w7.heap.size≤w9.heap.size):=Lib.hid (by have:=HF7.out.size;have:=hf9.size;simp at *;omega)
 have hb9:b < w9.heap.size:=by have:=HBW.out;have:=HS9.out;omega
 have HB9:=Lib.hid hb9
 have hn1:¬ w9.heap.size=w.heap.size:=by have:=HS9.out;omega
 have hn2:¬ w.heap.size=w9.heap.size:=by have:=HS9.out;omega
 clear hp9 hf9 hc9 hk9 HC HC0 hb9
 cases hq:isB ts k9 er9 [61] with
 | false =>
  have HG:=Lib.hid (rgot_not HWF.out ⟨#[61]⟩ kw_eq (HP9.out.alloc (.cells #[.int .i64 y1,.string y2,.int .i64 y3,.slice y4 y5 y6] 28)) HK9.out hq)
  have HQ:=Lib.hid hq
  clear hq
  go_wp2_with fail
  go_at_call 97
  refine HG.out.mono ?_
  rintro e w10 ⟨rfl,hp10,hf10⟩
  have HP10:=Lib.hid hp10
  have HF10:=Lib.hid ((HF9.out.alloc _).trans hf10)
  have hbx:=(hf10.block w9.heap.size (by simp) (by have:=HB9.out;omega)).trans (heap_alloc_new w9 (.cells #[.int .i64 y1,.string y2,.int .i64 y3,.slice y4 y5 y6] 28))
  have HH10:Hid (∀ j,b < j→j < w9.heap.size→w10.heap[j]?=w9.heap[j]?):=Lib.hid (fun j j1 j2=>(hf10.block j (by simp;omega) (by omega)).trans (Below.heap_alloc w9 _ j j2))
  have HS10:Hid (w9.heap.size+1≤w10.heap.size):=Lib.hid (by have:=hf10.size;simpa using this)
  have hz:=box12r HF10.out HBW.out (heap_alloc_new w _)
  have HZB:Hid (zeroGB w10 w.heap.size):=Lib.hid hz
  have HBX:=Lib.hid hbx
  clear hp10 hf10 HG
  obtain ⟨cb0,cb1,cb2,cb3⟩:=term4 hbx
  by_cases hy3:y1=3
  ·subst hy3
   obtain ⟨cz0,cz1,cz2,cz3,cz4,cz5,cz6,cz7,cz8,cz9,cz10,cz11,fz0,fz1,fz2,fz3,fz4,fz5,fz6,fz7,fz8,fz9,fz10,fz11⟩:=zero12 hz
   clear hz hbx
   go_wp2_with fail
   obtain ⟨t0,t1,t2,t3⟩:=rput12 HP.out (((PFr.refl b w).alloc _).trans HF10.out) HP10.out HZB.out (.int .i64 4) (.int .i64 0) (.string ⟨#[]⟩) (.int .i64 0) (.slice none 0 0) (.int .i64 0) (.string ⟨#[]⟩) (.int .i64 0) (.slice none 0 0) (.string y2) (.slice y4 y5 y6) (.slice none 0 0)
   refine bodyPost_ret (v:=.agg #[.int .i64 4,.int .i64 0,.string ⟨#[]⟩,.int .i64 0,.slice none 0 0,.int .i64 0,.string ⟨#[]⟩,.int .i64 0,.slice none 0 0,.string y2,.slice y4 y5 y6,.slice none 0 0]) (results_cell_row Tryz.results123 _ _ w.heap.size 31 #[.int .i64 4,.int .i64 0,.string ⟨#[]⟩,.int .i64 0,.slice none 0 0,.int .i64 0,.string ⟨#[]⟩,.int .i64 0,.slice none 0 0,.string y2,.slice y4 y5 y6,.slice none 0 0] (0,0) _ rfl t0 Tryz.underlying31 rfl infoGo12) rfl (rends_of HK9.out ⟨_,_,_,_,_,_,_,_,_,_,_,_,_,_,_,_,_,_,_,_,rfl⟩ t1 t2 ?_)
   rcases HC9.out with ⟨rfl,g1,_,g2⟩ | h
   ·have hqq:=HQ.out
    rw [isB_ok] at hqq
    rw [hqq,if_neg (by decide),if_pos (TermV.kindEq g1)] at g2
    refine .inl ⟨rfl,_,?_,g2⟩
    have g3:=TermV.stable 66 _ _ _ _ _ _ g1 (fun j j1 j2=>(t3.block j (by have:=HS9.out;omega)).trans (HH10.out j (by have:=HBW.out;have:=HS9.out;omega) j2))
    exact GoalV.wide _ _ _ _ _ _ _ _ (call_goal g3) (by have:=HS9.out;omega) (by rw [t3.size];have:=HS10.out;omega)
   ·exact .inr h
  ·have hk3:(y1 != 3)=true:=by simpa using hy3
   have HY3:=Lib.hid hy3
   clear hz hbx hy3
   go_wp2_with fail
   go_at_call 57
   refine (rfail_any w10 b A c ts k9 er9 2 HP10.out (by decide) (by decide)).mono ?_
   rintro e w11 ⟨rfl,hp11,hf11⟩
   have HP11:=Lib.hid hp11
   have HF11:=Lib.hid (HF10.out.trans hf11)
   have hbx:=(hf11.block w9.heap.size (by have:=HS10.out;omega) (by have:=HB9.out;omega)).trans HBX.out
   have hz:=box12r HF11.out HBW.out (heap_alloc_new w _)
   have HZ11:Hid (zeroGB w11 w.heap.size):=Lib.hid hz
   clear cb0 cb1 cb2 cb3
   obtain ⟨cb0,cb1,cb2,cb3⟩:=term4 hbx
   obtain ⟨cz0,cz1,cz2,cz3,cz4,cz5,cz6,cz7,cz8,cz9,cz10,cz11,fz0,fz1,fz2,fz3,fz4,fz5,fz6,fz7,fz8,fz9,fz10,fz11⟩:=zero12 hz
   clear hz hbx hp11 hf11
   go_wp2_with fail
   obtain ⟨t0,t1,t2,t3⟩:=rput12 HP.out (((PFr.refl b w).alloc _).trans HF11.out) HP11.out HZ11.out (.int .i64 4) (.int .i64 0) (.string ⟨#[]⟩) (.int .i64 0) (.slice none 0 0) (.int .i64 0) (.string ⟨#[]⟩) (.int .i64 0) (.slice none 0 0) (.string y2) (.slice y4 y5 y6) (.slice none 0 0)
   refine bodyPost_ret (v:=.agg #[.int .i64 4,.int .i64 0,.string ⟨#[]⟩,.int .i64 0,.slice none 0 0,.int .i64 0,.string ⟨#[]⟩,.int .i64 0,.slice none 0 0,.string y2,.slice y4 y5 y6,.slice none 0 0]) (results_cell_row Tryz.results123 _ _ w.heap.size 31 #[.int .i64 4,.int .i64 0,.string ⟨#[]⟩,.int .i64 0,.slice none 0 0,.int .i64 0,.string ⟨#[]⟩,.int .i64 0,.slice none 0 0,.string y2,.slice y4 y5 y6,.slice none 0 0] (0,0) _ rfl t0 Tryz.underlying31 rfl infoGo12) rfl (rends_of HK9.out ⟨_,_,_,_,_,_,_,_,_,_,_,_,_,_,_,_,_,_,_,_,rfl⟩ t1 t2 ?_)
   rcases HC9.out with ⟨rfl,g1,_,g2⟩ | ⟨i,rfl,rfl⟩
   ·have hqq:=HQ.out
    rw [isB_ok] at hqq
    rw [hqq,if_neg (by decide),if_neg (fun e=>HY3.out ((TermV.kindEq g1).symm.trans e))] at g2
    exact .inr ⟨2,rfl,g2.symm⟩
   ·exact .inr ⟨i,if_neg (erN_ne i),rfl⟩
 | true =>
  obtain ⟨rfl,hh⟩:er9=0∧hasT ts k9 [61]=true:=by simpa [isB] using hq
  have HG:=Lib.hid (rgot_yes HWF.out ⟨#[61]⟩ kw_eq (HP9.out.alloc (.cells #[.int .i64 y1,.string y2,.int .i64 y3,.slice y4 y5 y6] 28)) hh)
  have hin:=hasT_in hh (by decide)
  have HK10:Hid (k9+1≤ts.length):=Lib.hid hin
  obtain ⟨g1,_,g2⟩:=HC9.out.ok
  dsimp only at g2
  rw [if_pos hh] at g2
  have HV9:=Lib.hid g1
  have HC2:=Lib.hid (fun (W:World) (h:Rd W b A c ts (k9+1) 0)=>HTG.out.cont (termO_fwd ts 66 (ne+1)) TermV.sh h HK10.out (.inl ⟨rfl,g2⟩))
  clear hq hh hin g1 g2 HTG
  go_wp2_with fail
  go_at_call 97
  refine HG.out.mono ?_
  rintro e w10 ⟨rfl,hp10,hf10⟩
  have HP10:=Lib.hid hp10
  have HF10:=Lib.hid ((HF9.out.alloc _).trans hf10)
  have hbx:=(hf10.block w9.heap.size (by simp) (by have:=HB9.out;omega)).trans (heap_alloc_new w9 (.cells #[.int .i64 y1,.string y2,.int .i64 y3,.slice y4 y5 y6] 28))
  have HH10:Hid (∀ j,b < j→j < w9.heap.size→w10.heap[j]?=w9.heap[j]?):=Lib.hid (fun j j1 j2=>(hf10.block j (by simp;omega) (by omega)).trans (Below.heap_alloc w9 _ j j2))
  have HS10:Hid (w9.heap.size+1≤w10.heap.size):=Lib.hid (by have:=hf10.size;simpa using this)
  have HBX:=Lib.hid hbx
  obtain ⟨cb0,cb1,cb2,cb3⟩:=term4 hbx
  have HWR:Hid (IntKind.i64.wrap (ne+1+1)=ne+1+1):=Lib.hid (IntWalk.i64_in _ (by omega))
  clear hp10 hf10 HG hbx
  go_wp2_with fail
  go_region_law (go_simp;go_at_call 102;rw [HWR.out];refine (HC2.out _ HP10.out.drew).mono ?_;rintro e w11 ⟨v11,k11,er11,rfl,⟨z1,z2,z3,z4,z5,z6,rfl⟩,hk11,hp11,hf11,hc11⟩;replace hf11:=PFr.ofDrew hf11;have hbx:=(hf11.block w9.heap.size (by have:=HS10.out;omega) (by have:=HB9.out;omega)).trans HBX.out;have hz:=box12r (HF10.out.trans hf11) HBW.out (heap_alloc_new w _);have HZ11:Hid (zeroGB w11 w.heap.size):=Lib.hid hz;obtain ⟨cx0,cx1,cx2,cx3⟩:=term4 hbx;obtain ⟨cz0,cz1,cz2,cz3,cz4,cz5,cz6,cz7,cz8,cz9,cz10,cz11,fz0,fz1,fz2,fz3,fz4,fz5,fz6,fz7,fz8,fz9,fz10,fz11⟩:=zero12 hz;clear hz hbx)
  all_goals
   have HP11:=Lib.hid hp11
   have HF11:=Lib.hid hf11
   have HC11:=Lib.hid hc11
   have HK11:=Lib.hid hk11
   clear hp11 hf11 hc11 hk11
   go_wp2
   obtain ⟨t0,t1,t2,t3⟩:=rput12 HP.out (((PFr.refl b w).alloc _).trans (HF10.out.trans HF11.out)) HP11.out HZ11.out (.int .i64 3) (.int .i64 y1) (.string y2) (.int .i64 y3) (.slice y4 y5 y6) (.int .i64 z1) (.string z2) (.int .i64 z3) (.slice z4 z5 z6) (.string ⟨#[]⟩) (.slice none 0 0) (.slice none 0 0)
   generalize ((((((((((((w11.setCell ⟨w.heap.size,0,none⟩ (.int .i64 3)).setCell ⟨w.heap.size,1,none⟩ (.int .i64 y1)).setCell ⟨w.heap.size,2,none⟩ (.string y2)).setCell ⟨w.heap.size,3,none⟩ (.int .i64 y3)).setCell ⟨w.heap.size,4,none⟩ (.slice y4 y5 y6)).setCell ⟨w.heap.size,5,none⟩ (.int .i64 z1)).setCell ⟨w.heap.size,6,none⟩ (.string z2)).setCell ⟨w.heap.size,7,none⟩ (.int .i64 z3)).setCell ⟨w.heap.size,8,none⟩ (.slice z4 z5 z6)).setCell ⟨w.heap.size,9,none⟩ (.string ⟨#[]⟩)).setCell ⟨w.heap.size,10,none⟩ (.slice none 0 0)).setCell ⟨w.heap.size,11,none⟩ (.slice none 0 0))=X at t0 t1 t2 t3 ⊢
   refine bodyPost_ret (v:=.agg #[.int .i64 3,.int .i64 y1,.string y2,.int .i64 y3,.slice y4 y5 y6,.int .i64 z1,.string z2,.int .i64 z3,.slice z4 z5 z6,.string ⟨#[]⟩,.slice none 0 0,.slice none 0 0]) (results_cell_row Tryz.results123 _ _ w.heap.size 31 #[.int .i64 3,.int .i64 y1,.string y2,.int .i64 y3,.slice y4 y5 y6,.int .i64 z1,.string z2,.int .i64 z3,.slice z4 z5 z6,.string ⟨#[]⟩,.slice none 0 0,.slice none 0 0] (0,0) _ rfl t0 Tryz.underlying31 rfl infoGo12) rfl (rends_of HK11.out ⟨_,_,_,_,_,_,_,_,_,_,_,_,_,_,_,_,_,_,_,_,rfl⟩ t1 t2 (HC11.out.imp (fun q=>?_)))
   have T3:=Lib.hid t3
   clear t0 t1 t2 t3
   obtain ⟨u,g1,_,g2⟩:=q
   refine ⟨_,?_,g2⟩
   have e1:=HS9.out
   have e2:=HS10.out
   have e3:=HB9.out
   have e4:=HBW.out
   have e5:w10.heap.size≤w11.heap.size:=HF11.out.size
   have e6:X.heap.size=w11.heap.size:=T3.out.size
   have g3:TermV 66 x9 (.agg #[.int .i64 y1,.string y2,.int .i64 y3,.slice y4 y5 y6]) w.heap.size X.heap.size X:=TermV.wide _ _ _ _ _ _ _ _ (TermV.stable 66 _ _ _ _ _ X HV9.out (fun j j1 j2=>((T3.out.block j (by omega)).trans (HF11.out.block j (by omega) (by omega))).trans (HH10.out j (by omega) j2))) (by omega) (by omega)
   have g4:TermV 66 u (.agg #[.int .i64 z1,.string z2,.int .i64 z3,.slice z4 z5 z6]) w.heap.size X.heap.size X:=TermV.wide _ _ _ _ _ _ _ _ (TermV.stable 66 _ _ _ _ _ X g1 (fun j j1 _=>T3.out.block j (by have j3:w10.heap.size≤j:=j1;omega))) (by show w.heap.size≤w10.heap.size;omega) (by omega)
   exact ⟨_,_,_,_,_,_,_,_,_,_,rfl,g3,g4,.inl ⟨rfl,rfl⟩,.inl ⟨rfl,rfl⟩⟩
end Lx
end Go.Proofs.YtajomoclbpobhaaGreatDoor
namespace Go.Proofs.YtajomoclbpobhaaGreatDoor
set_option linter.unusedSimpArgs false
set_option linter.unusedVariables false
namespace Lx
open Go Go.RowKit
/-- A goal's cells, all at once. -/
theorem goal12 {w:World} {B:Nat} {p1 p2 p4 p8 pa:Int} {p3 p9 pe:ByteArray} {p5 pb pf pi:Option Addr} {p6 p7 pc pd pg ph pj pk:Nat} (h:w.heap[B]?=some (.cells #[.int .i64 p1,.int .i64 p2,.string p3,.int .i64 p4,.slice p5 p6 p7,.int .i64 p8,.string p9,.int .i64 pa,.slice pb pc pd,.string pe,.slice pf pg ph,.slice pi pj pk] 31 (0,0))):w.cell? ⟨B,0,none⟩=some (.int .i64 p1)∧w.cell? ⟨B,1,none⟩=some (.int .i64 p2)∧w.cell? ⟨B,2,none⟩=some (.string p3)∧w.cell? ⟨B,3,none⟩=some (.int .i64 p4)∧w.cell? ⟨B,4,none⟩=some (.slice p5 p6 p7)∧w.cell? ⟨B,5,none⟩=some (.int .i64 p8)∧w.cell? ⟨B,6,none⟩=some (.string p9)∧w.cell? ⟨B,7,none⟩=some (.int .i64 pa)∧w.cell? ⟨B,8,none⟩=some (.slice pb pc pd)∧w.cell? ⟨B,9,none⟩=some (.string pe)∧w.cell? ⟨B,10,none⟩=some (.slice pf pg ph)∧w.cell? ⟨B,11,none⟩=some (.slice pi pj pk) :=
 ⟨(Lib.cell_of_heap h 0).trans rfl,(Lib.cell_of_heap h 1).trans rfl,(Lib.cell_of_heap h 2).trans rfl,(Lib.cell_of_heap h 3).trans rfl,(Lib.cell_of_heap h 4).trans rfl,(Lib.cell_of_heap h 5).trans rfl,(Lib.cell_of_heap h 6).trans rfl,(Lib.cell_of_heap h 7).trans rfl,(Lib.cell_of_heap h 8).trans rfl,(Lib.cell_of_heap h 9).trans rfl,(Lib.cell_of_heap h 10).trans rfl,(Lib.cell_of_heap h 11).trans rfl⟩
theorem Cont.pull2 {α β:Type} {OT:Out β} {er:Int} {Q:Prop} {P:α→Prop} (a:α) (h:Cont OT er (Q∧∃ x,P x)):∃ x,Cont OT er (Q∧P x):=by
 rcases h with ⟨e,q,x,hx⟩ | h
 ·exact ⟨x,.inl ⟨e,q,hx⟩⟩
 ·exact ⟨a,.inr h⟩
theorem Rd.beside {w0 X:World} {b:Nat} {A:Option Addr} {c:Nat} {ts:List Tok} {k k0:Nat} {er er0:Int} (h0:Rd w0 b A c ts k0 er0) (hf:PFr b w0 X) (hp:Rd X b A c ts k er) {N:Nat} (hN:w0.heap.size≤N) (i:Nat) (v:Value):Rd (X.setCell ⟨N,i,none⟩ v) b A c ts k er :=
 h0.move (hf.putNew hN i v) ((Below.heap_setCell X ⟨N,i,none⟩ v b (by have:=h0.lt;show b ≠ N;omega)).trans hp.blk) hp.near hp.nest0 hp.nest1
set_option maxRecDepth 100000 in
set_option maxHeartbeats 4000000 in
theorem rprim_try (b:Nat) (A:Option Addr) (c:Nat) (ts:List Tok) (hw:WF ts) (d m:Nat) (ne:Int) (h0:0≤ne) (h1:ne≤60000)
  (HR:Hid (GenC 123 #[.pointer (some ⟨b,0,none⟩),.int .i64 (ne+1+1)] b A c ts (GoalV d) ShGo (primO ts m (ne+1)))) (w:World) (k:Nat) (er0:Int) (OT:Out GoalT) (h:Rd w b A c ts k er0) (hk:k≤ts.length) (hN:nestE ts k er0 (ne+1)=0) (q0:isB ts k 0 [116,114,117,101]=false) (q1:isB ts k 0 [102,97,105,108]=false) (q2:isB ts k 0 [110,111,116]=false) (q3:isB ts k 0 [116,104,114,111,119]=false) (hy:hasT ts k [116,114,121]=true) (hO:bindO (primO ts m (ne+1) (k+1)) (fun g k1=>bindO (expO ts k1 [99,97,116,99,104]) (fun _ k2=>bindO (varO ts k2) (fun s k3=>bindO (expO ts k3 [116,104,101,110]) (fun _ k4=>bindO (primO ts m (ne+1) k4) (fun g2 k5=>.ok (.mk 9 zeroT zeroT s [] [g,g2]) k5)))))=OT) :
  Calls Tryz.prog 123 #[.pointer (some ⟨b,0,none⟩),.int .i64 (ne+1)] w fun e w'=>REnds b A c ts (GoalV (d+2)) ShGo w OT e w':=by
 have HP:=Lib.hid h
 have HWF:=Lib.hid hw
 have hfw:=h.few
 have HBW:=Lib.hid h.lt
 have HNE:=Lib.hid (rnest_any (w.alloc (.cells #[.int .i64 0,.int .i64 0,.string ⟨#[]⟩,.int .i64 0,.slice none 0 0,.int .i64 0,.string ⟨#[]⟩,.int .i64 0,.slice none 0 0,.string ⟨#[]⟩,.slice none 0 0,.slice none 0 0] 31)) b A c ts k er0 (ne+1) (h.alloc _))
 rw [hN] at HNE
 have HK:=Lib.hid hk
 have Q0:=Lib.hid q0
 have Q1:=Lib.hid q1
 have Q2:=Lib.hid q2
 have Q3:=Lib.hid q3
 clear h hw hN hk q0 q1 q2 q3
 have HY:=Lib.hid hy
 have HO:=Lib.hid hO
 have HK1:Hid (k+1≤ts.length):=Lib.hid (by have:=hasT_in hy (by decide);omega)
 clear hy hO
 go_enter Tryz.func123,Tryz.ntmps123
 go_wp2_with fail
 go_at_call 122
 refine HNE.out.mono ?_
 rintro e w1 ⟨rfl,hp1,hf1⟩
 have HP1:=Lib.hid hp1
 have HF1:=Lib.hid hf1
 clear hp1 hf1 HNE
 have HG:=Lib.hid (rgot_not HWF.out ⟨#[116,114,117,101]⟩ kw_true HP1.out HK.out Q0.out)
 go_wp2_with fail
 go_at_call 97
 refine HG.out.mono ?_
 rintro e w2 ⟨rfl,hp,hf⟩
 have HP2:=Lib.hid hp
 have HF2:=Lib.hid (HF1.out.trans hf)
 clear hp hf HG HP1 HF1 Q0
 have HG:=Lib.hid (rgot_not HWF.out ⟨#[102,97,105,108]⟩ kw_fail HP2.out HK.out Q1.out)
 go_wp2_with fail
 go_at_call 97
 refine HG.out.mono ?_
 rintro e w3 ⟨rfl,hp,hf⟩
 have HP3:=Lib.hid hp
 have HF3:=Lib.hid (HF2.out.trans hf)
 clear hp hf HG HP2 HF2 Q1
 have HG:=Lib.hid (rgot_not HWF.out ⟨#[110,111,116]⟩ kw_not HP3.out HK.out Q2.out)
 go_wp2_with fail
 go_at_call 97
 refine HG.out.mono ?_
 rintro e w4 ⟨rfl,hp,hf⟩
 have HP4:=Lib.hid hp
 have HF4:=Lib.hid (HF3.out.trans hf)
 clear hp hf HG HP3 HF3 Q2
 have HG:=Lib.hid (rgot_not HWF.out ⟨#[116,104,114,111,119]⟩ kw_throw HP4.out HK.out Q3.out)
 go_wp2_with fail
 go_at_call 97
 refine HG.out.mono ?_
 rintro e w5 ⟨rfl,hp,hf⟩
 have HP5:=Lib.hid hp
 have HF5:=Lib.hid (HF4.out.trans hf)
 clear hp hf HG HP4 HF4 Q3
 have HG:=Lib.hid (rgot_yes HWF.out ⟨#[116,114,121]⟩ kw_try HP5.out HY.out)
 go_wp2_with fail
 go_at_call 97
 refine HG.out.mono ?_
 rintro e w6 ⟨rfl,hp,hf⟩
 have HP6:=Lib.hid hp
 have HF6:=Lib.hid (HF5.out.trans hf)
 clear hp hf HG HP5 HF5
 have HC:=Lib.hid (HR.out.cont (primO_fwd ts m (ne+1)) GoalV.sh (HP6.out.alloc (.cells #[.int .i64 9,.int .i64 0,.string ⟨#[]⟩,.int .i64 0,.slice none 0 0,.int .i64 0,.string ⟨#[]⟩,.int .i64 0,.slice none 0 0,.string ⟨#[]⟩,.slice none 0 0,.slice none 0 0] 31)) HK1.out (.inl ⟨rfl,HO.out⟩))
 go_wp2_with fail
 go_at_call 123
 refine HC.out.mono ?_
 rintro e w7 ⟨v7,k7,er7,rfl,⟨p1,p2,p3,p4,p5,p6,p7,p8,p9,pa,pb,pc,pd,pe,pf,pg,ph,pi,pj,pk,rfl⟩,hk7,hp7,hf7,hc7⟩
 obtain ⟨x7,hc7⟩:=Cont.pull (.mk 0 zeroT zeroT [] [] []) hc7
 have HP7:=Lib.hid hp7
 have HF7:=Lib.hid ((HF6.out.alloc _).trans hf7)
 have HC7:=Lib.hid hc7
 have HK7:=Lib.hid hk7
 have HS7:Hid (w.heap.size+1≤w6.heap.size∧w6.heap.size+1≤w7.heap.size):=Lib.hid (by have:=HF6.out.size;have:=hf7.size;simp at *;omega)
 have h5:=(hf7.block w6.heap.size (by simp) (by have:=HBW.out;have:=HS7.out;omega)).trans (heap_alloc_new w6 (.cells #[.int .i64 9,.int .i64 0,.string ⟨#[]⟩,.int .i64 0,.slice none 0 0,.int .i64 0,.string ⟨#[]⟩,.int .i64 0,.slice none 0 0,.string ⟨#[]⟩,.slice none 0 0,.slice none 0 0] 31))
 have H57:=Lib.hid h5
 clear hp7 hf7 hc7 hk7 HC HO h5
 have HND:=Lib.hid (rneed_contQ HWF.out ⟨#[99,97,116,99,104]⟩ kw_catch (HP7.out.alloc (.cells #[.int .i64 p1,.int .i64 p2,.string p3,.int .i64 p4,.slice p5 p6 p7,.int .i64 p8,.string p9,.int .i64 pa,.slice pb pc pd,.string pe,.slice pf pg ph,.slice pi pj pk] 31)) HK7.out (HC7.out.imp (fun q=>(⟨q.1,q.2.2⟩:_∧_))))
 go_wp2_with fail
 go_at_call 59
 refine HND.out.mono ?_
 rintro e w8 ⟨k8,er8,rfl,hk8,hp8,hf8,hc8⟩
 have HP8:=Lib.hid hp8
 have HF8:=Lib.hid ((HF7.out.alloc _).trans hf8)
 have HC8:=Lib.hid hc8
 have HK8:=Lib.hid hk8
 have H6:=Lib.hid ((hf8.block w7.heap.size (by simp) (by have:=HBW.out;have:=HS7.out;omega)).trans (heap_alloc_new w7 (.cells #[.int .i64 p1,.int .i64 p2,.string p3,.int .i64 p4,.slice p5 p6 p7,.int .i64 p8,.string p9,.int .i64 pa,.slice pb pc pd,.string pe,.slice pf pg ph,.slice pi pj pk] 31)))
 have HH8:Hid (∀ j,b < j→j < w7.heap.size→w8.heap[j]?=w7.heap[j]?):=Lib.hid (fun j j1 j2=>(hf8.block j (by simp;omega) (by omega)).trans (Below.heap_alloc w7 _ j j2))
 have HS8:Hid (w7.heap.size+1≤w8.heap.size):=Lib.hid (by have:=hf8.size;simpa using this)
 clear hp8 hf8 hc8 hk8 HND
 have HVR:=Lib.hid (rvar_contQ HP8.out HK8.out (HC8.out.imp (fun q=>(⟨q.1,q.2.2⟩:_∧_))))
 go_wp2_with fail
 go_at_call 98
 refine HVR.out.mono ?_
 rintro e w9 ⟨y9,k9,er9,rfl,hk9,hp9,hf9,hc9⟩
 obtain ⟨s9,hc9⟩:=Cont.pull2 [] hc9
 have HC9:=Lib.hid hc9
 have HK9:=Lib.hid hk9
 have h5:=((hf9.block w6.heap.size (by have:=HS7.out;have:=HS8.out;omega) (by have:=HBW.out;have:=HS7.out;omega)).trans (HH8.out w6.heap.size (by have:=HBW.out;have:=HS7.out;omega) (by have:=HS7.out;omega))).trans H57.out
 have H59:=Lib.hid h5
 have c59:=(Lib.cell_of_heap h5 9).trans rfl
 have f59:=Lib.frozen_of_heap h5 9
 have HF9:=Lib.hid (HF8.out.trans hf9)
 have HP9:=Lib.hid hp9
 have HX9:=Lib.hid (Rd.beside HP.out (((PFr.refl b w).alloc _).trans HF9.out) HP9.out (N:=w6.heap.size) (by have:=HS7.out;omega) 9 (.string y9))
 have HH9:Hid (∀ j,j < w8.heap.size→j ≠ b→w9.heap[j]?=w8.heap[j]?):=Lib.hid (fun j j1 j2=>hf9.block j j1 j2)
 have HS9:Hid (w8.heap.size≤w9.heap.size):=Lib.hid hf9.size
 clear h5 hp9 hf9 hc9 hk9 HVR
 have HND:=Lib.hid (rneed_contQ HWF.out ⟨#[116,104,101,110]⟩ kw_then HX9.out HK9.out (HC9.out.imp (fun q=>(⟨⟨q.1,q.2.1⟩,q.2.2.2⟩:(_∧_)∧_))))
 go_wp2_with fail
 go_at_call 59
 refine HND.out.mono ?_
 rintro e w10 ⟨k10,er10,rfl,hk10,hp10,hf10,hc10⟩
 have hsx:(w9.setCell ⟨w6.heap.size,9,none⟩ (.string y9)).heap.size=w9.heap.size:=by simp [World.setCell]
 have h5:w10.heap[w6.heap.size]?=some (.cells #[.int .i64 9,.int .i64 0,.string ⟨#[]⟩,.int .i64 0,.slice none 0 0,.int .i64 0,.string ⟨#[]⟩,.int .i64 0,.slice none 0 0,.string y9,.slice none 0 0,.slice none 0 0] 31 (0,0)):=(hf10.block w6.heap.size (by rw [hsx];have:=HS7.out;have:=HS8.out;have:=HS9.out;omega) (by have:=HBW.out;have:=HS7.out;omega)).trans (blk_put w9 w6.heap.size 9 _ H59.out (by show 9 < 12;decide))
 have HH10:Hid (∀ j,j < w9.heap.size→j ≠ b→j ≠ w6.heap.size→w10.heap[j]?=w9.heap[j]?):=Lib.hid (fun j j1 j2 j3=>(hf10.block j (by rw [hsx];exact j1) j2).trans (Below.heap_setCell _ _ _ j j3))
 have h6:=(HH10.out w7.heap.size (by have:=HS7.out;have:=HS8.out;have:=HS9.out;omega) (by have:=HBW.out;have:=HS7.out;omega) (by have:=HS7.out;omega)).trans ((HH9.out w7.heap.size (by have:=HS8.out;omega) (by have:=HBW.out;have:=HS7.out;omega)).trans H6.out)
 have HF10:=Lib.hid (((((PFr.refl b w).alloc _).trans HF9.out).putNew (N:=w6.heap.size) (by have:=HS7.out;omega) 9 (.string y9)).trans hf10)
 have HZ10:Hid (zeroGB w10 w.heap.size):=Lib.hid ((HH10.out w.heap.size (by have:=HS7.out;have:=HS8.out;have:=HS9.out;omega) (by have:=HBW.out;omega) (by have:=HS7.out;omega)).trans (box12r HF9.out HBW.out (heap_alloc_new w _)))
 have HS10:Hid (w9.heap.size≤w10.heap.size):=Lib.hid (by have:=hf10.size;rw [hsx] at this;exact this)
 have HP10:=Lib.hid hp10
 have HK10:=Lib.hid hk10
 have HC10:=Lib.hid hc10
 have H510:=Lib.hid h5
 have H610:=Lib.hid h6
 obtain ⟨ca0,ca1,ca2,ca3,ca4,ca5,ca6,ca7,ca8,ca9,ca10,ca11⟩:=goal12 h6
 have c5b:=(Lib.cell_of_heap h5 11).trans rfl
 have f5b:=Lib.frozen_of_heap h5 11
 have HC3:=Lib.hid (fun (W:World) (h:Rd W b A c ts k10 er10)=>HR.out.contQ (primO_fwd ts m (ne+1)) GoalV.sh h HK10.out (HC10.out.imp (fun q=>(⟨q.1,q.2.2⟩:_∧_))))
 have HWR:Hid (IntKind.i64.wrap (ne+1+1)=ne+1+1):=Lib.hid (IntWalk.i64_in _ (by omega))
 clear h5 h6 hp10 hf10 hk10 hc10 HND hsx c59 f59
 go_wp2_with fail
 go_region_law (go_simp;go_at_call 123;rw [HWR.out];refine (HC3.out _ HP10.out.drew).mono ?_;rintro e w11 ⟨v11,k11,er11,rfl,⟨z1,z2,z3,z4,z5,z6,z7,z8,z9,za,zb,zc,zd,ze,zf,zg,zh,zi,zj,zk,rfl⟩,hk11,hp11,hf11,hc11⟩;replace hf11:=PFr.ofDrew hf11;have h5:=(hf11.block w6.heap.size (by have:=HS7.out;have:=HS8.out;have:=HS9.out;have:=HS10.out;omega) (by have:=HBW.out;have:=HS7.out;omega)).trans H510.out;have h6:=(hf11.block w7.heap.size (by have:=HS7.out;have:=HS8.out;have:=HS9.out;have:=HS10.out;omega) (by have:=HBW.out;have:=HS7.out;omega)).trans H610.out;obtain ⟨cb0,cb1,cb2,cb3,cb4,cb5,cb6,cb7,cb8,cb9,cb10,cb11⟩:=goal12 h6;have d5b:=(Lib.cell_of_heap h5 11).trans rfl;have e5b:=Lib.frozen_of_heap h5 11;have hl5:w6.heap.size < w11.heap.size:=(by have:=hf11.size;have:=HS7.out;have:=HS8.out;have:=HS9.out;have:=HS10.out;omega);have hl6:¬ w6.heap.size=w11.heap.size:=Nat.ne_of_lt hl5;have hl7:¬ w11.heap.size=w6.heap.size:=fun e=>hl6 e.symm;have H511:=Lib.hid h5;clear h5 h6)
 all_goals
  have HP11:=Lib.hid hp11
  have HF11:=Lib.hid hf11
  have HC11:=Lib.hid hc11
  have HK11:=Lib.hid hk11
  have e1:=HS7.out
  have e2:=HS8.out
  have e3:=HS9.out
  have e4:=HS10.out
  have e5:w10.heap.size≤w11.heap.size:=hf11.size
  have e6:=HBW.out
  clear hp11 hf11 hc11 hk11 ca0 ca1 ca2 ca3 ca4 ca5 ca6 ca7 ca8 ca9 ca10 ca11 cb0 cb1 cb2 cb3 cb4 cb5 cb6 cb7 cb8 cb9 cb10 cb11 c5b f5b d5b e5b
  have hsz:(w11.setCell ⟨w6.heap.size,11,none⟩ (.slice (some ⟨w11.heap.size,0,none⟩) 2 2)).heap.size=w11.heap.size:=by simp [World.setCell]
  have hblk:∀ j,j < w11.heap.size→j ≠ w6.heap.size→((w11.setCell ⟨w6.heap.size,11,none⟩ (.slice (some ⟨w11.heap.size,0,none⟩) 2 2)).alloc (.cells #[.int .i64 p1,.int .i64 p2,.string p3,.int .i64 p4,.slice p5 p6 p7,.int .i64 p8,.string p9,.int .i64 pa,.slice pb pc pd,.string pe,.slice pf pg ph,.slice pi pj pk,.int .i64 z1,.int .i64 z2,.string z3,.int .i64 z4,.slice z5 z6 z7,.int .i64 z8,.string z9,.int .i64 za,.slice zb zc zd,.string ze,.slice zf zg zh,.slice zi zj zk] 31)).heap[j]?=w11.heap[j]?:=fun j j1 j2=>(Below.heap_alloc _ _ j (by rw [hsz];exact j1)).trans (Below.heap_setCell _ _ _ j j2)
  have h5:((w11.setCell ⟨w6.heap.size,11,none⟩ (.slice (some ⟨w11.heap.size,0,none⟩) 2 2)).alloc (.cells #[.int .i64 p1,.int .i64 p2,.string p3,.int .i64 p4,.slice p5 p6 p7,.int .i64 p8,.string p9,.int .i64 pa,.slice pb pc pd,.string pe,.slice pf pg ph,.slice pi pj pk,.int .i64 z1,.int .i64 z2,.string z3,.int .i64 z4,.slice z5 z6 z7,.int .i64 z8,.string z9,.int .i64 za,.slice zb zc zd,.string ze,.slice zf zg zh,.slice zi zj zk] 31)).heap[w6.heap.size]?=some (.cells #[.int .i64 9,.int .i64 0,.string ⟨#[]⟩,.int .i64 0,.slice none 0 0,.int .i64 0,.string ⟨#[]⟩,.int .i64 0,.slice none 0 0,.string y9,.slice none 0 0,.slice (some ⟨w11.heap.size,0,none⟩) 2 2] 31 (0,0)):=(Below.heap_alloc _ _ _ (by rw [hsz];exact hl5)).trans (blk_put w11 w6.heap.size 11 _ H511.out (by show 11 < 12;decide))
  have hz:zeroGB ((w11.setCell ⟨w6.heap.size,11,none⟩ (.slice (some ⟨w11.heap.size,0,none⟩) 2 2)).alloc (.cells #[.int .i64 p1,.int .i64 p2,.string p3,.int .i64 p4,.slice p5 p6 p7,.int .i64 p8,.string p9,.int .i64 pa,.slice pb pc pd,.string pe,.slice pf pg ph,.slice pi pj pk,.int .i64 z1,.int .i64 z2,.string z3,.int .i64 z4,.slice z5 z6 z7,.int .i64 z8,.string z9,.int .i64 za,.slice zb zc zd,.string ze,.slice zf zg zh,.slice zi zj zk] 31)) w.heap.size:=(hblk w.heap.size (by omega) (by omega)).trans ((HF11.out.block w.heap.size (by omega) (by omega)).trans HZ10.out)
  have hrd:=(Rd.beside HP.out (HF10.out.trans HF11.out) HP11.out (N:=w6.heap.size) (by omega) 11 (.slice (some ⟨w11.heap.size,0,none⟩) 2 2)).alloc (.cells #[.int .i64 p1,.int .i64 p2,.string p3,.int .i64 p4,.slice p5 p6 p7,.int .i64 p8,.string p9,.int .i64 pa,.slice pb pc pd,.string pe,.slice pf pg ph,.slice pi pj pk,.int .i64 z1,.int .i64 z2,.string z3,.int .i64 z4,.slice z5 z6 z7,.int .i64 z8,.string z9,.int .i64 za,.slice zb zc zd,.string ze,.slice zf zg zh,.slice zi zj zk] 31)
  have hfr:=((HF10.out.trans HF11.out).putNew (N:=w6.heap.size) (by omega) 11 (.slice (some ⟨w11.heap.size,0,none⟩) 2 2)).alloc (.cells #[.int .i64 p1,.int .i64 p2,.string p3,.int .i64 p4,.slice p5 p6 p7,.int .i64 p8,.string p9,.int .i64 pa,.slice pb pc pd,.string pe,.slice pf pg ph,.slice pi pj pk,.int .i64 z1,.int .i64 z2,.string z3,.int .i64 z4,.slice z5 z6 z7,.int .i64 z8,.string z9,.int .i64 za,.slice zb zc zd,.string ze,.slice zf zg zh,.slice zi zj zk] 31)
  have hys:((w11.setCell ⟨w6.heap.size,11,none⟩ (.slice (some ⟨w11.heap.size,0,none⟩) 2 2)).alloc (.cells #[.int .i64 p1,.int .i64 p2,.string p3,.int .i64 p4,.slice p5 p6 p7,.int .i64 p8,.string p9,.int .i64 pa,.slice pb pc pd,.string pe,.slice pf pg ph,.slice pi pj pk,.int .i64 z1,.int .i64 z2,.string z3,.int .i64 z4,.slice z5 z6 z7,.int .i64 z8,.string z9,.int .i64 za,.slice zb zc zd,.string ze,.slice zf zg zh,.slice zi zj zk] 31)).heap.size=w11.heap.size+1:=by rw [show ∀ (x:World) (o:Obj),(x.alloc o).heap.size=x.heap.size+1 from fun x o=>by simp,hsz]
  have hrow:Cont OT er11 ((∃ q:_ ,ArgsV 31 12 (GoalV d) [x7,q] (.slice (some ⟨w11.heap.size,0,none⟩) 2 2) (w.heap.size+1) (w11.heap.size+1) ((w11.setCell ⟨w6.heap.size,11,none⟩ (.slice (some ⟨w11.heap.size,0,none⟩) 2 2)).alloc (.cells #[.int .i64 p1,.int .i64 p2,.string p3,.int .i64 p4,.slice p5 p6 p7,.int .i64 p8,.string p9,.int .i64 pa,.slice pb pc pd,.string pe,.slice pf pg ph,.slice pi pj pk,.int .i64 z1,.int .i64 z2,.string z3,.int .i64 z4,.slice z5 z6 z7,.int .i64 z8,.string z9,.int .i64 za,.slice zb zc zd,.string ze,.slice zf zg zh,.slice zi zj zk] 31))∧.ok (.mk 9 zeroT zeroT s9 [] [x7,q]) k11=OT)∧y9=bs s9):=HC11.out.imp (fun q=>by
   obtain ⟨⟨q1,q2⟩,x11,q3,_,q4⟩:=q
   refine ⟨⟨x11,.inr (rowLit (l:=[x7,x11]) (vs:=[.agg #[.int .i64 p1,.int .i64 p2,.string p3,.int .i64 p4,.slice p5 p6 p7,.int .i64 p8,.string p9,.int .i64 pa,.slice pb pc pd,.string pe,.slice pf pg ph,.slice pi pj pk],.agg #[.int .i64 z1,.int .i64 z2,.string z3,.int .i64 z4,.slice z5 z6 z7,.int .i64 z8,.string z9,.int .i64 za,.slice zb zc zd,.string ze,.slice zf zg zh,.slice zi zj zk]]) (V:=GoalV d) (sz:=12) hsz (by omega) rfl rfl (by show 2≤maxLen;decide) ⟨⟨w6.heap.size+1,w7.heap.size,by omega,by omega,by omega,?_⟩,⟨w10.heap.size,w11.heap.size,by omega,Nat.le_refl _,by omega,?_⟩,trivial⟩),q4⟩,q2⟩
   ·have q5:=GoalV.wide _ _ _ _ _ (w6.heap.size+1) w7.heap.size _ q1 (by simp) (Nat.le_refl _)
    exact GoalV.stable d _ _ _ _ _ _ q5 (fun j j1 j2=>(hblk j (by omega) (by omega)).trans ((HF11.out.block j (by omega) (by omega)).trans ((HH10.out j (by omega) (by omega) (by omega)).trans ((HH9.out j (by omega) (by omega)).trans (HH8.out j (by omega) j2)))))
   ·exact GoalV.stable d _ _ _ _ _ _ q3 (fun j j1 j2=>hblk j j2 (by have j3:w10.heap.size≤j:=j1;omega)))
  generalize (w11.setCell ⟨w6.heap.size,11,none⟩ (.slice (some ⟨w11.heap.size,0,none⟩) 2 2)).alloc (.cells #[.int .i64 p1,.int .i64 p2,.string p3,.int .i64 p4,.slice p5 p6 p7,.int .i64 p8,.string p9,.int .i64 pa,.slice pb pc pd,.string pe,.slice pf pg ph,.slice pi pj pk,.int .i64 z1,.int .i64 z2,.string z3,.int .i64 z4,.slice z5 z6 z7,.int .i64 z8,.string z9,.int .i64 za,.slice zb zc zd,.string ze,.slice zf zg zh,.slice zi zj zk] 31)=Y at hblk h5 hz hrd hfr hys hrow ⊢
  have HRD:=Lib.hid hrd
  have HFR:=Lib.hid hfr
  have HROW:=Lib.hid hrow
  have HZY:=Lib.hid hz
  have HYS:=Lib.hid hys
  have HK12:=Lib.hid HK11.out
  obtain ⟨ca0,ca1,ca2,ca3,ca4,ca5,ca6,ca7,ca8,ca9,ca10,ca11⟩:=goal12 h5
  obtain ⟨cz0,cz1,cz2,cz3,cz4,cz5,cz6,cz7,cz8,cz9,cz10,cz11,fz0,fz1,fz2,fz3,fz4,fz5,fz6,fz7,fz8,fz9,fz10,fz11⟩:=zero12 hz
  clear hblk h5 hz hrd hfr hrow hys hsz hl5 hl6 hl7 e1 e2 e3 e4 e5 e6 HC11 HC3
  go_wp2_with fail
  obtain ⟨t0,t1,t2,t3⟩:=rput12 HP.out HFR.out HRD.out HZY.out (.int .i64 9) (.int .i64 0) (.string ⟨#[]⟩) (.int .i64 0) (.slice none 0 0) (.int .i64 0) (.string ⟨#[]⟩) (.int .i64 0) (.slice none 0 0) (.string y9) (.slice none 0 0) (.slice (some ⟨w11.heap.size,0,none⟩) 2 2)
  generalize ((((((((((((Y.setCell ⟨w.heap.size,0,none⟩ (.int .i64 9)).setCell ⟨w.heap.size,1,none⟩ (.int .i64 0)).setCell ⟨w.heap.size,2,none⟩ (.string ⟨#[]⟩)).setCell ⟨w.heap.size,3,none⟩ (.int .i64 0)).setCell ⟨w.heap.size,4,none⟩ (.slice none 0 0)).setCell ⟨w.heap.size,5,none⟩ (.int .i64 0)).setCell ⟨w.heap.size,6,none⟩ (.string ⟨#[]⟩)).setCell ⟨w.heap.size,7,none⟩ (.int .i64 0)).setCell ⟨w.heap.size,8,none⟩ (.slice none 0 0)).setCell ⟨w.heap.size,9,none⟩ (.string y9)).setCell ⟨w.heap.size,10,none⟩ (.slice none 0 0)).setCell ⟨w.heap.size,11,none⟩ (.slice (some ⟨w11.heap.size,0,none⟩) 2 2))=X at t0 t1 t2 t3 ⊢
  refine bodyPost_ret (v:=.agg #[.int .i64 9,.int .i64 0,.string ⟨#[]⟩,.int .i64 0,.slice none 0 0,.int .i64 0,.string ⟨#[]⟩,.int .i64 0,.slice none 0 0,.string y9,.slice none 0 0,.slice (some ⟨w11.heap.size,0,none⟩) 2 2]) (results_cell_row Tryz.results123 _ _ w.heap.size 31 #[.int .i64 9,.int .i64 0,.string ⟨#[]⟩,.int .i64 0,.slice none 0 0,.int .i64 0,.string ⟨#[]⟩,.int .i64 0,.slice none 0 0,.string y9,.slice none 0 0,.slice (some ⟨w11.heap.size,0,none⟩) 2 2] (0,0) _ rfl t0 Tryz.underlying31 rfl infoGo12) rfl (rends_of HK12.out ⟨_,_,_,_,_,_,_,_,_,_,_,_,_,_,_,_,_,_,_,_,rfl⟩ t1 t2 (HROW.out.imp (fun q=>?_)))
  obtain ⟨⟨x11,q1,q2⟩,q3⟩:=q
  refine ⟨_,?_,q2⟩
  rw [q3]
  have q4:=(hi_row (GoalV.stable d) q1 (Nat.le_refl _) t3).wide (lo':=w.heap.size) (hi':=X.heap.size) (by omega) (by rw [t3.size,HYS.out];exact Nat.le_refl _)
  exact GoalV.succ _ _ _ _ _ _ ⟨_,_,_,_,_,_,_,_,_,_,rfl,zeroT_holds _ _ _,zeroT_holds _ _ _,.inl ⟨rfl,rfl⟩,q4⟩
end Lx
end Go.Proofs.YtajomoclbpobhaaGreatDoor
namespace Go.Proofs.YtajomoclbpobhaaGreatDoor
set_option linter.unusedSimpArgs false
set_option linter.unusedVariables false
namespace Lx
open Go Go.RowKit
theorem rprim_step (b:Nat) (A:Option Addr) (c:Nat) (ts:List Tok) (hw:WF ts) (d m:Nat) (ne:Int) (h0:0≤ne) (h1:ne≤60000)
  (HR:Hid (ne < 64→GenC 123 #[.pointer (some ⟨b,0,none⟩),.int .i64 (ne+1+1)] b A c ts (GoalV d) ShGo (primO ts m (ne+1)))) :
  GenC 123 #[.pointer (some ⟨b,0,none⟩),.int .i64 (ne+1)] b A c ts (GoalV (d+2)) ShGo (primO ts (m+1) ne):=by
 intro w k er0 OT hc h hk
 have hs:=prim_start hc rfl
 generalize hN:nestE ts k er0 (ne+1)=er at hs
 cases q0:isB ts k er [116,114,117,101] with
 | true =>
  obtain ⟨rfl,hy⟩:er=0∧hasT ts k [116,114,117,101]=true:=by simpa [isB] using q0
  obtain ⟨hn,hO⟩:=hs.ok
  unfold primR at hO
  simp only [hy,if_true,if_false,Bool.false_eq_true] at hO
  rw [← hO]
  exact rprim_true b A c ts hw d m ne h0 h1 w k er0 OT h hk hN  hy
 | false =>
  cases q1:isB ts k er [102,97,105,108] with
  | true =>
   obtain ⟨rfl,hy⟩:er=0∧hasT ts k [102,97,105,108]=true:=by simpa [isB] using q1
   obtain ⟨hn,hO⟩:=hs.ok
   have n0:hasT ts k [116,114,117,101]=false:=(isB_ok ts k _).symm.trans q0
   unfold primR at hO
   simp only [n0,hy,if_true,if_false,Bool.false_eq_true] at hO
   rw [← hO]
   exact rprim_fail b A c ts hw d m ne h0 h1 w k er0 OT h hk hN q0 hy
  | false =>
   cases q2:isB ts k er [110,111,116] with
   | true =>
    obtain ⟨rfl,hy⟩:er=0∧hasT ts k [110,111,116]=true:=by simpa [isB] using q2
    obtain ⟨hn,hO⟩:=hs.ok
    have hne:=hn (hasT_in hy (by decide))
    have n0:hasT ts k [116,114,117,101]=false:=(isB_ok ts k _).symm.trans q0
    have n1:hasT ts k [102,97,105,108]=false:=(isB_ok ts k _).symm.trans q1
    unfold primR at hO
    simp only [n0,n1,hy,if_true,if_false,Bool.false_eq_true] at hO
    exact rprim_not b A c ts hw d m ne h0 h1 (Lib.hid (HR.out hne)) w k er0 OT h hk hN q0 q1 hy hO
   | false =>
    cases q3:isB ts k er [116,104,114,111,119] with
    | true =>
     obtain ⟨rfl,hy⟩:er=0∧hasT ts k [116,104,114,111,119]=true:=by simpa [isB] using q3
     obtain ⟨hn,hO⟩:=hs.ok
     have n0:hasT ts k [116,114,117,101]=false:=(isB_ok ts k _).symm.trans q0
     have n1:hasT ts k [102,97,105,108]=false:=(isB_ok ts k _).symm.trans q1
     have n2:hasT ts k [110,111,116]=false:=(isB_ok ts k _).symm.trans q2
     unfold primR at hO
     simp only [n0,n1,n2,hy,if_true,if_false,Bool.false_eq_true] at hO
     exact rprim_throw b A c ts hw d m ne h0 h1 w k er0 OT h hk hN q0 q1 q2 hy hO
    | false =>
     cases q4:isB ts k er [116,114,121] with
     | true =>
      obtain ⟨rfl,hy⟩:er=0∧hasT ts k [116,114,121]=true:=by simpa [isB] using q4
      obtain ⟨hn,hO⟩:=hs.ok
      have hne:=hn (hasT_in hy (by decide))
      have n0:hasT ts k [116,114,117,101]=false:=(isB_ok ts k _).symm.trans q0
      have n1:hasT ts k [102,97,105,108]=false:=(isB_ok ts k _).symm.trans q1
      have n2:hasT ts k [110,111,116]=false:=(isB_ok ts k _).symm.trans q2
      have n3:hasT ts k [116,104,114,111,119]=false:=(isB_ok ts k _).symm.trans q3
      unfold primR at hO
      simp only [n0,n1,n2,n3,hy,if_true,if_false,Bool.false_eq_true] at hO
      exact rprim_try b A c ts hw d m ne h0 h1 (Lib.hid (HR.out hne)) w k er0 OT h hk hN q0 q1 q2 q3 hy hO
     | false =>
      cases q5:isB ts k er [40] with
      | true =>
       obtain ⟨rfl,hy⟩:er=0∧hasT ts k [40]=true:=by simpa [isB] using q5
       obtain ⟨hn,hO⟩:=hs.ok
       have hne:=hn (hasT_in hy (by decide))
       have n0:hasT ts k [116,114,117,101]=false:=(isB_ok ts k _).symm.trans q0
       have n1:hasT ts k [102,97,105,108]=false:=(isB_ok ts k _).symm.trans q1
       have n2:hasT ts k [110,111,116]=false:=(isB_ok ts k _).symm.trans q2
       have n3:hasT ts k [116,104,114,111,119]=false:=(isB_ok ts k _).symm.trans q3
       have n4:hasT ts k [116,114,121]=false:=(isB_ok ts k _).symm.trans q4
       unfold primR at hO
       simp only [n0,n1,n2,n3,n4,hy,if_true,if_false,Bool.false_eq_true] at hO
       exact rprim_open b A c ts hw d m ne h0 h1 (Lib.hid (HR.out hne)) w k er0 OT h hk hN q0 q1 q2 q3 q4 hy hO
      | false =>
       refine rprim_uoc b A c ts hw d m ne h0 h1 w k er0 er OT h hk hN q0 q1 q2 q3 q4 q5 ?_
       rcases hs with ⟨rfl,_,hO⟩ | h
       ·refine .inl ⟨rfl,?_⟩
        have n0:hasT ts k [116,114,117,101]=false:=(isB_ok ts k _).symm.trans q0
        have n1:hasT ts k [102,97,105,108]=false:=(isB_ok ts k _).symm.trans q1
        have n2:hasT ts k [110,111,116]=false:=(isB_ok ts k _).symm.trans q2
        have n3:hasT ts k [116,104,114,111,119]=false:=(isB_ok ts k _).symm.trans q3
        have n4:hasT ts k [116,114,121]=false:=(isB_ok ts k _).symm.trans q4
        have n5:hasT ts k [40]=false:=(isB_ok ts k _).symm.trans q5
        unfold primR at hO
        simp only [n0,n1,n2,n3,n4,n5,if_false,Bool.false_eq_true] at hO
        exact hO
       ·exact .inr h
theorem rprim_any (b:Nat) (A:Option Addr) (c:Nat) (ts:List Tok) (hw:WF ts):∀ (m:Nat) (ne:Int),65≤ne+m→0≤ne→ne≤60000 →
  GenC 123 #[.pointer (some ⟨b,0,none⟩),.int .i64 (ne+1)] b A c ts (GoalV (2 * m+2)) ShGo (primO ts (m+1) ne)
 | 0,ne,hm,h0,h1=>rprim_step b A c ts hw 0 0 ne h0 h1 (Lib.hid (fun hn=>by omega))
 | m+1,ne,hm,h0,h1=>rprim_step b A c ts hw (2 * (m+1)) (m+1) ne h0 h1 (Lib.hid (fun hn=>by
  have h:=rprim_any b A c ts hw m (ne+1) (by omega) (by omega) (by omega)
  rw [show 2 * (m+1)=2 * m+2 by omega]
  exact h))
/-- A whole goal. -/
theorem rtopgoal_genc (b:Nat) (A:Option Addr) (c:Nat) (ts:List Tok) (hw:WF ts) :
  GenC 103 #[.pointer (some ⟨b,0,none⟩),.int .i64 1] b A c ts (GoalV 134) ShGo (goalO (primO ts 66 0) ts) :=
 rgoal_genc b A c ts hw 1 132 (primO ts 66 0) (primO_fwd ts 66 0) (Lib.hid (rprim_any b A c ts hw 65 0 (by decide) (by decide) (by decide)))
theorem rterm_top (b:Nat) (A:Option Addr) (c:Nat) (ts:List Tok) (hw:WF ts) :
  GenC 102 #[.pointer (some ⟨b,0,none⟩),.int .i64 1] b A c ts (TermV 66) ShTerm (termO ts 66 0):=rterm_genc b A c ts hw 0 (by decide) (by decide)
theorem rtype_top (b:Nat) (A:Option Addr) (c:Nat) (ts:List Tok) (hw:WF ts) :
  GenC 101 #[.pointer (some ⟨b,0,none⟩),.int .i64 1] b A c ts (TypeV 66) ShTy (typeO ts 66 0):=rtype_genc b A c ts hw 0 (by decide) (by decide)
end Lx
end Go.Proofs.YtajomoclbpobhaaGreatDoor
