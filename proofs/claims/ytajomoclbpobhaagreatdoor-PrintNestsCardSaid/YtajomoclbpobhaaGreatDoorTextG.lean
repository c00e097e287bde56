/- The contract of package parse's whole at api.Goal: what a text comes to: the thing and no error, or no thing and one of the four errors. Conditions: the parser's block is new; the error variables hold what they should; strconv's table of powers of ten holds them. -/
/- The contract of package parse's whole at api.Goal: what a text comes to: the thing and no error, or no thing and one of the four errors. Conditions: the parser's block is new; the error variables hold what they should; strconv's table of powers of ten holds them. -/
/- The contract of package parse's whole at api.Goal where the text has tokens alone: what it comes to: the thing and no error, or no thing and one of the errors. Conditions: the parser's block is new; the error variables hold what they should; strconv's table of powers of ten holds them. -/
/- What parse.Goal returns at every text: the thing and no error, or no thing and one of the four errors. Conditions: the error variables hold what they should; strconv's table of powers of ten holds them. -/
import Derived.Test.YtajomoclbpobhaaGreatDoorParWholeS
import Derived.Test.YtajomoclbpobhaaGreatDoorTextI
import Derived.Deep.Cut
namespace Go.Proofs.YtajomoclbpobhaaGreatDoor
set_option linter.unusedSimpArgs false
set_option linter.unusedVariables false
namespace Lx
open Go Go.RowKit
set_option maxRecDepth 100000 in
set_option maxHeartbeats 2000000 in
/-- The deferred closure, behind a panic with a refusal: the result is the zero value, the error that of the refusal. -/
theorem catchGo (R E:Nat) (x0 x1 x2 x3 x4 x5 x6 x7 x8 x9 x10 x11 y:Value) (a:Addr) (older:List PanicEntry) (w:World) (hR:w.heap[R]?=some (.cells #[x0,x1,x2,x3,x4,x5,x6,x7,x8,x9,x10,x11] 31 (0,0))) (hE:w.heap[E]?=some (.cells #[y] 46 (0,0))) (hne:¬ R=E) :
  CallsD Tryz.prog 90 #[.pointer (some ⟨R,0,none⟩),.pointer (some ⟨E,0,none⟩)] (.panicking ({ v:=.iface 131 (.agg #[errP a]),recovered:=false } :: older)) w fun e u' w' =>
   e=.returned (.tuple #[])∧u'=.panicking ({ v:=.iface 131 (.agg #[errP a]),recovered:=true } :: older) ∧
   w'.heap[R]?=some (.cells #[.int .i64 0,.int .i64 0,.string ⟨#[]⟩,.int .i64 0,.slice none 0 0,.int .i64 0,.string ⟨#[]⟩,.int .i64 0,.slice none 0 0,.string ⟨#[]⟩,.slice none 0 0,.slice none 0 0] 31 (0,0))∧w'.heap[E]?=some (.cells #[errP a] 46 (0,0))∧Fr2 R E w w':=by
 have r0:w.cell? ⟨R,0,none⟩=some x0:=(Lib.cell_of_heap hR 0).trans rfl
 have q0:=Lib.frozen_of_heap hR 0
 have r1:w.cell? ⟨R,1,none⟩=some x1:=(Lib.cell_of_heap hR 1).trans rfl
 have q1:=Lib.frozen_of_heap hR 1
 have r2:w.cell? ⟨R,2,none⟩=some x2:=(Lib.cell_of_heap hR 2).trans rfl
 have q2:=Lib.frozen_of_heap hR 2
 have r3:w.cell? ⟨R,3,none⟩=some x3:=(Lib.cell_of_heap hR 3).trans rfl
 have q3:=Lib.frozen_of_heap hR 3
 have r4:w.cell? ⟨R,4,none⟩=some x4:=(Lib.cell_of_heap hR 4).trans rfl
 have q4:=Lib.frozen_of_heap hR 4
 have r5:w.cell? ⟨R,5,none⟩=some x5:=(Lib.cell_of_heap hR 5).trans rfl
 have q5:=Lib.frozen_of_heap hR 5
 have r6:w.cell? ⟨R,6,none⟩=some x6:=(Lib.cell_of_heap hR 6).trans rfl
 have q6:=Lib.frozen_of_heap hR 6
 have r7:w.cell? ⟨R,7,none⟩=some x7:=(Lib.cell_of_heap hR 7).trans rfl
 have q7:=Lib.frozen_of_heap hR 7
 have r8:w.cell? ⟨R,8,none⟩=some x8:=(Lib.cell_of_heap hR 8).trans rfl
 have q8:=Lib.frozen_of_heap hR 8
 have r9:w.cell? ⟨R,9,none⟩=some x9:=(Lib.cell_of_heap hR 9).trans rfl
 have q9:=Lib.frozen_of_heap hR 9
 have r10:w.cell? ⟨R,10,none⟩=some x10:=(Lib.cell_of_heap hR 10).trans rfl
 have q10:=Lib.frozen_of_heap hR 10
 have r11:w.cell? ⟨R,11,none⟩=some x11:=(Lib.cell_of_heap hR 11).trans rfl
 have q11:=Lib.frozen_of_heap hR 11
 have e0:w.cell? ⟨E,0,none⟩=some y:=(Lib.cell_of_heap hE 0).trans rfl
 have f0:=Lib.frozen_of_heap hE 0
 have hRl:R < w.heap.size:=(Array.getElem?_eq_some_iff.1 hR).1
 have hEl:E < w.heap.size:=(Array.getElem?_eq_some_iff.1 hE).1
 have hn1:¬ w.heap.size=R:=Nat.ne_of_gt hRl
 have hn2:¬ w.heap.size=E:=Nat.ne_of_gt hEl
 have hn3:¬ R=w.heap.size:=Nat.ne_of_lt hRl
 have hn4:¬ E=w.heap.size:=Nat.ne_of_lt hEl
 have hne2:¬ E=R:=fun e=>hne e.symm
 have HR:=Lib.hid hR
 have HE:=Lib.hid hE
 clear hR hE
 refine callsD_of_wpS Tryz.func90 rfl fun c₀ cs hu=>?_
 apply wpS_seq
 apply wpS_region
 simp [wpOpsS,go_sem,recoverD,hu,Tryz.ntmps90,Exit.thenS]
 have hta:∀ W:World,(Instr.typeAssert (.iface 131 (.agg #[errP a])) 20 131 true).run Tryz.prog W=.ok (.tuple #[.agg #[errP a],.bool true]) W:=fun _=>by kernel_rfl
 refine wpS_of_wp ?_
 have HF:=Lib.hid (fun o=>fin3 (er:=errP a) (zc:=#[.int .i64 0,.int .i64 0,.string ⟨#[]⟩,.int .i64 0,.slice none 0 0,.int .i64 0,.string ⟨#[]⟩,.int .i64 0,.slice none 0 0,.string ⟨#[]⟩,.slice none 0 0,.slice none 0 0]) HR.out rfl HE.out hne o (.cells #[.int .i64 0,.int .i64 0,.string ⟨#[]⟩,.int .i64 0,.slice none 0 0,.int .i64 0,.string ⟨#[]⟩,.int .i64 0,.slice none 0 0,.string ⟨#[]⟩,.slice none 0 0,.slice none 0 0] 31))
 go_wp2
 go_region
 all_goals go_wp2
 all_goals (cases c₀;simp [bodyPostS,results,Tryz.results90])
 all_goals exact ⟨(HF.out (.cells #[errP a] 131)).1,(HF.out (.cells #[errP a] 131)).2.1,(HF.out (.cells #[errP a] 131)).2.2.drew⟩
set_option maxRecDepth 100000 in
theorem idleGo (R E:Nat) (w:World) :
  CallsD Tryz.prog 90 #[.pointer (some ⟨R,0,none⟩),.pointer (some ⟨E,0,none⟩)] .returning w fun e u' w'=>e=.returned (.tuple #[])∧u'=.returning∧w'=w:=by
 refine callsD_of_wpS Tryz.func90 rfl fun c₀ cs hu=>?_
 apply wpS_seq
 apply wpS_region
 simp [wpOpsS,go_sem,recoverD,hu,Tryz.ntmps90,Exit.thenS]
 refine wpS_of_wp ?_
 go_wp2
 cases c₀
 simp_all [bodyPostS,results,Tryz.results90]
end Lx
end Go.Proofs.YtajomoclbpobhaaGreatDoor
namespace Go.Proofs.YtajomoclbpobhaaGreatDoor
set_option linter.unusedSimpArgs false
set_option linter.unusedVariables false
namespace Lx
open Go Go.RowKit
theorem blkRGo (w:World):((w.alloc (.cells #[.int .i64 0,.int .i64 0,.string ⟨#[]⟩,.int .i64 0,.slice none 0 0,.int .i64 0,.string ⟨#[]⟩,.int .i64 0,.slice none 0 0,.string ⟨#[]⟩,.slice none 0 0,.slice none 0 0] 31)).alloc (.cells #[.nilIface] 46)).heap[w.heap.size]?=some (.cells #[.int .i64 0,.int .i64 0,.string ⟨#[]⟩,.int .i64 0,.slice none 0 0,.int .i64 0,.string ⟨#[]⟩,.int .i64 0,.slice none 0 0,.string ⟨#[]⟩,.slice none 0 0,.slice none 0 0] 31 (0,0)) :=
 (Below.heap_alloc _ _ _ (by simp)).trans (heap_alloc_new w _)
theorem blkEGo (w:World):((w.alloc (.cells #[.int .i64 0,.int .i64 0,.string ⟨#[]⟩,.int .i64 0,.slice none 0 0,.int .i64 0,.string ⟨#[]⟩,.int .i64 0,.slice none 0 0,.string ⟨#[]⟩,.slice none 0 0,.slice none 0 0] 31)).alloc (.cells #[.nilIface] 46)).heap[w.heap.size+1]?=some (.cells #[.nilIface] 46 (0,0)):=by
 have h:=heap_alloc_new (w.alloc (.cells #[.int .i64 0,.int .i64 0,.string ⟨#[]⟩,.int .i64 0,.slice none 0 0,.int .i64 0,.string ⟨#[]⟩,.int .i64 0,.slice none 0 0,.string ⟨#[]⟩,.slice none 0 0,.slice none 0 0] 31)) (.cells #[.nilIface] 46)
 rwa [show (w.alloc (.cells #[.int .i64 0,.int .i64 0,.string ⟨#[]⟩,.int .i64 0,.slice none 0 0,.int .i64 0,.string ⟨#[]⟩,.int .i64 0,.slice none 0 0,.string ⟨#[]⟩,.slice none 0 0,.slice none 0 0] 31)).heap.size=w.heap.size+1 by simp] at h
set_option maxRecDepth 100000 in
set_option maxHeartbeats 4000000 in
theorem wholeGo_bad (b:Nat) (s:ByteArray) (w:World) (hE:Env w) (f:Nat→Addr) (i:Nat) (F:Value) (hR:Errs w (errP (f 1)) (errP (f 3))) (hb:w.heap[b]?=some (.cells #[.slice none 0 0,.int .i64 0,.int .i64 0] 91 (0,0)))
  (HL:Hid (∀ w,Env w→Errs w (errP (f 1)) (errP (f 3))→Calls Tryz.prog 78 #[.string s] w fun e w'=>e=.returned (.tuple #[.slice none 0 0,errP (f i)])∧Below w.heap.size w w')) :
  Calls Tryz.prog 50 #[.pointer (some ⟨b,0,none⟩),.string s,F] w fun e w'=>e=.returned (.tuple #[.agg #[.int .i64 0,.int .i64 0,.string ⟨#[]⟩,.int .i64 0,.slice none 0 0,.int .i64 0,.string ⟨#[]⟩,.int .i64 0,.slice none 0 0,.string ⟨#[]⟩,.slice none 0 0,.slice none 0 0],errP (f i)])∧PFr b w w':=by
 have hsz:=hE.size
 have hbl:b < w.heap.size:=(Array.getElem?_eq_some_iff.1 hb).1
 have hW0:Below w.heap.size w ((w.alloc (.cells #[.int .i64 0,.int .i64 0,.string ⟨#[]⟩,.int .i64 0,.slice none 0 0,.int .i64 0,.string ⟨#[]⟩,.int .i64 0,.slice none 0 0,.string ⟨#[]⟩,.slice none 0 0,.slice none 0 0] 31)).alloc (.cells #[.nilIface] 46)):=((Below.refl _ w).alloc (Nat.le_refl _) _).alloc (by simp) _
 have HE0:=Lib.hid (hE.below hW0)
 have HR0:=Lib.hid (hR.below hsz hW0)
 have hn1:¬ b=w.heap.size:=Nat.ne_of_lt hbl
 have hn2:¬ b=w.heap.size+1:=by omega
 have hn3:¬ w.heap.size=b:=by omega
 have hn4:¬ w.heap.size+1=b:=by omega
 have HB:=Lib.hid hb
 clear hE hR hb hW0
 go_enter_defers Tryz.func50,Tryz.ntmps50
 go_wp2_with fail
 go_at_call 78
 refine (HL.out _ HE0.out HR0.out).mono ?_
 rintro e w1 ⟨rfl,hb1⟩
 have hpb:=((hb1.block b (by simp;omega)).trans ((Below.heap_alloc _ _ b (by simp;omega)).trans (Below.heap_alloc w _ b hbl))).trans HB.out
 have hRb:=(hb1.block w.heap.size (by simp;omega)).trans (blkRGo w)
 have hEb:=(hb1.block (w.heap.size+1) (by simp)).trans (blkEGo w)
 have p0:w1.cell? ⟨b,0,none⟩=some (.slice none 0 0):=(Lib.cell_of_heap hpb 0).trans rfl
 have p1:=Lib.frozen_of_heap hpb 0
 have r0:w1.cell? ⟨w.heap.size,0,none⟩=some (.int .i64 0):=(Lib.cell_of_heap hRb 0).trans rfl
 have q0:=Lib.frozen_of_heap hRb 0
 have r1:w1.cell? ⟨w.heap.size,1,none⟩=some (.int .i64 0):=(Lib.cell_of_heap hRb 1).trans rfl
 have q1:=Lib.frozen_of_heap hRb 1
 have r2:w1.cell? ⟨w.heap.size,2,none⟩=some (.string ⟨#[]⟩):=(Lib.cell_of_heap hRb 2).trans rfl
 have q2:=Lib.frozen_of_heap hRb 2
 have r3:w1.cell? ⟨w.heap.size,3,none⟩=some (.int .i64 0):=(Lib.cell_of_heap hRb 3).trans rfl
 have q3:=Lib.frozen_of_heap hRb 3
 have r4:w1.cell? ⟨w.heap.size,4,none⟩=some (.slice none 0 0):=(Lib.cell_of_heap hRb 4).trans rfl
 have q4:=Lib.frozen_of_heap hRb 4
 have r5:w1.cell? ⟨w.heap.size,5,none⟩=some (.int .i64 0):=(Lib.cell_of_heap hRb 5).trans rfl
 have q5:=Lib.frozen_of_heap hRb 5
 have r6:w1.cell? ⟨w.heap.size,6,none⟩=some (.string ⟨#[]⟩):=(Lib.cell_of_heap hRb 6).trans rfl
 have q6:=Lib.frozen_of_heap hRb 6
 have r7:w1.cell? ⟨w.heap.size,7,none⟩=some (.int .i64 0):=(Lib.cell_of_heap hRb 7).trans rfl
 have q7:=Lib.frozen_of_heap hRb 7
 have r8:w1.cell? ⟨w.heap.size,8,none⟩=some (.slice none 0 0):=(Lib.cell_of_heap hRb 8).trans rfl
 have q8:=Lib.frozen_of_heap hRb 8
 have r9:w1.cell? ⟨w.heap.size,9,none⟩=some (.string ⟨#[]⟩):=(Lib.cell_of_heap hRb 9).trans rfl
 have q9:=Lib.frozen_of_heap hRb 9
 have r10:w1.cell? ⟨w.heap.size,10,none⟩=some (.slice none 0 0):=(Lib.cell_of_heap hRb 10).trans rfl
 have q10:=Lib.frozen_of_heap hRb 10
 have r11:w1.cell? ⟨w.heap.size,11,none⟩=some (.slice none 0 0):=(Lib.cell_of_heap hRb 11).trans rfl
 have q11:=Lib.frozen_of_heap hRb 11
 have e0:w1.cell? ⟨w.heap.size+1,0,none⟩=some .nilIface:=(Lib.cell_of_heap hEb 0).trans rfl
 have e1:=Lib.frozen_of_heap hEb 0
 have hw1:w.heap.size+1 < w1.heap.size:=(Array.getElem?_eq_some_iff.1 hEb).1
 have hw2:w.heap.size < w1.heap.size:=by omega
 have hw3:b < w1.heap.size:=by omega
 have hf1:PFr b w w1:=((((PFr.refl b w).alloc _).alloc _).below hb1)
 have HF1:=Lib.hid hf1
 have HRb:=Lib.hid hRb
 have HEb:=Lib.hid hEb
 clear hpb hRb hEb hb1 hf1
 go_wp2_with fail
 go_region
 all_goals go_wp2
 all_goals
  refine ⟨.tuple #[.agg #[.int .i64 0,.int .i64 0,.string ⟨#[]⟩,.int .i64 0,.slice none 0 0,.int .i64 0,.string ⟨#[]⟩,.int .i64 0,.slice none 0 0,.string ⟨#[]⟩,.slice none 0 0,.slice none 0 0],errP (f i)],results_two Tryz.results50 _ _ ⟨w.heap.size,0,none⟩ ⟨w.heap.size+1,0,none⟩ _ _ rfl rfl (load_goal ?_) (load_err (T:=46) ?_),rfl,?_⟩
  ·rw [drew_heap]
   exact (Below.heap_setCell ((((((((((((((w1.setCell ⟨b,0,none⟩ (.slice none 0 0)).setCell ⟨w.heap.size+1,0,none⟩ (errP (f i))).setCell ⟨w.heap.size,0,none⟩ (.int .i64 0)).setCell ⟨w.heap.size,1,none⟩ (.int .i64 0)).setCell ⟨w.heap.size,2,none⟩ (.string ⟨#[]⟩)).setCell ⟨w.heap.size,3,none⟩ (.int .i64 0)).setCell ⟨w.heap.size,4,none⟩ (.slice none 0 0)).setCell ⟨w.heap.size,5,none⟩ (.int .i64 0)).setCell ⟨w.heap.size,6,none⟩ (.string ⟨#[]⟩)).setCell ⟨w.heap.size,7,none⟩ (.int .i64 0)).setCell ⟨w.heap.size,8,none⟩ (.slice none 0 0)).setCell ⟨w.heap.size,9,none⟩ (.string ⟨#[]⟩)).setCell ⟨w.heap.size,10,none⟩ (.slice none 0 0)).setCell ⟨w.heap.size,11,none⟩ (.slice none 0 0)) ⟨w.heap.size+1,0,none⟩ (errP (f i)) w.heap.size (by simp)).trans (ch12_blk (w:=((w1.setCell ⟨b,0,none⟩ (.slice none 0 0)).setCell ⟨w.heap.size+1,0,none⟩ (errP (f i)))) ((Below.heap_setCell _ ⟨w.heap.size+1,0,none⟩ _ w.heap.size (by simp)).trans ((Below.heap_setCell w1 ⟨b,0,none⟩ _ w.heap.size hn3).trans HRb.out)) rfl (.int .i64 0) (.int .i64 0) (.string ⟨#[]⟩) (.int .i64 0) (.slice none 0 0) (.int .i64 0) (.string ⟨#[]⟩) (.int .i64 0) (.slice none 0 0) (.string ⟨#[]⟩) (.slice none 0 0) (.slice none 0 0))
  ·rw [drew_heap]
   exact blk_put ((((((((((((((w1.setCell ⟨b,0,none⟩ (.slice none 0 0)).setCell ⟨w.heap.size+1,0,none⟩ (errP (f i))).setCell ⟨w.heap.size,0,none⟩ (.int .i64 0)).setCell ⟨w.heap.size,1,none⟩ (.int .i64 0)).setCell ⟨w.heap.size,2,none⟩ (.string ⟨#[]⟩)).setCell ⟨w.heap.size,3,none⟩ (.int .i64 0)).setCell ⟨w.heap.size,4,none⟩ (.slice none 0 0)).setCell ⟨w.heap.size,5,none⟩ (.int .i64 0)).setCell ⟨w.heap.size,6,none⟩ (.string ⟨#[]⟩)).setCell ⟨w.heap.size,7,none⟩ (.int .i64 0)).setCell ⟨w.heap.size,8,none⟩ (.slice none 0 0)).setCell ⟨w.heap.size,9,none⟩ (.string ⟨#[]⟩)).setCell ⟨w.heap.size,10,none⟩ (.slice none 0 0)).setCell ⟨w.heap.size,11,none⟩ (.slice none 0 0)) (w.heap.size+1) 0 (errP (f i)) ((ch12_else (w:=((w1.setCell ⟨b,0,none⟩ (.slice none 0 0)).setCell ⟨w.heap.size+1,0,none⟩ (errP (f i)))) (N:=w.heap.size) (j:=w.heap.size+1) (by simp) (.int .i64 0) (.int .i64 0) (.string ⟨#[]⟩) (.int .i64 0) (.slice none 0 0) (.int .i64 0) (.string ⟨#[]⟩) (.int .i64 0) (.slice none 0 0) (.string ⟨#[]⟩) (.slice none 0 0) (.slice none 0 0)).trans (blk_put (w1.setCell ⟨b,0,none⟩ (.slice none 0 0)) (w.heap.size+1) 0 (errP (f i)) ((Below.heap_setCell w1 ⟨b,0,none⟩ _ (w.heap.size+1) hn4).trans HEb.out) (by show 0 < 1;decide))) (by show 0 < 1;decide)
  ·exact PFr.drew ((((HF1.out.put 0 (.slice none 0 0)).putNew (N:=w.heap.size+1) (by omega) 0 (errP (f i))).ch12 (Nat.le_refl _) (.int .i64 0) (.int .i64 0) (.string ⟨#[]⟩) (.int .i64 0) (.slice none 0 0) (.int .i64 0) (.string ⟨#[]⟩) (.int .i64 0) (.slice none 0 0) (.string ⟨#[]⟩) (.slice none 0 0) (.slice none 0 0)).putNew (N:=w.heap.size+1) (by omega) 0 (errP (f i)))
end Lx
end Go.Proofs.YtajomoclbpobhaaGreatDoor
namespace Go.Proofs.YtajomoclbpobhaaGreatDoor
set_option linter.unusedSimpArgs false
set_option linter.unusedVariables false
namespace Lx
open Go Go.RowKit
theorem arr12 {C:Array Value} (h:C.size=12):∃ c0 c1 c2 c3 c4 c5 c6 c7 c8 c9 c10 c11,C=#[c0,c1,c2,c3,c4,c5,c6,c7,c8,c9,c10,c11]:=by
 obtain ⟨l⟩:=C
 match l,h with
 | [c0,c1,c2,c3,c4,c5,c6,c7,c8,c9,c10,c11],_=>exact ⟨_,_,_,_,_,_,_,_,_,_,_,_,rfl⟩
set_option maxRecDepth 100000 in
set_option maxHeartbeats 4000000 in
theorem wholeGo_no {α:Type} (b:Nat) (s:ByteArray) (w:World) (hE:Env w) (f:Nat→Addr) (hR:Errs w (errP (f 1)) (errP (f 3))) (hP:PErrs w b f) (hb:w.heap[b]?=some (.cells #[.slice none 0 0,.int .i64 0,.int .i64 0] 91 (0,0))) (V:Holds α) (hV:Stable V) (hW:∀ x v lo hi lo' hi' w,V x v lo hi w→lo'≤lo→hi≤hi'→V x v lo' hi' w)
  (hT:∀ x v lo hi w,V x v lo hi w→∃ C:Array Value,v=.agg C∧C.size=12∧C.all (·.oneCell')=true) (rd:List Tok→Out α) (ts:List Tok) (hts:ts.length≤16384)
  (HR:Hid (∀ w A c ts,Par w b A c ts 0 0→PErrs w b f→Calls Tryz.prog 51 #[.pointer (some ⟨b,0,none⟩)] w fun e w'=>EndsV b A c ts 0 f V w (rd ts) e w'))
  (HL:Hid (∀ w,Env w→Errs w (errP (f 1)) (errP (f 3))→Calls Tryz.prog 78 #[.string s] w fun e w'=>∃ v,e=.returned (.tuple #[v,.nilIface])∧Below w.heap.size w w'∧w'.ownsRow w.heap.size 67 3 v ts.length (cellsT ts))) (i:Nat) (hrd:rd ts=.no i) :
  Calls Tryz.prog 50 #[.pointer (some ⟨b,0,none⟩),.string s,.func (.func 51) #[.pointer (some ⟨b,0,none⟩)] #[]] w fun e w'=>∃ v er,e=.returned (.tuple #[v,er])∧PFr b w w'∧TextR f V (.agg #[.int .i64 0,.int .i64 0,.string ⟨#[]⟩,.int .i64 0,.slice none 0 0,.int .i64 0,.string ⟨#[]⟩,.int .i64 0,.slice none 0 0,.string ⟨#[]⟩,.slice none 0 0,.slice none 0 0]) w w' v er (endO ts.length (rd ts)):=by
 have hsz:=hE.size
 have hbl:b < w.heap.size:=(Array.getElem?_eq_some_iff.1 hb).1
 have hW0:Below w.heap.size w ((w.alloc (.cells #[.int .i64 0,.int .i64 0,.string ⟨#[]⟩,.int .i64 0,.slice none 0 0,.int .i64 0,.string ⟨#[]⟩,.int .i64 0,.slice none 0 0,.string ⟨#[]⟩,.slice none 0 0,.slice none 0 0] 31)).alloc (.cells #[.nilIface] 46)):=((Below.refl _ w).alloc (Nat.le_refl _) _).alloc (by simp) _
 have HE0:=Lib.hid (hE.below hW0)
 have HR0:=Lib.hid (hR.below hsz hW0)
 have hn1:¬ b=w.heap.size:=Nat.ne_of_lt hbl
 have hn2:¬ b=w.heap.size+1:=by omega
 have hn3:¬ w.heap.size=b:=by omega
 have hn4:¬ w.heap.size+1=b:=by omega
 have HB:=Lib.hid hb
 have HP:=Lib.hid hP
 have hmf:∀ (fn:Fn) (first cap:Array Value) (w:World),(Instr.makeFunc fn first cap).run Tryz.prog w=.ok (.func fn first cap) w:=fun _ _ _ _=>rfl
 clear hE hR hb hW0 hP
 go_enter_defers Tryz.func50,Tryz.ntmps50
 go_wp2_with fail
 go_at_call 78
 refine (HL.out _ HE0.out HR0.out).mono ?_
 rintro e w1 ⟨v0,rfl,hb1,ho⟩
 obtain ⟨A,c,rfl⟩:=owns_shape ho
 have hpb:=((hb1.block b (by simp;omega)).trans ((Below.heap_alloc _ _ b (by simp;omega)).trans (Below.heap_alloc w _ b hbl))).trans HB.out
 have hRb:=(hb1.block w.heap.size (by simp;omega)).trans (blkRGo w)
 have hEb:=(hb1.block (w.heap.size+1) (by simp)).trans (blkEGo w)
 have p0:w1.cell? ⟨b,0,none⟩=some (.slice none 0 0):=(Lib.cell_of_heap hpb 0).trans rfl
 have p1:=Lib.frozen_of_heap hpb 0
 have e0:w1.cell? ⟨w.heap.size+1,0,none⟩=some .nilIface:=(Lib.cell_of_heap hEb 0).trans rfl
 have e1:=Lib.frozen_of_heap hEb 0
 have hw1:w.heap.size+1 < w1.heap.size:=(Array.getElem?_eq_some_iff.1 hEb).1
 have hw2:w.heap.size < w1.heap.size:=by omega
 have hw3:b < w1.heap.size:=by omega
 have hf1:PFr b w w1:=((((PFr.refl b w).alloc _).alloc _).below hb1)
 have hbase:((w.alloc (.cells #[.int .i64 0,.int .i64 0,.string ⟨#[]⟩,.int .i64 0,.slice none 0 0,.int .i64 0,.string ⟨#[]⟩,.int .i64 0,.slice none 0 0,.string ⟨#[]⟩,.slice none 0 0,.slice none 0 0] 31)).alloc (.cells #[.nilIface] 46)).heap.size=w.heap.size+2:=by simp
 rw [hbase] at ho
 have hpm:=par_made (E:=w.heap.size+1) hpb ho (by omega) (by omega) hn2 hts .nilIface
 have HF2:=Lib.hid ((hf1.put 0 (.slice A ts.length c)).putNew (N:=w.heap.size+1) (by omega) 0 .nilIface)
 have HPA:=Lib.hid hpm.1
 have HGT:=Lib.hid hpm.2
 have HRb:=Lib.hid ((Below.heap_setCell _ ⟨w.heap.size+1,0,none⟩ .nilIface w.heap.size (by simp)).trans ((Below.heap_setCell _ ⟨b,0,none⟩ (.slice A ts.length c) w.heap.size hn3).trans hRb))
 have HEb:=Lib.hid (blk_put _ (w.heap.size+1) 0 .nilIface ((Below.heap_setCell _ ⟨b,0,none⟩ (.slice A ts.length c) (w.heap.size+1) hn4).trans hEb) (by show 0 < 1;decide))
 have hs2:((w1.setCell ⟨b,0,none⟩ (.slice A ts.length c)).setCell ⟨w.heap.size+1,0,none⟩ .nilIface).heap.size=w1.heap.size:=by simp [World.setCell]
 have HS2:=Lib.hid hs2
 have HRD:=Lib.hid (fun w A c=>HR.out w A c ts)
 clear hpb hRb hEb hb1 hf1 hbase ho hpm hs2
 rw [hrd] at HRD
 have hfin:endO ts.length (Out.no i:Out α)=.no i:=rfl
 go_wp2_with fail
 go_at_call 51
 refine (HRD.out _ A c HPA.out (HP.out.move HF2.out)).mono ?_
 rintro e w3 ⟨rfl,h2,h3⟩
 go_wp2_with fail
 refine leaves_cons (f:=90) (args:=#[.pointer (some ⟨w.heap.size,0,none⟩),.pointer (some ⟨w.heap.size+1,0,none⟩)]) (by simp) (by simp [go_sem]) ?_
 have hl1:=HS2.out
 refine (catchGo w.heap.size (w.heap.size+1) _ _ _ _ _ _ _ _ _ _ _ _ _ (f i) [] w3 ((h3.block w.heap.size (by omega) hn3).trans HRb.out) ((h3.block (w.heap.size+1) (by omega) hn4).trans HEb.out) (by simp)).mono ?_
 rintro e u' w4 ⟨rfl,rfl,hR4,hE4,hf4⟩
 refine ⟨.tuple #[.agg #[.int .i64 0,.int .i64 0,.string ⟨#[]⟩,.int .i64 0,.slice none 0 0,.int .i64 0,.string ⟨#[]⟩,.int .i64 0,.slice none 0 0,.string ⟨#[]⟩,.slice none 0 0,.slice none 0 0],errP (f i)],results_two Tryz.results50 _ _ ⟨w.heap.size,0,none⟩ ⟨w.heap.size+1,0,none⟩ _ _ rfl rfl (load_goal hR4) (load_err hE4),_,_,rfl,(HF2.out.trans h3).fr2 hf4 (Nat.le_refl _) (Nat.le_succ _),by first | (rw [hfin];exact ⟨rfl,rfl⟩) | (rw [hrd,hfin];exact ⟨rfl,rfl⟩)⟩
set_option maxRecDepth 100000 in
set_option maxHeartbeats 4000000 in
theorem wholeGo_more {α:Type} (b:Nat) (s:ByteArray) (w:World) (hE:Env w) (f:Nat→Addr) (hR:Errs w (errP (f 1)) (errP (f 3))) (hP:PErrs w b f) (hb:w.heap[b]?=some (.cells #[.slice none 0 0,.int .i64 0,.int .i64 0] 91 (0,0))) (V:Holds α) (hV:Stable V) (hW:∀ x v lo hi lo' hi' w,V x v lo hi w→lo'≤lo→hi≤hi'→V x v lo' hi' w)
  (hT:∀ x v lo hi w,V x v lo hi w→∃ C:Array Value,v=.agg C∧C.size=12∧C.all (·.oneCell')=true) (rd:List Tok→Out α) (ts:List Tok) (hts:ts.length≤16384)
  (HR:Hid (∀ w A c ts,Par w b A c ts 0 0→PErrs w b f→Calls Tryz.prog 51 #[.pointer (some ⟨b,0,none⟩)] w fun e w'=>EndsV b A c ts 0 f V w (rd ts) e w'))
  (HL:Hid (∀ w,Env w→Errs w (errP (f 1)) (errP (f 3))→Calls Tryz.prog 78 #[.string s] w fun e w'=>∃ v,e=.returned (.tuple #[v,.nilIface])∧Below w.heap.size w w'∧w'.ownsRow w.heap.size 67 3 v ts.length (cellsT ts))) (x:α) (k:Nat) (hrd:rd ts=.ok x k) (hk:k < ts.length) :
  Calls Tryz.prog 50 #[.pointer (some ⟨b,0,none⟩),.string s,.func (.func 51) #[.pointer (some ⟨b,0,none⟩)] #[]] w fun e w'=>∃ v er,e=.returned (.tuple #[v,er])∧PFr b w w'∧TextR f V (.agg #[.int .i64 0,.int .i64 0,.string ⟨#[]⟩,.int .i64 0,.slice none 0 0,.int .i64 0,.string ⟨#[]⟩,.int .i64 0,.slice none 0 0,.string ⟨#[]⟩,.slice none 0 0,.slice none 0 0]) w w' v er (endO ts.length (rd ts)):=by
 have hsz:=hE.size
 have hbl:b < w.heap.size:=(Array.getElem?_eq_some_iff.1 hb).1
 have hW0:Below w.heap.size w ((w.alloc (.cells #[.int .i64 0,.int .i64 0,.string ⟨#[]⟩,.int .i64 0,.slice none 0 0,.int .i64 0,.string ⟨#[]⟩,.int .i64 0,.slice none 0 0,.string ⟨#[]⟩,.slice none 0 0,.slice none 0 0] 31)).alloc (.cells #[.nilIface] 46)):=((Below.refl _ w).alloc (Nat.le_refl _) _).alloc (by simp) _
 have HE0:=Lib.hid (hE.below hW0)
 have HR0:=Lib.hid (hR.below hsz hW0)
 have hn1:¬ b=w.heap.size:=Nat.ne_of_lt hbl
 have hn2:¬ b=w.heap.size+1:=by omega
 have hn3:¬ w.heap.size=b:=by omega
 have hn4:¬ w.heap.size+1=b:=by omega
 have HB:=Lib.hid hb
 have HP:=Lib.hid hP
 have hmf:∀ (fn:Fn) (first cap:Array Value) (w:World),(Instr.makeFunc fn first cap).run Tryz.prog w=.ok (.func fn first cap) w:=fun _ _ _ _=>rfl
 clear hE hR hb hW0 hP
 go_enter_defers Tryz.func50,Tryz.ntmps50
 go_wp2_with fail
 go_at_call 78
 refine (HL.out _ HE0.out HR0.out).mono ?_
 rintro e w1 ⟨v0,rfl,hb1,ho⟩
 obtain ⟨A,c,rfl⟩:=owns_shape ho
 have hpb:=((hb1.block b (by simp;omega)).trans ((Below.heap_alloc _ _ b (by simp;omega)).trans (Below.heap_alloc w _ b hbl))).trans HB.out
 have hRb:=(hb1.block w.heap.size (by simp;omega)).trans (blkRGo w)
 have hEb:=(hb1.block (w.heap.size+1) (by simp)).trans (blkEGo w)
 have p0:w1.cell? ⟨b,0,none⟩=some (.slice none 0 0):=(Lib.cell_of_heap hpb 0).trans rfl
 have p1:=Lib.frozen_of_heap hpb 0
 have e0:w1.cell? ⟨w.heap.size+1,0,none⟩=some .nilIface:=(Lib.cell_of_heap hEb 0).trans rfl
 have e1:=Lib.frozen_of_heap hEb 0
 have hw1:w.heap.size+1 < w1.heap.size:=(Array.getElem?_eq_some_iff.1 hEb).1
 have hw2:w.heap.size < w1.heap.size:=by omega
 have hw3:b < w1.heap.size:=by omega
 have hf1:PFr b w w1:=((((PFr.refl b w).alloc _).alloc _).below hb1)
 have hbase:((w.alloc (.cells #[.int .i64 0,.int .i64 0,.string ⟨#[]⟩,.int .i64 0,.slice none 0 0,.int .i64 0,.string ⟨#[]⟩,.int .i64 0,.slice none 0 0,.string ⟨#[]⟩,.slice none 0 0,.slice none 0 0] 31)).alloc (.cells #[.nilIface] 46)).heap.size=w.heap.size+2:=by simp
 rw [hbase] at ho
 have hpm:=par_made (E:=w.heap.size+1) hpb ho (by omega) (by omega) hn2 hts .nilIface
 have HF2:=Lib.hid ((hf1.put 0 (.slice A ts.length c)).putNew (N:=w.heap.size+1) (by omega) 0 .nilIface)
 have HPA:=Lib.hid hpm.1
 have HGT:=Lib.hid hpm.2
 have HRb:=Lib.hid ((Below.heap_setCell _ ⟨w.heap.size+1,0,none⟩ .nilIface w.heap.size (by simp)).trans ((Below.heap_setCell _ ⟨b,0,none⟩ (.slice A ts.length c) w.heap.size hn3).trans hRb))
 have HEb:=Lib.hid (blk_put _ (w.heap.size+1) 0 .nilIface ((Below.heap_setCell _ ⟨b,0,none⟩ (.slice A ts.length c) (w.heap.size+1) hn4).trans hEb) (by show 0 < 1;decide))
 have hs2:((w1.setCell ⟨b,0,none⟩ (.slice A ts.length c)).setCell ⟨w.heap.size+1,0,none⟩ .nilIface).heap.size=w1.heap.size:=by simp [World.setCell]
 have HS2:=Lib.hid hs2
 have HRD:=Lib.hid (fun w A c=>HR.out w A c ts)
 clear hpb hRb hEb hb1 hf1 hbase ho hpm hs2
 rw [hrd] at HRD
 have hkd:decide (k < ts.length)=true:=by simpa using hk
 go_wp2_with fail
 go_at_call 51
 refine (HRD.out _ A c HPA.out (HP.out.move HF2.out)).mono ?_
 rintro e w3 ⟨v3,rfl,hv3,hp3,hf3⟩
 obtain ⟨C,rfl,hC,hC1⟩:=hT _ _ _ _ _ hv3
 have hl1:=HS2.out
 have hR3:=(hf3.block w.heap.size (by omega) hn3).trans HRb.out
 have hE3:=(hf3.block (w.heap.size+1) (by omega) hn4).trans HEb.out
 have hthere:w3.there w.heap.size 0 C.size:=by rw [hC];exact there_all hR3
 have hinf:(Tryz.prog.info? 31).map (·.size)=some C.size:=by rw [hC];exact sizeGoal
 have hX1:(w3.setCells w.heap.size 0 C.toList).heap[w.heap.size]?=some (.cells C 31 (0,0)):=sets_all C hR3 (by rw [hC];rfl)
 have hXo:=fun j hj=>sets_else w.heap.size C.toList 0 w3 j hj
 have hXs:=sets_size w.heap.size C.toList 0 w3
 have hXf:PFr b w (w3.setCells w.heap.size 0 C.toList):=(HF2.out.trans hf3).sets (Nat.le_refl _) C.toList
 have hXp:Par (w3.setCells w.heap.size 0 C.toList) b A c ts k 0:=hp3.beside (N:=w.heap.size) hXs hXo hn1 (fun hn g hg=>by have:=HGT.out hn g hg;omega)
 have hXE:=(hXo (w.heap.size+1) (by omega)).trans hE3
 rename_i hKK
 refine hKK _ _ ?_
 clear hKK
 refine wpList_store_mid rfl 31 (.tmp 6) (.tmp 22) rfl w.heap.size 0 C rfl rfl hthere hinf hC1 ?_
 have HM:=Lib.hid (more_any _ b A c ts k 0 hXp)
 rw [hkd] at HM
 generalize World.setCells w3 w.heap.size 0 C.toList=X at hX1 hXo hXs hXf hXE HM ⊢
 have HX1:=Lib.hid hX1
 have HXE:=Lib.hid hXE
 have HXF:=Lib.hid hXf
 have HXO:=Lib.hid hXo
 have HXS:=Lib.hid hXs
 have HV3:=Lib.hid hv3
 have HC:=Lib.hid hC
 have HC1:=Lib.hid hC1
 have hs3:=hf3.size
 have hlx:w.heap.size+1 < X.heap.size:=(Array.getElem?_eq_some_iff.1 hXE).1
 clear hX1 hXE hXf hXo hXs hv3 hthere hinf hR3 hE3 hp3 hf3 hXp hkd hC hC1
 go_wp2_with fail
 go_at_call 80
 refine HM.out.mono ?_
 rintro e Y ⟨rfl,q,hY⟩
 have hfY:PFr b w Y:=by rw [hY];exact HXF.out.drewN q
 have hRY:Y.heap[w.heap.size]?=some (.cells C 31 (0,0)):=by rw [hY];exact HX1.out
 have hEY:Y.heap[w.heap.size+1]?=some (.cells #[.nilIface] 46 (0,0)):=by rw [hY];exact HXE.out
 clear hY
 have hcs:=(HP.out.move hfY).syn
 have hgs:=World.block_lt_of_cell? _ _ hcs
 obtain ⟨c0,c1,c2,c3,c4,c5,c6,c7,c8,c9,c10,c11,rfl⟩:=arr12 HC.out
 go_wp2_with fail
 refine leaves_cons (f:=90) (args:=#[.pointer (some ⟨w.heap.size,0,none⟩),.pointer (some ⟨w.heap.size+1,0,none⟩)]) (by simp) (by simp [go_sem]) ?_
 refine (catchGo w.heap.size (w.heap.size+1) _ _ _ _ _ _ _ _ _ _ _ _ _ (f 2) [] Y hRY hEY (by simp)).mono ?_
 rintro e u' w4 ⟨rfl,rfl,hR4,hE4,hf4⟩
 refine ⟨.tuple #[.agg #[.int .i64 0,.int .i64 0,.string ⟨#[]⟩,.int .i64 0,.slice none 0 0,.int .i64 0,.string ⟨#[]⟩,.int .i64 0,.slice none 0 0,.string ⟨#[]⟩,.slice none 0 0,.slice none 0 0],errP (f 2)],results_two Tryz.results50 _ _ ⟨w.heap.size,0,none⟩ ⟨w.heap.size+1,0,none⟩ _ _ rfl rfl (load_goal hR4) (load_err hE4),_,_,rfl,hfY.fr2 hf4 (Nat.le_refl _) (Nat.le_succ _),?_⟩
 rw [hrd,show endO ts.length (Out.ok x k)=.no 2 from if_pos hk]
 exact ⟨rfl,rfl⟩
set_option maxRecDepth 100000 in
set_option maxHeartbeats 4000000 in
theorem wholeGo_done {α:Type} (b:Nat) (s:ByteArray) (w:World) (hE:Env w) (f:Nat→Addr) (hR:Errs w (errP (f 1)) (errP (f 3))) (hP:PErrs w b f) (hb:w.heap[b]?=some (.cells #[.slice none 0 0,.int .i64 0,.int .i64 0] 91 (0,0))) (V:Holds α) (hV:Stable V) (hW:∀ x v lo hi lo' hi' w,V x v lo hi w→lo'≤lo→hi≤hi'→V x v lo' hi' w)
  (hT:∀ x v lo hi w,V x v lo hi w→∃ C:Array Value,v=.agg C∧C.size=12∧C.all (·.oneCell')=true) (rd:List Tok→Out α) (ts:List Tok) (hts:ts.length≤16384)
  (HR:Hid (∀ w A c ts,Par w b A c ts 0 0→PErrs w b f→Calls Tryz.prog 51 #[.pointer (some ⟨b,0,none⟩)] w fun e w'=>EndsV b A c ts 0 f V w (rd ts) e w'))
  (HL:Hid (∀ w,Env w→Errs w (errP (f 1)) (errP (f 3))→Calls Tryz.prog 78 #[.string s] w fun e w'=>∃ v,e=.returned (.tuple #[v,.nilIface])∧Below w.heap.size w w'∧w'.ownsRow w.heap.size 67 3 v ts.length (cellsT ts))) (x:α) (k:Nat) (hrd:rd ts=.ok x k) (hk:¬ k < ts.length) :
  Calls Tryz.prog 50 #[.pointer (some ⟨b,0,none⟩),.string s,.func (.func 51) #[.pointer (some ⟨b,0,none⟩)] #[]] w fun e w'=>∃ v er,e=.returned (.tuple #[v,er])∧PFr b w w'∧TextR f V (.agg #[.int .i64 0,.int .i64 0,.string ⟨#[]⟩,.int .i64 0,.slice none 0 0,.int .i64 0,.string ⟨#[]⟩,.int .i64 0,.slice none 0 0,.string ⟨#[]⟩,.slice none 0 0,.slice none 0 0]) w w' v er (endO ts.length (rd ts)):=by
 have hsz:=hE.size
 have hbl:b < w.heap.size:=(Array.getElem?_eq_some_iff.1 hb).1
 have hW0:Below w.heap.size w ((w.alloc (.cells #[.int .i64 0,.int .i64 0,.string ⟨#[]⟩,.int .i64 0,.slice none 0 0,.int .i64 0,.string ⟨#[]⟩,.int .i64 0,.slice none 0 0,.string ⟨#[]⟩,.slice none 0 0,.slice none 0 0] 31)).alloc (.cells #[.nilIface] 46)):=((Below.refl _ w).alloc (Nat.le_refl _) _).alloc (by simp) _
 have HE0:=Lib.hid (hE.below hW0)
 have HR0:=Lib.hid (hR.below hsz hW0)
 have hn1:¬ b=w.heap.size:=Nat.ne_of_lt hbl
 have hn2:¬ b=w.heap.size+1:=by omega
 have hn3:¬ w.heap.size=b:=by omega
 have hn4:¬ w.heap.size+1=b:=by omega
 have HB:=Lib.hid hb
 have HP:=Lib.hid hP
 have hmf:∀ (fn:Fn) (first cap:Array Value) (w:World),(Instr.makeFunc fn first cap).run Tryz.prog w=.ok (.func fn first cap) w:=fun _ _ _ _=>rfl
 clear hE hR hb hW0 hP
 go_enter_defers Tryz.func50,Tryz.ntmps50
 go_wp2_with fail
 go_at_call 78
 refine (HL.out _ HE0.out HR0.out).mono ?_
 rintro e w1 ⟨v0,rfl,hb1,ho⟩
 obtain ⟨A,c,rfl⟩:=owns_shape ho
 have hpb:=((hb1.block b (by simp;omega)).trans ((Below.heap_alloc _ _ b (by simp;omega)).trans (Below.heap_alloc w _ b hbl))).trans HB.out
 have hRb:=(hb1.block w.heap.size (by simp;omega)).trans (blkRGo w)
 have hEb:=(hb1.block (w.heap.size+1) (by simp)).trans (blkEGo w)
 have p0:w1.cell? ⟨b,0,none⟩=some (.slice none 0 0):=(Lib.cell_of_heap hpb 0).trans rfl
 have p1:=Lib.frozen_of_heap hpb 0
 have e0:w1.cell? ⟨w.heap.size+1,0,none⟩=some .nilIface:=(Lib.cell_of_heap hEb 0).trans rfl
 have e1:=Lib.frozen_of_heap hEb 0
 have hw1:w.heap.size+1 < w1.heap.size:=(Array.getElem?_eq_some_iff.1 hEb).1
 have hw2:w.heap.size < w1.heap.size:=by omega
 have hw3:b < w1.heap.size:=by omega
 have hf1:PFr b w w1:=((((PFr.refl b w).alloc _).alloc _).below hb1)
 have hbase:((w.alloc (.cells #[.int .i64 0,.int .i64 0,.string ⟨#[]⟩,.int .i64 0,.slice none 0 0,.int .i64 0,.string ⟨#[]⟩,.int .i64 0,.slice none 0 0,.string ⟨#[]⟩,.slice none 0 0,.slice none 0 0] 31)).alloc (.cells #[.nilIface] 46)).heap.size=w.heap.size+2:=by simp
 rw [hbase] at ho
 have hpm:=par_made (E:=w.heap.size+1) hpb ho (by omega) (by omega) hn2 hts .nilIface
 have HF2:=Lib.hid ((hf1.put 0 (.slice A ts.length c)).putNew (N:=w.heap.size+1) (by omega) 0 .nilIface)
 have HPA:=Lib.hid hpm.1
 have HGT:=Lib.hid hpm.2
 have HRb:=Lib.hid ((Below.heap_setCell _ ⟨w.heap.size+1,0,none⟩ .nilIface w.heap.size (by simp)).trans ((Below.heap_setCell _ ⟨b,0,none⟩ (.slice A ts.length c) w.heap.size hn3).trans hRb))
 have HEb:=Lib.hid (blk_put _ (w.heap.size+1) 0 .nilIface ((Below.heap_setCell _ ⟨b,0,none⟩ (.slice A ts.length c) (w.heap.size+1) hn4).trans hEb) (by show 0 < 1;decide))
 have hs2:((w1.setCell ⟨b,0,none⟩ (.slice A ts.length c)).setCell ⟨w.heap.size+1,0,none⟩ .nilIface).heap.size=w1.heap.size:=by simp [World.setCell]
 have HS2:=Lib.hid hs2
 have HRD:=Lib.hid (fun w A c=>HR.out w A c ts)
 clear hpb hRb hEb hb1 hf1 hbase ho hpm hs2
 rw [hrd] at HRD
 have hkd:decide (k < ts.length)=false:=by simpa using hk
 go_wp2_with fail
 go_at_call 51
 refine (HRD.out _ A c HPA.out (HP.out.move HF2.out)).mono ?_
 rintro e w3 ⟨v3,rfl,hv3,hp3,hf3⟩
 obtain ⟨C,rfl,hC,hC1⟩:=hT _ _ _ _ _ hv3
 have hl1:=HS2.out
 have hR3:=(hf3.block w.heap.size (by omega) hn3).trans HRb.out
 have hE3:=(hf3.block (w.heap.size+1) (by omega) hn4).trans HEb.out
 have hthere:w3.there w.heap.size 0 C.size:=by rw [hC];exact there_all hR3
 have hinf:(Tryz.prog.info? 31).map (·.size)=some C.size:=by rw [hC];exact sizeGoal
 have hX1:(w3.setCells w.heap.size 0 C.toList).heap[w.heap.size]?=some (.cells C 31 (0,0)):=sets_all C hR3 (by rw [hC];rfl)
 have hXo:=fun j hj=>sets_else w.heap.size C.toList 0 w3 j hj
 have hXs:=sets_size w.heap.size C.toList 0 w3
 have hXf:PFr b w (w3.setCells w.heap.size 0 C.toList):=(HF2.out.trans hf3).sets (Nat.le_refl _) C.toList
 have hXp:Par (w3.setCells w.heap.size 0 C.toList) b A c ts k 0:=hp3.beside (N:=w.heap.size) hXs hXo hn1 (fun hn g hg=>by have:=HGT.out hn g hg;omega)
 have hXE:=(hXo (w.heap.size+1) (by omega)).trans hE3
 rename_i hKK
 refine hKK _ _ ?_
 clear hKK
 refine wpList_store_mid rfl 31 (.tmp 6) (.tmp 22) rfl w.heap.size 0 C rfl rfl hthere hinf hC1 ?_
 have HM:=Lib.hid (more_any _ b A c ts k 0 hXp)
 rw [hkd] at HM
 generalize World.setCells w3 w.heap.size 0 C.toList=X at hX1 hXo hXs hXf hXE HM ⊢
 have HX1:=Lib.hid hX1
 have HXE:=Lib.hid hXE
 have HXF:=Lib.hid hXf
 have HXO:=Lib.hid hXo
 have HXS:=Lib.hid hXs
 have HV3:=Lib.hid hv3
 have HC:=Lib.hid hC
 have HC1:=Lib.hid hC1
 have hs3:=hf3.size
 have hlx:w.heap.size+1 < X.heap.size:=(Array.getElem?_eq_some_iff.1 hXE).1
 clear hX1 hXE hXf hXo hXs hv3 hthere hinf hR3 hE3 hp3 hf3 hXp hkd hC hC1
 go_wp2_with fail
 go_at_call 80
 refine HM.out.mono ?_
 rintro e Y ⟨rfl,q,hY⟩
 have hfY:PFr b w Y:=by rw [hY];exact HXF.out.drewN q
 have hRY:Y.heap[w.heap.size]?=some (.cells C 31 (0,0)):=by rw [hY];exact HX1.out
 have hEY:Y.heap[w.heap.size+1]?=some (.cells #[.nilIface] 46 (0,0)):=by rw [hY];exact HXE.out
 have hoY:∀ j,j ≠ w.heap.size→Y.heap[j]?=w3.heap[j]?:=by rw [hY];exact HXO.out
 have hsY:Y.heap.size=w3.heap.size:=by rw [hY];exact HXS.out
 have hlY:w.heap.size+1 < Y.heap.size:=(Array.getElem?_eq_some_iff.1 hEY).1
 have HFY:=Lib.hid hfY
 have HRY:=Lib.hid hRY
 have HEY:=Lib.hid hEY
 have HOY:=Lib.hid hoY
 have HSY:=Lib.hid hsY
 clear hY hfY hRY hEY hoY hsY
 go_upto_region 8 with fail
 refine wp_region_list ?_
 have hC:=HC.out
 have hthere:Y.there w.heap.size 0 C.size:=there_all HRY.out
 have hinf:(Tryz.prog.info? 31).map (·.size)=some C.size:=by rw [hC];exact sizeGoal
 have hinf2:(Tryz.prog.info? 31).map (·.size)=some C.toList.length:=by rw [Array.length_toList];exact hinf
 refine wpList_load_mid rfl 31 (.tmp 6) rfl w.heap.size 0 rfl _ _ (range_all HRY.out) Tryz.underlying31 rfl hinf2 ?_
 refine wpList_store_mid rfl 31 (.tmp 6) (.tmp 28) rfl w.heap.size 0 C rfl rfl hthere hinf HC1.out ?_
 have hU1:(Y.setCells w.heap.size 0 C.toList).heap[w.heap.size]?=some (.cells C 31 (0,0)):=sets_all C HRY.out rfl
 have hUo:=fun j hj=>(sets_else w.heap.size C.toList 0 Y j hj).trans (HOY.out j hj)
 have hUs:=(sets_size w.heap.size C.toList 0 Y).trans HSY.out
 have hUf:PFr b w (Y.setCells w.heap.size 0 C.toList):=HFY.out.sets (Nat.le_refl _) C.toList
 have hUE:=(sets_else w.heap.size C.toList 0 Y (w.heap.size+1) (by omega)).trans HEY.out
 generalize World.setCells Y w.heap.size 0 C.toList=U at hU1 hUo hUs hUf hUE ⊢
 have HU1:=Lib.hid hU1
 have HUO:=Lib.hid hUo
 have HUS:=Lib.hid hUs
 have HUF:=Lib.hid hUf
 have HUE:=Lib.hid hUE
 have e0:U.cell? ⟨w.heap.size+1,0,none⟩=some .nilIface:=(Lib.cell_of_heap hUE 0).trans rfl
 have e1:=Lib.frozen_of_heap hUE 0
 have hlU:w.heap.size+1 < U.heap.size:=(Array.getElem?_eq_some_iff.1 hUE).1
 clear hU1 hUo hUs hUf hUE hthere hinf hinf2 hC
 go_wp2_with fail
 refine leaves_cons (f:=90) (args:=#[.pointer (some ⟨w.heap.size,0,none⟩),.pointer (some ⟨w.heap.size+1,0,none⟩)]) (by simp) (by simp [go_sem]) ?_
 refine (idleGo w.heap.size (w.heap.size+1) _).mono ?_
 rintro e u' w4 ⟨rfl,rfl,rfl⟩
 refine ⟨.tuple #[.agg C,.nilIface],results_two Tryz.results50 _ _ ⟨w.heap.size,0,none⟩ ⟨w.heap.size+1,0,none⟩ _ _ rfl rfl (load_goal ?_ HC.out) (load_err (T:=46) ?_),_,_,rfl,?_,?_⟩
 ·exact (Below.heap_setCell U ⟨w.heap.size+1,0,none⟩ _ w.heap.size (by simp)).trans HU1.out
 ·exact blk_put U (w.heap.size+1) 0 .nilIface HUE.out (by show 0 < 1;decide)
 ·exact HUF.out.putNew (Nat.le_succ _) 0 .nilIface
 ·rw [hrd,show endO ts.length (Out.ok x k)=.ok x k from if_neg hk]
  refine ⟨rfl,hW _ _ _ _ _ _ _ (hV _ _ _ _ _ (U.setCell ⟨w.heap.size+1,0,none⟩ .nilIface) HV3.out (fun j j1 j2=>?_)) (by omega) (Nat.le_of_eq (by rw [← HUS.out];simp [World.setCell]))⟩
  exact (Below.heap_setCell U ⟨w.heap.size+1,0,none⟩ _ j (by show j ≠ w.heap.size+1;omega)).trans (HUO.out j (by omega))
theorem wholeGo_good {α:Type} (b:Nat) (s:ByteArray) (w:World) (hE:Env w) (f:Nat→Addr) (hR:Errs w (errP (f 1)) (errP (f 3))) (hP:PErrs w b f) (hb:w.heap[b]?=some (.cells #[.slice none 0 0,.int .i64 0,.int .i64 0] 91 (0,0))) (V:Holds α) (hV:Stable V) (hW:∀ x v lo hi lo' hi' w,V x v lo hi w→lo'≤lo→hi≤hi'→V x v lo' hi' w)
  (hT:∀ x v lo hi w,V x v lo hi w→∃ C:Array Value,v=.agg C∧C.size=12∧C.all (·.oneCell')=true) (rd:List Tok→Out α) (ts:List Tok) (hts:ts.length≤16384)
  (HR:Hid (∀ w A c ts,Par w b A c ts 0 0→PErrs w b f→Calls Tryz.prog 51 #[.pointer (some ⟨b,0,none⟩)] w fun e w'=>EndsV b A c ts 0 f V w (rd ts) e w'))
  (HL:Hid (∀ w,Env w→Errs w (errP (f 1)) (errP (f 3))→Calls Tryz.prog 78 #[.string s] w fun e w'=>∃ v,e=.returned (.tuple #[v,.nilIface])∧Below w.heap.size w w'∧w'.ownsRow w.heap.size 67 3 v ts.length (cellsT ts))) :
  Calls Tryz.prog 50 #[.pointer (some ⟨b,0,none⟩),.string s,.func (.func 51) #[.pointer (some ⟨b,0,none⟩)] #[]] w fun e w'=>∃ v er,e=.returned (.tuple #[v,er])∧PFr b w w'∧TextR f V (.agg #[.int .i64 0,.int .i64 0,.string ⟨#[]⟩,.int .i64 0,.slice none 0 0,.int .i64 0,.string ⟨#[]⟩,.int .i64 0,.slice none 0 0,.string ⟨#[]⟩,.slice none 0 0,.slice none 0 0]) w w' v er (endO ts.length (rd ts)):=by
 cases hrd:rd ts with
 | no i=>rw [← hrd];exact wholeGo_no b s w hE f hR hP hb V hV hW hT rd ts hts HR HL i hrd
 | ok x k =>
  rw [← hrd]
  by_cases hk:k < ts.length
  ·exact wholeGo_more b s w hE f hR hP hb V hV hW hT rd ts hts HR HL x k hrd hk
  ·exact wholeGo_done b s w hE f hR hP hb V hV hW hT rd ts hts HR HL x k hrd hk
end Lx
end Go.Proofs.YtajomoclbpobhaaGreatDoor
namespace Go.Proofs.YtajomoclbpobhaaGreatDoor
set_option linter.unusedSimpArgs false
set_option linter.unusedVariables false
namespace Lx
open Go Go.RowKit
theorem wholeGo_any {α:Type} (b:Nat) (s:ByteArray) (w:World) (hE:Env w) (f:Nat→Addr) (hR:Errs w (errP (f 1)) (errP (f 3))) (hP:PErrs w b f) (hb:w.heap[b]?=some (.cells #[.slice none 0 0,.int .i64 0,.int .i64 0] 91 (0,0))) (V:Holds α) (hV:Stable V) (hW:∀ x v lo hi lo' hi' w,V x v lo hi w→lo'≤lo→hi≤hi'→V x v lo' hi' w)
  (hT:∀ x v lo hi w,V x v lo hi w→∃ C:Array Value,v=.agg C∧C.size=12∧C.all (·.oneCell')=true) (rd:List Tok→Out α)
  (HR:Hid (∀ w A c ts,Par w b A c ts 0 0→PErrs w b f→Calls Tryz.prog 51 #[.pointer (some ⟨b,0,none⟩)] w fun e w'=>EndsV b A c ts 0 f V w (rd ts) e w')) :
  Calls Tryz.prog 50 #[.pointer (some ⟨b,0,none⟩),.string s,.func (.func 51) #[.pointer (some ⟨b,0,none⟩)] #[]] w fun e w'=>∃ v er,e=.returned (.tuple #[v,er])∧PFr b w w'∧TextR f V (.agg #[.int .i64 0,.int .i64 0,.string ⟨#[]⟩,.int .i64 0,.slice none 0 0,.int .i64 0,.string ⟨#[]⟩,.int .i64 0,.slice none 0 0,.string ⟨#[]⟩,.slice none 0 0,.slice none 0 0]) w w' v er (textO rd s):=by
 rcases Nat.lt_or_ge 16384 s.size with hs | hs
 ·rw [textO_large rd hs]
  refine (wholeGo_bad b s w hE f 1 _ hR hb (Lib.hid (fun w hE hR=>(lex_any s w hE _ _ hR).mono (fun e w' h=>?_)))).mono (fun e w' h=>⟨_,_,h.1,h.2,rfl,rfl⟩)
  rcases h with ⟨hb,h | h | h⟩
  ·exact ⟨h.2,hb⟩
  ·exact absurd hs (by omega)
  ·exact absurd hs (by omega)
 ·cases hw:whole s.data.toList with
  | false =>
   rw [textO_bad rd hs hw]
   refine (wholeGo_bad b s w hE f 3 _ hR hb (Lib.hid (fun w hE hR=>(lex_any s w hE _ _ hR).mono (fun e w' h=>?_)))).mono (fun e w' h=>⟨_,_,h.1,h.2,rfl,rfl⟩)
   rcases h with ⟨hb,h | h | h⟩
   ·exact absurd hs (by omega)
   ·exact ⟨h.2.2,hb⟩
   ·exact absurd (h.2.1.symm.trans hw) (by decide)
  | true =>
   rw [textO_good rd hs hw]
   refine wholeGo_good b s w hE f hR hP hb V hV hW hT rd (toks s.data.toList) (by have:=toks_len s.data.toList;have e:s.data.toList.length=s.size:=(by simp);omega) HR (Lib.hid (fun w hE hR=>(lex_any s w hE _ _ hR).mono (fun e w' h=>?_)))
   rcases h with ⟨hb,h | h | h⟩
   ·exact absurd hs (by omega)
   ·exact absurd (h.2.1.symm.trans hw) (by decide)
   ·obtain ⟨_,_,v,he,ho⟩:=h
    exact ⟨v,he,hb,ho⟩
theorem store_cells_at {w:World} {b:Nat} {cells:Array Value} (ht:w.there b 0 cells.size) (h1:cells.all (·.oneCell')=true):(storeCells ⟨b,0,none⟩ cells.toList).run Tryz.prog w=.ok () (w.setCells b 0 cells.toList):=by
 have:=run_storeCells_cells (P:=Tryz.prog) b 0 cells.toList 0 w (fun j hj=>by simpa using (ht j (by simpa using hj)).1) (fun j hj=>by simpa using (ht j (by simpa using hj)).2) (fun v hv=>(Array.all_eq_true_iff_forall_mem.1 h1) v (by simpa using hv))
 simpa using this
theorem goalV_row (x:GoalT) (v:Value) (lo hi:Nat) (w:World) (h:GoalV 134 x v lo hi w):∃ C:Array Value,v=.agg C∧C.size=12∧C.all (·.oneCell')=true:=by
 obtain ⟨_,_,_,_,_,_,_,_,_,_,_,_,_,_,_,_,_,_,_,_,e⟩:=GoalV.this _ _ _ _ _ _ h
 exact ⟨_,e,rfl,by simp [Value.oneCell']⟩
theorem goal_row {f:Nat→Addr} {w w':World} {v er:Value} {o:Out GoalT} (h:TextR f (GoalV 134) (.agg #[.int .i64 0,.int .i64 0,.string ⟨#[]⟩,.int .i64 0,.slice none 0 0,.int .i64 0,.string ⟨#[]⟩,.int .i64 0,.slice none 0 0,.string ⟨#[]⟩,.slice none 0 0,.slice none 0 0]) w w' v er o):∃ C:Array Value,v=.agg C∧C.size=12∧C.all (·.oneCell')=true:=by
 cases o with
 | no i=>exact ⟨_,h.1,rfl,by simp [Value.oneCell']⟩
 | ok x k=>exact goalV_row _ _ _ _ _ h.2
set_option maxRecDepth 100000 in
set_option maxHeartbeats 2000000 in
theorem textGo_any (s:ByteArray) (w:World) (hE:Env w) (f:Nat→Addr) (h4:Errs4 w f) :
  Calls Tryz.prog 24 #[.string s] w fun e w'=>∃ v er,e=.returned (.tuple #[v,er])∧Below w.heap.size w w'∧TextR f (GoalV 134) (.agg #[.int .i64 0,.int .i64 0,.string ⟨#[]⟩,.int .i64 0,.slice none 0 0,.int .i64 0,.string ⟨#[]⟩,.int .i64 0,.slice none 0 0,.string ⟨#[]⟩,.slice none 0 0,.slice none 0 0]) w w' v er (textO (fun ts=>goalO (primO ts 66 0) ts 0) s):=by
 have hmf:∀ (fn:Fn) (first cap:Array Value) (w:World),(Instr.makeFunc fn first cap).run Tryz.prog w=.ok (.func fn first cap) w:=fun _ _ _ _=>rfl
 have hw0:(w.alloc (.cells #[.int .i64 0,.int .i64 0,.string ⟨#[]⟩,.int .i64 0,.slice none 0 0,.int .i64 0,.string ⟨#[]⟩,.int .i64 0,.slice none 0 0,.string ⟨#[]⟩,.slice none 0 0,.slice none 0 0] 31)).heap.size=w.heap.size+1:=by simp
 have hW0:Below w.heap.size w (w.alloc (.cells #[.int .i64 0,.int .i64 0,.string ⟨#[]⟩,.int .i64 0,.slice none 0 0,.int .i64 0,.string ⟨#[]⟩,.int .i64 0,.slice none 0 0,.string ⟨#[]⟩,.slice none 0 0,.slice none 0 0] 31)):=(Below.refl _ w).alloc (Nat.le_refl _) _
 have hE0:=hE.below hW0
 have h40:=h4.below hW0
 have hW1:Below (w.alloc (.cells #[.int .i64 0,.int .i64 0,.string ⟨#[]⟩,.int .i64 0,.slice none 0 0,.int .i64 0,.string ⟨#[]⟩,.int .i64 0,.slice none 0 0,.string ⟨#[]⟩,.slice none 0 0,.slice none 0 0] 31)).heap.size (w.alloc (.cells #[.int .i64 0,.int .i64 0,.string ⟨#[]⟩,.int .i64 0,.slice none 0 0,.int .i64 0,.string ⟨#[]⟩,.int .i64 0,.slice none 0 0,.string ⟨#[]⟩,.slice none 0 0,.slice none 0 0] 31)) ((w.alloc (.cells #[.int .i64 0,.int .i64 0,.string ⟨#[]⟩,.int .i64 0,.slice none 0 0,.int .i64 0,.string ⟨#[]⟩,.int .i64 0,.slice none 0 0,.string ⟨#[]⟩,.slice none 0 0,.slice none 0 0] 31)).alloc (.cells #[.slice none 0 0,.int .i64 0,.int .i64 0] 91)):=(Below.refl _ _).alloc (Nat.le_refl _) _
 have hw:=wholeGo_any (w.alloc (.cells #[.int .i64 0,.int .i64 0,.string ⟨#[]⟩,.int .i64 0,.slice none 0 0,.int .i64 0,.string ⟨#[]⟩,.int .i64 0,.slice none 0 0,.string ⟨#[]⟩,.slice none 0 0,.slice none 0 0] 31)).heap.size s _ (hE0.below hW1) f ((h40.below hW1).errs) (h40.perrs _) (heap_alloc_new _ _) (GoalV 134) (GoalV.stable 134) (GoalV.wide 134) goalV_row (fun ts=>goalO (primO ts 66 0) ts 0) (Lib.hid (fun w2 A c ts h hE=>topgoal_any _ A c ts f 0 (by decide) (by decide) w2 0 h hE (Nat.zero_le _)))
 have hnew:=heap_alloc_new w (.cells #[.int .i64 0,.int .i64 0,.string ⟨#[]⟩,.int .i64 0,.slice none 0 0,.int .i64 0,.string ⟨#[]⟩,.int .i64 0,.slice none 0 0,.string ⟨#[]⟩,.slice none 0 0,.slice none 0 0] 31)
 have HN:=Lib.hid hnew
 rw [hw0] at hw
 have HW:=Lib.hid hw
 clear hE h4 hW1 hE0 h40 hw hnew
 have HW0:=Lib.hid hW0
 clear hW0
 go_enter Tryz.func24,Tryz.ntmps24
 go_wp2_with fail
 go_at_call 50
 refine HW.out.mono ?_
 rintro e w2 ⟨v,er,rfl,hf,ht⟩
 have hN2:=(hf.block w.heap.size (by simp;omega) (by omega)).trans ((Below.heap_alloc _ _ _ (by simp)).trans HN.out)
 obtain ⟨C,rfl,hC,hC1⟩:=goal_row ht
 have hthere:w2.there w.heap.size 0 C.size:=by rw [hC];exact there_all hN2
 have hinf:(Tryz.prog.info? 31).map (·.size)=some C.size:=by rw [hC];exact sizeGoal
 have hst:=store_cells_at hthere hC1
 have hX1:(w2.setCells w.heap.size 0 C.toList).heap[w.heap.size]?=some (.cells C 31 (0,0)):=sets_all C hN2 (by rw [hC];rfl)
 have HX1:=Lib.hid hX1
 have HXO:=Lib.hid (fun j hj=>sets_else w.heap.size C.toList 0 w2 j hj)
 have HXS:=Lib.hid (sets_size w.heap.size C.toList 0 w2)
 have HXW:=Lib.hid (sets_os w.heap.size C.toList 0 w2)
 have HC:=Lib.hid hC
 have HT:=Lib.hid ht
 have HF:=Lib.hid hf
 have hlt:w.heap.size < w2.heap.size:=(Array.getElem?_eq_some_iff.1 hN2).1
 clear ht hf hN2 HW hthere hinf hX1 hC hC1
 generalize w2.setCells w.heap.size 0 C.toList=X at hst HX1 HXO HXS HXW
 go_wp2_with fail
 refine bodyPost_ret (v:=.tuple #[.agg C,er]) (results_cell_slot Tryz.results24 _ _ ⟨w.heap.size,0,none⟩ _ _ rfl rfl (load_goal HX1.out HC.out)) rfl ⟨_,_,rfl,?_,?_⟩
 ·refine ⟨HXW.out.1.trans HF.out.os,HXW.out.2.1.trans HF.out.tape,HXW.out.2.2.trans HF.out.output,?_,fun k hk=>(HXO.out k (Nat.ne_of_lt hk)).trans ((HF.out.block k (by simp;omega) (by omega)).trans ((Below.heap_alloc _ _ k (by simp;omega)).trans (Below.heap_alloc w _ k hk)))⟩
  rw [HXS.out]
  have:=HF.out.size
  simp at this
  omega
 ·exact HT.out.moved (GoalV.stable 134) (GoalV.wide 134) (fun j j1=>HXO.out j (by simp at j1;omega)) (by simp;omega) (Nat.le_of_eq HXS.out.symm)
end Lx
end Go.Proofs.YtajomoclbpobhaaGreatDoor
