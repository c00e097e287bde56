/- The contract of package parse's whole at api.Term: what a text comes to: the thing and no error, or no thing and one of the four errors. Conditions: the parser's block is new; the error variables hold what they should; strconv's table of powers of ten holds them. -/
/- The contract of package parse's whole at api.Term: what a text comes to: the thing and no error, or no thing and one of the four errors. Conditions: the parser's block is new; the error variables hold what they should; strconv's table of powers of ten holds them. -/
/- What parse.Term returns at every text: the thing and no error, or no thing and one of the four errors. Conditions: the error variables hold what they should; strconv's table of powers of ten holds them. -/
import Derived.Test.YtiljemkglhloeaaGreatDoorParWholeS
import Derived.Test.YtiljemkglhloeaaGreatDoorTextI
import Derived.Deep.Cut
namespace Go.Proofs.YtiljemkglhloeaaGreatDoor
set_option linter.unusedSimpArgs false
set_option linter.unusedVariables false
namespace Lx
open Go Go.RowKit
set_option maxRecDepth 100000 in
set_option maxHeartbeats 2000000 in
/-- The deferred closure, behind a panic with a refusal: the result is the zero value, the error that of the refusal. -/
theorem catchTe (R E:Nat) (x0 x1 x2 x3 y:Value) (a:Addr) (older:List PanicEntry) (w:World) (hR:w.heap[R]?=some (.cells #[x0,x1,x2,x3] 28 (0,0))) (hE:w.heap[E]?=some (.cells #[y] 49 (0,0))) (hne:¬ R=E) :
  CallsD Tryz.prog 108 #[.pointer (some ⟨R,0,none⟩),.pointer (some ⟨E,0,none⟩)] (.panicking ({ v:=.iface 151 (.agg #[errP a]),recovered:=false } :: older)) w fun e u' w' =>
   e=.returned (.tuple #[])∧u'=.panicking ({ v:=.iface 151 (.agg #[errP a]),recovered:=true } :: older) ∧
   w'.heap[R]?=some (.cells #[.int .i64 0,.string ⟨#[]⟩,.int .i64 0,.slice none 0 0] 28 (0,0))∧w'.heap[E]?=some (.cells #[errP a] 49 (0,0))∧Fr2 R E w w':=by
 have r0:w.cell? ⟨R,0,none⟩=some x0:=(Lib.cell_of_heap hR 0).trans rfl
 have q0:=Lib.frozen_of_heap hR 0
 have r1:w.cell? ⟨R,1,none⟩=some x1:=(Lib.cell_of_heap hR 1).trans rfl
 have q1:=Lib.frozen_of_heap hR 1
 have r2:w.cell? ⟨R,2,none⟩=some x2:=(Lib.cell_of_heap hR 2).trans rfl
 have q2:=Lib.frozen_of_heap hR 2
 have r3:w.cell? ⟨R,3,none⟩=some x3:=(Lib.cell_of_heap hR 3).trans rfl
 have q3:=Lib.frozen_of_heap hR 3
 have e0:w.cell? ⟨E,0,none⟩=some y:=(Lib.cell_of_heap hE 0).trans rfl
 have f0:=Lib.frozen_of_heap hE 0
 have hRl:R < w.heap.size:=(Array.getElem?_eq_some_iff.1 hR).1
 have hEl:E < w.heap.size:=(Array.getElem?_eq_some_iff.1 hE).1
 have hn1:¬ w.heap.size=R:=Nat.ne_of_gt hRl
 have hn2:¬ w.heap.size=E:=Nat.ne_of_gt hEl
 have hn3:¬ R=w.heap.size:=Nat.ne_of_lt hRl
 have hn4:¬ E=w.heap.size:=Nat.ne_of_lt hEl
 have hne2:¬ E=R:=fun e=>hne e.symm
 have HR:=Lib.hid hR
 have HE:=Lib.hid hE
 clear hR hE
 refine callsD_of_wpS Tryz.func108 rfl fun c₀ cs hu=>?_
 apply wpS_seq
 apply wpS_region
 simp [wpOpsS,go_sem,recoverD,hu,Tryz.ntmps108,Exit.thenS]
 have hta:∀ W:World,(Instr.typeAssert (.iface 151 (.agg #[errP a])) 20 151 true).run Tryz.prog W=.ok (.tuple #[.agg #[errP a],.bool true]) W:=fun _=>by kernel_rfl
 refine wpS_of_wp ?_
 have HF:=Lib.hid (fun o=>fin3 (er:=errP a) (zc:=#[.int .i64 0,.string ⟨#[]⟩,.int .i64 0,.slice none 0 0]) HR.out rfl HE.out hne o (.cells #[.int .i64 0,.string ⟨#[]⟩,.int .i64 0,.slice none 0 0] 28))
 go_wp2
 go_region
 all_goals go_wp2
 all_goals (cases c₀;simp [bodyPostS,results,Tryz.results108])
 all_goals exact ⟨(HF.out (.cells #[errP a] 151)).1,(HF.out (.cells #[errP a] 151)).2.1,(HF.out (.cells #[errP a] 151)).2.2.drew⟩
set_option maxRecDepth 100000 in
theorem idleTe (R E:Nat) (w:World) :
  CallsD Tryz.prog 108 #[.pointer (some ⟨R,0,none⟩),.pointer (some ⟨E,0,none⟩)] .returning w fun e u' w'=>e=.returned (.tuple #[])∧u'=.returning∧w'=w:=by
 refine callsD_of_wpS Tryz.func108 rfl fun c₀ cs hu=>?_
 apply wpS_seq
 apply wpS_region
 simp [wpOpsS,go_sem,recoverD,hu,Tryz.ntmps108,Exit.thenS]
 refine wpS_of_wp ?_
 go_wp2
 cases c₀
 simp_all [bodyPostS,results,Tryz.results108]
end Lx
end Go.Proofs.YtiljemkglhloeaaGreatDoor
namespace Go.Proofs.YtiljemkglhloeaaGreatDoor
set_option linter.unusedSimpArgs false
set_option linter.unusedVariables false
namespace Lx
open Go Go.RowKit
theorem blkRTe (w:World):((w.alloc (.cells #[.int .i64 0,.string ⟨#[]⟩,.int .i64 0,.slice none 0 0] 28)).alloc (.cells #[.nilIface] 49)).heap[w.heap.size]?=some (.cells #[.int .i64 0,.string ⟨#[]⟩,.int .i64 0,.slice none 0 0] 28 (0,0)) :=
 (Below.heap_alloc _ _ _ (by simp)).trans (heap_alloc_new w _)
theorem blkETe (w:World):((w.alloc (.cells #[.int .i64 0,.string ⟨#[]⟩,.int .i64 0,.slice none 0 0] 28)).alloc (.cells #[.nilIface] 49)).heap[w.heap.size+1]?=some (.cells #[.nilIface] 49 (0,0)):=by
 have h:=heap_alloc_new (w.alloc (.cells #[.int .i64 0,.string ⟨#[]⟩,.int .i64 0,.slice none 0 0] 28)) (.cells #[.nilIface] 49)
 rwa [show (w.alloc (.cells #[.int .i64 0,.string ⟨#[]⟩,.int .i64 0,.slice none 0 0] 28)).heap.size=w.heap.size+1 by simp] at h
set_option maxRecDepth 100000 in
set_option maxHeartbeats 4000000 in
theorem wholeTe_bad (b:Nat) (s:ByteArray) (w:World) (hE:Env w) (f:Nat→Addr) (i:Nat) (F:Value) (hR:Errs w (errP (f 1)) (errP (f 3))) (hb:w.heap[b]?=some (.cells #[.slice none 0 0,.int .i64 0,.int .i64 0] 111 (0,0)))
  (HL:Hid (∀ w,Env w→Errs w (errP (f 1)) (errP (f 3))→Calls Tryz.prog 92 #[.string s] w fun e w'=>e=.returned (.tuple #[.slice none 0 0,errP (f i)])∧Below w.heap.size w w')) :
  Calls Tryz.prog 85 #[.pointer (some ⟨b,0,none⟩),.string s,F] w fun e w'=>e=.returned (.tuple #[.agg #[.int .i64 0,.string ⟨#[]⟩,.int .i64 0,.slice none 0 0],errP (f i)])∧PFr b w w':=by
 have hsz:=hE.size
 have hbl:b < w.heap.size:=(Array.getElem?_eq_some_iff.1 hb).1
 have hW0:Below w.heap.size w ((w.alloc (.cells #[.int .i64 0,.string ⟨#[]⟩,.int .i64 0,.slice none 0 0] 28)).alloc (.cells #[.nilIface] 49)):=((Below.refl _ w).alloc (Nat.le_refl _) _).alloc (by simp) _
 have HE0:=Lib.hid (hE.below hW0)
 have HR0:=Lib.hid (hR.below hsz hW0)
 have hn1:¬ b=w.heap.size:=Nat.ne_of_lt hbl
 have hn2:¬ b=w.heap.size+1:=by omega
 have hn3:¬ w.heap.size=b:=by omega
 have hn4:¬ w.heap.size+1=b:=by omega
 have HB:=Lib.hid hb
 clear hE hR hb hW0
 go_enter_defers Tryz.func85,Tryz.ntmps85
 go_wp2_with fail
 go_at_call 92
 refine (HL.out _ HE0.out HR0.out).mono ?_
 rintro e w1 ⟨rfl,hb1⟩
 have hpb:=((hb1.block b (by simp;omega)).trans ((Below.heap_alloc _ _ b (by simp;omega)).trans (Below.heap_alloc w _ b hbl))).trans HB.out
 have hRb:=(hb1.block w.heap.size (by simp;omega)).trans (blkRTe w)
 have hEb:=(hb1.block (w.heap.size+1) (by simp)).trans (blkETe w)
 have p0:w1.cell? ⟨b,0,none⟩=some (.slice none 0 0):=(Lib.cell_of_heap hpb 0).trans rfl
 have p1:=Lib.frozen_of_heap hpb 0
 have r0:w1.cell? ⟨w.heap.size,0,none⟩=some (.int .i64 0):=(Lib.cell_of_heap hRb 0).trans rfl
 have q0:=Lib.frozen_of_heap hRb 0
 have r1:w1.cell? ⟨w.heap.size,1,none⟩=some (.string ⟨#[]⟩):=(Lib.cell_of_heap hRb 1).trans rfl
 have q1:=Lib.frozen_of_heap hRb 1
 have r2:w1.cell? ⟨w.heap.size,2,none⟩=some (.int .i64 0):=(Lib.cell_of_heap hRb 2).trans rfl
 have q2:=Lib.frozen_of_heap hRb 2
 have r3:w1.cell? ⟨w.heap.size,3,none⟩=some (.slice none 0 0):=(Lib.cell_of_heap hRb 3).trans rfl
 have q3:=Lib.frozen_of_heap hRb 3
 have e0:w1.cell? ⟨w.heap.size+1,0,none⟩=some .nilIface:=(Lib.cell_of_heap hEb 0).trans rfl
 have e1:=Lib.frozen_of_heap hEb 0
 have hw1:w.heap.size+1 < w1.heap.size:=(Array.getElem?_eq_some_iff.1 hEb).1
 have hw2:w.heap.size < w1.heap.size:=by omega
 have hw3:b < w1.heap.size:=by omega
 have hf1:PFr b w w1:=((((PFr.refl b w).alloc _).alloc _).below hb1)
 have HF1:=Lib.hid hf1
 have HRb:=Lib.hid hRb
 have HEb:=Lib.hid hEb
 clear hpb hRb hEb hb1 hf1
 go_wp2_with fail
 go_region
 all_goals go_wp2
 all_goals
  refine ⟨.tuple #[.agg #[.int .i64 0,.string ⟨#[]⟩,.int .i64 0,.slice none 0 0],errP (f i)],results_two Tryz.results85 _ _ ⟨w.heap.size,0,none⟩ ⟨w.heap.size+1,0,none⟩ _ _ rfl rfl (load_term ?_) (load_err (T:=49) ?_),rfl,?_⟩
  ·rw [drew_heap]
   exact (Below.heap_setCell ((((((w1.setCell ⟨b,0,none⟩ (.slice none 0 0)).setCell ⟨w.heap.size+1,0,none⟩ (errP (f i))).setCell ⟨w.heap.size,0,none⟩ (.int .i64 0)).setCell ⟨w.heap.size,1,none⟩ (.string ⟨#[]⟩)).setCell ⟨w.heap.size,2,none⟩ (.int .i64 0)).setCell ⟨w.heap.size,3,none⟩ (.slice none 0 0)) ⟨w.heap.size+1,0,none⟩ (errP (f i)) w.heap.size (by simp)).trans (ch4_blk (w:=((w1.setCell ⟨b,0,none⟩ (.slice none 0 0)).setCell ⟨w.heap.size+1,0,none⟩ (errP (f i)))) ((Below.heap_setCell _ ⟨w.heap.size+1,0,none⟩ _ w.heap.size (by simp)).trans ((Below.heap_setCell w1 ⟨b,0,none⟩ _ w.heap.size hn3).trans HRb.out)) rfl (.int .i64 0) (.string ⟨#[]⟩) (.int .i64 0) (.slice none 0 0))
  ·rw [drew_heap]
   exact blk_put ((((((w1.setCell ⟨b,0,none⟩ (.slice none 0 0)).setCell ⟨w.heap.size+1,0,none⟩ (errP (f i))).setCell ⟨w.heap.size,0,none⟩ (.int .i64 0)).setCell ⟨w.heap.size,1,none⟩ (.string ⟨#[]⟩)).setCell ⟨w.heap.size,2,none⟩ (.int .i64 0)).setCell ⟨w.heap.size,3,none⟩ (.slice none 0 0)) (w.heap.size+1) 0 (errP (f i)) ((ch4_else (w:=((w1.setCell ⟨b,0,none⟩ (.slice none 0 0)).setCell ⟨w.heap.size+1,0,none⟩ (errP (f i)))) (N:=w.heap.size) (j:=w.heap.size+1) (by simp) (.int .i64 0) (.string ⟨#[]⟩) (.int .i64 0) (.slice none 0 0)).trans (blk_put (w1.setCell ⟨b,0,none⟩ (.slice none 0 0)) (w.heap.size+1) 0 (errP (f i)) ((Below.heap_setCell w1 ⟨b,0,none⟩ _ (w.heap.size+1) hn4).trans HEb.out) (by show 0 < 1;decide))) (by show 0 < 1;decide)
  ·exact PFr.drew ((((HF1.out.put 0 (.slice none 0 0)).putNew (N:=w.heap.size+1) (by omega) 0 (errP (f i))).ch4 (Nat.le_refl _) (.int .i64 0) (.string ⟨#[]⟩) (.int .i64 0) (.slice none 0 0)).putNew (N:=w.heap.size+1) (by omega) 0 (errP (f i)))
set_option maxRecDepth 100000 in
set_option maxHeartbeats 4000000 in
theorem wholeTe_good {α:Type} (b:Nat) (s:ByteArray) (w:World) (hE:Env w) (f:Nat→Addr) (hR:Errs w (errP (f 1)) (errP (f 3))) (hP:PErrs w b f) (hb:w.heap[b]?=some (.cells #[.slice none 0 0,.int .i64 0,.int .i64 0] 111 (0,0))) (V:Holds α) (hV:Stable V) (hW:∀ x v lo hi lo' hi' w,V x v lo hi w→lo'≤lo→hi≤hi'→V x v lo' hi' w)
  (hT:∀ x v lo hi w,V x v lo hi w→∃ z1 z2 z3 z4 z5 z6,v=.agg #[.int .i64 z1,.string z2,.int .i64 z3,.slice z4 z5 z6]) (rd:List Tok→Out α) (ts:List Tok) (hts:ts.length≤16384)
  (HR:Hid (∀ w A c ts,Par w b A c ts 0 0→PErrs w b f→Calls Tryz.prog 86 #[.pointer (some ⟨b,0,none⟩)] w fun e w'=>EndsV b A c ts 0 f V w (rd ts) e w'))
  (HL:Hid (∀ w,Env w→Errs w (errP (f 1)) (errP (f 3))→Calls Tryz.prog 92 #[.string s] w fun e w'=>∃ v,e=.returned (.tuple #[v,.nilIface])∧Below w.heap.size w w'∧w'.ownsRow w.heap.size 162 3 v ts.length (cellsT ts))) :
  Calls Tryz.prog 85 #[.pointer (some ⟨b,0,none⟩),.string s,.func (.func 86) #[.pointer (some ⟨b,0,none⟩)] #[]] w fun e w'=>∃ v er,e=.returned (.tuple #[v,er])∧PFr b w w'∧TextR f V (.agg #[.int .i64 0,.string ⟨#[]⟩,.int .i64 0,.slice none 0 0]) w w' v er (endO ts.length (rd ts)):=by
 have hsz:=hE.size
 have hbl:b < w.heap.size:=(Array.getElem?_eq_some_iff.1 hb).1
 have hW0:Below w.heap.size w ((w.alloc (.cells #[.int .i64 0,.string ⟨#[]⟩,.int .i64 0,.slice none 0 0] 28)).alloc (.cells #[.nilIface] 49)):=((Below.refl _ w).alloc (Nat.le_refl _) _).alloc (by simp) _
 have HE0:=Lib.hid (hE.below hW0)
 have HR0:=Lib.hid (hR.below hsz hW0)
 have hn1:¬ b=w.heap.size:=Nat.ne_of_lt hbl
 have hn2:¬ b=w.heap.size+1:=by omega
 have hn3:¬ w.heap.size=b:=by omega
 have hn4:¬ w.heap.size+1=b:=by omega
 have HB:=Lib.hid hb
 have HP:=Lib.hid hP
 have hmf:∀ (fn:Fn) (first cap:Array Value) (w:World),(Instr.makeFunc fn first cap).run Tryz.prog w=.ok (.func fn first cap) w:=fun _ _ _ _=>rfl
 clear hE hR hb hW0 hP
 go_enter_defers Tryz.func85,Tryz.ntmps85
 go_wp2_with fail
 go_at_call 92
 refine (HL.out _ HE0.out HR0.out).mono ?_
 rintro e w1 ⟨v0,rfl,hb1,ho⟩
 obtain ⟨A,c,rfl⟩:=owns_shape ho
 have hpb:=((hb1.block b (by simp;omega)).trans ((Below.heap_alloc _ _ b (by simp;omega)).trans (Below.heap_alloc w _ b hbl))).trans HB.out
 have hRb:=(hb1.block w.heap.size (by simp;omega)).trans (blkRTe w)
 have hEb:=(hb1.block (w.heap.size+1) (by simp)).trans (blkETe w)
 have p0:w1.cell? ⟨b,0,none⟩=some (.slice none 0 0):=(Lib.cell_of_heap hpb 0).trans rfl
 have p1:=Lib.frozen_of_heap hpb 0
 have e0:w1.cell? ⟨w.heap.size+1,0,none⟩=some .nilIface:=(Lib.cell_of_heap hEb 0).trans rfl
 have e1:=Lib.frozen_of_heap hEb 0
 have hw1:w.heap.size+1 < w1.heap.size:=(Array.getElem?_eq_some_iff.1 hEb).1
 have hw2:w.heap.size < w1.heap.size:=by omega
 have hw3:b < w1.heap.size:=by omega
 have hf1:PFr b w w1:=((((PFr.refl b w).alloc _).alloc _).below hb1)
 have hbase:((w.alloc (.cells #[.int .i64 0,.string ⟨#[]⟩,.int .i64 0,.slice none 0 0] 28)).alloc (.cells #[.nilIface] 49)).heap.size=w.heap.size+2:=by simp
 rw [hbase] at ho
 have hpm:=par_made (E:=w.heap.size+1) hpb ho (by omega) (by omega) hn2 hts .nilIface
 have HF2:=Lib.hid ((hf1.put 0 (.slice A ts.length c)).putNew (N:=w.heap.size+1) (by omega) 0 .nilIface)
 have HPA:=Lib.hid hpm.1
 have HGT:=Lib.hid hpm.2
 have HRb:=Lib.hid ((Below.heap_setCell _ ⟨w.heap.size+1,0,none⟩ .nilIface w.heap.size (by simp)).trans ((Below.heap_setCell _ ⟨b,0,none⟩ (.slice A ts.length c) w.heap.size hn3).trans hRb))
 have HEb:=Lib.hid (blk_put _ (w.heap.size+1) 0 .nilIface ((Below.heap_setCell _ ⟨b,0,none⟩ (.slice A ts.length c) (w.heap.size+1) hn4).trans hEb) (by show 0 < 1;decide))
 have hs2:((w1.setCell ⟨b,0,none⟩ (.slice A ts.length c)).setCell ⟨w.heap.size+1,0,none⟩ .nilIface).heap.size=w1.heap.size:=by simp [World.setCell]
 have HS2:=Lib.hid hs2
 have HRD:=Lib.hid (fun w A c=>HR.out w A c ts)
 clear hpb hRb hEb hb1 hf1 hbase ho hpm hs2
 cases hrd:rd ts with
 | no i =>
  rw [hrd] at HRD
  have hfin:endO ts.length (Out.no i:Out α)=.no i:=rfl
  go_wp2_with fail
  go_at_call 86
  refine (HRD.out _ A c HPA.out (HP.out.move HF2.out)).mono ?_
  rintro e w3 ⟨rfl,h2,h3⟩
  go_wp2_with fail
  refine leaves_cons (f:=108) (args:=#[.pointer (some ⟨w.heap.size,0,none⟩),.pointer (some ⟨w.heap.size+1,0,none⟩)]) (by simp) (by simp [go_sem]) ?_
  have hl1:=HS2.out
  refine (catchTe w.heap.size (w.heap.size+1) _ _ _ _ _ (f i) [] w3 ((h3.block w.heap.size (by omega) hn3).trans HRb.out) ((h3.block (w.heap.size+1) (by omega) hn4).trans HEb.out) (by simp)).mono ?_
  rintro e u' w4 ⟨rfl,rfl,hR4,hE4,hf4⟩
  refine ⟨.tuple #[.agg #[.int .i64 0,.string ⟨#[]⟩,.int .i64 0,.slice none 0 0],errP (f i)],results_two Tryz.results85 _ _ ⟨w.heap.size,0,none⟩ ⟨w.heap.size+1,0,none⟩ _ _ rfl rfl (load_term hR4) (load_err hE4),_,_,rfl,(HF2.out.trans h3).fr2 hf4 (Nat.le_refl _) (Nat.le_succ _),by first | (rw [hfin];exact ⟨rfl,rfl⟩) | (rw [hrd,hfin];exact ⟨rfl,rfl⟩)⟩
 | ok x k =>
  rw [hrd] at HRD
  by_cases hk:k < ts.length
  ·have hkd:decide (k < ts.length)=true:=by simpa using hk
   have hfin:endO ts.length (Out.ok x k)=.no 2:=if_pos hk
   go_wp2_with fail
   go_at_call 86
   refine (HRD.out _ A c HPA.out (HP.out.move HF2.out)).mono ?_
   rintro e w3 ⟨v3,rfl,hv3,hp3,hf3⟩
   obtain ⟨z1,z2,z3,z4,z5,z6,rfl⟩:=hT _ _ _ _ _ hv3
   have hl1:=HS2.out
   have hR3:=(hf3.block w.heap.size (by omega) hn3).trans HRb.out
   have hE3:=(hf3.block (w.heap.size+1) (by omega) hn4).trans HEb.out
   have r30:w3.cell? ⟨w.heap.size,0,none⟩=some (.int .i64 0):=(Lib.cell_of_heap hR3 0).trans rfl
   have q30:=Lib.frozen_of_heap hR3 0
   have r31:w3.cell? ⟨w.heap.size,1,none⟩=some (.string ⟨#[]⟩):=(Lib.cell_of_heap hR3 1).trans rfl
   have q31:=Lib.frozen_of_heap hR3 1
   have r32:w3.cell? ⟨w.heap.size,2,none⟩=some (.int .i64 0):=(Lib.cell_of_heap hR3 2).trans rfl
   have q32:=Lib.frozen_of_heap hR3 2
   have r33:w3.cell? ⟨w.heap.size,3,none⟩=some (.slice none 0 0):=(Lib.cell_of_heap hR3 3).trans rfl
   have q33:=Lib.frozen_of_heap hR3 3
   have hx3:w.heap.size < w3.heap.size:=(Array.getElem?_eq_some_iff.1 hR3).1
   have hpX:=hp3.beside (N:=w.heap.size) (Y:=((((w3.setCell ⟨w.heap.size,0,none⟩ (.int .i64 z1)).setCell ⟨w.heap.size,1,none⟩ (.string z2)).setCell ⟨w.heap.size,2,none⟩ (.int .i64 z3)).setCell ⟨w.heap.size,3,none⟩ (.slice z4 z5 z6))) (ch4_size _ _ (.int .i64 z1) (.string z2) (.int .i64 z3) (.slice z4 z5 z6)) (fun j hj=>ch4_else hj (.int .i64 z1) (.string z2) (.int .i64 z3) (.slice z4 z5 z6)) hn1 (fun hn g hg=>by have:=HGT.out hn g hg;omega)
   have HM:=Lib.hid (more_any _ b A c ts k 0 hpX)
   rw [hkd] at HM
   have HR3:=Lib.hid hR3
   have HE3:=Lib.hid hE3
   have HF3:=Lib.hid (HF2.out.trans hf3)
   clear hR3 hE3 hpX hv3 hp3 hf3 hkd
   go_wp2_with fail
   go_at_call 94
   refine HM.out.mono ?_
   rintro e X ⟨rfl,q,hX⟩
   have hfX:PFr b w X:=by rw [hX];exact (HF3.out.ch4 (Nat.le_refl _) (.int .i64 z1) (.string z2) (.int .i64 z3) (.slice z4 z5 z6)).drewN q
   have hRX:X.heap[w.heap.size]?=some (.cells #[.int .i64 z1,.string z2,.int .i64 z3,.slice z4 z5 z6] 28 (0,0)):=by rw [hX];exact ch4_blk HR3.out rfl (.int .i64 z1) (.string z2) (.int .i64 z3) (.slice z4 z5 z6)
   have hEX:X.heap[w.heap.size+1]?=some (.cells #[.nilIface] 49 (0,0)):=by rw [hX];exact (ch4_else (by simp) (.int .i64 z1) (.string z2) (.int .i64 z3) (.slice z4 z5 z6)).trans HE3.out
   clear hX
   have hcs:=(HP.out.move hfX).syn
   have hgs:=World.block_lt_of_cell? _ _ hcs
   go_wp2_with fail
   refine leaves_cons (f:=108) (args:=#[.pointer (some ⟨w.heap.size,0,none⟩),.pointer (some ⟨w.heap.size+1,0,none⟩)]) (by simp) (by simp [go_sem]) ?_
   refine (catchTe w.heap.size (w.heap.size+1) _ _ _ _ _ (f 2) [] X hRX hEX (by simp)).mono ?_
   rintro e u' w4 ⟨rfl,rfl,hR4,hE4,hf4⟩
   exact ⟨.tuple #[.agg #[.int .i64 0,.string ⟨#[]⟩,.int .i64 0,.slice none 0 0],errP (f 2)],results_two Tryz.results85 _ _ ⟨w.heap.size,0,none⟩ ⟨w.heap.size+1,0,none⟩ _ _ rfl rfl (load_term hR4) (load_err hE4),_,_,rfl,hfX.fr2 hf4 (Nat.le_refl _) (Nat.le_succ _),by first | (rw [hfin];exact ⟨rfl,rfl⟩) | (rw [hrd,hfin];exact ⟨rfl,rfl⟩)⟩
  ·have hkd:decide (k < ts.length)=false:=by simpa using hk
   have hfin:endO ts.length (Out.ok x k)=.ok x k:=if_neg hk
   go_wp2_with fail
   go_at_call 86
   refine (HRD.out _ A c HPA.out (HP.out.move HF2.out)).mono ?_
   rintro e w3 ⟨v3,rfl,hv3,hp3,hf3⟩
   obtain ⟨z1,z2,z3,z4,z5,z6,rfl⟩:=hT _ _ _ _ _ hv3
   have hl1:=HS2.out
   have hR3:=(hf3.block w.heap.size (by omega) hn3).trans HRb.out
   have hE3:=(hf3.block (w.heap.size+1) (by omega) hn4).trans HEb.out
   have r30:w3.cell? ⟨w.heap.size,0,none⟩=some (.int .i64 0):=(Lib.cell_of_heap hR3 0).trans rfl
   have q30:=Lib.frozen_of_heap hR3 0
   have r31:w3.cell? ⟨w.heap.size,1,none⟩=some (.string ⟨#[]⟩):=(Lib.cell_of_heap hR3 1).trans rfl
   have q31:=Lib.frozen_of_heap hR3 1
   have r32:w3.cell? ⟨w.heap.size,2,none⟩=some (.int .i64 0):=(Lib.cell_of_heap hR3 2).trans rfl
   have q32:=Lib.frozen_of_heap hR3 2
   have r33:w3.cell? ⟨w.heap.size,3,none⟩=some (.slice none 0 0):=(Lib.cell_of_heap hR3 3).trans rfl
   have q33:=Lib.frozen_of_heap hR3 3
   have hx3:w.heap.size < w3.heap.size:=(Array.getElem?_eq_some_iff.1 hR3).1
   have hpX:=hp3.beside (N:=w.heap.size) (Y:=((((w3.setCell ⟨w.heap.size,0,none⟩ (.int .i64 z1)).setCell ⟨w.heap.size,1,none⟩ (.string z2)).setCell ⟨w.heap.size,2,none⟩ (.int .i64 z3)).setCell ⟨w.heap.size,3,none⟩ (.slice z4 z5 z6))) (ch4_size _ _ (.int .i64 z1) (.string z2) (.int .i64 z3) (.slice z4 z5 z6)) (fun j hj=>ch4_else hj (.int .i64 z1) (.string z2) (.int .i64 z3) (.slice z4 z5 z6)) hn1 (fun hn g hg=>by have:=HGT.out hn g hg;omega)
   have HM:=Lib.hid (more_any _ b A c ts k 0 hpX)
   rw [hkd] at HM
   have HR3:=Lib.hid hR3
   have HE3:=Lib.hid hE3
   have HF3:=Lib.hid (HF2.out.trans hf3)
   have HV3:=Lib.hid hv3
   have hs3:=hf3.size
   clear hR3 hE3 hpX hv3 hp3 hf3 hkd
   go_wp2_with fail
   go_at_call 94
   refine HM.out.mono ?_
   rintro e X ⟨rfl,q,hX⟩
   have hfX:PFr b w X:=by rw [hX];exact (HF3.out.ch4 (Nat.le_refl _) (.int .i64 z1) (.string z2) (.int .i64 z3) (.slice z4 z5 z6)).drewN q
   have hRX:X.heap[w.heap.size]?=some (.cells #[.int .i64 z1,.string z2,.int .i64 z3,.slice z4 z5 z6] 28 (0,0)):=by rw [hX];exact ch4_blk HR3.out rfl (.int .i64 z1) (.string z2) (.int .i64 z3) (.slice z4 z5 z6)
   have hEX:X.heap[w.heap.size+1]?=some (.cells #[.nilIface] 49 (0,0)):=by rw [hX];exact (ch4_else (by simp) (.int .i64 z1) (.string z2) (.int .i64 z3) (.slice z4 z5 z6)).trans HE3.out
   have hsX:X.heap.size=w3.heap.size:=by rw [hX];exact ch4_size _ _ (.int .i64 z1) (.string z2) (.int .i64 z3) (.slice z4 z5 z6)
   have hoX:∀ j,j ≠ w.heap.size→X.heap[j]?=w3.heap[j]?:=by rw [hX];exact fun j hj=>ch4_else hj (.int .i64 z1) (.string z2) (.int .i64 z3) (.slice z4 z5 z6)
   clear hX
   have rX0:X.cell? ⟨w.heap.size,0,none⟩=some (.int .i64 z1):=(Lib.cell_of_heap hRX 0).trans rfl
   have qX0:=Lib.frozen_of_heap hRX 0
   have rX1:X.cell? ⟨w.heap.size,1,none⟩=some (.string z2):=(Lib.cell_of_heap hRX 1).trans rfl
   have qX1:=Lib.frozen_of_heap hRX 1
   have rX2:X.cell? ⟨w.heap.size,2,none⟩=some (.int .i64 z3):=(Lib.cell_of_heap hRX 2).trans rfl
   have qX2:=Lib.frozen_of_heap hRX 2
   have rX3:X.cell? ⟨w.heap.size,3,none⟩=some (.slice z4 z5 z6):=(Lib.cell_of_heap hRX 3).trans rfl
   have qX3:=Lib.frozen_of_heap hRX 3
   have eX0:X.cell? ⟨w.heap.size+1,0,none⟩=some .nilIface:=(Lib.cell_of_heap hEX 0).trans rfl
   have eX1:=Lib.frozen_of_heap hEX 0
   have hx1:w.heap.size+1 < X.heap.size:=(Array.getElem?_eq_some_iff.1 hEX).1
   have hx2:w.heap.size < X.heap.size:=by omega
   have HRX:=Lib.hid hRX
   have HEX:=Lib.hid hEX
   have HFX:=Lib.hid hfX
   clear hRX hEX hfX
   go_wp2_with fail
   refine leaves_cons (f:=108) (args:=#[.pointer (some ⟨w.heap.size,0,none⟩),.pointer (some ⟨w.heap.size+1,0,none⟩)]) (by simp) (by simp [go_sem]) ?_
   refine (idleTe w.heap.size (w.heap.size+1) _).mono ?_
   rintro e u' w4 ⟨rfl,rfl,rfl⟩
   refine ⟨.tuple #[.agg #[.int .i64 z1,.string z2,.int .i64 z3,.slice z4 z5 z6],.nilIface],results_two Tryz.results85 _ _ ⟨w.heap.size,0,none⟩ ⟨w.heap.size+1,0,none⟩ _ _ rfl rfl (load_term ?_) (load_err (T:=49) ?_),_,_,rfl,?_,?_⟩
   ·exact (Below.heap_setCell _ ⟨w.heap.size+1,0,none⟩ _ w.heap.size (by simp)).trans (ch4_blk HRX.out rfl (.int .i64 z1) (.string z2) (.int .i64 z3) (.slice z4 z5 z6))
   ·exact blk_put _ (w.heap.size+1) 0 .nilIface ((ch4_else (w:=X) (N:=w.heap.size) (j:=w.heap.size+1) (by simp) (.int .i64 z1) (.string z2) (.int .i64 z3) (.slice z4 z5 z6)).trans HEX.out) (by show 0 < 1;decide)
   ·exact (HFX.out.ch4 (Nat.le_refl _) (.int .i64 z1) (.string z2) (.int .i64 z3) (.slice z4 z5 z6)).putNew (Nat.le_succ _) 0 .nilIface
   ·first | rw [hfin] | rw [hrd,hfin]
    refine ⟨rfl,?_⟩
    refine hW _ _ _ _ _ _ _ (hV _ _ _ _ _ (World.setCell ((((X.setCell ⟨w.heap.size,0,none⟩ (.int .i64 z1)).setCell ⟨w.heap.size,1,none⟩ (.string z2)).setCell ⟨w.heap.size,2,none⟩ (.int .i64 z3)).setCell ⟨w.heap.size,3,none⟩ (.slice z4 z5 z6)) ⟨w.heap.size+1,0,none⟩ .nilIface) HV3.out (fun j j1 j2=>?_)) (by omega) ?_
    ·exact (Below.heap_setCell _ ⟨w.heap.size+1,0,none⟩ _ j (by show j ≠ w.heap.size+1;omega)).trans ((ch4_else (w:=X) (N:=w.heap.size) (by omega) (.int .i64 z1) (.string z2) (.int .i64 z3) (.slice z4 z5 z6)).trans (hoX j (by omega)))
    ·have h8:(World.setCell ((((X.setCell ⟨w.heap.size,0,none⟩ (.int .i64 z1)).setCell ⟨w.heap.size,1,none⟩ (.string z2)).setCell ⟨w.heap.size,2,none⟩ (.int .i64 z3)).setCell ⟨w.heap.size,3,none⟩ (.slice z4 z5 z6)) ⟨w.heap.size+1,0,none⟩ .nilIface).heap.size=X.heap.size:=by
      rw [← ch4_size X w.heap.size (.int .i64 z1) (.string z2) (.int .i64 z3) (.slice z4 z5 z6)]
      generalize ((((X.setCell ⟨w.heap.size,0,none⟩ (.int .i64 z1)).setCell ⟨w.heap.size,1,none⟩ (.string z2)).setCell ⟨w.heap.size,2,none⟩ (.int .i64 z3)).setCell ⟨w.heap.size,3,none⟩ (.slice z4 z5 z6))=Y
      simp [World.setCell]
     exact Nat.le_of_eq (hsX.symm.trans h8.symm)
end Lx
end Go.Proofs.YtiljemkglhloeaaGreatDoor
namespace Go.Proofs.YtiljemkglhloeaaGreatDoor
set_option linter.unusedSimpArgs false
set_option linter.unusedVariables false
namespace Lx
open Go Go.RowKit
theorem wholeTe_any {α:Type} (b:Nat) (s:ByteArray) (w:World) (hE:Env w) (f:Nat→Addr) (hR:Errs w (errP (f 1)) (errP (f 3))) (hP:PErrs w b f) (hb:w.heap[b]?=some (.cells #[.slice none 0 0,.int .i64 0,.int .i64 0] 111 (0,0))) (V:Holds α) (hV:Stable V) (hW:∀ x v lo hi lo' hi' w,V x v lo hi w→lo'≤lo→hi≤hi'→V x v lo' hi' w)
  (hT:∀ x v lo hi w,V x v lo hi w→∃ z1 z2 z3 z4 z5 z6,v=.agg #[.int .i64 z1,.string z2,.int .i64 z3,.slice z4 z5 z6]) (rd:List Tok→Out α)
  (HR:Hid (∀ w A c ts,Par w b A c ts 0 0→PErrs w b f→Calls Tryz.prog 86 #[.pointer (some ⟨b,0,none⟩)] w fun e w'=>EndsV b A c ts 0 f V w (rd ts) e w')) :
  Calls Tryz.prog 85 #[.pointer (some ⟨b,0,none⟩),.string s,.func (.func 86) #[.pointer (some ⟨b,0,none⟩)] #[]] w fun e w'=>∃ v er,e=.returned (.tuple #[v,er])∧PFr b w w'∧TextR f V (.agg #[.int .i64 0,.string ⟨#[]⟩,.int .i64 0,.slice none 0 0]) w w' v er (textO rd s):=by
 rcases Nat.lt_or_ge 16384 s.size with hs | hs
 ·rw [textO_large rd hs]
  refine (wholeTe_bad b s w hE f 1 _ hR hb (Lib.hid (fun w hE hR=>(lex_any s w hE _ _ hR).mono (fun e w' h=>?_)))).mono (fun e w' h=>⟨_,_,h.1,h.2,rfl,rfl⟩)
  rcases h with ⟨hb,h | h | h⟩
  ·exact ⟨h.2,hb⟩
  ·exact absurd hs (by omega)
  ·exact absurd hs (by omega)
 ·cases hw:whole s.data.toList with
  | false =>
   rw [textO_bad rd hs hw]
   refine (wholeTe_bad b s w hE f 3 _ hR hb (Lib.hid (fun w hE hR=>(lex_any s w hE _ _ hR).mono (fun e w' h=>?_)))).mono (fun e w' h=>⟨_,_,h.1,h.2,rfl,rfl⟩)
   rcases h with ⟨hb,h | h | h⟩
   ·exact absurd hs (by omega)
   ·exact ⟨h.2.2,hb⟩
   ·exact absurd (h.2.1.symm.trans hw) (by decide)
  | true =>
   rw [textO_good rd hs hw]
   refine wholeTe_good b s w hE f hR hP hb V hV hW hT rd (toks s.data.toList) (by have:=toks_len s.data.toList;have e:s.data.toList.length=s.size:=(by simp);omega) HR (Lib.hid (fun w hE hR=>(lex_any s w hE _ _ hR).mono (fun e w' h=>?_)))
   rcases h with ⟨hb,h | h | h⟩
   ·exact absurd hs (by omega)
   ·exact absurd (h.2.1.symm.trans hw) (by decide)
   ·obtain ⟨_,_,v,he,ho⟩:=h
    exact ⟨v,he,hb,ho⟩
set_option maxRecDepth 100000 in
set_option maxHeartbeats 2000000 in
theorem textTe_any (s:ByteArray) (w:World) (hE:Env w) (f:Nat→Addr) (h4:Errs4 w f) :
  Calls Tryz.prog 51 #[.string s] w fun e w'=>∃ v er,e=.returned (.tuple #[v,er])∧Below w.heap.size w w'∧TextR f (TermV 66) (.agg #[.int .i64 0,.string ⟨#[]⟩,.int .i64 0,.slice none 0 0]) w w' v er (textO (fun ts=>termO ts 66 0 0) s):=by
 have hmf:∀ (fn:Fn) (first cap:Array Value) (w:World),(Instr.makeFunc fn first cap).run Tryz.prog w=.ok (.func fn first cap) w:=fun _ _ _ _=>rfl
 have hw0:(w.alloc (.cells #[.int .i64 0,.string ⟨#[]⟩,.int .i64 0,.slice none 0 0] 28)).heap.size=w.heap.size+1:=by simp
 have hW0:Below w.heap.size w (w.alloc (.cells #[.int .i64 0,.string ⟨#[]⟩,.int .i64 0,.slice none 0 0] 28)):=(Below.refl _ w).alloc (Nat.le_refl _) _
 have hE0:=hE.below hW0
 have h40:=h4.below hW0
 have hW1:Below (w.alloc (.cells #[.int .i64 0,.string ⟨#[]⟩,.int .i64 0,.slice none 0 0] 28)).heap.size (w.alloc (.cells #[.int .i64 0,.string ⟨#[]⟩,.int .i64 0,.slice none 0 0] 28)) ((w.alloc (.cells #[.int .i64 0,.string ⟨#[]⟩,.int .i64 0,.slice none 0 0] 28)).alloc (.cells #[.slice none 0 0,.int .i64 0,.int .i64 0] 111)):=(Below.refl _ _).alloc (Nat.le_refl _) _
 have hw:=wholeTe_any (w.alloc (.cells #[.int .i64 0,.string ⟨#[]⟩,.int .i64 0,.slice none 0 0] 28)).heap.size s _ (hE0.below hW1) f ((h40.below hW1).errs) (h40.perrs _) (heap_alloc_new _ _) (TermV 66) (TermV.stable 66) (TermV.wide 66) (fun x v lo hi w h=>TermV.shape h) (fun ts=>termO ts 66 0 0) (Lib.hid (fun w2 A c ts h hE=>term_any _ A c ts f 65 0 (by decide) (by decide) (by decide) w2 0 h hE (Nat.zero_le _)))
 have hnew:=heap_alloc_new w (.cells #[.int .i64 0,.string ⟨#[]⟩,.int .i64 0,.slice none 0 0] 28)
 have HN:=Lib.hid hnew
 rw [hw0] at hw
 have HW:=Lib.hid hw
 clear hE h4 hW1 hE0 h40 hw hnew
 have HW0:=Lib.hid hW0
 clear hW0
 go_enter Tryz.func51,Tryz.ntmps51
 go_wp2_with fail
 go_at_call 85
 refine HW.out.mono ?_
 rintro e w2 ⟨v,er,rfl,hf,ht⟩
 have hN2:=(hf.block w.heap.size (by simp;omega) (by omega)).trans ((Below.heap_alloc _ _ _ (by simp)).trans HN.out)
 obtain ⟨z1,z2,z3,z4,z5,z6,rfl⟩:∃ z1 z2 z3 z4 z5 z6,v=.agg #[.int .i64 z1,.string z2,.int .i64 z3,.slice z4 z5 z6]:=by
  cases hq:textO (fun ts=>termO ts 66 0 0) s with
  | no i=>rw [hq] at ht;exact ⟨_,_,_,_,_,_,ht.1⟩
  | ok x k=>rw [hq] at ht;exact TermV.shape ht.2
 have HT:=Lib.hid ht
 have HF:=Lib.hid hf
 have HN2:=Lib.hid hN2
 have n0:w2.cell? ⟨w.heap.size,0,none⟩=some (.int .i64 0):=(Lib.cell_of_heap hN2 0).trans rfl
 have m0:=Lib.frozen_of_heap hN2 0
 have n1:w2.cell? ⟨w.heap.size,1,none⟩=some (.string ⟨#[]⟩):=(Lib.cell_of_heap hN2 1).trans rfl
 have m1:=Lib.frozen_of_heap hN2 1
 have n2:w2.cell? ⟨w.heap.size,2,none⟩=some (.int .i64 0):=(Lib.cell_of_heap hN2 2).trans rfl
 have m2:=Lib.frozen_of_heap hN2 2
 have n3:w2.cell? ⟨w.heap.size,3,none⟩=some (.slice none 0 0):=(Lib.cell_of_heap hN2 3).trans rfl
 have m3:=Lib.frozen_of_heap hN2 3
 have hlt:w.heap.size < w2.heap.size:=(Array.getElem?_eq_some_iff.1 hN2).1
 clear ht hf hN2 HW
 go_wp2_with fail
 have hX:=ch4_blk HN2.out rfl (.int .i64 z1) (.string z2) (.int .i64 z3) (.slice z4 z5 z6)
 have hXs:=ch4_size w2 w.heap.size (.int .i64 z1) (.string z2) (.int .i64 z3) (.slice z4 z5 z6)
 have hXo:=fun j (hj:j ≠ w.heap.size)=>ch4_else (w:=w2) hj (.int .i64 z1) (.string z2) (.int .i64 z3) (.slice z4 z5 z6)
 have hXw:=ch4_os w2 w.heap.size (.int .i64 z1) (.string z2) (.int .i64 z3) (.slice z4 z5 z6)
 refine bodyPost_ret (v:=.tuple #[.agg #[.int .i64 z1,.string z2,.int .i64 z3,.slice z4 z5 z6],er]) (results_cell_slot Tryz.results51 _ _ ⟨w.heap.size,0,none⟩ _ _ rfl rfl (load_term hX)) rfl ⟨_,_,rfl,?_,?_⟩
 ·refine ⟨hXw.1.trans HF.out.os,hXw.2.1.trans HF.out.tape,hXw.2.2.trans HF.out.output,?_,fun k hk=>(hXo k (Nat.ne_of_lt hk)).trans ((HF.out.block k (by simp;omega) (by omega)).trans ((Below.heap_alloc _ _ k (by simp;omega)).trans (Below.heap_alloc w _ k hk)))⟩
  exact Nat.le_trans (by have:=HF.out.size;simp at this;omega) (Nat.le_of_eq hXs.symm)
 ·exact HT.out.moved (TermV.stable 66) (TermV.wide 66) (fun j j1=>hXo j (by simp at j1;omega)) (by simp;omega) (Nat.le_of_eq hXs.symm)
end Lx
end Go.Proofs.YtiljemkglhloeaaGreatDoor
