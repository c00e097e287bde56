/- The contract of the reference's Term at every text: the term and 0, or no term and the error's number. No conditions. -/
/- Package data's Read and the reference's at every text: data, or the error. Conditions: the sixteen error variables hold pointers to cells of their own; strconv's table of powers of ten holds them. -/
/- The reference's Read at every text: data, or the error's number. No conditions. -/
import Derived.Test.YtiljemkglhloeaaGreatDoorRdr2
import Derived.Test.YtiljemkglhloeaaGreatDoorTextT
import Derived.Test.YtiljemkglhloeaaGreatDoorGxC
import Derived.Test.YtiljemkglhloeaaGreatDoorDxA
import Derived.Test.YtiljemkglhloeaaGreatDoorPBa
import Derived.Test.YtiljemkglhloeaaGreatDoorNum4
namespace Go.Proofs.YtiljemkglhloeaaGreatDoor
set_option linter.unusedSimpArgs false
set_option linter.unusedVariables false
namespace Lx
open Go Go.RowKit
theorem PFr.jump {n B:Nat} {w x y:World} (hn:n=w.heap.size) (h:PFr n w x) (h2:PFr B x y) (hB:n≤B):PFr n w y :=
 ⟨h2.os.trans h.os,h2.tape.trans h.tape,h2.output.trans h.output,Nat.le_trans h.size h2.size,fun k hk hk2=>(h2.block k (Nat.lt_of_lt_of_le hk h.size) (by omega)).trans (h.block k hk hk2)⟩
theorem Cont.pull {α β:Type} {OT:Out β} {er:Int} {P:α→Prop} (a:α) (h:Cont OT er (∃ x,P x)):∃ x,Cont OT er (P x):=by
 rcases h with ⟨e,x,hx⟩ | h
 ·exact ⟨x,.inl ⟨e,hx⟩⟩
 ·exact ⟨a,.inr h⟩
theorem below_of_pfrN {w x:World} (h:PFr w.heap.size w x):Below w.heap.size w x :=
 ⟨h.os,h.tape,h.output,h.size,fun k hk=>h.block k hk (Nat.ne_of_lt hk)⟩
/-- What the reference's reading of a whole text returns. -/
def PartR {α:Type} (V:Holds α) (zero:Value) (w w':World) (v:Value) (n:Int):Out α→Prop
 | .no i=>v=zero∧n=erN i
 | .ok x _=>n=0∧V x v w.heap.size w'.heap.size w'
theorem done_cont {α:Type} {ts:List Tok} {OT:Out α} {Q:α→Prop} {x:α} {k0 k:Nat} {er:Int} (hc:Cont OT er (Q x∧k0 < k∧(if k < ts.length then .no 2 else .ok x k)=OT)):Cont OT (doneE ts k er) (Q x∧.ok x k=OT):=by
 rcases hc with ⟨rfl,g1,_,g2⟩ | ⟨i,rfl,h⟩
 ·unfold doneE
  by_cases hk:k < ts.length
  ·rw [if_pos ⟨rfl,hk⟩]
   rw [if_pos hk] at g2
   exact .inr ⟨2,rfl,g2.symm⟩
  ·rw [if_neg (fun q=>hk q.2)]
   rw [if_neg hk] at g2
   exact .inl ⟨rfl,g1,g2⟩
 ·unfold doneE
  rw [if_neg (fun q=>erN_ne i q.1)]
  exact .inr ⟨i,rfl,h⟩
set_option maxRecDepth 100000 in
set_option maxHeartbeats 4000000 in
theorem refTerm_any (s:ByteArray) (w:World) :
  Calls Tryz.prog 54 #[.string s] w fun e w'=>∃ v n,e=.returned (.tuple #[v,.int .i64 n])∧Below w.heap.size w w'∧PartR (TermV 66) (.agg #[.int .i64 0,.string ⟨#[]⟩,.int .i64 0,.slice none 0 0]) w w' v n (textO (fun ts=>termO ts 66 0 0) s):=by
 have HL:=Lib.hid (rread_any s (w.alloc (.cells #[.int .i64 0,.string ⟨#[]⟩,.int .i64 0,.slice none 0 0] 28)))
 obtain ⟨OT,hOT⟩:∃ OT,OT=textO (fun ts=>termO ts 66 0 0) s:=⟨_,rfl⟩
 rw [← hOT]
 go_enter Tryz.func54,Tryz.ntmps54
 go_wp2_with fail
 go_at_call 89
 refine HL.out.mono ?_
 rintro e w1 ⟨B,A,c,ts,er,rfl,hB,hp1,hb1,hwf,hc1⟩
 have hc2:=hc1 (fun ts=>termO ts 66 0 0)
 rw [← hOT] at hc2
 have hB1:w.heap.size+1≤B:=by simpa using hB
 have HB:Hid (w.heap.size+1≤B):=Lib.hid hB1
 have HBL:Hid (B < w1.heap.size):=Lib.hid hp1.lt
 have HC:=Lib.hid ((rterm_genc B A c ts hwf 0 (by decide) (by decide)).cont (termO_fwd ts 66 0) TermV.sh hp1 (Nat.zero_le _) hc2)
 have HZ1:=Lib.hid ((hb1.block w.heap.size (by simp)).trans (heap_alloc_new w (.cells #[.int .i64 0,.string ⟨#[]⟩,.int .i64 0,.slice none 0 0] 28)))
 have HF1:Hid (PFr w.heap.size w w1):=Lib.hid (PFr.jump rfl ((PFr.refl w.heap.size w).alloc (.cells #[.int .i64 0,.string ⟨#[]⟩,.int .i64 0,.slice none 0 0] 28)) (pfr_of_below hb1) (by simp))
 clear hB hp1 hb1 hwf hc1 hc2 hOT HL hB1
 go_wp2_with fail
 go_at_call 90
 refine HC.out.mono ?_
 rintro e w2 ⟨v2,k2,er2,rfl,⟨y1,y2,y3,y4,y5,y6,rfl⟩,hk2,hp2,hf2,hc3⟩
 obtain ⟨x2,hc3⟩:=Cont.pull zeroT hc3
 have hc4:=done_cont (ts:=ts) (Q:=fun x=>TermV 66 x (.agg #[.int .i64 y1,.string y2,.int .i64 y3,.slice y4 y5 y6]) w1.heap.size w2.heap.size w2) hc3
 have HC4:=Lib.hid hc4
 have HDN:=Lib.hid (rdone_any (w2.alloc (.cells #[.int .i64 y1,.string y2,.int .i64 y3,.slice y4 y5 y6] 28)) B A c ts k2 er2 (hp2.alloc _))
 have HF2:=Lib.hid hf2
 have HS2:Hid (w1.heap.size≤w2.heap.size):=Lib.hid hf2.size
 clear hk2 hp2 hf2 hc3 hc4 HC
 generalize doneE ts k2 er2=er3 at *
 go_wp2_with fail
 go_at_call 91
 refine HDN.out.mono ?_
 rintro e w3 ⟨rfl,hp3,hf3⟩
 have HS3:Hid (w2.heap.size+1≤w3.heap.size):=Lib.hid (by have:=hf3.size;simpa using this)
 have hlt:w.heap.size < w3.heap.size:=by have:=HS3.out;have:=HS2.out;have:=HB.out;have:=HBL.out;omega
 have hnB:¬ B=w.heap.size:=by have:=HB.out;omega
 have hnB2:¬ w.heap.size=B:=by have:=HB.out;omega
 have hz:=(hf3.block w.heap.size (by have:=HS2.out;have:=HB.out;have:=HBL.out;simp;omega) (by have:=HB.out;omega)).trans ((Below.heap_alloc w2 _ w.heap.size (by have:=HS2.out;have:=HB.out;have:=HBL.out;omega)).trans ((HF2.out.block w.heap.size (by have:=HB.out;have:=HBL.out;omega) (by have:=HB.out;omega)).trans HZ1.out))
 have hbx:=(hf3.block w2.heap.size (by simp) (by have:=HS2.out;have:=HBL.out;omega)).trans (heap_alloc_new w2 (.cells #[.int .i64 y1,.string y2,.int .i64 y3,.slice y4 y5 y6] 28))
 have HF3:Hid (PFr w.heap.size w w3):=Lib.hid (PFr.jump rfl (PFr.jump rfl HF1.out HF2.out (by have:=HB.out;omega)) (((PFr.refl B w2).alloc _).trans hf3) (by have:=HB.out;omega))
 have HH3:Hid (∀ j,j < w2.heap.size→j ≠ B→w3.heap[j]?=w2.heap[j]?):=Lib.hid (fun j j1 j2=>(hf3.block j (by simp;omega) j2).trans (Below.heap_alloc w2 _ j j1))
 have cz0:=(Lib.cell_of_heap hz 0).trans rfl
 have fz0:=Lib.frozen_of_heap hz 0
 have cz1:=(Lib.cell_of_heap hz 1).trans rfl
 have fz1:=Lib.frozen_of_heap hz 1
 have cz2:=(Lib.cell_of_heap hz 2).trans rfl
 have fz2:=Lib.frozen_of_heap hz 2
 have cz3:=(Lib.cell_of_heap hz 3).trans rfl
 have fz3:=Lib.frozen_of_heap hz 3
 have cb0:=(Lib.cell_of_heap hbx 0).trans rfl
 have cb1:=(Lib.cell_of_heap hbx 1).trans rfl
 have cb2:=(Lib.cell_of_heap hbx 2).trans rfl
 have cb3:=(Lib.cell_of_heap hbx 3).trans rfl
 have HZ3:=Lib.hid hz
 by_cases hz3:er3=0
 ·subst hz3
  clear hz hbx hp3 hf3 HDN
  go_wp2_with fail
  have hX:=ch4_blk HZ3.out rfl (.int .i64 y1) (.string y2) (.int .i64 y3) (.slice y4 y5 y6)
  have hXs:=ch4_size w3 w.heap.size (.int .i64 y1) (.string y2) (.int .i64 y3) (.slice y4 y5 y6)
  have hXo:=fun j (hj:j ≠ w.heap.size)=>ch4_else (w:=w3) hj (.int .i64 y1) (.string y2) (.int .i64 y3) (.slice y4 y5 y6)
  have hXf:=PFr.ch4 HF3.out (Nat.le_refl _) (.int .i64 y1) (.string y2) (.int .i64 y3) (.slice y4 y5 y6)
  refine bodyPost_ret (v:=.tuple #[.agg #[.int .i64 y1,.string y2,.int .i64 y3,.slice y4 y5 y6],.int .i64 0]) (results_cell_slot Tryz.results54 _ _ ⟨w.heap.size,0,none⟩ _ _ rfl rfl (load_term hX)) rfl ⟨_,_,rfl,below_of_pfrN hXf,?_⟩
  obtain ⟨g1,g2⟩:=HC4.out.ok
  rw [← g2]
  refine ⟨rfl,(TermV.wide 66 _ _ _ _ _ _ _ (TermV.stable 66 _ _ _ _ _ _ g1 (fun j j1 j2=>(hXo j ?_).trans (HH3.out j j2 ?_))) ?_ ?_)⟩
  ·have:=HB.out;have:=HBL.out;omega
  ·have:=HB.out;have:=HBL.out;omega
  ·have:=HB.out;have:=HBL.out;omega
  ·rw [hXs];have:=HS3.out;omega
 ·have c2:=hp3.c2
  have hne:(er3 != 0)=true:=by simpa using hz3
  obtain ⟨i,he,hO⟩:=HC4.out.err hz3
  have HEI:=Lib.hid he
  have HOI:=Lib.hid hO
  clear hz hbx hp3 hf3 HDN hz3 he hO
  go_wp2_with fail
  go_region
  all_goals go_wp2
  all_goals
   refine bodyPost_ret (v:=.tuple #[.agg #[.int .i64 0,.string ⟨#[]⟩,.int .i64 0,.slice none 0 0],.int .i64 er3]) (results_cell_slot Tryz.results54 _ _ ⟨w.heap.size,0,none⟩ _ _ rfl rfl (load_term (by rw [drew_heap];exact ch4_blk HZ3.out rfl (.int .i64 0) (.string ⟨#[]⟩) (.int .i64 0) (.slice none 0 0)))) rfl ⟨_,_,rfl,below_of_pfrN (PFr.drew (PFr.ch4 HF3.out (Nat.le_refl _) (.int .i64 0) (.string ⟨#[]⟩) (.int .i64 0) (.slice none 0 0))),?_⟩
   rw [HOI.out]
   exact ⟨rfl,HEI.out⟩
end Lx
end Go.Proofs.YtiljemkglhloeaaGreatDoor
namespace Go.Proofs.YtiljemkglhloeaaGreatDoor
set_option linter.unusedSimpArgs false
set_option linter.unusedVariables false
namespace Lx
open Go Go.RowKit
/-- What a text comes to: an error's place; data's error; data. -/
inductive RdO where
 | no (i:Nat)
 | data
 | ok (x:DaT)
def readO (s:ByteArray):RdO:=match textO rdTe s with
 | .no i=>.no i
 | .ok t _=>if opT t=true then .data else if goodD (daOf t)=true then .ok (daOf t) else .no 1
def zeroDa:Value:=.agg #[.bool false,.int .i64 0,.string ⟨#[]⟩,.slice none 0 0]
def RdO.err (f:Nat→Addr):RdO→Value
 | .no i=>errP (four f i)
 | .data=>errP (f 9)
 | .ok _=>.nilIface
def RdO.num:RdO→Int
 | .no i=>erN i
 | .data=>10
 | .ok _=>0
def RdO.held (w:World) (v:Value) (w':World):RdO→Prop
 | .ok x=>DaE (fun j=>j < w.heap.size) x v w'
 | _=>v=zeroDa
theorem textTe_both {f:Nat→Addr} {w w':World} {v er:Value} {s:ByteArray} (h:TextR f (TermV 66) (.agg #[.int .i64 0,.string ⟨#[]⟩,.int .i64 0,.slice none 0 0]) w w' v er (textO rdTe s)):(∃ a1 a2 a3 a4 a5 a6,v=.agg #[.int .i64 a1,.string a2,.int .i64 a3,.slice a4 a5 a6])∧((∃ i,textO rdTe s=.no i∧er=errP (f i)) ∨ ∃ x k,textO rdTe s=.ok x k∧er=.nilIface∧TermV 66 x v w.heap.size w'.heap.size w'):=by
 cases ho:textO rdTe s with
 | no i =>
  rw [ho] at h
  obtain ⟨rfl,rfl⟩:=h
  exact ⟨⟨_,_,_,_,_,_,rfl⟩,.inl ⟨i,rfl,rfl⟩⟩
 | ok x k =>
  rw [ho] at h
  obtain ⟨rfl,hv⟩:=h
  exact ⟨TermV.this 66 _ _ _ _ _ hv,.inr ⟨x,k,rfl,rfl,hv⟩⟩
theorem term_B {s:ByteArray} {t:TermT} {k:Nat} (h:textO rdTe s=.ok t k):termB 66 0 t:=by
 obtain ⟨h1,h2,h3⟩:=text_open h
 exact termO_B (fun t ht=>toks_good ht) 66 0 _ _ _ h2
theorem neqP_nil (a:Addr) (W:World):(binOp .neq 49 (errP a) .nilIface).run Tryz.prog W=.ok (.bool true) W:=by
 first | (go_simp;done) | kernel_rfl | rfl
theorem neqN_nil (W:World):(binOp .neq 49 .nilIface .nilIface).run Tryz.prog W=.ok (.bool false) W:=by
 first | (go_simp;done) | kernel_rfl | rfl
set_option maxRecDepth 100000 in
set_option maxHeartbeats 8000000 in
theorem dread_any (s:ByteArray) (w:World) (hE:Env w) (f:Nat→Addr) (hS:Sents w f) :
  Calls Tryz.prog 27 #[.string s] w fun e w'=>∃ v,e=.returned (.tuple #[v,(readO s).err f])∧Below w.heap.size w w'∧(readO s).held w v w':=by
 have hb0:=below_alloc w (.cells #[.bool false,.int .i64 0,.string ⟨#[]⟩,.slice none 0 0] 46)
 have HB0:=Lib.hid hb0
 have HX0:=Lib.hid (heap_alloc_new w (.cells #[.bool false,.int .i64 0,.string ⟨#[]⟩,.slice none 0 0] 46))
 have HS:=Lib.hid hS
 have HT:=Lib.hid (textTe_any s (w.alloc (.cells #[.bool false,.int .i64 0,.string ⟨#[]⟩,.slice none 0 0] 46)) (hE.below hb0) (four f) (hS.below hb0).four)
 have HSZ:Hid ((w.alloc (.cells #[.bool false,.int .i64 0,.string ⟨#[]⟩,.slice none 0 0] 46)).heap.size=w.heap.size+1):=Lib.hid (by simp)
 clear hE hS hb0
 go_enter Tryz.func27,Tryz.ntmps27
 go_wp2_with fail
 go_at_call 51
 refine HT.out.mono ?_
 rintro e w2 ⟨v,er,rfl,hb,ht⟩
 obtain ⟨⟨a1,a2,a3,a4,a5,a6,rfl⟩,h2⟩:=textTe_both ht
 have HB2:=Lib.hid (HB0.out.trans (hb.mono HB0.out.size))
 have HX2:=Lib.hid ((hb.block _ (Array.getElem?_eq_some_iff.1 HX0.out).1).trans HX0.out)
 have HZ2:=Lib.hid hb.size
 clear hb ht HT HX0 HB0
 obtain ⟨N0,hN0⟩:∃ N0,w.heap.size=N0:=⟨_,rfl⟩
 have HN0:=Lib.hid hN0
 rw [hN0] at HX2
 try rw [hN0]
 clear hN0
 have HB3:=Lib.hid (HB2.out.trans ((below_alloc w2 (.cells #[.int .i64 a1,.string a2,.int .i64 a3,.slice a4 a5 a6] 28)).mono HB2.out.size))
 have HX3:=Lib.hid (((below_alloc w2 (.cells #[.int .i64 a1,.string a2,.int .i64 a3,.slice a4 a5 a6] 28)).block _ (Array.getElem?_eq_some_iff.1 HX2.out).1).trans HX2.out)
 have HT3:=Lib.hid (heap_alloc_new w2 (.cells #[.int .i64 a1,.string a2,.int .i64 a3,.slice a4 a5 a6] 28))
 have HS3:=Lib.hid (HS.out.below HB3.out)
 have HN2:Hid (N0+1≤w2.heap.size):=Lib.hid (by have:=HZ2.out;have:=HSZ.out;have:=HN0.out;omega)
 have HVT:Hid (∀ x k,textO rdTe s=.ok x k→TermV 66 x (.agg #[.int .i64 a1,.string a2,.int .i64 a3,.slice a4 a5 a6]) (w.alloc (.cells #[.bool false,.int .i64 0,.string ⟨#[]⟩,.slice none 0 0] 46)).heap.size w2.heap.size w2→TmW 66 (fun j=>j < N0+1) x (.agg #[.int .i64 a1,.string a2,.int .i64 a3,.slice a4 a5 a6]) (w2.alloc (.cells #[.int .i64 a1,.string a2,.int .i64 a3,.slice a4 a5 a6] 28))):=Lib.hid (fun x k _ hv=>(TmW.step 66).below (TmW.ofV 66 hv (fun j h1 _=>by have:=HSZ.out;have:=HN0.out;omega)) (below_alloc _ _))
 rcases h2 with ⟨i,ho,rfl⟩ | ⟨x,k,ho,rfl,hv⟩
 ·have HO:Hid (readO s=.no i):=Lib.hid (by unfold readO;rw [ho])
  have hq:=neqP_nil (four f i)
  clear ho HVT
  go_upto_region 2 with fail
  generalize w2.alloc (.cells #[.int .i64 a1,.string a2,.int .i64 a3,.slice a4 a5 a6] 28)=W3 at HB3 HX3 HT3 HS3 ⊢
  have x0:=(cellH HX3.out 0).trans rfl
  have x1:=(cellH HX3.out 1).trans rfl
  have x2:=(cellH HX3.out 2).trans rfl
  have x3:=(cellH HX3.out 3).trans rfl
  have f0:=frozenH HX3.out 0
  have f1:=frozenH HX3.out 1
  have f2:=frozenH HX3.out 2
  have f3:=frozenH HX3.out 3
  go_wp2_with fail
  have hp4:=put4F (.bool false) (.int .i64 0) (.string ⟨#[]⟩) (.slice none 0 0) HX3.out
  have hk4:=kput4 W3 N0 (.bool false) (.int .i64 0) (.string ⟨#[]⟩) (.slice none 0 0)
  have c0:=(cellH hp4 0).trans rfl
  have c1:=(cellH hp4 1).trans rfl
  have c2:=(cellH hp4 2).trans rfl
  have c3:=(cellH hp4 3).trans rfl
  exact bodyPost_ret (v:=.tuple #[zeroDa,errP (four f i)]) (by simp [results,Tryz.results27,go_sem,c0,c1,c2,c3,zeroDa]) rfl ⟨zeroDa,by rw [HO.out];rfl,HB3.out.trans (hk4.below HB3.out.size (fun j e=>by have:=HN0.out;omega)),by rw [HO.out];rfl⟩
 ·have HTB:=Lib.hid (term_B ho)
  have HTM:=Lib.hid (HVT.out x k ho hv)
  have HOO:=Lib.hid (show readO s=if opT x=true then .data else if goodD (daOf x)=true then .ok (daOf x) else .no 1 by unfold readO;rw [ho])
  have hq:=neqN_nil
  clear ho HVT hv
  go_upto_region 2 with fail
  have HN3:=Lib.hid (show N0+1 < (w2.alloc (.cells #[.int .i64 a1,.string a2,.int .i64 a3,.slice a4 a5 a6] 28)).heap.size by have:=HN2.out;simp;omega)
  generalize w2.alloc (.cells #[.int .i64 a1,.string a2,.int .i64 a3,.slice a4 a5 a6] 28)=W3 at HB3 HX3 HT3 HS3 HTM HN3 ⊢
  obtain ⟨N4,hN4⟩:∃ N4,w2.heap.size=N4:=⟨_,rfl⟩
  rw [hN4] at HT3 ⊢
  clear hN4
  have t0:=(cellH HT3.out 0).trans rfl
  have t1:=(cellH HT3.out 1).trans rfl
  have t2:=(cellH HT3.out 2).trans rfl
  have t3:=(cellH HT3.out 3).trans rfl
  go_wp2_with fail
  try go_at_call 52
  refine (open_any 66 _ x _ W3 HTM.out).mono ?_
  rintro e w4 ⟨rfl,hb4⟩
  have HB4:=Lib.hid (HB3.out.trans (hb4.mono HB3.out.size))
  have HX4:=Lib.hid ((hb4.block _ (Array.getElem?_eq_some_iff.1 HX3.out).1).trans HX3.out)
  have HT4:=Lib.hid ((hb4.block _ (Array.getElem?_eq_some_iff.1 HT3.out).1).trans HT3.out)
  have HS4:=Lib.hid (HS3.out.below hb4)
  have HTM4:=Lib.hid ((TmW.step 66).below HTM.out hb4)
  have HN44:Hid (N0+1 < w4.heap.size):=Lib.hid (by have:=HN3.out;have:=hb4.size;omega)
  clear hb4 t0 t1 t2 t3 hq
  cases ho:opT x
  ·rw [ho,if_neg (by decide)] at HOO
   clear ho
   have t0:=(cellH HT4.out 0).trans rfl
   have t1:=(cellH HT4.out 1).trans rfl
   have t2:=(cellH HT4.out 2).trans rfl
   have t3:=(cellH HT4.out 3).trans rfl
   go_wp2_with fail
   try go_at_call 53
   refine (dataOf_any 66 (fun j=>j < N0+1) x _ w4 HTM4.out (termB_few 66 0 x HTB.out) (fun k e=>by have:=HN44.out;omega)).mono ?_
   rintro e w5 ⟨v5,rfl,hv5,hb5⟩
   obtain ⟨A2,m2,r2,hve⟩:=hv5.this
   obtain ⟨cc,hcc⟩:∃ cc,(daOf x).ctor=cc:=⟨_,rfl⟩
   obtain ⟨zz,hzz⟩:∃ zz,(daOf x).int=zz:=⟨_,rfl⟩
   obtain ⟨ss,hss⟩:∃ ss,(daOf x).name=ss:=⟨_,rfl⟩
   rw [hcc,hzz,hss] at hve
   subst hve
   clear hcc hzz hss t0 t1 t2 t3
   have HB5:=Lib.hid (HB4.out.trans (hb5.mono HB4.out.size))
   have HX5:=Lib.hid ((hb5.block _ (Array.getElem?_eq_some_iff.1 HX4.out).1).trans HX4.out)
   have HS5:=Lib.hid (HS4.out.below hb5)
   have HN5:Hid (N0+1 < w5.heap.size):=Lib.hid (by have:=HN44.out;have:=hb5.size;omega)
   have hb6:=below_alloc w5 (.cells #[.bool cc,.int .i64 zz,.string ss,.slice A2 m2 r2] 46)
   have HB6:=Lib.hid (HB5.out.trans (hb6.mono HB5.out.size))
   have HX6:=Lib.hid ((hb6.block _ (Array.getElem?_eq_some_iff.1 HX5.out).1).trans HX5.out)
   have HS6:=Lib.hid (HS5.out.below hb6)
   have HV6:=Lib.hid ((DaW.step 66).below hv5 hb6)
   have HD6:=Lib.hid (heap_alloc_new w5 (.cells #[.bool cc,.int .i64 zz,.string ss,.slice A2 m2 r2] 46))
   have HN6:Hid (N0+1 < (w5.alloc (.cells #[.bool cc,.int .i64 zz,.string ss,.slice A2 m2 r2] 46)).heap.size):=Lib.hid (by have:=HN5.out;simp;omega)
   clear hb5 hv5 hb6
   go_upto_region 7 with fail
   generalize w5.alloc (.cells #[.bool cc,.int .i64 zz,.string ss,.slice A2 m2 r2] 46)=W6 at HB6 HX6 HS6 HV6 HD6 HN6 ⊢
   obtain ⟨N6,hN6⟩:∃ N6,w5.heap.size=N6:=⟨_,rfl⟩
   rw [hN6] at HD6 ⊢
   clear hN6
   have t0:=(cellH HD6.out 0).trans rfl
   have t1:=(cellH HD6.out 1).trans rfl
   have t2:=(cellH HD6.out 2).trans rfl
   have t3:=(cellH HD6.out 3).trans rfl
   go_wp2_with fail
   try go_at_call 18
   refine (good_any 66 _ (daOf x) _ W6 HV6.out).mono ?_
   rintro e w7 ⟨rfl,hb7⟩
   have HB7:=Lib.hid (HB6.out.trans (hb7.mono HB6.out.size))
   have HX7:=Lib.hid ((hb7.block _ (Array.getElem?_eq_some_iff.1 HX6.out).1).trans HX6.out)
   have HD7:=Lib.hid ((hb7.block _ (Array.getElem?_eq_some_iff.1 HD6.out).1).trans HD6.out)
   have HS7:=Lib.hid (HS6.out.below hb7)
   have HV7:=Lib.hid ((DaW.step 66).below HV6.out hb7)
   clear hb7 t0 t1 t2 t3
   cases hg:goodD (daOf x)
   ·rw [hg,if_neg (by decide)] at HOO
    clear hg
    have x0:=(cellH HX7.out 0).trans rfl;have y0:w7.drew.cell? ⟨N0,0,none⟩=_:=x0
    have x1:=(cellH HX7.out 1).trans rfl;have y1:w7.drew.cell? ⟨N0,1,none⟩=_:=x1
    have x2:=(cellH HX7.out 2).trans rfl;have y2:w7.drew.cell? ⟨N0,2,none⟩=_:=x2
    have x3:=(cellH HX7.out 3).trans rfl;have y3:w7.drew.cell? ⟨N0,3,none⟩=_:=x3
    have f0:=frozenH HX7.out 0;have g0:w7.drew.frozen? ⟨N0,0,none⟩=_:=f0
    have f1:=frozenH HX7.out 1;have g1:w7.drew.frozen? ⟨N0,1,none⟩=_:=f1
    have f2:=frozenH HX7.out 2;have g2:w7.drew.frozen? ⟨N0,2,none⟩=_:=f2
    have f3:=frozenH HX7.out 3;have g3:w7.drew.frozen? ⟨N0,3,none⟩=_:=f3
    have hgn:0 < N0:=by have h1:=World.block_lt_of_cell? w _ (HS.out.cell 3 (by omega));have:=HN0.out;have h2:0 < w.heap.size:=h1;omega
    have hga:¬ N0=0:=by omega
    have hgb:¬ 0=N0:=by omega
    have hgm:w7.cell? ⟨0,0,none⟩=some (errP (f 3)):=HS7.out.cell 3 (by omega)
    have hgl:w7.drew.cell? ⟨0,0,none⟩=some (errP (f 3)):=HS7.out.cell 3 (by omega)
    go_wp2_with fail
    go_region
    all_goals
     go_wp2_with fail
     have hp4:=put4F (.bool false) (.int .i64 0) (.string ⟨#[]⟩) (.slice none 0 0) HX7.out
     have hk4:=kput4 w7 N0 (.bool false) (.int .i64 0) (.string ⟨#[]⟩) (.slice none 0 0)
     have c0:=(cellH hp4 0).trans rfl
     have c1:=(cellH hp4 1).trans rfl
     have c2:=(cellH hp4 2).trans rfl
     have c3:=(cellH hp4 3).trans rfl
     exact bodyPost_ret (v:=.tuple #[zeroDa,errP (f 3)]) (by simp [results,Tryz.results27,go_sem,c0,c1,c2,c3,zeroDa]) rfl ⟨zeroDa,by rw [HOO.out];rfl,below_drw (HB7.out.trans (hk4.below HB7.out.size (fun j e=>by have:=HN0.out;omega))),by rw [HOO.out];rfl⟩
   ·rw [hg,if_pos rfl] at HOO
    clear hg
    have x0:=(cellH HX7.out 0).trans rfl
    have x1:=(cellH HX7.out 1).trans rfl
    have x2:=(cellH HX7.out 2).trans rfl
    have x3:=(cellH HX7.out 3).trans rfl
    have f0:=frozenH HX7.out 0
    have f1:=frozenH HX7.out 1
    have f2:=frozenH HX7.out 2
    have f3:=frozenH HX7.out 3
    have t0:=(cellH HD7.out 0).trans rfl
    have t1:=(cellH HD7.out 1).trans rfl
    have t2:=(cellH HD7.out 2).trans rfl
    have t3:=(cellH HD7.out 3).trans rfl
    go_wp2_with fail
    have hp4:=put4F (.bool cc) (.int .i64 zz) (.string ss) (.slice A2 m2 r2) HX7.out
    have hk4:=kput4 w7 N0 (.bool cc) (.int .i64 zz) (.string ss) (.slice A2 m2 r2)
    have c0:=(cellH hp4 0).trans rfl
    have c1:=(cellH hp4 1).trans rfl
    have c2:=(cellH hp4 2).trans rfl
    have c3:=(cellH hp4 3).trans rfl
    exact bodyPost_ret (v:=.tuple #[.agg #[.bool cc,.int .i64 zz,.string ss,.slice A2 m2 r2],.nilIface]) (by simp [results,Tryz.results27,go_sem,c0,c1,c2,c3]) rfl ⟨.agg #[.bool cc,.int .i64 zz,.string ss,.slice A2 m2 r2],by rw [HOO.out];rfl,HB7.out.trans (hk4.below HB7.out.size (fun j e=>by have:=HN0.out;omega)),by
     rw [HOO.out]
     exact ⟨66,DaW.step 66 _ _ _ _ _ _ HV7.out (hk4.wider (fun j _ e=>by show j < N0+1;omega)) (fun j _ e=>by have:=HN0.out;show j < N0+1;have e2:j < w.heap.size:=e;omega)⟩⟩
  ·rw [ho,if_pos rfl] at HOO
   clear ho
   have x0:=(cellH HX4.out 0).trans rfl;have y0:w4.drew.cell? ⟨N0,0,none⟩=_:=x0
   have x1:=(cellH HX4.out 1).trans rfl;have y1:w4.drew.cell? ⟨N0,1,none⟩=_:=x1
   have x2:=(cellH HX4.out 2).trans rfl;have y2:w4.drew.cell? ⟨N0,2,none⟩=_:=x2
   have x3:=(cellH HX4.out 3).trans rfl;have y3:w4.drew.cell? ⟨N0,3,none⟩=_:=x3
   have f0:=frozenH HX4.out 0;have g0:w4.drew.frozen? ⟨N0,0,none⟩=_:=f0
   have f1:=frozenH HX4.out 1;have g1:w4.drew.frozen? ⟨N0,1,none⟩=_:=f1
   have f2:=frozenH HX4.out 2;have g2:w4.drew.frozen? ⟨N0,2,none⟩=_:=f2
   have f3:=frozenH HX4.out 3;have g3:w4.drew.frozen? ⟨N0,3,none⟩=_:=f3
   have hgn:1 < N0:=by have h1:=World.block_lt_of_cell? w _ (HS.out.cell 9 (by omega));have:=HN0.out;have h2:1 < w.heap.size:=h1;omega
   have hga:¬ N0=1:=by omega
   have hgb:¬ 1=N0:=by omega
   have hgm:w4.cell? ⟨1,0,none⟩=some (errP (f 9)):=HS4.out.cell 9 (by omega)
   have hgl:w4.drew.cell? ⟨1,0,none⟩=some (errP (f 9)):=HS4.out.cell 9 (by omega)
   go_wp2_with fail
   go_region
   all_goals
    go_wp2_with fail
    have hp4:=put4F (.bool false) (.int .i64 0) (.string ⟨#[]⟩) (.slice none 0 0) HX4.out
    have hk4:=kput4 w4 N0 (.bool false) (.int .i64 0) (.string ⟨#[]⟩) (.slice none 0 0)
    have c0:=(cellH hp4 0).trans rfl
    have c1:=(cellH hp4 1).trans rfl
    have c2:=(cellH hp4 2).trans rfl
    have c3:=(cellH hp4 3).trans rfl
    exact bodyPost_ret (v:=.tuple #[zeroDa,errP (f 9)]) (by simp [results,Tryz.results27,go_sem,c0,c1,c2,c3,zeroDa]) rfl ⟨zeroDa,by rw [HOO.out];rfl,below_drw (HB4.out.trans (hk4.below HB4.out.size (fun j e=>by have:=HN0.out;omega))),by rw [HOO.out];rfl⟩
end Lx
end Go.Proofs.YtiljemkglhloeaaGreatDoor
namespace Go.Proofs.YtiljemkglhloeaaGreatDoor
set_option linter.unusedSimpArgs false
set_option linter.unusedVariables false
namespace Lx
open Go Go.RowKit
theorem partTe_both {w w':World} {v:Value} {n:Int} {s:ByteArray} (h:PartR (TermV 66) (.agg #[.int .i64 0,.string ⟨#[]⟩,.int .i64 0,.slice none 0 0]) w w' v n (textO rdTe s)):(∃ a1 a2 a3 a4 a5 a6,v=.agg #[.int .i64 a1,.string a2,.int .i64 a3,.slice a4 a5 a6])∧((∃ i,textO rdTe s=.no i∧n=erN i) ∨ ∃ x k,textO rdTe s=.ok x k∧n=0∧TermV 66 x v w.heap.size w'.heap.size w'):=by
 cases ho:textO rdTe s with
 | no i =>
  rw [ho] at h
  obtain ⟨rfl,rfl⟩:=h
  exact ⟨⟨_,_,_,_,_,_,rfl⟩,.inl ⟨i,rfl,rfl⟩⟩
 | ok x k =>
  rw [ho] at h
  obtain ⟨rfl,hv⟩:=h
  exact ⟨TermV.this 66 _ _ _ _ _ hv,.inr ⟨x,k,rfl,rfl,hv⟩⟩
set_option maxRecDepth 100000 in
set_option maxHeartbeats 8000000 in
theorem rdread_any (s:ByteArray) (w:World) :
  Calls Tryz.prog 28 #[.string s] w fun e w'=>∃ v,e=.returned (.tuple #[v,.int .i64 (readO s).num])∧Below w.heap.size w w'∧(readO s).held w v w':=by
 have hb0:=below_alloc w (.cells #[.bool false,.int .i64 0,.string ⟨#[]⟩,.slice none 0 0] 46)
 have HB0:=Lib.hid hb0
 have HX0:=Lib.hid (heap_alloc_new w (.cells #[.bool false,.int .i64 0,.string ⟨#[]⟩,.slice none 0 0] 46))
 have HT:=Lib.hid (refTerm_any s (w.alloc (.cells #[.bool false,.int .i64 0,.string ⟨#[]⟩,.slice none 0 0] 46)))
 have HSZ:Hid ((w.alloc (.cells #[.bool false,.int .i64 0,.string ⟨#[]⟩,.slice none 0 0] 46)).heap.size=w.heap.size+1):=Lib.hid (by simp)
 clear hb0
 go_enter Tryz.func28,Tryz.ntmps28
 go_wp2_with fail
 go_at_call 54
 refine HT.out.mono ?_
 rintro e w2 ⟨v,n,rfl,hb,ht⟩
 obtain ⟨⟨a1,a2,a3,a4,a5,a6,rfl⟩,h2⟩:=partTe_both ht
 have HB2:=Lib.hid (HB0.out.trans (hb.mono HB0.out.size))
 have HX2:=Lib.hid ((hb.block _ (Array.getElem?_eq_some_iff.1 HX0.out).1).trans HX0.out)
 have HZ2:=Lib.hid hb.size
 clear hb ht HT HX0 HB0
 obtain ⟨N0,hN0⟩:∃ N0,w.heap.size=N0:=⟨_,rfl⟩
 have HN0:=Lib.hid hN0
 rw [hN0] at HX2
 try rw [hN0]
 clear hN0
 have HB3:=Lib.hid (HB2.out.trans ((below_alloc w2 (.cells #[.int .i64 a1,.string a2,.int .i64 a3,.slice a4 a5 a6] 28)).mono HB2.out.size))
 have HX3:=Lib.hid (((below_alloc w2 (.cells #[.int .i64 a1,.string a2,.int .i64 a3,.slice a4 a5 a6] 28)).block _ (Array.getElem?_eq_some_iff.1 HX2.out).1).trans HX2.out)
 have HT3:=Lib.hid (heap_alloc_new w2 (.cells #[.int .i64 a1,.string a2,.int .i64 a3,.slice a4 a5 a6] 28))
 have HN2:Hid (N0+1≤w2.heap.size):=Lib.hid (by have:=HZ2.out;have:=HSZ.out;have:=HN0.out;omega)
 have HVT:Hid (∀ x k,textO rdTe s=.ok x k→TermV 66 x (.agg #[.int .i64 a1,.string a2,.int .i64 a3,.slice a4 a5 a6]) (w.alloc (.cells #[.bool false,.int .i64 0,.string ⟨#[]⟩,.slice none 0 0] 46)).heap.size w2.heap.size w2→TmW 66 (fun j=>j < N0+1) x (.agg #[.int .i64 a1,.string a2,.int .i64 a3,.slice a4 a5 a6]) (w2.alloc (.cells #[.int .i64 a1,.string a2,.int .i64 a3,.slice a4 a5 a6] 28))):=Lib.hid (fun x k _ hv=>(TmW.step 66).below (TmW.ofV 66 hv (fun j h1 _=>by have:=HSZ.out;have:=HN0.out;omega)) (below_alloc _ _))
 have hN3:N0+1 < (w2.alloc (.cells #[.int .i64 a1,.string a2,.int .i64 a3,.slice a4 a5 a6] 28)).heap.size:=by have:=HN2.out;simp;omega
 have HN3:=Lib.hid hN3
 clear hN3
 rcases h2 with ⟨i,ho,rfl⟩ | ⟨x,k,ho,rfl,hv⟩
 ·have HO:Hid (readO s=.no i):=Lib.hid (by unfold readO;rw [ho])
  have hq:(erN i != 0)=true:=by simpa using erN_ne i
  clear ho HVT
  go_upto_region 2 with fail
  generalize w2.alloc (.cells #[.int .i64 a1,.string a2,.int .i64 a3,.slice a4 a5 a6] 28)=W3 at HB3 HX3 HT3 HN3 ⊢
  generalize hn:erN i=n at hq
  have HNN:=Lib.hid hn
  clear hn
  have x0:=(cellH HX3.out 0).trans rfl
  have x1:=(cellH HX3.out 1).trans rfl
  have x2:=(cellH HX3.out 2).trans rfl
  have x3:=(cellH HX3.out 3).trans rfl
  have f0:=frozenH HX3.out 0
  have f1:=frozenH HX3.out 1
  have f2:=frozenH HX3.out 2
  have f3:=frozenH HX3.out 3
  go_wp2_with fail
  have hp4:=put4F (.bool false) (.int .i64 0) (.string ⟨#[]⟩) (.slice none 0 0) HX3.out
  have hk4:=kput4 W3 N0 (.bool false) (.int .i64 0) (.string ⟨#[]⟩) (.slice none 0 0)
  have c0:=(cellH hp4 0).trans rfl
  have c1:=(cellH hp4 1).trans rfl
  have c2:=(cellH hp4 2).trans rfl
  have c3:=(cellH hp4 3).trans rfl
  exact bodyPost_ret (v:=.tuple #[zeroDa,.int .i64 n]) (by simp [results,Tryz.results28,go_sem,c0,c1,c2,c3,zeroDa]) rfl ⟨zeroDa,by rw [HO.out];rw [← HNN.out];rfl,HB3.out.trans (hk4.below HB3.out.size (fun j e=>by have:=HN0.out;omega)),by rw [HO.out];rfl⟩
 ·have HTB:=Lib.hid (term_B ho)
  have HTM:=Lib.hid (HVT.out x k ho hv)
  have HOO:=Lib.hid (show readO s=if opT x=true then .data else if goodD (daOf x)=true then .ok (daOf x) else .no 1 by unfold readO;rw [ho])
  have HOK:=Lib.hid (ok_op 66 0 x HTB.out)
  clear ho HVT hv
  go_upto_region 2 with fail
  generalize w2.alloc (.cells #[.int .i64 a1,.string a2,.int .i64 a3,.slice a4 a5 a6] 28)=W3 at HB3 HX3 HT3 HTM HN3 ⊢
  obtain ⟨N4,hN4⟩:∃ N4,w2.heap.size=N4:=⟨_,rfl⟩
  rw [hN4] at HT3 ⊢
  clear hN4
  have t0:=(cellH HT3.out 0).trans rfl
  have t1:=(cellH HT3.out 1).trans rfl
  have t2:=(cellH HT3.out 2).trans rfl
  have t3:=(cellH HT3.out 3).trans rfl
  go_wp2_with fail
  try go_at_call 55
  refine (of_any 66 _ x _ W3 HTM.out (termB_few 66 0 x HTB.out)).mono ?_
  rintro e w5 ⟨v5,rfl,hv5,hb5⟩
  rw [HOK.out]
  obtain ⟨A2,m2,r2,hve⟩:=hv5.this
  obtain ⟨cc,hcc⟩:∃ cc,(daOf x).ctor=cc:=⟨_,rfl⟩
  obtain ⟨zz,hzz⟩:∃ zz,(daOf x).int=zz:=⟨_,rfl⟩
  obtain ⟨ss,hss⟩:∃ ss,(daOf x).name=ss:=⟨_,rfl⟩
  rw [hcc,hzz,hss] at hve
  subst hve
  clear hcc hzz hss t0 t1 t2 t3
  have HB5:=Lib.hid (HB3.out.trans (hb5.mono HB3.out.size))
  have HX5:=Lib.hid ((hb5.block _ (Array.getElem?_eq_some_iff.1 HX3.out).1).trans HX3.out)
  have HN5:Hid (N0+1 < w5.heap.size):=Lib.hid (by have:=HN3.out;have:=hb5.size;omega)
  have hb6:=below_alloc w5 (.cells #[.bool cc,.int .i64 zz,.string ss,.slice A2 m2 r2] 46)
  have HB6:=Lib.hid (HB5.out.trans (hb6.mono HB5.out.size))
  have HX6:=Lib.hid ((hb6.block _ (Array.getElem?_eq_some_iff.1 HX5.out).1).trans HX5.out)
  have HV6:=Lib.hid (DaE.step _ (fun j=>j < N0+1) _ _ _ _ hv5 (Kb.of_below hb6) (fun j _ e=>by have:=HN3.out;have e2:j < N0+1:=e;show j < W3.heap.size;omega))
  have HD6:=Lib.hid (heap_alloc_new w5 (.cells #[.bool cc,.int .i64 zz,.string ss,.slice A2 m2 r2] 46))
  clear hb5 hv5 hb6
  go_upto_region 5 with fail
  generalize w5.alloc (.cells #[.bool cc,.int .i64 zz,.string ss,.slice A2 m2 r2] 46)=W6 at HB6 HX6 HV6 HD6 ⊢
  obtain ⟨N6,hN6⟩:∃ N6,w5.heap.size=N6:=⟨_,rfl⟩
  rw [hN6] at HD6 ⊢
  clear hN6
  cases ho:opT x
  ·rw [ho,if_neg (by decide)] at HOO
   clear ho
   obtain ⟨D,hD⟩:=HV6.out
   have HVD:=Lib.hid hD
   clear hD
   have t0:=(cellH HD6.out 0).trans rfl
   have t1:=(cellH HD6.out 1).trans rfl
   have t2:=(cellH HD6.out 2).trans rfl
   have t3:=(cellH HD6.out 3).trans rfl
   go_wp2_with fail
   try go_at_call 19
   refine (rgood_any D _ (daOf x) _ W6 HVD.out).mono ?_
   rintro e w7 ⟨rfl,hb7⟩
   have HB7:=Lib.hid (HB6.out.trans (hb7.mono HB6.out.size))
   have HX7:=Lib.hid ((hb7.block _ (Array.getElem?_eq_some_iff.1 HX6.out).1).trans HX6.out)
   have HD7:=Lib.hid ((hb7.block _ (Array.getElem?_eq_some_iff.1 HD6.out).1).trans HD6.out)
   have HV7:=Lib.hid ((DaW.step D).below HVD.out hb7)
   clear hb7 t0 t1 t2 t3
   cases hg:goodD (daOf x)
   ·rw [hg,if_neg (by decide)] at HOO
    clear hg
    have x0:=(cellH HX7.out 0).trans rfl
    have x1:=(cellH HX7.out 1).trans rfl
    have x2:=(cellH HX7.out 2).trans rfl
    have x3:=(cellH HX7.out 3).trans rfl
    have f0:=frozenH HX7.out 0
    have f1:=frozenH HX7.out 1
    have f2:=frozenH HX7.out 2
    have f3:=frozenH HX7.out 3
    go_wp2_with fail
    have hp4:=put4F (.bool false) (.int .i64 0) (.string ⟨#[]⟩) (.slice none 0 0) HX7.out
    have hk4:=kput4 w7 N0 (.bool false) (.int .i64 0) (.string ⟨#[]⟩) (.slice none 0 0)
    have c0:=(cellH hp4 0).trans rfl
    have c1:=(cellH hp4 1).trans rfl
    have c2:=(cellH hp4 2).trans rfl
    have c3:=(cellH hp4 3).trans rfl
    exact bodyPost_ret (v:=.tuple #[zeroDa,.int .i64 4]) (by simp [results,Tryz.results28,go_sem,c0,c1,c2,c3,zeroDa]) rfl ⟨zeroDa,by rw [HOO.out];rfl,HB7.out.trans (hk4.below HB7.out.size (fun j e=>by have:=HN0.out;omega)),by rw [HOO.out];rfl⟩
   ·rw [hg,if_pos rfl] at HOO
    clear hg
    have x0:=(cellH HX7.out 0).trans rfl
    have x1:=(cellH HX7.out 1).trans rfl
    have x2:=(cellH HX7.out 2).trans rfl
    have x3:=(cellH HX7.out 3).trans rfl
    have f0:=frozenH HX7.out 0
    have f1:=frozenH HX7.out 1
    have f2:=frozenH HX7.out 2
    have f3:=frozenH HX7.out 3
    have t0:=(cellH HD7.out 0).trans rfl
    have t1:=(cellH HD7.out 1).trans rfl
    have t2:=(cellH HD7.out 2).trans rfl
    have t3:=(cellH HD7.out 3).trans rfl
    go_wp2_with fail
    have hp4:=put4F (.bool cc) (.int .i64 zz) (.string ss) (.slice A2 m2 r2) HX7.out
    have hk4:=kput4 w7 N0 (.bool cc) (.int .i64 zz) (.string ss) (.slice A2 m2 r2)
    have c0:=(cellH hp4 0).trans rfl
    have c1:=(cellH hp4 1).trans rfl
    have c2:=(cellH hp4 2).trans rfl
    have c3:=(cellH hp4 3).trans rfl
    exact bodyPost_ret (v:=.tuple #[.agg #[.bool cc,.int .i64 zz,.string ss,.slice A2 m2 r2],.int .i64 0]) (by simp [results,Tryz.results28,go_sem,c0,c1,c2,c3]) rfl ⟨.agg #[.bool cc,.int .i64 zz,.string ss,.slice A2 m2 r2],by rw [HOO.out];rfl,HB7.out.trans (hk4.below HB7.out.size (fun j e=>by have:=HN0.out;omega)),by
     rw [HOO.out]
     exact ⟨D,DaW.step D _ _ _ _ _ _ HV7.out (hk4.wider (fun j _ e=>by show j < N0+1;omega)) (fun j _ e=>by have:=HN0.out;show j < N0+1;have e2:j < w.heap.size:=e;omega)⟩⟩
  ·rw [ho,if_pos rfl] at HOO
   clear ho
   have x0:=(cellH HX6.out 0).trans rfl
   have x1:=(cellH HX6.out 1).trans rfl
   have x2:=(cellH HX6.out 2).trans rfl
   have x3:=(cellH HX6.out 3).trans rfl
   have f0:=frozenH HX6.out 0
   have f1:=frozenH HX6.out 1
   have f2:=frozenH HX6.out 2
   have f3:=frozenH HX6.out 3
   go_wp2_with fail
   have hp4:=put4F (.bool false) (.int .i64 0) (.string ⟨#[]⟩) (.slice none 0 0) HX6.out
   have hk4:=kput4 W6 N0 (.bool false) (.int .i64 0) (.string ⟨#[]⟩) (.slice none 0 0)
   have c0:=(cellH hp4 0).trans rfl
   have c1:=(cellH hp4 1).trans rfl
   have c2:=(cellH hp4 2).trans rfl
   have c3:=(cellH hp4 3).trans rfl
   exact bodyPost_ret (v:=.tuple #[zeroDa,.int .i64 10]) (by simp [results,Tryz.results28,go_sem,c0,c1,c2,c3,zeroDa]) rfl ⟨zeroDa,by rw [HOO.out];rfl,HB6.out.trans (hk4.below HB6.out.size (fun j e=>by have:=HN0.out;omega)),by rw [HOO.out];rfl⟩
end Lx
end Go.Proofs.YtiljemkglhloeaaGreatDoor
