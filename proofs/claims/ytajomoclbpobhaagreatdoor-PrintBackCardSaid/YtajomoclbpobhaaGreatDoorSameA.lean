/- What a row of things gives at a place: the cells of one thing; and that a row stands where only new blocks have come. No program stands in this text; no conditions. -/
/- The contracts of the reference's SameTerm and SameTerms at two values that hold the same thing: true. No conditions. -/
/- The contract of the reference's SameGoal at two values that hold the same goal: true. No conditions. -/
/- The contracts of the reference's SameTerm, SameTerms and SameGoal at two values that hold the same thing, at every depth: true. No conditions. -/
/- The contracts of the reference's SameType and SameTypes at two values that hold the same thing: true. No conditions. -/
import Derived.Test.YtajomoclbpobhaaGreatDoorItemA
import Derived.StillTailTactics
namespace Go.Proofs.YtajomoclbpobhaaGreatDoor
set_option linter.unusedSimpArgs false
set_option linter.unusedVariables false
namespace Lx
open Go Go.RowKit
theorem flat_at (sz:Nat):∀ (vs:List Value),(∀ v ∈ vs,(cellsL v).length=sz)→∀ (i j:Nat) (h:i < vs.length),j < sz→(vs.flatMap cellsL)[i * sz+j]?=(cellsL vs[i])[j]?
 | [],_,i,_,h,_=>by simp at h
 | v :: vs,hl,0,j,_,hj=>by
  rw [List.flatMap_cons,Nat.zero_mul,Nat.zero_add,List.getElem?_append_left (by rw [hl v (by simp)];exact hj)]
  rfl
 | v :: vs,hl,i+1,j,h,hj=>by
  have hv:=hl v (by simp)
  rw [List.flatMap_cons,List.getElem?_append_right (by rw [hv,Nat.succ_mul];omega),hv,show (i+1) * sz+j - sz=i * sz+j by rw [Nat.succ_mul];omega]
  exact flat_at sz vs (fun u hu=>hl u (by simp [hu])) i j (by simpa using h) hj
theorem Items.at {α:Type} {V:Holds α} {lo hi own:Nat} {w:World}:∀ {l:List α} {vs:List Value},Items V lo hi own w l vs→∀ (i:Nat) (h:i < l.length) (h':i < vs.length),∃ p q,lo≤p∧q≤hi∧V l[i] vs[i] p q w
 | [],[],_,i,h,_=>by simp at h
 | _ :: _,_ :: _,⟨⟨p,q,a1,a2,_,a4⟩,_⟩,0,_,_=>⟨p,q,a1,a2,a4⟩
 | _ :: _,_ :: _,⟨_,a5⟩,i+1,h,h'=>Items.at a5 i (by simpa using h) (by simpa using h')
 | [],_ :: _,h,_,_,_=>h.elim
 | _ :: _,[],h,_,_,_=>h.elim
theorem Items.mem {α:Type} {V:Holds α} {lo hi own:Nat} {w:World} {P:Value→Prop} (hP:∀ x v p q,V x v p q w→P v):∀ {l:List α} {vs:List Value},Items V lo hi own w l vs→∀ v ∈ vs,P v
 | [],[],_,_,h=>by simp at h
 | _ :: _,_ :: _,⟨⟨p,q,_,_,_,a4⟩,a5⟩,v,h=>by
  rcases List.mem_cons.1 h with rfl | h
  ·exact hP _ _ _ _ a4
  ·exact Items.mem hP a5 v h
 | [],_ :: _,h,_,_=>h.elim
 | _ :: _,[],h,_,_=>h.elim
/-- A row's slice, and what stands at each place. -/
theorem ArgsV.at {α:Type} {t:TypeId} {sz:Nat} {V:Holds α} (hsz:∀ x v lo hi w,V x v lo hi w→(cellsL v).length=sz) (h0:0 < sz) {l:List α} {v:Value} {lo hi:Nat} {w:World} (h:ArgsV t sz V l v lo hi w) :
  ∃ A c,v=.slice A l.length c∧∀ (i:Nat) (hi':i < l.length),∃ g vi p q,A=some ⟨g,0,none⟩∧lo≤p∧q≤hi∧V l[i] vi p q w∧∀ j,j < sz→w.cell? ⟨g,i * sz+j,none⟩=(cellsL vi)[j]?:=by
 rcases h with ⟨rfl,rfl⟩ | ⟨g,cap,vs,rfl,_,hown,hit⟩
 ·exact ⟨none,0,rfl,fun i hi'=>by simp at hi'⟩
 ·refine ⟨_,cap,rfl,fun i hi'=>?_⟩
  have hl:=hit.length
  obtain ⟨p,q,a1,a2,a3⟩:=hit.at i hi' (by omega)
  refine ⟨g,vs[i]'(by omega),p,q,rfl,a1,a2,a3,fun j hj=>?_⟩
  have hb:i * sz+j < l.length * sz:=by
   have:(i+1) * sz≤l.length * sz:=Nat.mul_le_mul_right sz hi'
   rw [Nat.succ_mul] at this
   omega
  rw [hown.cellAt _ hb]
  exact flat_at sz vs (Items.mem (fun x v p q h=>hsz x v p q w h) hit) i j (by omega) hj
theorem ArgsV.few {α:Type} {t:TypeId} {sz:Nat} {V:Holds α} {l:List α} {v:Value} {lo hi:Nat} {w:World} (h:ArgsV t sz V l v lo hi w):l.length≤maxLen:=by
 rcases h with ⟨rfl,rfl⟩ | ⟨g,cap,vs,rfl,_,hown,hit⟩
 ·exact Nat.zero_le _
 ·rcases hown.2 with ⟨h,_⟩ | ⟨g',cap',cur,h,_,_,h1,h2,_⟩
  ·cases h
  ·omega
theorem same_of_below {α:Type} {V:Holds α} (hV:Stable V) {x:α} {v:Value} {lo hi:Nat} {w w':World} (h:V x v lo hi w) (hb:Below w.heap.size w w') (hh:hi≤w.heap.size):V x v lo hi w' :=
 hV x v lo hi w w' h (fun k _ k2=>hb.block k (by omega))
theorem TermV.cells {d:Nat} {x:TermT} {v:Value} {lo hi:Nat} {w:World} (h:TermV d x v lo hi w):(cellsL v).length=4:=by
 obtain ⟨p,q,z,s,n,c,rfl⟩:=h.shape
 rfl
theorem TypeV.cells {d:Nat} {x:TypeT} {v:Value} {lo hi:Nat} {w:World} (h:TypeV d x v lo hi w):(cellsL v).length=3:=by
 obtain ⟨_,_,_,_,_,rfl⟩:=TypeV.this d _ _ _ _ _ h
 rfl
theorem GoalV.cells {d:Nat} {x:GoalT} {v:Value} {lo hi:Nat} {w:World} (h:GoalV d x v lo hi w):(cellsL v).length=12:=by
 obtain ⟨_,_,_,_,_,_,_,_,_,_,_,_,_,_,_,_,_,_,_,_,rfl⟩:=GoalV.this d _ _ _ _ _ h
 rfl
end Lx
end Go.Proofs.YtajomoclbpobhaaGreatDoor
namespace Go.Proofs.YtajomoclbpobhaaGreatDoor
set_option linter.unusedSimpArgs false
set_option linter.unusedVariables false
namespace Lx
open Go Go.RowKit
/-- Two values that hold one thing are told to be the same. -/
def SameOk {α:Type} (F:FuncId) (V:Holds α):Prop:=∀ (x:α) (v1 v2:Value) (lo1 hi1 lo2 hi2:Nat) (w:World),V x v1 lo1 hi1 w→V x v2 lo2 hi2 w→hi1≤w.heap.size→hi2≤w.heap.size →
 Calls Tryz.prog F #[v1,v2] w fun e w'=>e=.returned (.bool true)∧Below w.heap.size w w'
set_option maxRecDepth 100000 in
set_option maxHeartbeats 1000000 in
theorem sameTerm_step (d:Nat) (HS:Hid (SameOk 49 (ArgsV 28 4 (TermV d)))):SameOk 23 (TermV (d+1)):=by
 rintro ⟨k,s,z,l⟩ v1 v2 lo1 hi1 lo2 hi2 w ⟨va,rfl,ha⟩ ⟨vb,rfl,hb⟩ b1 b2
 have HA:=Lib.hid ha
 have HB:=Lib.hid hb
 obtain ⟨A1,n1,c1,rfl⟩:=ha.slice
 obtain ⟨A2,n2,c2,rfl⟩:=hb.slice
 clear ha hb
 go_enter Tryz.func23,Tryz.ntmps23
 go_wp2_with fail
 go_at_call 49
 have hw2:=((Below.refl w.heap.size w).alloc (Nat.le_refl _) (.cells #[.int .i64 k,.string (bs s),.int .i64 z,.slice A1 n1 c1] 28)).alloc (by simp) (.cells #[.int .i64 k,.string (bs s),.int .i64 z,.slice A2 n2 c2] 28)
 refine (HS.out l _ _ lo1 hi1 lo2 hi2 _ (same_of_below (ArgsV.stable _ _ (TermV.stable d)) HA.out hw2 b1) (same_of_below (ArgsV.stable _ _ (TermV.stable d)) HB.out hw2 b2) (by simp;omega) (by simp;omega)).mono ?_
 rintro e w3 ⟨rfl,hb3⟩
 have HB3:=Lib.hid (hw2.trans (hb3.mono hw2.size))
 clear hb3 hw2
 go_wp2_with fail
 go_ret
 exact ⟨rfl,HB3.out⟩
set_option maxRecDepth 100000 in
set_option maxHeartbeats 1000000 in
theorem sameTerms_step (d:Nat) (HS:Hid (SameOk 23 (TermV d))):SameOk 49 (ArgsV 28 4 (TermV d)):=by
 intro l v1 v2 lo1 hi1 lo2 hi2 w h1 h2 b1 b2
 have H1:=Lib.hid h1
 have H2:=Lib.hid h2
 obtain ⟨A1,c1,rfl,_⟩:=h1.at (fun _ _ _ _ _ h=>TermV.cells h) (by decide)
 obtain ⟨A2,c2,rfl,_⟩:=h2.at (fun _ _ _ _ _ h=>TermV.cells h) (by decide)
 have hlen:=h1.few
 unfold maxLen at hlen
 clear h1 h2
 go_enter Tryz.func49,Tryz.ntmps49
 go_wp2_with fail
 go_loopw [13] (fun t wr=>∃ k:Nat,k≤l.length∧t=.int .i64 k∧Hid (Below w.heap.size w wr)) (fun t _=>l.length - (intOf t).toNat)
 case atStart=>exact ⟨0,Nat.zero_le _,rfl,Lib.hid (Below.refl _ _)⟩
 case round =>
  obtain ⟨k,hk,rfl,HB⟩:=hrel
  by_cases hlt:k < l.length
  ·have r1:=same_of_below (ArgsV.stable _ _ (TermV.stable d)) H1.out HB.out b1
   have r2:=same_of_below (ArgsV.stable _ _ (TermV.stable d)) H2.out HB.out b2
   obtain ⟨_,_,q1,r1⟩:=r1.at (fun _ _ _ _ _ h=>TermV.cells h) (by decide)
   obtain ⟨_,_,q2,r2⟩:=r2.at (fun _ _ _ _ _ h=>TermV.cells h) (by decide)
   injection q1 with q1 _ qc1
   injection q2 with q2 _ qc2
   subst q1 q2
   clear qc1 qc2
   obtain ⟨g1,u1,p1,t1,rfl,_,m1,hv1,cc1⟩:=r1 k hlt
   obtain ⟨g2,u2,p2,t2,rfl,_,m2,hv2,cc2⟩:=r2 k hlt
   obtain ⟨x1,x2,x3,x4,x5,x6,rfl⟩:=hv1.shape
   obtain ⟨y1,y2,y3,y4,y5,y6,rfl⟩:=hv2.shape
   have a0:=(cc1 0 (by decide)).trans rfl
   have a1:=(cc1 1 (by decide)).trans rfl
   have a2:=(cc1 2 (by decide)).trans rfl
   have a3:=(cc1 3 (by decide)).trans rfl
   have d0:=(cc2 0 (by decide)).trans rfl
   have d1:=(cc2 1 (by decide)).trans rfl
   have d2:=(cc2 2 (by decide)).trans rfl
   have d3:=(cc2 3 (by decide)).trans rfl
   simp only [cellsL,Value.cells,List.getElem?_cons_zero,List.getElem?_cons_succ,Nat.add_zero] at a0 a1 a2 a3 d0 d1 d2 d3
   have HV1:=Lib.hid hv1
   have HV2:=Lib.hid hv2
   have hk0:(0:Int)≤(k:Int):=by omega
   have hk1:(k:Int) < (l.length:Int):=by omega
   have hdc:decide (k < l.length)=true:=by simpa using hlt
   have hsz:=HB.out.size
   clear cc1 cc2 hv1 hv2 r1 r2
   go_wp2_with fail
   go_still_tail 8,(by kernel_rfl)
   have HBX:Below w.heap.size w wr.drew:=⟨HB.out.os,HB.out.tape,HB.out.output,HB.out.size,HB.out.block⟩
   have HV1:=Lib.hid (TermV.stable d _ _ _ _ _ wr.drew HV1.out (fun _ _ _=>rfl))
   have HV2:=Lib.hid (TermV.stable d _ _ _ _ _ wr.drew HV2.out (fun _ _ _=>rfl))
   have hsz2:w.heap.size≤wr.drew.heap.size:=hsz
   change wpList _ _ _ _ _ wr.drew
   generalize wr.drew=X at HBX HV1 HV2 hsz2 ⊢
   have HBX:=Lib.hid HBX
   clear a0 a1 a2 a3 d0 d1 d2 d3
   go_wp2_with fail
   go_at_call 23
   refine (HS.out _ _ _ p1 t1 p2 t2 _ HV1.out HV2.out (by omega) (by omega)).mono ?_
   rintro e w3 ⟨rfl,hb3⟩
   have HB3:=Lib.hid (HBX.out.trans (hb3.mono HBX.out.size))
   clear hb3
   go_wp2_with fail
   go_roundw
   case rel=>exact ⟨k+1,by omega,by go_num,HB3⟩
   case measure=>simp [intOf];omega
  ·obtain rfl:k=l.length:=by omega
   have hdc:decide (l.length < l.length)=false:=by simp
   go_wp2_with fail
   go_ret
   exact ⟨rfl,HB.out⟩
end Lx
end Go.Proofs.YtajomoclbpobhaaGreatDoor
namespace Go.Proofs.YtajomoclbpobhaaGreatDoor
set_option linter.unusedSimpArgs false
set_option linter.unusedVariables false
namespace Lx
open Go Go.RowKit
theorem cells12 {w:World} {N:Nat} {T:TypeId} {c0 c1 c2 c3 c4 c5 c6 c7 c8 c9 c10 c11:Value} (h:w.heap[N]?=some (.cells #[c0,c1,c2,c3,c4,c5,c6,c7,c8,c9,c10,c11] T (0,0))):w.cell? ⟨N,0,none⟩=some c0∧w.cell? ⟨N,1,none⟩=some c1∧w.cell? ⟨N,2,none⟩=some c2∧w.cell? ⟨N,3,none⟩=some c3∧w.cell? ⟨N,4,none⟩=some c4∧w.cell? ⟨N,5,none⟩=some c5∧w.cell? ⟨N,6,none⟩=some c6∧w.cell? ⟨N,7,none⟩=some c7∧w.cell? ⟨N,8,none⟩=some c8∧w.cell? ⟨N,9,none⟩=some c9∧w.cell? ⟨N,10,none⟩=some c10∧w.cell? ⟨N,11,none⟩=some c11 :=
 ⟨(Lib.cell_of_heap h 0).trans rfl,(Lib.cell_of_heap h 1).trans rfl,(Lib.cell_of_heap h 2).trans rfl,(Lib.cell_of_heap h 3).trans rfl,(Lib.cell_of_heap h 4).trans rfl,(Lib.cell_of_heap h 5).trans rfl,(Lib.cell_of_heap h 6).trans rfl,(Lib.cell_of_heap h 7).trans rfl,(Lib.cell_of_heap h 8).trans rfl,(Lib.cell_of_heap h 9).trans rfl,(Lib.cell_of_heap h 10).trans rfl,(Lib.cell_of_heap h 11).trans rfl⟩
theorem row12 {w:World} {g q:Nat} {c0 c1 c2 c3 c4 c5 c6 c7 c8 c9 c10 c11:Value} (h:∀ j,j < 12→w.cell? ⟨g,q+j,none⟩=(cellsL (.agg #[c0,c1,c2,c3,c4,c5,c6,c7,c8,c9,c10,c11]))[j]?) (hl:(cellsL (.agg #[c0,c1,c2,c3,c4,c5,c6,c7,c8,c9,c10,c11]))=[c0,c1,c2,c3,c4,c5,c6,c7,c8,c9,c10,c11]):w.cell? ⟨g,q,none⟩=some c0∧w.cell? ⟨g,q+1,none⟩=some c1∧w.cell? ⟨g,q+2,none⟩=some c2∧w.cell? ⟨g,q+3,none⟩=some c3∧w.cell? ⟨g,q+4,none⟩=some c4∧w.cell? ⟨g,q+5,none⟩=some c5∧w.cell? ⟨g,q+6,none⟩=some c6∧w.cell? ⟨g,q+7,none⟩=some c7∧w.cell? ⟨g,q+8,none⟩=some c8∧w.cell? ⟨g,q+9,none⟩=some c9∧w.cell? ⟨g,q+10,none⟩=some c10∧w.cell? ⟨g,q+11,none⟩=some c11:=by
 rw [hl] at h
 exact ⟨(h 0 (by decide)).trans rfl,(h 1 (by decide)).trans rfl,(h 2 (by decide)).trans rfl,(h 3 (by decide)).trans rfl,(h 4 (by decide)).trans rfl,(h 5 (by decide)).trans rfl,(h 6 (by decide)).trans rfl,(h 7 (by decide)).trans rfl,(h 8 (by decide)).trans rfl,(h 9 (by decide)).trans rfl,(h 10 (by decide)).trans rfl,(h 11 (by decide)).trans rfl⟩
set_option maxRecDepth 100000 in
set_option maxHeartbeats 4000000 in
theorem sameGoal_step (d:Nat) (HT:Hid (SameOk 23 (TermV 66))) (HS:Hid (SameOk 49 (ArgsV 28 4 (TermV 66)))) (HG:Hid (SameOk 25 (GoalV d))):SameOk 25 (GoalV (d+1)):=by
 rintro ⟨kk,ta,tb,ss,l,gs⟩ v1 v2 lo1 hi1 lo2 hi2 w h1 h2 b1 b2
 obtain ⟨x1,x2,x3,x4,x5,x6,x7,x8,x9,x10,x11,x12,x13,x14,x15,x16,x17,x18,x19,x20,e1⟩:=GoalV.this _ _ _ _ _ _ h1
 obtain ⟨y1,y2,y3,y4,y5,y6,y7,y8,y9,y10,y11,y12,y13,y14,y15,y16,y17,y18,y19,y20,e2⟩:=GoalV.this _ _ _ _ _ _ h2
 subst e1 e2
 obtain ⟨p0,p1,p2,p3,p4,p5,p6,p7,pa,pg,hp,A1,B1,L1,G1⟩:=h1
 obtain ⟨q0,q1,q2,q3,q4,q5,q6,q7,qa,qg,hq,A2,B2,L2,G2⟩:=h2
 simp only [Value.agg.injEq,Array.mk.injEq,List.cons.injEq,and_true] at hp hq
 obtain ⟨k1,rfl,rfl,rfl,rfl,rfl,rfl,rfl,rfl,s1,rfl,rfl⟩:=hp
 obtain ⟨k2,rfl,rfl,rfl,rfl,rfl,rfl,rfl,rfl,s2,rfl,rfl⟩:=hq
 injection k1 with k10 k1
 injection k2 with k20 k2
 injection s1 with s1
 injection s2 with s2
 subst k1 k2 s1 s2
 clear k10 k20
 have hfew:=G1.few
 unfold maxLen at hfew
 obtain ⟨_,_,f1,_⟩:=G1.at (fun _ _ _ _ _ h=>GoalV.cells h) (by decide)
 obtain ⟨_,_,f2,_⟩:=G2.at (fun _ _ _ _ _ h=>GoalV.cells h) (by decide)
 injection f1 with f1a f1 f1c
 injection f2 with f2a f2 f2c
 subst f1 f2
 clear f1a f1c f2a f2c
 have HA1:=Lib.hid A1
 have HA2:=Lib.hid A2
 have HB1:=Lib.hid B1
 have HB2:=Lib.hid B2
 have HL1:=Lib.hid L1
 have HL2:=Lib.hid L2
 have HG1:=Lib.hid G1
 have HG2:=Lib.hid G2
 clear A1 A2 B1 B2 L1 L2 G1 G2
 have hw2:=((Below.refl w.heap.size w).alloc (Nat.le_refl _) (.cells #[.int .i64 y1,.int .i64 x2,.string x3,.int .i64 x4,.slice x5 x6 x7,.int .i64 x8,.string x9,.int .i64 x10,.slice x11 x12 x13,.string (bs ss),.slice x15 x16 x17,.slice x18 gs.length x20] 31)).alloc (by simp) (.cells #[.int .i64 y1,.int .i64 y2,.string y3,.int .i64 y4,.slice y5 y6 y7,.int .i64 y8,.string y9,.int .i64 y10,.slice y11 y12 y13,.string (bs ss),.slice y15 y16 y17,.slice y18 gs.length y20] 31)
 have bx:=(Below.heap_alloc (w.alloc (.cells #[.int .i64 y1,.int .i64 x2,.string x3,.int .i64 x4,.slice x5 x6 x7,.int .i64 x8,.string x9,.int .i64 x10,.slice x11 x12 x13,.string (bs ss),.slice x15 x16 x17,.slice x18 gs.length x20] 31)) (.cells #[.int .i64 y1,.int .i64 y2,.string y3,.int .i64 y4,.slice y5 y6 y7,.int .i64 y8,.string y9,.int .i64 y10,.slice y11 y12 y13,.string (bs ss),.slice y15 y16 y17,.slice y18 gs.length y20] 31) w.heap.size (by simp)).trans (heap_alloc_new w (.cells #[.int .i64 y1,.int .i64 x2,.string x3,.int .i64 x4,.slice x5 x6 x7,.int .i64 x8,.string x9,.int .i64 x10,.slice x11 x12 x13,.string (bs ss),.slice x15 x16 x17,.slice x18 gs.length x20] 31))
 have by':=heap_alloc_new (w.alloc (.cells #[.int .i64 y1,.int .i64 x2,.string x3,.int .i64 x4,.slice x5 x6 x7,.int .i64 x8,.string x9,.int .i64 x10,.slice x11 x12 x13,.string (bs ss),.slice x15 x16 x17,.slice x18 gs.length x20] 31)) (.cells #[.int .i64 y1,.int .i64 y2,.string y3,.int .i64 y4,.slice y5 y6 y7,.int .i64 y8,.string y9,.int .i64 y10,.slice y11 y12 y13,.string (bs ss),.slice y15 y16 y17,.slice y18 gs.length y20] 31)
 rw [show (w.alloc (.cells #[.int .i64 y1,.int .i64 x2,.string x3,.int .i64 x4,.slice x5 x6 x7,.int .i64 x8,.string x9,.int .i64 x10,.slice x11 x12 x13,.string (bs ss),.slice x15 x16 x17,.slice x18 gs.length x20] 31)).heap.size=w.heap.size+1 by simp] at by'
 have HW2:=Lib.hid hw2
 have HBX:=Lib.hid bx
 have HBY:=Lib.hid by'
 have hz2:((w.alloc (.cells #[.int .i64 y1,.int .i64 x2,.string x3,.int .i64 x4,.slice x5 x6 x7,.int .i64 x8,.string x9,.int .i64 x10,.slice x11 x12 x13,.string (bs ss),.slice x15 x16 x17,.slice x18 gs.length x20] 31)).alloc (.cells #[.int .i64 y1,.int .i64 y2,.string y3,.int .i64 y4,.slice y5 y6 y7,.int .i64 y8,.string y9,.int .i64 y10,.slice y11 y12 y13,.string (bs ss),.slice y15 y16 y17,.slice y18 gs.length y20] 31)).heap.size=w.heap.size+2:=by simp
 have HZ2:=Lib.hid hz2
 clear hw2 bx by' hz2
 go_enter Tryz.func25,Tryz.ntmps25
 go_wp2_with fail
 generalize (w.alloc (.cells #[.int .i64 y1,.int .i64 x2,.string x3,.int .i64 x4,.slice x5 x6 x7,.int .i64 x8,.string x9,.int .i64 x10,.slice x11 x12 x13,.string (bs ss),.slice x15 x16 x17,.slice x18 gs.length x20] 31)).alloc (.cells #[.int .i64 y1,.int .i64 y2,.string y3,.int .i64 y4,.slice y5 y6 y7,.int .i64 y8,.string y9,.int .i64 y10,.slice y11 y12 y13,.string (bs ss),.slice y15 y16 y17,.slice y18 gs.length y20] 31)=W2 at *
 have hs2:=HW2.out.size
 have hz2:=HZ2.out
 go_at_call 23
 refine (HT.out ta _ _ lo1 hi1 lo2 hi2 _ (same_of_below (TermV.stable 66) HA1.out HW2.out b1) (same_of_below (TermV.stable 66) HA2.out HW2.out b2) (by omega) (by omega)).mono ?_
 rintro e w3 ⟨rfl,hb⟩
 have HW3:=Lib.hid (HW2.out.trans (hb.mono HW2.out.size))
 have hs3:=hb.size
 have HBX3:=Lib.hid ((hb.block w.heap.size (by omega)).trans HBX.out)
 have HBY3:=Lib.hid ((hb.block (w.heap.size+1) (by omega)).trans HBY.out)
 clear hb
 obtain ⟨a0,a1,a2,a3,a4,a5,a6,a7,a8,a9,a10,a11⟩:=cells12 HBX3.out
 obtain ⟨d0,d1,d2,d3,d4,d5,d6,d7,d8,d9,d10,d11⟩:=cells12 HBY3.out
 go_wp2_with fail
 clear a0 a1 a2 a3 a4 a5 a6 a7 a8 a9 a10 a11 d0 d1 d2 d3 d4 d5 d6 d7 d8 d9 d10 d11
 go_at_call 23
 refine (HT.out tb _ _ lo1 hi1 lo2 hi2 _ (same_of_below (TermV.stable 66) HB1.out HW3.out b1) (same_of_below (TermV.stable 66) HB2.out HW3.out b2) (by omega) (by omega)).mono ?_
 rintro e w4 ⟨rfl,hb⟩
 have HW4:=Lib.hid (HW3.out.trans (hb.mono HW3.out.size))
 have hs4:=hb.size
 have HBX4:=Lib.hid ((hb.block w.heap.size (by omega)).trans HBX3.out)
 have HBY4:=Lib.hid ((hb.block (w.heap.size+1) (by omega)).trans HBY3.out)
 clear hb
 obtain ⟨a0,a1,a2,a3,a4,a5,a6,a7,a8,a9,a10,a11⟩:=cells12 HBX4.out
 obtain ⟨d0,d1,d2,d3,d4,d5,d6,d7,d8,d9,d10,d11⟩:=cells12 HBY4.out
 go_wp2_with fail
 clear a0 a1 a2 a3 a4 a5 a6 a7 a8 a9 a10 a11 d0 d1 d2 d3 d4 d5 d6 d7 d8 d9 d10 d11
 go_at_call 49
 refine (HS.out l _ _ lo1 hi1 lo2 hi2 _ (same_of_below (ArgsV.stable _ _ (TermV.stable 66)) HL1.out HW4.out b1) (same_of_below (ArgsV.stable _ _ (TermV.stable 66)) HL2.out HW4.out b2) (by omega) (by omega)).mono ?_
 rintro e w5 ⟨rfl,hb⟩
 have HW5:=Lib.hid (HW4.out.trans (hb.mono HW4.out.size))
 have hs5:=hb.size
 have HBX5:=Lib.hid ((hb.block w.heap.size (by omega)).trans HBX4.out)
 have HBY5:=Lib.hid ((hb.block (w.heap.size+1) (by omega)).trans HBY4.out)
 clear hb
 obtain ⟨a0,a1,a2,a3,a4,a5,a6,a7,a8,a9,a10,a11⟩:=cells12 HBX5.out
 obtain ⟨d0,d1,d2,d3,d4,d5,d6,d7,d8,d9,d10,d11⟩:=cells12 HBY5.out
 go_wp2_with fail
 clear a0 a1 a2 a3 a4 a5 a6 a7 a8 a9 a10 a11 d0 d1 d2 d3 d4 d5 d6 d7 d8 d9 d10 d11
 go_loopw [54] (fun t wr=>∃ k:Nat,k≤gs.length∧t=.int .i64 k∧Hid (Below w5.heap.size w5 wr)) (fun t _=>gs.length - (intOf t).toNat)
 case atStart=>exact ⟨0,Nat.zero_le _,rfl,Lib.hid (Below.refl _ _)⟩
 case round =>
  obtain ⟨k,hk,rfl,HB⟩:=hrel
  by_cases hlt:k < gs.length
  ·have hbw:=HW5.out.trans (HB.out.mono HW5.out.size)
   obtain ⟨_,_,j1,r1⟩:=(same_of_below (ArgsV.stable _ _ (GoalV.stable d)) HG1.out hbw b1).at (fun _ _ _ _ _ h=>GoalV.cells h) (by decide)
   obtain ⟨_,_,j2,r2⟩:=(same_of_below (ArgsV.stable _ _ (GoalV.stable d)) HG2.out hbw b2).at (fun _ _ _ _ _ h=>GoalV.cells h) (by decide)
   injection j1 with j1 j1b j1c
   injection j2 with j2 j2b j2c
   subst j1 j2
   clear j1b j1c j2b j2c
   obtain ⟨g1,u1,p1,t1,rfl,_,m1,hv1,cc1⟩:=r1 k hlt
   obtain ⟨g2,u2,p2,t2,rfl,_,m2,hv2,cc2⟩:=r2 k hlt
   obtain ⟨ra1,ra2,ra3,ra4,ra5,ra6,ra7,ra8,ra9,ra10,ra11,ra12,ra13,ra14,ra15,ra16,ra17,ra18,ra19,ra20,e1⟩:=GoalV.this _ _ _ _ _ _ hv1
   obtain ⟨rb1,rb2,rb3,rb4,rb5,rb6,rb7,rb8,rb9,rb10,rb11,rb12,rb13,rb14,rb15,rb16,rb17,rb18,rb19,rb20,e2⟩:=GoalV.this _ _ _ _ _ _ hv2
   subst e1 e2
   obtain ⟨ca0,ca1,ca2,ca3,ca4,ca5,ca6,ca7,ca8,ca9,ca10,ca11⟩:=row12 cc1 rfl
   obtain ⟨cb0,cb1,cb2,cb3,cb4,cb5,cb6,cb7,cb8,cb9,cb10,cb11⟩:=row12 cc2 rfl
   have HBXr:=(HB.out.block w.heap.size (by omega)).trans HBX5.out
   have HBYr:=(HB.out.block (w.heap.size+1) (by omega)).trans HBY5.out
   have a11:wr.cell? ⟨w.heap.size,11,none⟩=some (.slice (some ⟨g1,0,none⟩) gs.length x20):=(Lib.cell_of_heap HBXr 11).trans rfl
   have d11:wr.cell? ⟨w.heap.size+1,11,none⟩=some (.slice (some ⟨g2,0,none⟩) gs.length y20):=(Lib.cell_of_heap HBYr 11).trans rfl
   have HV1:=Lib.hid (GoalV.stable d _ _ _ _ _ wr.drew hv1 (fun _ _ _=>rfl))
   have HV2:=Lib.hid (GoalV.stable d _ _ _ _ _ wr.drew hv2 (fun _ _ _=>rfl))
   have hk0:(0:Int)≤(k:Int):=by omega
   have hk1:(k:Int) < (gs.length:Int):=by omega
   have hdc:decide (k < gs.length)=true:=by simpa using hlt
   have hsz:=HB.out.size
   have HBD:Below w5.heap.size w5 wr.drew:=⟨HB.out.os,HB.out.tape,HB.out.output,HB.out.size,HB.out.block⟩
   have HBD:=Lib.hid HBD
   have hsz2:w5.heap.size≤wr.drew.heap.size:=hsz
   clear cc1 cc2 hv1 hv2 r1 r2 HBXr HBYr hbw
   go_wp2_with fail
   go_still_tail 10,(by kernel_rfl)
   change wpList _ _ _ _ _ wr.drew
   generalize wr.drew=X at HBD HV1 HV2 hsz2 ⊢
   clear a11 d11 ca0 ca1 ca2 ca3 ca4 ca5 ca6 ca7 ca8 ca9 ca10 ca11 cb0 cb1 cb2 cb3 cb4 cb5 cb6 cb7 cb8 cb9 cb10 cb11
   go_wp2_with fail
   go_at_call 25
   refine (HG.out _ _ _ p1 t1 p2 t2 _ HV1.out HV2.out (by omega) (by omega)).mono ?_
   rintro e w6 ⟨rfl,hb6⟩
   have HB6:=Lib.hid (HBD.out.trans (hb6.mono HBD.out.size))
   clear hb6
   go_wp2_with fail
   go_roundw
   case rel=>exact ⟨k+1,by omega,by go_num,HB6⟩
   case measure=>simp [intOf];omega
  ·obtain rfl:k=gs.length:=by omega
   have hdc:decide (gs.length < gs.length)=false:=by simp
   go_wp2_with fail
   go_ret
   exact ⟨rfl,HW5.out.trans (HB.out.mono HW5.out.size)⟩
end Lx
end Go.Proofs.YtajomoclbpobhaaGreatDoor
namespace Go.Proofs.YtajomoclbpobhaaGreatDoor
set_option linter.unusedSimpArgs false
set_option linter.unusedVariables false
namespace Lx
open Go Go.RowKit
theorem sameTerm_any:∀ d,SameOk 23 (TermV d)
 | 0=>fun _ _ _ _ _ _ _ _ h=>h.elim
 | d+1=>sameTerm_step d (Lib.hid (sameTerms_step d (Lib.hid (sameTerm_any d))))
theorem sameTerms_any (d:Nat):SameOk 49 (ArgsV 28 4 (TermV d)):=sameTerms_step d (Lib.hid (sameTerm_any d))
theorem sameGoal_any:∀ d,SameOk 25 (GoalV d)
 | 0=>fun _ _ _ _ _ _ _ _ h=>h.elim
 | d+1=>sameGoal_step d (Lib.hid (sameTerm_any 66)) (Lib.hid (sameTerms_any 66)) (Lib.hid (sameGoal_any d))
end Lx
end Go.Proofs.YtajomoclbpobhaaGreatDoor
namespace Go.Proofs.YtajomoclbpobhaaGreatDoor
set_option linter.unusedSimpArgs false
set_option linter.unusedVariables false
namespace Lx
open Go Go.RowKit
set_option maxRecDepth 100000 in
set_option maxHeartbeats 1000000 in
theorem sameType_step (d:Nat) (HS:Hid (SameOk 54 (ArgsV 35 3 (TypeV d)))):SameOk 27 (TypeV (d+1)):=by
 rintro ⟨k,s,l⟩ v1 v2 lo1 hi1 lo2 hi2 w ⟨va,rfl,ha⟩ ⟨vb,rfl,hb⟩ b1 b2
 have HA:=Lib.hid ha
 have HB:=Lib.hid hb
 obtain ⟨A1,n1,c1,rfl⟩:=ha.slice
 obtain ⟨A2,n2,c2,rfl⟩:=hb.slice
 clear ha hb
 go_enter Tryz.func27,Tryz.ntmps27
 go_wp2_with fail
 go_at_call 54
 have hw2:=((Below.refl w.heap.size w).alloc (Nat.le_refl _) (.cells #[.bool k,.string (bs s),.slice A1 n1 c1] 35)).alloc (by simp) (.cells #[.bool k,.string (bs s),.slice A2 n2 c2] 35)
 refine (HS.out l _ _ lo1 hi1 lo2 hi2 _ (same_of_below (ArgsV.stable _ _ (TypeV.stable d)) HA.out hw2 b1) (same_of_below (ArgsV.stable _ _ (TypeV.stable d)) HB.out hw2 b2) (by simp;omega) (by simp;omega)).mono ?_
 rintro e w3 ⟨rfl,hb3⟩
 have HB3:=Lib.hid (hw2.trans (hb3.mono hw2.size))
 clear hb3 hw2
 go_wp2_with fail
 go_ret
 exact ⟨rfl,HB3.out⟩
set_option maxRecDepth 100000 in
set_option maxHeartbeats 1000000 in
theorem sameTypes_step (d:Nat) (HS:Hid (SameOk 27 (TypeV d))):SameOk 54 (ArgsV 35 3 (TypeV d)):=by
 intro l v1 v2 lo1 hi1 lo2 hi2 w h1 h2 b1 b2
 have H1:=Lib.hid h1
 have H2:=Lib.hid h2
 obtain ⟨A1,c1,rfl,_⟩:=h1.at (fun _ _ _ _ _ h=>TypeV.cells h) (by decide)
 obtain ⟨A2,c2,rfl,_⟩:=h2.at (fun _ _ _ _ _ h=>TypeV.cells h) (by decide)
 have hlen:=h1.few
 unfold maxLen at hlen
 clear h1 h2
 go_enter Tryz.func54,Tryz.ntmps54
 go_wp2_with fail
 go_loopw [13] (fun t wr=>∃ k:Nat,k≤l.length∧t=.int .i64 k∧Hid (Below w.heap.size w wr)) (fun t _=>l.length - (intOf t).toNat)
 case atStart=>exact ⟨0,Nat.zero_le _,rfl,Lib.hid (Below.refl _ _)⟩
 case round =>
  obtain ⟨k,hk,rfl,HB⟩:=hrel
  by_cases hlt:k < l.length
  ·have r1:=same_of_below (ArgsV.stable _ _ (TypeV.stable d)) H1.out HB.out b1
   have r2:=same_of_below (ArgsV.stable _ _ (TypeV.stable d)) H2.out HB.out b2
   obtain ⟨_,_,q1,r1⟩:=r1.at (fun _ _ _ _ _ h=>TypeV.cells h) (by decide)
   obtain ⟨_,_,q2,r2⟩:=r2.at (fun _ _ _ _ _ h=>TypeV.cells h) (by decide)
   injection q1 with q1 _ qc1
   injection q2 with q2 _ qc2
   subst q1 q2
   clear qc1 qc2
   obtain ⟨g1,u1,p1,t1,rfl,_,m1,hv1,cc1⟩:=r1 k hlt
   obtain ⟨g2,u2,p2,t2,rfl,_,m2,hv2,cc2⟩:=r2 k hlt
   obtain ⟨x1,x2,x4,x5,x6,rfl⟩:=TypeV.this d _ _ _ _ _ hv1
   obtain ⟨y1,y2,y4,y5,y6,rfl⟩:=TypeV.this d _ _ _ _ _ hv2
   have a0:=(cc1 0 (by decide)).trans rfl
   have a1:=(cc1 1 (by decide)).trans rfl
   have a2:=(cc1 2 (by decide)).trans rfl
   have d0:=(cc2 0 (by decide)).trans rfl
   have d1:=(cc2 1 (by decide)).trans rfl
   have d2:=(cc2 2 (by decide)).trans rfl
   simp only [cellsL,Value.cells,List.getElem?_cons_zero,List.getElem?_cons_succ,Nat.add_zero] at a0 a1 a2 d0 d1 d2
   have HV1:=Lib.hid hv1
   have HV2:=Lib.hid hv2
   have hk0:(0:Int)≤(k:Int):=by omega
   have hk1:(k:Int) < (l.length:Int):=by omega
   have hdc:decide (k < l.length)=true:=by simpa using hlt
   have hsz:=HB.out.size
   clear cc1 cc2 hv1 hv2 r1 r2
   go_wp2_with fail
   go_still_tail 8,(by kernel_rfl)
   have HBX:Below w.heap.size w wr.drew:=⟨HB.out.os,HB.out.tape,HB.out.output,HB.out.size,HB.out.block⟩
   have HV1:=Lib.hid (TypeV.stable d _ _ _ _ _ wr.drew HV1.out (fun _ _ _=>rfl))
   have HV2:=Lib.hid (TypeV.stable d _ _ _ _ _ wr.drew HV2.out (fun _ _ _=>rfl))
   have hsz2:w.heap.size≤wr.drew.heap.size:=hsz
   change wpList _ _ _ _ _ wr.drew
   generalize wr.drew=X at HBX HV1 HV2 hsz2 ⊢
   have HBX:=Lib.hid HBX
   clear a0 a1 a2 d0 d1 d2
   go_wp2_with fail
   go_at_call 27
   refine (HS.out _ _ _ p1 t1 p2 t2 _ HV1.out HV2.out (by omega) (by omega)).mono ?_
   rintro e w3 ⟨rfl,hb3⟩
   have HB3:=Lib.hid (HBX.out.trans (hb3.mono HBX.out.size))
   clear hb3
   go_wp2_with fail
   go_roundw
   case rel=>exact ⟨k+1,by omega,by go_num,HB3⟩
   case measure=>simp [intOf];omega
  ·obtain rfl:k=l.length:=by omega
   have hdc:decide (l.length < l.length)=false:=by simp
   go_wp2_with fail
   go_ret
   exact ⟨rfl,HB.out⟩
theorem sameType_any:∀ d,SameOk 27 (TypeV d)
 | 0=>fun _ _ _ _ _ _ _ _ h=>h.elim
 | d+1=>sameType_step d (Lib.hid (sameTypes_step d (Lib.hid (sameType_any d))))
theorem sameTypes_any (d:Nat):SameOk 54 (ArgsV 35 3 (TypeV d)):=sameTypes_step d (Lib.hid (sameType_any d))
end Lx
end Go.Proofs.YtajomoclbpobhaaGreatDoor
