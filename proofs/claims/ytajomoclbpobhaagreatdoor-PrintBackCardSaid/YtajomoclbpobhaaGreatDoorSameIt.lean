/- The contracts of the reference's SameItem and SameItems at values that hold the same items: true. No conditions. -/
import Derived.Test.YtajomoclbpobhaaGreatDoorSameA
namespace Go.Proofs.YtajomoclbpobhaaGreatDoor
set_option linter.unusedSimpArgs false
set_option linter.unusedVariables false
namespace Lx
open Go Go.RowKit
theorem cells20 {w:World} {N:Nat} {T:TypeId} {c0 c1 c2 c3 c4 c5 c6 c7 c8 c9 c10 c11 c12 c13 c14 c15 c16 c17 c18 c19:Value} (h:w.heap[N]?=some (.cells #[c0,c1,c2,c3,c4,c5,c6,c7,c8,c9,c10,c11,c12,c13,c14,c15,c16,c17,c18,c19] T (0,0))):w.cell? ⟨N,0,none⟩=some c0∧w.cell? ⟨N,1,none⟩=some c1∧w.cell? ⟨N,2,none⟩=some c2∧w.cell? ⟨N,3,none⟩=some c3∧w.cell? ⟨N,4,none⟩=some c4∧w.cell? ⟨N,5,none⟩=some c5∧w.cell? ⟨N,6,none⟩=some c6∧w.cell? ⟨N,7,none⟩=some c7∧w.cell? ⟨N,8,none⟩=some c8∧w.cell? ⟨N,9,none⟩=some c9∧w.cell? ⟨N,10,none⟩=some c10∧w.cell? ⟨N,11,none⟩=some c11∧w.cell? ⟨N,12,none⟩=some c12∧w.cell? ⟨N,13,none⟩=some c13∧w.cell? ⟨N,14,none⟩=some c14∧w.cell? ⟨N,15,none⟩=some c15∧w.cell? ⟨N,16,none⟩=some c16∧w.cell? ⟨N,17,none⟩=some c17∧w.cell? ⟨N,18,none⟩=some c18∧w.cell? ⟨N,19,none⟩=some c19 :=
 ⟨(Lib.cell_of_heap h 0).trans rfl,(Lib.cell_of_heap h 1).trans rfl,(Lib.cell_of_heap h 2).trans rfl,(Lib.cell_of_heap h 3).trans rfl,(Lib.cell_of_heap h 4).trans rfl,(Lib.cell_of_heap h 5).trans rfl,(Lib.cell_of_heap h 6).trans rfl,(Lib.cell_of_heap h 7).trans rfl,(Lib.cell_of_heap h 8).trans rfl,(Lib.cell_of_heap h 9).trans rfl,(Lib.cell_of_heap h 10).trans rfl,(Lib.cell_of_heap h 11).trans rfl,(Lib.cell_of_heap h 12).trans rfl,(Lib.cell_of_heap h 13).trans rfl,(Lib.cell_of_heap h 14).trans rfl,(Lib.cell_of_heap h 15).trans rfl,(Lib.cell_of_heap h 16).trans rfl,(Lib.cell_of_heap h 17).trans rfl,(Lib.cell_of_heap h 18).trans rfl,(Lib.cell_of_heap h 19).trans rfl⟩
theorem row20 {w:World} {g q:Nat} {c0 c1 c2 c3 c4 c5 c6 c7 c8 c9 c10 c11 c12 c13 c14 c15 c16 c17 c18 c19:Value} (h:∀ j,j < 20→w.cell? ⟨g,q+j,none⟩=(cellsL (.agg #[c0,c1,c2,c3,c4,c5,c6,c7,c8,c9,c10,c11,c12,c13,c14,c15,c16,c17,c18,c19]))[j]?) (hl:(cellsL (.agg #[c0,c1,c2,c3,c4,c5,c6,c7,c8,c9,c10,c11,c12,c13,c14,c15,c16,c17,c18,c19]))=[c0,c1,c2,c3,c4,c5,c6,c7,c8,c9,c10,c11,c12,c13,c14,c15,c16,c17,c18,c19]):w.cell? ⟨g,q,none⟩=some c0∧w.cell? ⟨g,q+1,none⟩=some c1∧w.cell? ⟨g,q+2,none⟩=some c2∧w.cell? ⟨g,q+3,none⟩=some c3∧w.cell? ⟨g,q+4,none⟩=some c4∧w.cell? ⟨g,q+5,none⟩=some c5∧w.cell? ⟨g,q+6,none⟩=some c6∧w.cell? ⟨g,q+7,none⟩=some c7∧w.cell? ⟨g,q+8,none⟩=some c8∧w.cell? ⟨g,q+9,none⟩=some c9∧w.cell? ⟨g,q+10,none⟩=some c10∧w.cell? ⟨g,q+11,none⟩=some c11∧w.cell? ⟨g,q+12,none⟩=some c12∧w.cell? ⟨g,q+13,none⟩=some c13∧w.cell? ⟨g,q+14,none⟩=some c14∧w.cell? ⟨g,q+15,none⟩=some c15∧w.cell? ⟨g,q+16,none⟩=some c16∧w.cell? ⟨g,q+17,none⟩=some c17∧w.cell? ⟨g,q+18,none⟩=some c18∧w.cell? ⟨g,q+19,none⟩=some c19:=by
 rw [hl] at h
 exact ⟨(h 0 (by decide)).trans rfl,(h 1 (by decide)).trans rfl,(h 2 (by decide)).trans rfl,(h 3 (by decide)).trans rfl,(h 4 (by decide)).trans rfl,(h 5 (by decide)).trans rfl,(h 6 (by decide)).trans rfl,(h 7 (by decide)).trans rfl,(h 8 (by decide)).trans rfl,(h 9 (by decide)).trans rfl,(h 10 (by decide)).trans rfl,(h 11 (by decide)).trans rfl,(h 12 (by decide)).trans rfl,(h 13 (by decide)).trans rfl,(h 14 (by decide)).trans rfl,(h 15 (by decide)).trans rfl,(h 16 (by decide)).trans rfl,(h 17 (by decide)).trans rfl,(h 18 (by decide)).trans rfl,(h 19 (by decide)).trans rfl⟩
theorem CtorV.cells {x:CtorT} {v:Value} {lo hi:Nat} {w:World} (h:CtorV x v lo hi w):(cellsL v).length=2:=by
 obtain ⟨n,l⟩:=x
 obtain ⟨va,rfl,ha⟩:=h
 obtain ⟨_,_,_,rfl⟩:=ha.slice
 rfl
theorem strH.cells {x:List UInt8} {v:Value} {lo hi:Nat} {w:World} (h:strH x v lo hi w):(cellsL v).length=1:=by
 obtain rfl:=h
 rfl
theorem boolV.cells {x:Bool} {v:Value} {lo hi:Nat} {w:World} (h:boolV x v lo hi w):(cellsL v).length=1:=by
 obtain rfl:=h
 rfl
/-- Two constructors that are the same: their names, their rows. -/
theorem sameCtor (x:CtorT) {u1 u2:Value} {p1 t1 p2 t2:Nat} {w:World} (h1:CtorV x u1 p1 t1 w) (h2:CtorV x u2 p2 t2 w):∃ cn cl s1 s2 s3 s4 s5 s6,u1=.agg #[.string (bs cn),.slice s1 s2 s3]∧u2=.agg #[.string (bs cn),.slice s4 s5 s6] ∧
  ArgsV 35 3 (TypeV 66) cl (.slice s1 s2 s3) p1 t1 w∧ArgsV 35 3 (TypeV 66) cl (.slice s4 s5 s6) p2 t2 w:=by
 obtain ⟨cn,cl⟩:=x
 obtain ⟨va,rfl,ha⟩:=h1
 obtain ⟨vb,rfl,hb⟩:=h2
 obtain ⟨s1,s2,s3,rfl⟩:=ha.slice
 obtain ⟨s4,s5,s6,rfl⟩:=hb.slice
 exact ⟨cn,cl,s1,s2,s3,s4,s5,s6,rfl,rfl,ha,hb⟩
set_option maxRecDepth 100000 in
set_option maxHeartbeats 8000000 in
theorem sameItem_pre (HTy:Hid (SameOk 54 (ArgsV 35 3 (TypeV 66)))) (HTe:Hid (SameOk 49 (ArgsV 28 4 (TermV 66)))) (HG:Hid (SameOk 25 (GoalV 134))):SameOk 46 ItemV:=by
 rintro ⟨xk,xn,xv,xc,xt,xi,xd,xa,xb⟩ v1 v2 lo1 hi1 lo2 hi2 w h1 h2 b1 b2
 obtain ⟨pv0,pc0,pt0,pi0,pa0,pb0,pb1,pb2,pb3,pb4,pb5,pb6,pb7,pb8,pb9,pb10,pb11,rfl,pV,pC,pT,pI,pA,pG⟩:=h1
 obtain ⟨pv,pvc,rfl,_⟩:=pV.at (fun _ _ _ _ _ h=>strH.cells h) (by decide)
 obtain ⟨pc,pcc,rfl,_⟩:=pC.at (fun _ _ _ _ _ h=>CtorV.cells h) (by decide)
 obtain ⟨pt1,pt2,pt3,rfl⟩:=pT.slice
 obtain ⟨pi,pic,rfl,_⟩:=pI.at (fun _ _ _ _ _ h=>boolV.cells h) (by decide)
 obtain ⟨pa1,pa2,pa3,rfl⟩:=pA.slice
 obtain ⟨x1,x2,x3,x4,x5,x6,x7,x8,x9,x10,x11,x12,x13,x14,x15,x16,x17,x18,x19,x20,pe⟩:=GoalV.this _ _ _ _ _ _ pG
 simp only [Value.agg.injEq,Array.mk.injEq,List.cons.injEq,and_true] at pe
 obtain ⟨rfl,rfl,rfl,rfl,rfl,rfl,rfl,rfl,rfl,rfl,rfl,rfl⟩:=pe
 obtain ⟨qv0,qc0,qt0,qi0,qa0,qb0,qb1,qb2,qb3,qb4,qb5,qb6,qb7,qb8,qb9,qb10,qb11,rfl,qV,qC,qT,qI,qA,qG⟩:=h2
 obtain ⟨qv,qvc,rfl,_⟩:=qV.at (fun _ _ _ _ _ h=>strH.cells h) (by decide)
 obtain ⟨qc,qcc,rfl,_⟩:=qC.at (fun _ _ _ _ _ h=>CtorV.cells h) (by decide)
 obtain ⟨qt1,qt2,qt3,rfl⟩:=qT.slice
 obtain ⟨qi,qic,rfl,_⟩:=qI.at (fun _ _ _ _ _ h=>boolV.cells h) (by decide)
 obtain ⟨qa1,qa2,qa3,rfl⟩:=qA.slice
 obtain ⟨y1,y2,y3,y4,y5,y6,y7,y8,y9,y10,y11,y12,y13,y14,y15,y16,y17,y18,y19,y20,qe⟩:=GoalV.this _ _ _ _ _ _ qG
 simp only [Value.agg.injEq,Array.mk.injEq,List.cons.injEq,and_true] at qe
 obtain ⟨rfl,rfl,rfl,rfl,rfl,rfl,rfl,rfl,rfl,rfl,rfl,rfl⟩:=qe
 have fv:=pV.few
 have fc:=pC.few
 have fi:=pI.few
 unfold maxLen at fv fc fi
 have HpV:=Lib.hid pV
 have HpC:=Lib.hid pC
 have HpT:=Lib.hid pT
 have HpI:=Lib.hid pI
 have HpA:=Lib.hid pA
 have HpG:=Lib.hid pG
 have HqV:=Lib.hid qV
 have HqC:=Lib.hid qC
 have HqT:=Lib.hid qT
 have HqI:=Lib.hid qI
 have HqA:=Lib.hid qA
 have HqG:=Lib.hid qG
 clear pV pC pT pI pA pG qV qC qT qI qA qG
 dsimp only at *
 have hw2:=((Below.refl w.heap.size w).alloc (Nat.le_refl _) (.cells #[.int .i64 xk,.string (bs xn),.slice pv xv.length pvc,.slice pc xc.length pcc,.slice pt1 pt2 pt3,.slice pi xi.length pic,.int .i64 xd,.slice pa1 pa2 pa3,.int .i64 x1,.int .i64 x2,.string x3,.int .i64 x4,.slice x5 x6 x7,.int .i64 x8,.string x9,.int .i64 x10,.slice x11 x12 x13,.string x14,.slice x15 x16 x17,.slice x18 x19 x20] 33)).alloc (by simp) (.cells #[.int .i64 xk,.string (bs xn),.slice qv xv.length qvc,.slice qc xc.length qcc,.slice qt1 qt2 qt3,.slice qi xi.length qic,.int .i64 xd,.slice qa1 qa2 qa3,.int .i64 y1,.int .i64 y2,.string y3,.int .i64 y4,.slice y5 y6 y7,.int .i64 y8,.string y9,.int .i64 y10,.slice y11 y12 y13,.string y14,.slice y15 y16 y17,.slice y18 y19 y20] 33)
 have bx:=(Below.heap_alloc (w.alloc (.cells #[.int .i64 xk,.string (bs xn),.slice pv xv.length pvc,.slice pc xc.length pcc,.slice pt1 pt2 pt3,.slice pi xi.length pic,.int .i64 xd,.slice pa1 pa2 pa3,.int .i64 x1,.int .i64 x2,.string x3,.int .i64 x4,.slice x5 x6 x7,.int .i64 x8,.string x9,.int .i64 x10,.slice x11 x12 x13,.string x14,.slice x15 x16 x17,.slice x18 x19 x20] 33)) (.cells #[.int .i64 xk,.string (bs xn),.slice qv xv.length qvc,.slice qc xc.length qcc,.slice qt1 qt2 qt3,.slice qi xi.length qic,.int .i64 xd,.slice qa1 qa2 qa3,.int .i64 y1,.int .i64 y2,.string y3,.int .i64 y4,.slice y5 y6 y7,.int .i64 y8,.string y9,.int .i64 y10,.slice y11 y12 y13,.string y14,.slice y15 y16 y17,.slice y18 y19 y20] 33) w.heap.size (by simp)).trans (heap_alloc_new w (.cells #[.int .i64 xk,.string (bs xn),.slice pv xv.length pvc,.slice pc xc.length pcc,.slice pt1 pt2 pt3,.slice pi xi.length pic,.int .i64 xd,.slice pa1 pa2 pa3,.int .i64 x1,.int .i64 x2,.string x3,.int .i64 x4,.slice x5 x6 x7,.int .i64 x8,.string x9,.int .i64 x10,.slice x11 x12 x13,.string x14,.slice x15 x16 x17,.slice x18 x19 x20] 33))
 have by':=heap_alloc_new (w.alloc (.cells #[.int .i64 xk,.string (bs xn),.slice pv xv.length pvc,.slice pc xc.length pcc,.slice pt1 pt2 pt3,.slice pi xi.length pic,.int .i64 xd,.slice pa1 pa2 pa3,.int .i64 x1,.int .i64 x2,.string x3,.int .i64 x4,.slice x5 x6 x7,.int .i64 x8,.string x9,.int .i64 x10,.slice x11 x12 x13,.string x14,.slice x15 x16 x17,.slice x18 x19 x20] 33)) (.cells #[.int .i64 xk,.string (bs xn),.slice qv xv.length qvc,.slice qc xc.length qcc,.slice qt1 qt2 qt3,.slice qi xi.length qic,.int .i64 xd,.slice qa1 qa2 qa3,.int .i64 y1,.int .i64 y2,.string y3,.int .i64 y4,.slice y5 y6 y7,.int .i64 y8,.string y9,.int .i64 y10,.slice y11 y12 y13,.string y14,.slice y15 y16 y17,.slice y18 y19 y20] 33)
 rw [show (w.alloc (.cells #[.int .i64 xk,.string (bs xn),.slice pv xv.length pvc,.slice pc xc.length pcc,.slice pt1 pt2 pt3,.slice pi xi.length pic,.int .i64 xd,.slice pa1 pa2 pa3,.int .i64 x1,.int .i64 x2,.string x3,.int .i64 x4,.slice x5 x6 x7,.int .i64 x8,.string x9,.int .i64 x10,.slice x11 x12 x13,.string x14,.slice x15 x16 x17,.slice x18 x19 x20] 33)).heap.size=w.heap.size+1 by simp] at by'
 have HW2:=Lib.hid hw2
 have HBX:=Lib.hid bx
 have HBY:=Lib.hid by'
 have hz2:((w.alloc (.cells #[.int .i64 xk,.string (bs xn),.slice pv xv.length pvc,.slice pc xc.length pcc,.slice pt1 pt2 pt3,.slice pi xi.length pic,.int .i64 xd,.slice pa1 pa2 pa3,.int .i64 x1,.int .i64 x2,.string x3,.int .i64 x4,.slice x5 x6 x7,.int .i64 x8,.string x9,.int .i64 x10,.slice x11 x12 x13,.string x14,.slice x15 x16 x17,.slice x18 x19 x20] 33)).alloc (.cells #[.int .i64 xk,.string (bs xn),.slice qv xv.length qvc,.slice qc xc.length qcc,.slice qt1 qt2 qt3,.slice qi xi.length qic,.int .i64 xd,.slice qa1 qa2 qa3,.int .i64 y1,.int .i64 y2,.string y3,.int .i64 y4,.slice y5 y6 y7,.int .i64 y8,.string y9,.int .i64 y10,.slice y11 y12 y13,.string y14,.slice y15 y16 y17,.slice y18 y19 y20] 33)).heap.size=w.heap.size+2:=by simp
 have HZ2:=Lib.hid hz2
 clear hw2 bx by' hz2
 go_enter Tryz.func46,Tryz.ntmps46
 go_wp2_with fail
 generalize (w.alloc (.cells #[.int .i64 xk,.string (bs xn),.slice pv xv.length pvc,.slice pc xc.length pcc,.slice pt1 pt2 pt3,.slice pi xi.length pic,.int .i64 xd,.slice pa1 pa2 pa3,.int .i64 x1,.int .i64 x2,.string x3,.int .i64 x4,.slice x5 x6 x7,.int .i64 x8,.string x9,.int .i64 x10,.slice x11 x12 x13,.string x14,.slice x15 x16 x17,.slice x18 x19 x20] 33)).alloc (.cells #[.int .i64 xk,.string (bs xn),.slice qv xv.length qvc,.slice qc xc.length qcc,.slice qt1 qt2 qt3,.slice qi xi.length qic,.int .i64 xd,.slice qa1 qa2 qa3,.int .i64 y1,.int .i64 y2,.string y3,.int .i64 y4,.slice y5 y6 y7,.int .i64 y8,.string y9,.int .i64 y10,.slice y11 y12 y13,.string y14,.slice y15 y16 y17,.slice y18 y19 y20] 33)=W2 at *
 have hs2:=HW2.out.size
 have hz2:=HZ2.out
 go_at_call 54
 refine (HTy.out xt _ _ lo1 hi1 lo2 hi2 _ (same_of_below (ArgsV.stable _ _ (TypeV.stable 66)) HpT.out HW2.out b1) (same_of_below (ArgsV.stable _ _ (TypeV.stable 66)) HqT.out HW2.out b2) (by omega) (by omega)).mono ?_
 rintro e w3 ⟨rfl,hb⟩
 have HW3:=Lib.hid (HW2.out.trans (hb.mono HW2.out.size))
 have hs3:=hb.size
 have HBX3:=Lib.hid ((hb.block w.heap.size (by omega)).trans HBX.out)
 have HBY3:=Lib.hid ((hb.block (w.heap.size+1) (by omega)).trans HBY.out)
 clear hb
 obtain ⟨a0,a1,a2,a3,a4,a5,a6,a7,a8,a9,a10,a11,a12,a13,a14,a15,a16,a17,a18,a19⟩:=cells20 HBX3.out
 obtain ⟨d0,d1,d2,d3,d4,d5,d6,d7,d8,d9,d10,d11,d12,d13,d14,d15,d16,d17,d18,d19⟩:=cells20 HBY3.out
 go_wp2_with fail
 clear a0 a1 a2 a3 a4 a5 a6 a7 a8 a9 a10 a11 a12 a13 a14 a15 a16 a17 a18 a19 d0 d1 d2 d3 d4 d5 d6 d7 d8 d9 d10 d11 d12 d13 d14 d15 d16 d17 d18 d19
 go_at_call 49
 refine (HTe.out xa _ _ lo1 hi1 lo2 hi2 _ (same_of_below (ArgsV.stable _ _ (TermV.stable 66)) HpA.out HW3.out b1) (same_of_below (ArgsV.stable _ _ (TermV.stable 66)) HqA.out HW3.out b2) (by omega) (by omega)).mono ?_
 rintro e w4 ⟨rfl,hb⟩
 have HW4:=Lib.hid (HW3.out.trans (hb.mono HW3.out.size))
 have hs4:=hb.size
 have HBX4:=Lib.hid ((hb.block w.heap.size (by omega)).trans HBX3.out)
 have HBY4:=Lib.hid ((hb.block (w.heap.size+1) (by omega)).trans HBY3.out)
 clear hb
 obtain ⟨a0,a1,a2,a3,a4,a5,a6,a7,a8,a9,a10,a11,a12,a13,a14,a15,a16,a17,a18,a19⟩:=cells20 HBX4.out
 obtain ⟨d0,d1,d2,d3,d4,d5,d6,d7,d8,d9,d10,d11,d12,d13,d14,d15,d16,d17,d18,d19⟩:=cells20 HBY4.out
 go_wp2_with fail
 clear a0 a1 a2 a3 a4 a5 a6 a7 a8 a9 a10 a11 a12 a13 a14 a15 a16 a17 a18 a19 d0 d1 d2 d3 d4 d5 d6 d7 d8 d9 d10 d11 d12 d13 d14 d15 d16 d17 d18 d19
 go_at_call 25
 refine (HG.out xb _ _ lo1 hi1 lo2 hi2 _ (same_of_below (GoalV.stable 134) HpG.out HW4.out b1) (same_of_below (GoalV.stable 134) HqG.out HW4.out b2) (by omega) (by omega)).mono ?_
 rintro e w5 ⟨rfl,hb⟩
 have HW5:=Lib.hid (HW4.out.trans (hb.mono HW4.out.size))
 have hs5:=hb.size
 have HBX5:=Lib.hid ((hb.block w.heap.size (by omega)).trans HBX4.out)
 have HBY5:=Lib.hid ((hb.block (w.heap.size+1) (by omega)).trans HBY4.out)
 clear hb
 obtain ⟨a0,a1,a2,a3,a4,a5,a6,a7,a8,a9,a10,a11,a12,a13,a14,a15,a16,a17,a18,a19⟩:=cells20 HBX5.out
 obtain ⟨d0,d1,d2,d3,d4,d5,d6,d7,d8,d9,d10,d11,d12,d13,d14,d15,d16,d17,d18,d19⟩:=cells20 HBY5.out
 go_wp2_with fail
 clear a0 a1 a2 a3 a4 a5 a6 a7 a8 a9 a10 a11 a12 a13 a14 a15 a16 a17 a18 a19 d0 d1 d2 d3 d4 d5 d6 d7 d8 d9 d10 d11 d12 d13 d14 d15 d16 d17 d18 d19
 go_loopw [81] (fun t wr=>∃ k:Nat,k≤xv.length∧t=.int .i64 k∧Hid (Below w5.heap.size w5 wr)) (fun t _=>xv.length - (intOf t).toNat)
 case atStart=>exact ⟨0,Nat.zero_le _,rfl,Lib.hid (Below.refl _ _)⟩
 case round =>
  obtain ⟨k,hk,rfl,HB⟩:=hrel
  by_cases hlt:k < xv.length
  ·have hbw:=HW5.out.trans (HB.out.mono HW5.out.size)
   obtain ⟨_,_,j1,r1⟩:=(same_of_below (ArgsV.stable _ _ strH.stable) HpV.out hbw b1).at (fun _ _ _ _ _ h=>strH.cells h) (by decide)
   obtain ⟨_,_,j2,r2⟩:=(same_of_below (ArgsV.stable _ _ strH.stable) HqV.out hbw b2).at (fun _ _ _ _ _ h=>strH.cells h) (by decide)
   injection j1 with j1 j1b j1c
   injection j2 with j2 j2b j2c
   subst j1 j2
   clear j1b j1c j2b j2c
   obtain ⟨g1,u1,p1,t1,rfl,_,m1,hv1,cc1⟩:=r1 k hlt
   obtain ⟨g2,u2,p2,t2,rfl,_,m2,hv2,cc2⟩:=r2 k hlt
   obtain rfl:=hv1
   obtain rfl:=hv2
   have e0:=(cc1 0 (by decide)).trans rfl
   have e1:=(cc2 0 (by decide)).trans rfl
   simp only [cellsL,Value.cells,List.getElem?_cons_zero,Nat.add_zero,Nat.mul_one] at e0 e1
   have hxX:=(HB.out.block w.heap.size (by omega)).trans HBX5.out
   have hxY:=(HB.out.block (w.heap.size+1) (by omega)).trans HBY5.out
   have a2:wr.cell? ⟨w.heap.size,2,none⟩=some (.slice (some ⟨g1,0,none⟩) xv.length pvc):=(Lib.cell_of_heap hxX 2).trans rfl
   have d2:wr.cell? ⟨w.heap.size+1,2,none⟩=some (.slice (some ⟨g2,0,none⟩) xv.length qvc):=(Lib.cell_of_heap hxY 2).trans rfl
   clear hxX hxY
   have hk0:(0:Int)≤(k:Int):=by omega
   have hk1:(k:Int) < (xv.length:Int):=by omega
   have hdc:decide (k < xv.length)=true:=by simpa using hlt
   clear cc1 cc2 r1 r2 hbw
   go_wp2_with fail
   go_quiet (fail)
   have HBn:=Lib.hid (show Below w5.heap.size w5 (wr.drewN nq) from ⟨HB.out.os,HB.out.tape,HB.out.output,HB.out.size,HB.out.block⟩)
   go_wp2_with fail
   go_roundw
   case rel=>exact ⟨k+1,by omega,by go_num,HBn⟩
   case measure=>simp [intOf];omega
  ·obtain rfl:k=xv.length:=by omega
   have hdc:decide (xv.length < xv.length)=false:=by simp
   have hxX:=(HB.out.block w.heap.size (by omega)).trans HBX5.out
   have hxY:=(HB.out.block (w.heap.size+1) (by omega)).trans HBY5.out
   have a5:wr.cell? ⟨w.heap.size,5,none⟩=some (.slice pi xi.length pic):=(Lib.cell_of_heap hxX 5).trans rfl
   have d5:wr.cell? ⟨w.heap.size+1,5,none⟩=some (.slice qi xi.length qic):=(Lib.cell_of_heap hxY 5).trans rfl
   clear hxX hxY
   go_wp2_with fail
   obtain ⟨wo,rfl⟩:∃ wo:World,wo=wr:=⟨_,rfl⟩
   have HBo:=HB
   clear HB a5 d5 hdc
   go_loopw [99] (fun t wr=>∃ k:Nat,k≤xi.length∧t=.int .i64 k∧Hid (Below w5.heap.size w5 wr)) (fun t _=>xi.length - (intOf t).toNat)
   case atStart=>exact ⟨0,Nat.zero_le _,rfl,HBo⟩
   case round =>
    obtain ⟨k,hk,rfl,HB⟩:=hrel
    by_cases hlt:k < xi.length
    ·have hbw:=HW5.out.trans (HB.out.mono HW5.out.size)
     obtain ⟨_,_,j1,r1⟩:=(same_of_below (ArgsV.stable _ _ boolV.stable) HpI.out hbw b1).at (fun _ _ _ _ _ h=>boolV.cells h) (by decide)
     obtain ⟨_,_,j2,r2⟩:=(same_of_below (ArgsV.stable _ _ boolV.stable) HqI.out hbw b2).at (fun _ _ _ _ _ h=>boolV.cells h) (by decide)
     injection j1 with j1 j1b j1c
     injection j2 with j2 j2b j2c
     subst j1 j2
     clear j1b j1c j2b j2c
     obtain ⟨g1,u1,p1,t1,rfl,_,m1,hv1,cc1⟩:=r1 k hlt
     obtain ⟨g2,u2,p2,t2,rfl,_,m2,hv2,cc2⟩:=r2 k hlt
     obtain rfl:=hv1
     obtain rfl:=hv2
     have e0:=(cc1 0 (by decide)).trans rfl
     have e1:=(cc2 0 (by decide)).trans rfl
     simp only [cellsL,Value.cells,List.getElem?_cons_zero,Nat.add_zero,Nat.mul_one] at e0 e1
     have hxX:=(HB.out.block w.heap.size (by omega)).trans HBX5.out
     have hxY:=(HB.out.block (w.heap.size+1) (by omega)).trans HBY5.out
     have a5:wr.cell? ⟨w.heap.size,5,none⟩=some (.slice (some ⟨g1,0,none⟩) xi.length pic):=(Lib.cell_of_heap hxX 5).trans rfl
     have d5:wr.cell? ⟨w.heap.size+1,5,none⟩=some (.slice (some ⟨g2,0,none⟩) xi.length qic):=(Lib.cell_of_heap hxY 5).trans rfl
     clear hxX hxY
     have hk0:(0:Int)≤(k:Int):=by omega
     have hk1:(k:Int) < (xi.length:Int):=by omega
     have hdc:decide (k < xi.length)=true:=by simpa using hlt
     clear cc1 cc2 r1 r2 hbw
     generalize xi[k]=bb at *
     go_wp2_with fail
     go_quiet (fail)
     have HBn:=Lib.hid (show Below w5.heap.size w5 (wr.drewN nq) from ⟨HB.out.os,HB.out.tape,HB.out.output,HB.out.size,HB.out.block⟩)
     go_wp2_with fail
     go_roundw
     case rel=>exact ⟨k+1,by omega,by go_num,HBn⟩
     case measure=>simp [intOf];omega
    ·obtain rfl:k=xi.length:=by omega
     have hdc:decide (xi.length < xi.length)=false:=by simp
     have hxX:=(HB.out.block w.heap.size (by omega)).trans HBX5.out
     have hxY:=(HB.out.block (w.heap.size+1) (by omega)).trans HBY5.out
     have a3:wr.cell? ⟨w.heap.size,3,none⟩=some (.slice pc xc.length pcc):=(Lib.cell_of_heap hxX 3).trans rfl
     have d3:wr.cell? ⟨w.heap.size+1,3,none⟩=some (.slice qc xc.length qcc):=(Lib.cell_of_heap hxY 3).trans rfl
     clear hxX hxY
     go_wp2_with fail
     obtain ⟨wo2,rfl⟩:∃ wo:World,wo=wr:=⟨_,rfl⟩
     have HBo2:=HB
     clear HB a3 d3 hdc
     go_loopw [117] (fun t wr=>∃ k:Nat,k≤xc.length∧t=.int .i64 k∧Hid (Below w5.heap.size w5 wr)) (fun t _=>xc.length - (intOf t).toNat)
     case atStart=>exact ⟨0,Nat.zero_le _,rfl,HBo2⟩
     case round =>
      obtain ⟨k,hk,rfl,HB⟩:=hrel
      by_cases hlt:k < xc.length
      ·have hbw:=HW5.out.trans (HB.out.mono HW5.out.size)
       obtain ⟨_,_,j1,r1⟩:=(same_of_below (ArgsV.stable _ _ CtorV.stable) HpC.out hbw b1).at (fun _ _ _ _ _ h=>CtorV.cells h) (by decide)
       obtain ⟨_,_,j2,r2⟩:=(same_of_below (ArgsV.stable _ _ CtorV.stable) HqC.out hbw b2).at (fun _ _ _ _ _ h=>CtorV.cells h) (by decide)
       injection j1 with j1 j1b j1c
       injection j2 with j2 j2b j2c
       subst j1 j2
       clear j1b j1c j2b j2c
       obtain ⟨g1,u1,p1,t1,rfl,_,m1,hv1,cc1⟩:=r1 k hlt
       obtain ⟨g2,u2,p2,t2,rfl,_,m2,hv2,cc2⟩:=r2 k hlt
       have hfin:=sameCtor xc[k] hv1 hv2
       obtain ⟨cn,cl,s1,s2,s3,s4,s5,s6,rfl,rfl,hl1,hl2⟩:=hfin
       have e0:=(cc1 0 (by decide)).trans rfl
       have e1:=(cc1 1 (by decide)).trans rfl
       have e2:=(cc2 0 (by decide)).trans rfl
       have e3:=(cc2 1 (by decide)).trans rfl
       simp only [cellsL,Value.cells,List.getElem?_cons_zero,List.getElem?_cons_succ,Nat.add_zero] at e0 e1 e2 e3
       have hxX:=(HB.out.block w.heap.size (by omega)).trans HBX5.out
       have hxY:=(HB.out.block (w.heap.size+1) (by omega)).trans HBY5.out
       have a3:wr.cell? ⟨w.heap.size,3,none⟩=some (.slice (some ⟨g1,0,none⟩) xc.length pcc):=(Lib.cell_of_heap hxX 3).trans rfl
       have d3:wr.cell? ⟨w.heap.size+1,3,none⟩=some (.slice (some ⟨g2,0,none⟩) xc.length qcc):=(Lib.cell_of_heap hxY 3).trans rfl
       clear hxX hxY
       have hk0:(0:Int)≤(k:Int):=by omega
       have hk1:(k:Int) < (xc.length:Int):=by omega
       have hdc:decide (k < xc.length)=true:=by simpa using hlt
       have hsz:=HB.out.size
       have HBD:Below w5.heap.size w5 wr.drew:=⟨HB.out.os,HB.out.tape,HB.out.output,HB.out.size,HB.out.block⟩
       have HBD:=Lib.hid HBD
       have hsz2:w5.heap.size≤wr.drew.heap.size:=hsz
       have HL1:=Lib.hid (ArgsV.stable _ _ (TypeV.stable 66) _ _ _ _ _ wr.drew hl1 (fun _ _ _=>rfl))
       have HL2:=Lib.hid (ArgsV.stable _ _ (TypeV.stable 66) _ _ _ _ _ wr.drew hl2 (fun _ _ _=>rfl))
       clear cc1 cc2 r1 r2 hbw hl1 hl2 hv1 hv2
       go_wp2_with fail
       go_still_tail 26,(by kernel_rfl)
       change wpList _ _ _ _ _ wr.drew
       generalize wr.drew=X at HBD HL1 HL2 hsz2 ⊢
       clear a3 d3 e0 e1 e2 e3
       go_wp2_with fail
       go_at_call 54
       refine (HTy.out _ _ _ p1 t1 p2 t2 _ HL1.out HL2.out (by omega) (by omega)).mono ?_
       rintro e w6 ⟨rfl,hb6⟩
       have HB6:=Lib.hid (HBD.out.trans (hb6.mono HBD.out.size))
       clear hb6
       go_wp2_with fail
       go_roundw
       case rel=>exact ⟨k+1,by omega,by go_num,HB6⟩
       case measure=>simp [intOf];omega
      ·obtain rfl:k=xc.length:=by omega
       have hdc:decide (xc.length < xc.length)=false:=by simp
       go_wp2_with fail
       go_ret
       exact ⟨rfl,HW5.out.trans (HB.out.mono HW5.out.size)⟩
end Lx
end Go.Proofs.YtajomoclbpobhaaGreatDoor
