/- The walk of the statement DataOrders: it returns true. Conditions: the error variables hold their errors; the data are ones that memory holds. -/
import Derived.Test.YtnpacamcgifabaaDoorDm
import Derived.Test.YtnpacamcgifabaaDoorDg
namespace Go.Proofs.YtnpacamcgifabaaDoor
set_option linter.unusedSimpArgs false
set_option linter.unusedVariables false
namespace Lx
open Go Go.RowKit
set_option maxRecDepth 100000 in
set_option maxHeartbeats 16000000 in
theorem lawOrders_any (f:Nat→Addr) (d:Nat) (x y z:DaT) (vx vy vz:Value) (w:World) (hx:DaW d (fun _=>False) x vx w) (hy:DaW d (fun _=>False) y vy w) (hz:DaW d (fun _=>False) z vz w) (he:ErrD f w) :
  Calls Tryd.prog 9 #[vx,vy,vz] w fun e w'=>e=.returned (.bool true)∧Below w.heap.size w w':=by
 obtain ⟨Ax,nx,cx,rfl⟩:=hx.this
 obtain ⟨Ay,ny,cy,rfl⟩:=hy.this
 obtain ⟨Az,nz,cz,rfl⟩:=hz.this
 have hb:Below w.heap.size w (((w.alloc (.cells #[.bool x.ctor,.int .i64 x.int,.string x.name,.slice Ax nx cx] 68)).alloc (.cells #[.bool y.ctor,.int .i64 y.int,.string y.name,.slice Ay ny cy] 68)).alloc (.cells #[.bool z.ctor,.int .i64 z.int,.string z.name,.slice Az nz cz] 68)):=(below_two w _ _).trans ((below_alloc _ _).mono (below_two w _ _).size)
 have HB:=Lib.hid hb
 have htwo:=TwoB.made w (.bool x.ctor) (.int .i64 x.int) (.string x.name) (.slice Ax nx cx) (.bool y.ctor) (.int .i64 y.int) (.string y.name) (.slice Ay ny cy)
 have h3:=heap_alloc_new ((w.alloc (.cells #[.bool x.ctor,.int .i64 x.int,.string x.name,.slice Ax nx cx] 68)).alloc (.cells #[.bool y.ctor,.int .i64 y.int,.string y.name,.slice Ay ny cy] 68)) (.cells #[.bool z.ctor,.int .i64 z.int,.string z.name,.slice Az nz cz] 68)
 rw [show ((w.alloc (.cells #[.bool x.ctor,.int .i64 x.int,.string x.name,.slice Ax nx cx] 68)).alloc (.cells #[.bool y.ctor,.int .i64 y.int,.string y.name,.slice Ay ny cy] 68)).heap.size=w.heap.size+2 by simp] at h3
 have htw:=htwo.below (below_alloc _ (.cells #[.bool z.ctor,.int .i64 z.int,.string z.name,.slice Az nz cz] 68))
 have HCF0:Hid (∀ W,Below (((w.alloc (.cells #[.bool x.ctor,.int .i64 x.int,.string x.name,.slice Ax nx cx] 68)).alloc (.cells #[.bool y.ctor,.int .i64 y.int,.string y.name,.slice Ay ny cy] 68)).alloc (.cells #[.bool z.ctor,.int .i64 z.int,.string z.name,.slice Az nz cz] 68)).heap.size (((w.alloc (.cells #[.bool x.ctor,.int .i64 x.int,.string x.name,.slice Ax nx cx] 68)).alloc (.cells #[.bool y.ctor,.int .i64 y.int,.string y.name,.slice Ay ny cy] 68)).alloc (.cells #[.bool z.ctor,.int .i64 z.int,.string z.name,.slice Az nz cz] 68)) W→W.cell? ⟨w.heap.size,0,none⟩=some (.bool x.ctor)∧W.cell? ⟨w.heap.size,1,none⟩=some (.int .i64 x.int)∧W.cell? ⟨w.heap.size,2,none⟩=some (.string x.name)∧W.cell? ⟨w.heap.size,3,none⟩=some (.slice Ax nx cx)∧W.cell? ⟨w.heap.size+1,0,none⟩=some (.bool y.ctor)∧W.cell? ⟨w.heap.size+1,1,none⟩=some (.int .i64 y.int)∧W.cell? ⟨w.heap.size+1,2,none⟩=some (.string y.name)∧W.cell? ⟨w.heap.size+1,3,none⟩=some (.slice Ay ny cy)∧W.cell? ⟨w.heap.size+2,0,none⟩=some (.bool z.ctor)∧W.cell? ⟨w.heap.size+2,1,none⟩=some (.int .i64 z.int)∧W.cell? ⟨w.heap.size+2,2,none⟩=some (.string z.name)∧W.cell? ⟨w.heap.size+2,3,none⟩=some (.slice Az nz cz)):=Lib.hid (fun W hW=>by
  have e1:=(hW.block w.heap.size (Array.getElem?_eq_some_iff.1 htw.one).1).trans htw.one
  have e2:=(hW.block (w.heap.size+1) (Array.getElem?_eq_some_iff.1 htw.two).1).trans htw.two
  have e3:=(hW.block (w.heap.size+2) (Array.getElem?_eq_some_iff.1 h3).1).trans h3
  exact ⟨(cellH e1 0).trans rfl,(cellH e1 1).trans rfl,(cellH e1 2).trans rfl,(cellH e1 3).trans rfl,(cellH e2 0).trans rfl,(cellH e2 1).trans rfl,(cellH e2 2).trans rfl,(cellH e2 3).trans rfl,(cellH e3 0).trans rfl,(cellH e3 1).trans rfl,(cellH e3 2).trans rfl,(cellH e3 3).trans rfl⟩)
 have HVx0:=Lib.hid ((DaW.step d).below hx hb)
 have HVy0:=Lib.hid ((DaW.step d).below hy hb)
 have HVz0:=Lib.hid ((DaW.step d).below hz hb)
 have HAL:=Lib.hid (dalive_any f _ (he.stay hb))
 clear hx hy hz hb he htwo h3 htw
 go_enter Tryd.func9,Tryd.ntmps9
 go_wp2_with fail
 generalize (((w.alloc (.cells #[.bool x.ctor,.int .i64 x.int,.string x.name,.slice Ax nx cx] 68)).alloc (.cells #[.bool y.ctor,.int .i64 y.int,.string y.name,.slice Ay ny cy] 68)).alloc (.cells #[.bool z.ctor,.int .i64 z.int,.string z.name,.slice Az nz cz] 68))=W0 at HB HCF0 HVx0 HVy0 HVz0 HAL ⊢
 generalize hN:w.heap.size=N at HCF0 ⊢
 have HN:=Lib.hid hN
 clear hN
 try go_at_call 36
 refine HAL.out.mono ?_
 rintro e w1 ⟨rfl,hb1⟩
 have HCF:Hid (∀ W,Below W0.heap.size W0 W→W.cell? ⟨N,0,none⟩=some (.bool x.ctor)∧W.cell? ⟨N,1,none⟩=some (.int .i64 x.int)∧W.cell? ⟨N,2,none⟩=some (.string x.name)∧W.cell? ⟨N,3,none⟩=some (.slice Ax nx cx)∧W.cell? ⟨N+1,0,none⟩=some (.bool y.ctor)∧W.cell? ⟨N+1,1,none⟩=some (.int .i64 y.int)∧W.cell? ⟨N+1,2,none⟩=some (.string y.name)∧W.cell? ⟨N+1,3,none⟩=some (.slice Ay ny cy)∧W.cell? ⟨N+2,0,none⟩=some (.bool z.ctor)∧W.cell? ⟨N+2,1,none⟩=some (.int .i64 z.int)∧W.cell? ⟨N+2,2,none⟩=some (.string z.name)∧W.cell? ⟨N+2,3,none⟩=some (.slice Az nz cz)):=HCF0
 have HVx:Hid (∀ W,Below W0.heap.size W0 W→DaW d (fun _=>False) x (.agg #[.bool x.ctor,.int .i64 x.int,.string x.name,.slice Ax nx cx]) W):=Lib.hid (fun W hW=>(DaW.step d).below HVx0.out hW)
 have HVy:Hid (∀ W,Below W0.heap.size W0 W→DaW d (fun _=>False) y (.agg #[.bool y.ctor,.int .i64 y.int,.string y.name,.slice Ay ny cy]) W):=Lib.hid (fun W hW=>(DaW.step d).below HVy0.out hW)
 have HVz:Hid (∀ W,Below W0.heap.size W0 W→DaW d (fun _=>False) z (.agg #[.bool z.ctor,.int .i64 z.int,.string z.name,.slice Az nz cz]) W):=Lib.hid (fun W hW=>(DaW.step d).below HVz0.out hW)
 have HBW:=Lib.hid hb1
 clear hb1 HAL HCF0 HVx0 HVy0 HVz0
 obtain ⟨x0,x1,x2,x3,y0,y1,y2,y3,z0,z1,z2,z3⟩:=HCF.out _ HBW.out
 go_wp2_with fail
 clear x0 x1 x2 x3 y0 y1 y2 y3 z0 z1 z2 z3
 try go_at_call 43
 refine (rgood_any d _ x _ _ (HVx.out _ HBW.out)).mono ?_
 rintro e w2 ⟨rfl,hb2⟩
 have HBW:=Lib.hid (HBW.out.trans (hb2.mono HBW.out.size))
 clear hb2
 cases goodD x
 ·go_wp2_with fail
  go_ret
  exact ⟨rfl,HB.out.trans (HBW.out.mono HB.out.size)⟩
 ·obtain ⟨x0,x1,x2,x3,y0,y1,y2,y3,z0,z1,z2,z3⟩:=HCF.out _ HBW.out
  go_wp2_with fail
  clear x0 x1 x2 x3 y0 y1 y2 y3 z0 z1 z2 z3
  try go_at_call 43
  refine (rgood_any d _ y _ _ (HVy.out _ HBW.out)).mono ?_
  rintro e w3 ⟨rfl,hb3⟩
  have HBW:=Lib.hid (HBW.out.trans (hb3.mono HBW.out.size))
  clear hb3
  cases goodD y
  ·go_wp2_with fail
   go_ret
   exact ⟨rfl,HB.out.trans (HBW.out.mono HB.out.size)⟩
  ·obtain ⟨x0,x1,x2,x3,y0,y1,y2,y3,z0,z1,z2,z3⟩:=HCF.out _ HBW.out
   go_wp2_with fail
   clear x0 x1 x2 x3 y0 y1 y2 y3 z0 z1 z2 z3
   try go_at_call 43
   refine (rgood_any d _ z _ _ (HVz.out _ HBW.out)).mono ?_
   rintro e w4 ⟨rfl,hb4⟩
   have HBW:=Lib.hid (HBW.out.trans (hb4.mono HBW.out.size))
   clear hb4
   cases goodD z
   ·go_wp2_with fail
    go_ret
    exact ⟨rfl,HB.out.trans (HBW.out.mono HB.out.size)⟩
   ·obtain ⟨x0,x1,x2,x3,y0,y1,y2,y3,z0,z1,z2,z3⟩:=HCF.out _ HBW.out
    go_upto_region 5 with fail
    clear x0 x1 x2 x3 y0 y1 y2 y3 z0 z1 z2 z3
    refine wp_region_held_drew (S:=fun W=>W.cell? ⟨N,0,none⟩=some (.bool x.ctor)∧W.cell? ⟨N,1,none⟩=some (.int .i64 x.int)∧W.cell? ⟨N,2,none⟩=some (.string x.name)∧W.cell? ⟨N,3,none⟩=some (.slice Ax nx cx)∧W.cell? ⟨N+1,0,none⟩=some (.bool y.ctor)∧W.cell? ⟨N+1,1,none⟩=some (.int .i64 y.int)∧W.cell? ⟨N+1,2,none⟩=some (.string y.name)∧W.cell? ⟨N+1,3,none⟩=some (.slice Ay ny cy)∧W.cell? ⟨N+2,0,none⟩=some (.bool z.ctor)∧W.cell? ⟨N+2,1,none⟩=some (.int .i64 z.int)∧W.cell? ⟨N+2,2,none⟩=some (.string z.name)∧W.cell? ⟨N+2,3,none⟩=some (.slice Az nz cz)) (by kernel_rfl) (HCF.out _ (below_drw HBW.out)) (fun hHeld=>?_)
    have HBY:=Lib.hid (below_drw HBW.out)
    (refine wpAnyH_take (i:=0) (oi:=_) (v:=?_) rfl (by kernel_rfl) (by kernel_rfl) (by kernel_rfl) (fun _ _ _ h=>h) (Or.inl ⟨by kernel_rfl,?_⟩) (by assumption) ?_;rotate_left;(focus (intro w hSw;(try dsimp only at hSw);go_simp;(try with_reducible rfl);done));(try simp only [Act.put,List.setIfInBounds_toArray,List.set_cons_zero,List.set_cons_succ]))
    (refine wpAnyH_take (i:=1) (oi:=_) (v:=?_) rfl (by kernel_rfl) (by kernel_rfl) (by kernel_rfl) (fun _ _ _ h=>h) (Or.inl ⟨by kernel_rfl,?_⟩) (by assumption) ?_;rotate_left;(focus (intro w hSw;(try dsimp only at hSw);go_simp;(try with_reducible rfl);done));(try simp only [Act.put,List.setIfInBounds_toArray,List.set_cons_zero,List.set_cons_succ]))
    (refine wpAnyH_take (i:=3) (oi:=_) (v:=?_) rfl (by kernel_rfl) (by kernel_rfl) (by kernel_rfl) (fun _ _ _ h=>h) (Or.inl ⟨by kernel_rfl,?_⟩) (by assumption) ?_;rotate_left;(focus (intro w hSw;(try dsimp only at hSw);go_simp;(try with_reducible rfl);done));(try simp only [Act.put,List.setIfInBounds_toArray,List.set_cons_zero,List.set_cons_succ]))
    (refine wpAnyH_take (i:=4) (oi:=_) (v:=?_) rfl (by kernel_rfl) (by kernel_rfl) (by kernel_rfl) (fun _ _ _ h=>h) (Or.inl ⟨by kernel_rfl,?_⟩) (by assumption) ?_;rotate_left;(focus (intro w hSw;(try dsimp only at hSw);go_simp;(try with_reducible rfl);done));(try simp only [Act.put,List.setIfInBounds_toArray,List.set_cons_zero,List.set_cons_succ]))
    (refine wpAnyH_take (i:=6) (oi:=_) (v:=?_) rfl (by kernel_rfl) (by kernel_rfl) (by kernel_rfl) (fun _ _ _ h=>h) (Or.inl ⟨by kernel_rfl,?_⟩) (by assumption) ?_;rotate_left;(focus (intro w hSw;(try dsimp only at hSw);go_simp;(try with_reducible rfl);done));(try simp only [Act.put,List.setIfInBounds_toArray,List.set_cons_zero,List.set_cons_succ]))
    (refine wpAnyH_take (i:=7) (oi:=_) (v:=?_) rfl (by kernel_rfl) (by kernel_rfl) (by kernel_rfl) (fun _ _ _ h=>h) (Or.inl ⟨by kernel_rfl,?_⟩) (by assumption) ?_;rotate_left;(focus (intro w hSw;(try dsimp only at hSw);go_simp;(try with_reducible rfl);done));(try simp only [Act.put,List.setIfInBounds_toArray,List.set_cons_zero,List.set_cons_succ]))
    refine wpAnyH_ready (rs:=[2]) (by kernel_rfl) (by simp) ?_
    refine AllReadyH.cons (o:=_) rfl (fun K hK=>?_) AllReadyH.nil
    go_simp
    try go_at_call 44
    refine (compare_any d _ _ x y _ _ _ (HVx.out _ HBY.out) (HVy.out _ HBY.out)).mono ?_
    rintro e Y1 ⟨rfl,hb1⟩
    have HBY:=Lib.hid (HBY.out.trans (hb1.mono HBY.out.size))
    clear hb1
    go_simp
    refine hK.out _ _ (HCF.out _ HBY.out) (fun hHeld=>?_)
    clear hK K
    try simp only [Act.put,List.setIfInBounds_toArray,List.set_cons_zero,List.set_cons_succ]
    refine wpAnyH_ready (rs:=[5]) (by kernel_rfl) (by simp) ?_
    refine AllReadyH.cons (o:=_) rfl (fun K hK=>?_) AllReadyH.nil
    go_simp
    try go_at_call 44
    refine (compare_any d _ _ y z _ _ _ (HVy.out _ HBY.out) (HVz.out _ HBY.out)).mono ?_
    rintro e Y2 ⟨rfl,hb2⟩
    have HBY:=Lib.hid (HBY.out.trans (hb2.mono HBY.out.size))
    clear hb2
    go_simp
    refine hK.out _ _ (HCF.out _ HBY.out) (fun hHeld=>?_)
    clear hK K
    try simp only [Act.put,List.setIfInBounds_toArray,List.set_cons_zero,List.set_cons_succ]
    refine wpAnyH_ready (rs:=[8]) (by kernel_rfl) (by simp) ?_
    refine AllReadyH.cons (o:=_) rfl (fun K hK=>?_) AllReadyH.nil
    go_simp
    try go_at_call 44
    refine (compare_any d _ _ x z _ _ _ (HVx.out _ HBY.out) (HVz.out _ HBY.out)).mono ?_
    rintro e Y3 ⟨rfl,hb3⟩
    have HBY:=Lib.hid (HBY.out.trans (hb3.mono HBY.out.size))
    clear hb3
    go_simp
    refine hK.out _ _ (HCF.out _ HBY.out) (fun hHeld=>?_)
    clear hK K
    try simp only [Act.put,List.setIfInBounds_toArray,List.set_cons_zero,List.set_cons_succ]
    refine wpAnyH_ready (rs:=[9]) (by kernel_rfl) (by simp) ?_
    refine AllReadyH.cons (o:=_) rfl (fun K hK=>?_) AllReadyH.nil
    go_simp
    refine hK.out _ _ (HCF.out _ HBY.out) (fun hHeld=>?_)
    clear hK K
    try simp only [Act.put,List.setIfInBounds_toArray,List.set_cons_zero,List.set_cons_succ]
    refine wpAnyH_ready (rs:=[10]) (by kernel_rfl) (by simp) ?_
    refine AllReadyH.cons (o:=_) rfl (fun K hK=>?_) AllReadyH.nil
    go_simp
    refine hK.out _ _ (HCF.out _ HBY.out) (fun hHeld=>?_)
    clear hK K
    try simp only [Act.put,List.setIfInBounds_toArray,List.set_cons_zero,List.set_cons_succ]
    refine wpAnyH_ready (rs:=[11]) (by kernel_rfl) (by simp) ?_
    refine AllReadyH.cons (o:=_) rfl (fun K hK=>?_) AllReadyH.nil
    go_simp
    refine hK.out _ _ (HCF.out _ HBY.out) (fun hHeld=>?_)
    clear hK K
    try simp only [Act.put,List.setIfInBounds_toArray,List.set_cons_zero,List.set_cons_succ]
    refine wpAnyH_done (by kernel_rfl) ?_ _
    have HBW:=HBY
    have HIN:=Lib.hid (cmpD_in x y)
    have HTR:=Lib.hid (cmpD_tr x y z)
    have HNG:=Lib.hid (cmpD_neg x y)
    have HSF:=Lib.hid (cmpD_self x)
    obtain ⟨x0,x1,x2,x3,y0,y1,y2,y3,z0,z1,z2,z3⟩:=HCF.out _ HBW.out
    go_wp2_with fail
    clear x0 x1 x2 x3 y0 y1 y2 y3 z0 z1 z2 z3
    try go_at_call 45
    refine (rcompare_any d _ _ x y _ _ _ (HVx.out _ HBW.out) (HVy.out _ HBW.out)).mono ?_
    rintro e w6 ⟨rfl,hb6⟩
    have HBW:=Lib.hid (HBW.out.trans (hb6.mono HBW.out.size))
    clear hb6
    have hpp:(cmpD x y == cmpD x y)=true:=beq_self_eq_true _
    obtain ⟨x0,x1,x2,x3,y0,y1,y2,y3,z0,z1,z2,z3⟩:=HCF.out _ HBW.out
    go_wp2_with fail
    clear x0 x1 x2 x3 y0 y1 y2 y3 z0 z1 z2 z3
    try go_at_call 44
    refine (compare_any d _ _ y x _ _ _ (HVy.out _ HBW.out) (HVx.out _ HBW.out)).mono ?_
    rintro e w7 ⟨rfl,hb7⟩
    have HBW:=Lib.hid (HBW.out.trans (hb7.mono HBW.out.size))
    clear hb7
    rw [HNG.out]
    have hin:=HIN.out
    have hpn:(cmpD x y == - -cmpD x y)=true:=by rw [Int.neg_neg];exact beq_self_eq_true _
    obtain ⟨x0,x1,x2,x3,y0,y1,y2,y3,z0,z1,z2,z3⟩:=HCF.out _ HBW.out
    go_wp2_with fail
    clear x0 x1 x2 x3 y0 y1 y2 y3 z0 z1 z2 z3
    try go_at_call 44
    refine (compare_any d _ _ x x _ _ _ (HVx.out _ HBW.out) (HVx.out _ HBW.out)).mono ?_
    rintro e w8 ⟨rfl,hb8⟩
    have HBW:=Lib.hid (HBW.out.trans (hb8.mono HBW.out.size))
    clear hb8
    rw [HSF.out]
    have htr:=HTR.out
    have hin:=HIN.out
    generalize cmpD x y=p at htr hin ⊢
    generalize cmpD y z=q at htr ⊢
    generalize cmpD x z=r at htr ⊢
    have hm1:decide (-1≤p)=true:=by simp;omega
    have hm2:decide (p≤1)=true:=by simp;omega
    by_cases hp:p≤0
    ·have hp1:decide (p≤0)=true:=by simpa using hp
     by_cases hq:q≤0
     ·have hq1:decide (q≤0)=true:=by simpa using hq
      have hr1:decide (r≤0)=true:=by simpa using htr.1 hp hq
      clear htr hp hq
      go_wp2_with fail
      go_ret
      exact ⟨rfl,HB.out.trans (HBW.out.mono HB.out.size)⟩
     ·have hq1:decide (q≤0)=false:=by simpa using hq
      clear htr hp hq
      go_wp2_with fail
      go_ret
      exact ⟨rfl,HB.out.trans (HBW.out.mono HB.out.size)⟩
    ·have hp1:decide (p≤0)=false:=by simpa using hp
     clear htr hp
     go_wp2_with fail
     go_ret
     exact ⟨rfl,HB.out.trans (HBW.out.mono HB.out.size)⟩
end Lx
end Go.Proofs.YtnpacamcgifabaaDoor
