/- Package unify: use in general: the walk. Conditions: as each states. -/
import Derived.Test.YtnpacamcgifabaaDoorVl
import Derived.Deep.RegionHeld3
import Derived.Deep.MidRow
namespace Go.Proofs.YtnpacamcgifabaaDoor
set_option linter.unusedSimpArgs false
set_option linter.unusedVariables false
namespace Lx
open Go Go.RowKit
section
variable (b g m cap v d:Nat)
set_option maxRecDepth 100000 in
set_option maxHeartbeats 4000000 in
theorem use_free (hvm:v < m) (Vol:Nat→Prop) (us:Nat→List Nat) (u:Nat) (A1:Option Addr) (c1:Nat) (w:World) (hu:u < m) (hU:UsS Vol b g m cap us w) (hlen:(us u).length+1≤1000000000000) :
  Calls Tryd.prog 108 #[.pointer (some ⟨b,0,none⟩),.int .i64 v,.agg #[.int .i64 4,.string ⟨#[]⟩,.int .i64 u,.slice A1 0 c1]] w fun e w'=>e=.returned (.tuple #[])∧UsS (VolX Vol w.heap.size w') b g m cap (fun x=>if x=u then us u++[v] else us x) w'∧KV Vol g w w'∧∀ i j,j < 6→j ≠ 5→w'.cell? ⟨g,i * 6+j,none⟩=w.cell? ⟨g,i * 6+j,none⟩:=by
 obtain ⟨i0,hi0,hz0,hz1,hz2⟩:=info_parts infoInt
 have HI0:=Lib.hid hi0
 have HI1:=Lib.hid hz0
 have HI2:=Lib.hid hz1
 have HI3:=Lib.hid hz2
 clear hi0 hz0 hz1 hz2
 obtain ⟨vus,hU⟩:=hU
 have hb0:=below_alloc w (.cells #[.int .i64 4,.string ⟨#[]⟩,.int .i64 u,.slice A1 0 c1] 32)
 have HB0:=Lib.hid hb0
 have HU0:=Lib.hid (hU.later hb0 (fun _ e=>e) hU.volb)
 have HBX:=Lib.hid (heap_alloc_new w (.cells #[.int .i64 4,.string ⟨#[]⟩,.int .i64 u,.slice A1 0 c1] 32))
 have HBL:=Lib.hid hU.blt
 have HGL:=Lib.hid hU.glt
 clear hb0 hU
 go_enter Tryd.func108,Tryd.ntmps108
 go_upto_region 2 with fail
 generalize (w.alloc (.cells #[.int .i64 4,.string ⟨#[]⟩,.int .i64 u,.slice A1 0 c1] 32))=W at HB0 HU0 HBX ⊢
 have hu0:(0:Int)≤(u:Int):=by omega
 have hu1:(u:Int) < (m:Int):=by omega
 have hne0:=owner_ne (by decide) (HU0.out.own u hu) HU0.out.blk
 have hne1:=owner_ne (by decide) (HU0.out.own u hu) HBX.out
 have hne2:some g ≠ (vus u).ownBlock:=by
  obtain ⟨cs,q1,_⟩:=HU0.out.row
  exact owner_ne (by decide) (HU0.out.own u hu) q1
 have hlb:=HU0.out.blt
 have hlg:=HU0.out.glt
 have hlx:=(Array.getElem?_eq_some_iff.1 HBX.out).1
 have t0:W.cell? ⟨b,0,none⟩=some (.slice (some ⟨g,0,none⟩) m cap):=(cellH (HU0.out.blkP hu) 0).trans rfl
 have a2:W.cell? ⟨w.heap.size,2,none⟩=some (.int .i64 u):=(cellH HBX.out 2).trans rfl
 have c5:=HU0.out.usr u hu
 have f5:=HU0.out.frozen (u * 6+5)
 have f6:(W.alloc (.cells #[.int .i64 (v:Int)] 3)).drew.frozen? ⟨g,u * 6+5,none⟩=false:=(World.frozen?_of_block (Below.heap_alloc W _ g hlg)).trans f5
 have HOW:=Lib.hid (HU0.out.own u hu)
 generalize hV:vus u=V at c5 hne0 hne1 hne2 HOW
 have hbg:b ≠ g:=fun e=>HU0.out.volb (e ▸ HU0.out.volg)
 have hxg:w.heap.size ≠ g:=by have:=HGL.out;omega
 have z0:(W.alloc (.cells #[.int .i64 (v:Int)] 3)).cell? ⟨b,0,none⟩=some (.slice (some ⟨g,0,none⟩) m cap):=(World.cell?_of_block (Below.heap_alloc W _ b hlb)).trans t0
 have z2:(W.alloc (.cells #[.int .i64 (v:Int)] 3)).cell? ⟨w.heap.size,2,none⟩=some (.int .i64 u):=(World.cell?_of_block (Below.heap_alloc W _ w.heap.size hlx)).trans a2
 have z5:(W.alloc (.cells #[.int .i64 (v:Int)] 3)).cell? ⟨g,u * 6+5,none⟩=some V:=(World.cell?_of_block (Below.heap_alloc W _ g hlg)).trans c5
 refine wp_region_held_drew (S:=fun w'=>w'.cell? ⟨b,0,none⟩=some (.slice (some ⟨g,0,none⟩) m cap)∧w'.cell? ⟨w.heap.size,2,none⟩=some (.int .i64 u)) (by kernel_rfl) ⟨t0,a2⟩ (fun hHeld=>?_)
 (refine wpAnyH_take (i:=0) (oi:=_) (v:=?_) rfl (by kernel_rfl) (by kernel_rfl) (by kernel_rfl) (fun _ _ _ h=>h) (Or.inl ⟨by rfl,?_⟩) (by assumption) ?_;rotate_left;(focus (intro w hSw;(try dsimp only at hSw);go_simp;(try with_reducible rfl);done));(try simp only [Act.put,List.setIfInBounds_toArray,List.set_cons_zero,List.set_cons_succ]))
 (refine wpAnyH_take (i:=1) (oi:=_) (v:=?_) rfl (by kernel_rfl) (by kernel_rfl) (by kernel_rfl) (fun _ _ _ h=>h) (Or.inl ⟨by rfl,?_⟩) (by assumption) ?_;rotate_left;(focus (intro w hSw;(try dsimp only at hSw);go_simp;(try with_reducible rfl);done));(try simp only [Act.put,List.setIfInBounds_toArray,List.set_cons_zero,List.set_cons_succ]))
 (refine wpAnyH_take (i:=2) (oi:=_) (v:=?_) rfl (by kernel_rfl) (by kernel_rfl) (by kernel_rfl) (fun _ _ _ h=>h) (Or.inl ⟨by rfl,?_⟩) (by assumption) ?_;rotate_left;(focus (intro w hSw;(try dsimp only at hSw);go_simp;(try with_reducible rfl);done));(try simp only [Act.put,List.setIfInBounds_toArray,List.set_cons_zero,List.set_cons_succ]))
 (refine wpAnyH_take (i:=3) (oi:=_) (v:=?_) rfl (by kernel_rfl) (by kernel_rfl) (by kernel_rfl) (fun _ _ _ h=>h) (Or.inl ⟨by rfl,?_⟩) (by assumption) ?_;rotate_left;(focus (intro w hSw;(try dsimp only at hSw);go_simp;(try with_reducible rfl);done));(try simp only [Act.put,List.setIfInBounds_toArray,List.set_cons_zero,List.set_cons_succ]))
 (refine wpAnyH_take (i:=4) (oi:=_) (v:=?_) rfl (by kernel_rfl) (by kernel_rfl) (by kernel_rfl) (fun _ _ _ h=>h) (Or.inl ⟨by rfl,?_⟩) (by assumption) ?_;rotate_left;(focus (intro w hSw;(try dsimp only at hSw);go_simp;(try with_reducible rfl);done));(try simp only [Act.put,List.setIfInBounds_toArray,List.set_cons_zero,List.set_cons_succ]))
 (refine wpAnyH_take (i:=5) (oi:=_) (v:=?_) rfl (by kernel_rfl) (by kernel_rfl) (by kernel_rfl) (fun _ _ _ h=>h) (Or.inl ⟨by rfl,?_⟩) (by assumption) ?_;rotate_left;(focus (intro w hSw;(try dsimp only at hSw);go_simp;(try with_reducible rfl);done));(try simp only [Act.put,List.setIfInBounds_toArray,List.set_cons_zero,List.set_cons_succ]))
 (refine wpAnyH_take (i:=6) (oi:=_) (v:=?_) rfl (by kernel_rfl) (by kernel_rfl) (by kernel_rfl) (fun _ _ _ h=>h) (Or.inl ⟨by rfl,?_⟩) (by assumption) ?_;rotate_left;(focus (intro w hSw;(try dsimp only at hSw);go_simp;(try with_reducible rfl);done));(try simp only [Act.put,List.setIfInBounds_toArray,List.set_cons_zero,List.set_cons_succ]))
 (refine wpAnyH_take (i:=7) (oi:=_) (v:=?_) rfl (by kernel_rfl) (by kernel_rfl) (by kernel_rfl) (fun _ _ _ h=>h) (Or.inl ⟨by rfl,?_⟩) (by assumption) ?_;rotate_left;(focus (intro w hSw;(try dsimp only at hSw);go_simp;(try with_reducible rfl);done));(try simp only [Act.put,List.setIfInBounds_toArray,List.set_cons_zero,List.set_cons_succ]))
 (refine wpAnyH_take (i:=8) (oi:=_) (v:=?_) rfl (by kernel_rfl) (by kernel_rfl) (by kernel_rfl) (fun _ _ _ h=>h) (Or.inl ⟨by rfl,?_⟩) (by assumption) ?_;rotate_left;(focus (intro w hSw;(try dsimp only at hSw);go_simp;(try with_reducible rfl);done));(try simp only [Act.put,List.setIfInBounds_toArray,List.set_cons_zero,List.set_cons_succ]))
 (refine wpAnyH_take (i:=9) (oi:=_) (v:=?_) rfl (by kernel_rfl) (by kernel_rfl) (by kernel_rfl) (fun _ _ _ h=>h) (Or.inl ⟨by rfl,?_⟩) (by assumption) ?_;rotate_left;(focus (intro w hSw;(try dsimp only at hSw);go_simp;(try with_reducible rfl);done));(try simp only [Act.put,List.setIfInBounds_toArray,List.set_cons_zero,List.set_cons_succ]))
 (refine wpAnyH_take (i:=10) (oi:=_) (v:=?_) rfl (by kernel_rfl) (by kernel_rfl) (by kernel_rfl) (fun _ _ _ h=>h) (Or.inl ⟨by rfl,?_⟩) (by assumption) ?_;rotate_left;(focus (intro w hSw;(try dsimp only at hSw);go_simp;(try with_reducible rfl);done));(try simp only [Act.put,List.setIfInBounds_toArray,List.set_cons_zero,List.set_cons_succ]))
 (refine wpAnyH_take (i:=11) (oi:=_) (v:=?_) rfl (by kernel_rfl) (by kernel_rfl) (by kernel_rfl) (fun _ _ _ h=>h) (Or.inl ⟨by rfl,?_⟩) (by assumption) ?_;rotate_left;(focus (intro w hSw;(try dsimp only at hSw);go_simp;(try with_reducible rfl);done));(try simp only [Act.put,List.setIfInBounds_toArray,List.set_cons_zero,List.set_cons_succ]))
 (refine wpAnyH_take (i:=12) (oi:=_) (v:=?_) rfl (by kernel_rfl) (by kernel_rfl) (by kernel_rfl) (fun _ _ _ h=>h) (Or.inl ⟨by rfl,?_⟩) (by assumption) ?_;rotate_left;(focus (intro w hSw;(try dsimp only at hSw);go_simp;(try with_reducible rfl);done));(try simp only [Act.put,List.setIfInBounds_toArray,List.set_cons_zero,List.set_cons_succ]))
 (refine wpAnyH_take (i:=13) (oi:=_) (v:=?_) rfl (by kernel_rfl) (by kernel_rfl) (by kernel_rfl) (fun _ _ _ h=>h) (Or.inl ⟨by rfl,?_⟩) (by assumption) ?_;rotate_left;(focus (intro w hSw;(try dsimp only at hSw);go_simp;(try with_reducible rfl);done));(try simp only [Act.put,List.setIfInBounds_toArray,List.set_cons_zero,List.set_cons_succ]))
 (refine wpAnyH_take (i:=15) (oi:=_) (v:=?_) rfl (by kernel_rfl) (by kernel_rfl) (by kernel_rfl) (fun _ _ _ h=>h) (Or.inl ⟨by rfl,?_⟩) (by assumption) ?_;rotate_left;(focus (intro w hSw;(try dsimp only at hSw);go_simp;(try with_reducible rfl);done));(try simp only [Act.put,List.setIfInBounds_toArray,List.set_cons_zero,List.set_cons_succ]))
 refine wpAnyH_ready (rs:=[14,16]) (by kernel_rfl) (by simp) ?_
 refine AllReadyH.cons (o:=_) rfl (fun K hK=>?_) (AllReadyH.cons (o:=_) rfl (fun K hK=>?_) AllReadyH.nil)
 ·go_simp
  refine hK.out _ _ ⟨t0,a2⟩ (fun hHeld=>?_)
  clear hK K
  try simp only [Act.put,List.setIfInBounds_toArray,List.set_cons_zero,List.set_cons_succ]
  refine wpAnyH_ready (rs:=[16]) (by kernel_rfl) (by simp) ?_
  refine AllReadyH.cons (o:=_) rfl (fun K hK=>?_) AllReadyH.nil
  go_simp
  refine hK.out _ _ ⟨z0,z2⟩ (fun hHeld=>?_)
  clear hK K
  try simp only [Act.put,List.setIfInBounds_toArray,List.set_cons_zero,List.set_cons_succ]
  refine wpAnyH_ready (rs:=[17]) (by kernel_rfl) (by simp) ?_
  refine AllReadyH.cons (o:=_) rfl (fun K hK=>?_) AllReadyH.nil
  (refine step_append_lies _ (by rfl) _ _ _ (by rfl) 0 3 i0 _ 1 8 Tryd.underlying87 HI0.out HI1.out HI2.out HI3.out rfl (by decide) V (us u).length (natsV (us u)) (by rfl) ((HOW.out.alloc _).drew) ⟨W.heap.size,0,none⟩ 1 1 [.int .i64 (v:Int)] (by rfl) (by rfl) (World.news_of_block (cs:=#[.int .i64 (v:Int)]) (t:=3) (fr:=(0,0)) (heap_alloc_new W _)) (by simp [Value.oneCell']) (by omega) (by unfold maxLen;omega) (by omega) (Nat.zero_le _) (W.heap.size+1) (by simp) ?_;intro gg cap6 w1 hown1 hgrow hat hlt;have y0:w1.cell? ⟨b,0,none⟩=some (.slice (some ⟨g,0,none⟩) m cap):=(hgrow.cell_far ⟨b,0,none⟩ (by simp;omega) hne0).trans ((World.cell?_of_block (Below.heap_alloc W _ b hlb)).trans t0);have y2:w1.cell? ⟨w.heap.size,2,none⟩=some (.int .i64 u):=(hgrow.cell_far ⟨w.heap.size,2,none⟩ (by simp;omega) hne1).trans ((World.cell?_of_block (Below.heap_alloc W _ w.heap.size hlx)).trans a2);have y5:w1.cell? ⟨g,u * 6+5,none⟩=some V:=(hgrow.cell_far ⟨g,u * 6+5,none⟩ (by simp;omega) hne2).trans ((World.cell?_of_block (Below.heap_alloc W _ g hlg)).trans c5);have yf:w1.frozen? ⟨g,u * 6+5,none⟩=false:=(hgrow.frozen_far ⟨g,u * 6+5,none⟩ (by simp;omega) hne2).trans f6)
  refine hK.out _ _ ⟨y0,y2⟩ (fun hHeld=>?_)
  clear hK K
  try simp only [Act.put,List.setIfInBounds_toArray,List.set_cons_zero,List.set_cons_succ]
  refine wpAnyH_ready (rs:=[18]) (by kernel_rfl) (by simp) ?_
  refine AllReadyH.cons (o:=_) rfl (fun K hK=>?_) AllReadyH.nil
  go_simp
  refine hK.out _ _ ⟨y0,y2⟩ (fun hHeld=>?_)
  clear hK K
  try simp only [Act.put,List.setIfInBounds_toArray,List.set_cons_zero,List.set_cons_succ]
  refine wpAnyH_ready (rs:=[19]) (by kernel_rfl) (by simp) ?_
  refine AllReadyH.cons (o:=_) rfl (fun K hK=>?_) AllReadyH.nil
  go_simp
  refine hK.out _ _ ⟨y0,y2⟩ (fun hHeld=>?_)
  clear hK K
  try simp only [Act.put,List.setIfInBounds_toArray,List.set_cons_zero,List.set_cons_succ]
  refine wpAnyH_ready (rs:=[20]) (by kernel_rfl) (by simp) ?_
  refine AllReadyH.cons (o:=_) rfl (fun K hK=>?_) AllReadyH.nil
  go_simp
  refine hK.out _ _ ⟨(World.cell?_setCell_far _ _ _ _ (Ne.symm hbg)).trans y0,(World.cell?_setCell_far _ _ _ _ (Ne.symm hxg)).trans y2⟩ (fun hHeld=>?_)
  clear hK K
  try simp only [Act.put,List.setIfInBounds_toArray,List.set_cons_zero,List.set_cons_succ]
  refine wpAnyH_done (by kernel_rfl) ?_ _
  have hYb:Below W.heap.size W (W.alloc (.cells #[.int .i64 (v:Int)] 3)).drew:=below_drw (below_alloc W _)
  have hUY:=HU0.out.later hYb (fun _ e=>e) HU0.out.volb
  have hszY:(W.alloc (.cells #[.int .i64 (v:Int)] 3)).drew.heap.size=W.heap.size+1:=by show (W.heap.push _).size=_;simp
  have hszF:(w1.setCell ⟨g,u * 6+5,none⟩ (.slice (some ⟨gg,0,none⟩) ((us u).length+1) cap6)).heap.size=w1.heap.size:=by simp [World.setCell]
  have hAPP:=hUY.app (Vol':=VolX Vol w.heap.size (w1.setCell ⟨g,u * 6+5,none⟩ (.slice (some ⟨gg,0,none⟩) ((us u).length+1) cap6))) (us':=fun x=>if x=u then us u++[v] else us x) (v:=v) hu hown1 (by rw [hV];exact hgrow) (by rw [hV,hszY];exact hat.imp (fun e=>e.symm) (fun e=>by rw [e];rfl)) (fun k e=>.inl e) (fun e=>e.elim HU0.out.volb (fun q=>by have:=HBL.out;omega)) (fun e=>.inr (by
   rw [hszY,hszF]
   rw [hszY] at e
   have:=(hown1.lt _ e).2
   have:=HB0.out.size
   omega)) (fun _=>rfl)
  have hbF:(w1.setCell ⟨g,u * 6+5,none⟩ (.slice (some ⟨gg,0,none⟩) ((us u).length+1) cap6)).heap[w.heap.size]?=some (.cells #[.int .i64 4,.string ⟨#[]⟩,.int .i64 u,.slice A1 0 c1] 32 (0,0)):=(Below.heap_setCell w1 ⟨g,u * 6+5,none⟩ _ w.heap.size hxg).trans ((hgrow.block w.heap.size (by rw [hszY];omega) hne1).trans ((hYb.block w.heap.size hlx).trans HBX.out))
  have HF:=Lib.hid hAPP
  have hwY:=HB0.out.trans (hYb.mono HB0.out.size)
  have HKW:=Lib.hid ((KV.of_below hwY).trans hAPP.2.1)
  have HCW:=Lib.hid (fun i j h1 h2=>(hAPP.2.2 i j h1 h2).trans (World.cell?_of_block (hwY.block g HGL.out)))
  generalize (w1.setCell ⟨g,u * 6+5,none⟩ (.slice (some ⟨gg,0,none⟩) ((us u).length+1) cap6))=F at hbF HF HKW HCW ⊢
  have a3:=(cellH hbF 3).trans rfl
  clear hAPP hUY hYb hszY hszF hwY hbF t0 a2 c5 f5 f6 z0 z2 z5 y0 y2 y5 yf hHeld hown1 hgrow hat hlt
  go_wp2_with fail
  go_loopw [34] (fun t wr=>t=.int .i64 0∧wr=F) (fun _ _=>0)
  case atStart=>exact ⟨rfl,rfl⟩
  case round =>
   obtain ⟨rfl,rfl⟩:=hrel
   go_wp2_with fail
   go_end0
   exact ⟨rfl,⟨_,HF.out.1⟩,HKW.out,HCW.out⟩
 ·go_simp
  refine hK.out _ _ ⟨z0,z2⟩ (fun hHeld=>?_)
  clear hK K
  try simp only [Act.put,List.setIfInBounds_toArray,List.set_cons_zero,List.set_cons_succ]
  refine wpAnyH_ready (rs:=[14]) (by kernel_rfl) (by simp) ?_
  refine AllReadyH.cons (o:=_) rfl (fun K hK=>?_) AllReadyH.nil
  go_simp
  refine hK.out _ _ ⟨z0,z2⟩ (fun hHeld=>?_)
  clear hK K
  try simp only [Act.put,List.setIfInBounds_toArray,List.set_cons_zero,List.set_cons_succ]
  refine wpAnyH_ready (rs:=[17]) (by kernel_rfl) (by simp) ?_
  refine AllReadyH.cons (o:=_) rfl (fun K hK=>?_) AllReadyH.nil
  (refine step_append_lies _ (by rfl) _ _ _ (by rfl) 0 3 i0 _ 1 8 Tryd.underlying87 HI0.out HI1.out HI2.out HI3.out rfl (by decide) V (us u).length (natsV (us u)) (by rfl) ((HOW.out.alloc _).drew) ⟨W.heap.size,0,none⟩ 1 1 [.int .i64 (v:Int)] (by rfl) (by rfl) (World.news_of_block (cs:=#[.int .i64 (v:Int)]) (t:=3) (fr:=(0,0)) (heap_alloc_new W _)) (by simp [Value.oneCell']) (by omega) (by unfold maxLen;omega) (by omega) (Nat.zero_le _) (W.heap.size+1) (by simp) ?_;intro gg cap6 w1 hown1 hgrow hat hlt;have y0:w1.cell? ⟨b,0,none⟩=some (.slice (some ⟨g,0,none⟩) m cap):=(hgrow.cell_far ⟨b,0,none⟩ (by simp;omega) hne0).trans ((World.cell?_of_block (Below.heap_alloc W _ b hlb)).trans t0);have y2:w1.cell? ⟨w.heap.size,2,none⟩=some (.int .i64 u):=(hgrow.cell_far ⟨w.heap.size,2,none⟩ (by simp;omega) hne1).trans ((World.cell?_of_block (Below.heap_alloc W _ w.heap.size hlx)).trans a2);have y5:w1.cell? ⟨g,u * 6+5,none⟩=some V:=(hgrow.cell_far ⟨g,u * 6+5,none⟩ (by simp;omega) hne2).trans ((World.cell?_of_block (Below.heap_alloc W _ g hlg)).trans c5);have yf:w1.frozen? ⟨g,u * 6+5,none⟩=false:=(hgrow.frozen_far ⟨g,u * 6+5,none⟩ (by simp;omega) hne2).trans f6)
  refine hK.out _ _ ⟨y0,y2⟩ (fun hHeld=>?_)
  clear hK K
  try simp only [Act.put,List.setIfInBounds_toArray,List.set_cons_zero,List.set_cons_succ]
  refine wpAnyH_ready (rs:=[18]) (by kernel_rfl) (by simp) ?_
  refine AllReadyH.cons (o:=_) rfl (fun K hK=>?_) AllReadyH.nil
  go_simp
  refine hK.out _ _ ⟨y0,y2⟩ (fun hHeld=>?_)
  clear hK K
  try simp only [Act.put,List.setIfInBounds_toArray,List.set_cons_zero,List.set_cons_succ]
  refine wpAnyH_ready (rs:=[19]) (by kernel_rfl) (by simp) ?_
  refine AllReadyH.cons (o:=_) rfl (fun K hK=>?_) AllReadyH.nil
  go_simp
  refine hK.out _ _ ⟨y0,y2⟩ (fun hHeld=>?_)
  clear hK K
  try simp only [Act.put,List.setIfInBounds_toArray,List.set_cons_zero,List.set_cons_succ]
  refine wpAnyH_ready (rs:=[20]) (by kernel_rfl) (by simp) ?_
  refine AllReadyH.cons (o:=_) rfl (fun K hK=>?_) AllReadyH.nil
  go_simp
  refine hK.out _ _ ⟨(World.cell?_setCell_far _ _ _ _ (Ne.symm hbg)).trans y0,(World.cell?_setCell_far _ _ _ _ (Ne.symm hxg)).trans y2⟩ (fun hHeld=>?_)
  clear hK K
  try simp only [Act.put,List.setIfInBounds_toArray,List.set_cons_zero,List.set_cons_succ]
  refine wpAnyH_done (by kernel_rfl) ?_ _
  have hYb:Below W.heap.size W (W.alloc (.cells #[.int .i64 (v:Int)] 3)).drew:=below_drw (below_alloc W _)
  have hUY:=HU0.out.later hYb (fun _ e=>e) HU0.out.volb
  have hszY:(W.alloc (.cells #[.int .i64 (v:Int)] 3)).drew.heap.size=W.heap.size+1:=by show (W.heap.push _).size=_;simp
  have hszF:(w1.setCell ⟨g,u * 6+5,none⟩ (.slice (some ⟨gg,0,none⟩) ((us u).length+1) cap6)).heap.size=w1.heap.size:=by simp [World.setCell]
  have hAPP:=hUY.app (Vol':=VolX Vol w.heap.size (w1.setCell ⟨g,u * 6+5,none⟩ (.slice (some ⟨gg,0,none⟩) ((us u).length+1) cap6))) (us':=fun x=>if x=u then us u++[v] else us x) (v:=v) hu hown1 (by rw [hV];exact hgrow) (by rw [hV,hszY];exact hat.imp (fun e=>e.symm) (fun e=>by rw [e];rfl)) (fun k e=>.inl e) (fun e=>e.elim HU0.out.volb (fun q=>by have:=HBL.out;omega)) (fun e=>.inr (by
   rw [hszY,hszF]
   rw [hszY] at e
   have:=(hown1.lt _ e).2
   have:=HB0.out.size
   omega)) (fun _=>rfl)
  have hbF:(w1.setCell ⟨g,u * 6+5,none⟩ (.slice (some ⟨gg,0,none⟩) ((us u).length+1) cap6)).heap[w.heap.size]?=some (.cells #[.int .i64 4,.string ⟨#[]⟩,.int .i64 u,.slice A1 0 c1] 32 (0,0)):=(Below.heap_setCell w1 ⟨g,u * 6+5,none⟩ _ w.heap.size hxg).trans ((hgrow.block w.heap.size (by rw [hszY];omega) hne1).trans ((hYb.block w.heap.size hlx).trans HBX.out))
  have HF:=Lib.hid hAPP
  have hwY:=HB0.out.trans (hYb.mono HB0.out.size)
  have HKW:=Lib.hid ((KV.of_below hwY).trans hAPP.2.1)
  have HCW:=Lib.hid (fun i j h1 h2=>(hAPP.2.2 i j h1 h2).trans (World.cell?_of_block (hwY.block g HGL.out)))
  generalize (w1.setCell ⟨g,u * 6+5,none⟩ (.slice (some ⟨gg,0,none⟩) ((us u).length+1) cap6))=F at hbF HF HKW HCW ⊢
  have a3:=(cellH hbF 3).trans rfl
  clear hAPP hUY hYb hszY hszF hwY hbF t0 a2 c5 f5 f6 z0 z2 z5 y0 y2 y5 yf hHeld hown1 hgrow hat hlt
  go_wp2_with fail
  go_loopw [34] (fun t wr=>t=.int .i64 0∧wr=F) (fun _ _=>0)
  case atStart=>exact ⟨rfl,rfl⟩
  case round =>
   obtain ⟨rfl,rfl⟩:=hrel
   go_wp2_with fail
   go_end0
   exact ⟨rfl,⟨_,HF.out.1⟩,HKW.out,HCW.out⟩
end
end Lx
end Go.Proofs.YtnpacamcgifabaaDoor
