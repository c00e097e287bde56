/- The contract of the reference's reader's Item: a type's declaration. Conditions: the reader's block is its own; at most 16384 tokens, each of which is one by itself. -/
import Derived.Test.YtajomoclbpobhaaGreatDoorRdlA
namespace Go.Proofs.YtajomoclbpobhaaGreatDoor
set_option linter.unusedSimpArgs false
set_option linter.unusedVariables false
namespace Lx
open Go Go.RowKit
/-- What a loop holds that reads a row with marks between. -/
structure LpR {α β:Type} (t:TypeId) (sz:Nat) (V:Holds α) (b:Nat) (A:Option Addr) (c:Nat) (ts:List Tok) (OT:Out β) (R:List α→Nat→Prop) (T:TypeId) (bx:Nat) (Bx:Value→Array Value) (wB wr:World) (s:Option Addr) (cap n k:Nat) (er:Int):Prop where
 box:wr.heap[bx]?=some (.cells (Bx (.slice s n cap)) T (0,0))
 wd:Rd wr b A c ts k er
 le:k≤ts.length
 fr:Fr2 b bx wB wr
 cont:Cont OT er (∃ acc vs g,n=acc.length∧RowH t sz V wB.heap.size wr s cap acc vs g∧R acc k)
section
variable {α β:Type} {t:TypeId} {sz:Nat} {V:Holds α} {b:Nat} {A:Option Addr} {c:Nat} {ts:List Tok} {OT:Out β} {R:List α→Nat→Prop} {T:TypeId} {bx:Nat} {Bx:Value→Array Value} {wB wr:World} {s:Option Addr} {cap n k:Nat} {er:Int}
theorem lpr_grown {w w4 w6:World} {k0:Nat} {er0:Int} (h0:Rd w b A c ts k0 er0) (hwB:PFr b w wB) (hwx:w.heap.size≤bx) (hbx:bx < wB.heap.size) (hbox:wr.heap[bx]?=some (.cells (Bx (.slice s n cap)) T (0,0))) (hfr:Fr2 b bx wB wr) {acc:List α} {vs:List Value} {g:Nat} (hrow:RowH t sz V wB.heap.size wr s cap acc vs g) (hf4:PFr b wr w4) {o:Obj}
  (hg:(w4.alloc o).grownBy w6 (Value.slice s acc.length cap).ownBlock) :
  w6.heap[bx]?=some (.cells (Bx (.slice s n cap)) T (0,0))∧Fr2 b bx wB w6∧(∀ k er,Rd w4 b A c ts k er→Rd w6 b A c ts k er)∧PFr b w w6:=by
 have hb:=h0.lt
 have hs4:=hf4.size
 have hsB:=hfr.size
 have hwr:=Fr2.toPFr hwB hfr hwx
 have hwB2:=hwB.size
 obtain ⟨q1,q2,q3,q4⟩:=hrow.grow (w:=w) (by omega) hsB (by omega) hwr hf4 hg
 refine ⟨(q4 bx hbx).trans ((hf4.block bx (by omega) (by omega)).trans hbox),⟨?_,?_,?_,by omega,fun j j1 j2 j3=>(q4 j j1).trans ((hf4.block j (by omega) j2).trans (hfr.block j j1 j2 j3))⟩,fun k er hr=>h0.move q1 ((q4 b (by omega)).trans hr.blk) hr.near hr.nest0 hr.nest1,q1⟩
 ·exact hg.os.trans (hf4.os.trans hfr.os)
 ·exact hg.tape.trans (hf4.tape.trans hfr.tape)
 ·exact hg.output.trans (hf4.output.trans hfr.output)
theorem lpr_next {w w4 w6:World} {k0:Nat} {er0:Int} (h0:Rd w b A c ts k0 er0) (hwB:PFr b w wB) (hwx:w.heap.size≤bx) (hbx:bx < wB.heap.size) (i:Nat) (hi:∀ v,i < (Bx v).size) (hset:∀ v v',(Bx v).set i v' (hi v)=Bx v') (hV:Stable V)
  {acc:List α} {vs:List Value} {g:Nat} (hbox:wr.heap[bx]?=some (.cells (Bx (.slice s acc.length cap)) T (0,0))) (hfr:Fr2 b bx wB wr) (hrow:RowH t sz V wB.heap.size wr s cap acc vs g) (hf4:PFr b wr w4) {v2:Value} {k' lo4 g2 cap2:Nat} {er':Int} (hp4:Rd w4 b A c ts k' er') (hk':k'≤ts.length) (hlo:wr.heap.size≤lo4)
  (hc:Cont OT er' (∃ x,V x v2 lo4 w4.heap.size w4∧R (acc++[x]) k')) {o:Obj}
  (hown:w6.ownsRow wB.heap.size t sz (.slice (some ⟨g2,0,none⟩) (acc.length+1) cap2) (acc.length+1) (vs.flatMap cellsL++cellsL v2)) (hg:(w4.alloc o).grownBy w6 (Value.slice s acc.length cap).ownBlock) (hat:(Value.slice s acc.length cap).ownBlock=some g2 ∨ g2=(w4.alloc o).heap.size) :
  LpR t sz V b A c ts OT R T bx Bx wB (w6.setCell ⟨bx,i,none⟩ (.slice (some ⟨g2,0,none⟩) (acc.length+1) cap2)) (some ⟨g2,0,none⟩) cap2 (acc.length+1) k' er':=by
 have hb:=h0.lt
 have hsB:=hwB.size
 obtain ⟨q1,q2,q3,q4⟩:=lpr_grown h0 hwB hwx hbx hbox hfr hrow hf4 hg
 have hp6:=q3 _ _ hp4
 have hpx:Rd (w6.setCell ⟨bx,i,none⟩ (.slice (some ⟨g2,0,none⟩) (acc.length+1) cap2)) b A c ts k' er':=h0.move (q4.putNew hwx i _) ((Below.heap_setCell w6 ⟨bx,i,none⟩ _ b (by show b ≠ bx;omega)).trans hp6.blk) hp6.near hp6.nest0 hp6.nest1
 refine ⟨?_,hpx,hk',⟨q2.os,q2.tape,q2.output,by simpa [World.setCell] using q2.size,fun j j1 j2 j3=>(Below.heap_setCell w6 _ _ j j3).trans (q2.block j j1 j2 j3)⟩,hc.imp ?_⟩
 ·have e:=blk_put w6 bx i (.slice (some ⟨g2,0,none⟩) (acc.length+1) cap2) q1 (hi _)
  rw [hset] at e
  exact e
 ·rintro ⟨x,h1,h3⟩
  have hr6:=hrow.snoc hV (by omega:b < wB.heap.size) hfr.size hf4 hlo h1 hown hg hat
  have hh:=HiEq.put w6 hbx i (.slice (some ⟨g2,0,none⟩) (acc.length+1) cap2)
  have hlen:(acc++[x]).length=acc.length+1:=by simp
  exact ⟨acc++[x],vs++[v2],g2,hlen.symm,⟨.inr rfl,own_hi hr6.own hh,Items.step hV (fun j j1 _ _=>hh.block j j1) (by rw [hh.size];exact Nat.le_refl _) (.inl rfl) hr6.items⟩,h3⟩
end
/-- What is left of the constructors. -/
def RowB {β:Type} (ts:List Tok) (f:List CtorT→Nat→Out β) (OT:Out β) (acc:List CtorT) (k:Nat):Prop:=∃ m,acc.length≤k∧ts.length < k+m∧bindO (rowLoop (ctorO ts 0) ts [124] 16384 m k acc) f=OT
theorem rowB_first {β:Type} {ts:List Tok} {f:List CtorT→Nat→Out β} {OT:Out β} {k:Nat} (h:bindO (rowO (ctorO ts 0) ts [124] 16384 k) f=OT):bindO (ctorO ts 0 k) (fun x k1=>bindO (rowLoop (ctorO ts 0) ts [124] 16384 (ts.length+1) k1 [x]) f)=OT:=by
 unfold rowO at h
 cases hr:ctorO ts 0 k with
 | no i=>rw [hr] at h;exact h
 | ok x k1=>rw [hr] at h;exact h
theorem rowB_yes {β:Type} {ts:List Tok} {f:List CtorT→Nat→Out β} {OT:Out β} {acc:List CtorT} {k:Nat} (hfw:ts.length≤16384) (hh:hasT ts k [124]=true) (h:RowB ts f OT acc k):∃ m,acc.length≤k∧k+1≤ts.length∧ts.length < k+1+m∧bindO (ctorO ts 0 (k+1)) (fun x k1=>bindO (rowLoop (ctorO ts 0) ts [124] 16384 m k1 (acc++[x])) f)=OT:=by
 obtain ⟨m,h1,h2,h3⟩:=h
 have hin:=hasT_in hh (by decide)
 obtain ⟨m,rfl⟩:∃ q,m=q+1:=⟨m - 1,by omega⟩
 refine ⟨m,h1,hin,by omega,?_⟩
 rw [rowLoop,if_pos hh,if_neg (by omega)] at h3
 cases hr:ctorO ts 0 (k+1) with
 | no i=>rw [hr] at h3;exact h3
 | ok x k1=>rw [hr] at h3;exact h3
theorem rowB_no {β:Type} {ts:List Tok} {f:List CtorT→Nat→Out β} {OT:Out β} {acc:List CtorT} {k:Nat} (hk:k≤ts.length) (hh:hasT ts k [124]=false) (h:RowB ts f OT acc k):f acc k=OT:=by
 obtain ⟨m,h1,h2,h3⟩:=h
 obtain ⟨m,rfl⟩:∃ q,m=q+1:=⟨m - 1,by omega⟩
 rw [rowLoop,if_neg (by rw [hh];decide)] at h3
 exact h3
set_option maxRecDepth 100000 in
set_option maxHeartbeats 8000000 in
theorem ritem_type (b:Nat) (A:Option Addr) (c:Nat) (ts:List Tok) (hw:WF ts) (w:World) (k:Nat) (OT:Out ItemT) (h:Rd w b A c ts k 0) (hk:k≤ts.length) (hy:hasT ts k [116,121,112,101]=true) (hO:typeR ts (k+1)=OT) :
  Calls Tryz.prog 58 #[.pointer (some ⟨b,0,none⟩)] w fun e w'=>REnds b A c ts ItemV ShIt w OT e w':=by
 have HP:=Lib.hid h
 have HWF:=Lib.hid hw
 have hfw:=h.few
 have HBW:=Lib.hid h.lt
 have HK:=Lib.hid hk
 have HPW:=Lib.hid h
 clear h hw hk
 have HY:=Lib.hid hy
 have HO:=Lib.hid hO
 have HK1:Hid (k+1≤ts.length):=Lib.hid (by have:=hasT_in hy (by decide);omega)
 have HVG:=Lib.hid (rvar_genc b A c ts)
 have HCG:=Lib.hid (rctor_genc b A c ts HWF.out)
 clear hy hO
 go_enter Tryz.func58,Tryz.ntmps58
 go_upto_region 1 with fail
 refine wp_region_list ?_
 refine wpList_plain rfl fun _ hKK=>?_
 have HKK:=Lib.hid hKK
 clear hKK
 go_simp
 refine HKK.out _ _ ?_
 clear HKK
 refine wpList_plain rfl fun _ hKK=>?_
 have HKK:=Lib.hid hKK
 clear hKK
 go_simp
 refine HKK.out _ _ ?_
 clear HKK
 have hY:((w.alloc (.cells #[.int .i64 0,.string ⟨#[]⟩,.slice none 0 0,.slice none 0 0,.slice none 0 0,.slice none 0 0,.int .i64 0,.slice none 0 0,.int .i64 0,.int .i64 0,.string ⟨#[]⟩,.int .i64 0,.slice none 0 0,.int .i64 0,.string ⟨#[]⟩,.int .i64 0,.slice none 0 0,.string ⟨#[]⟩,.slice none 0 0,.slice none 0 0] 33)).alloc (.cells #[.int .i64 0,.string ⟨#[]⟩,.slice none 0 0,.slice none 0 0,.slice none 0 0,.slice none 0 0,.int .i64 0,.slice none 0 0,.int .i64 0,.int .i64 0,.string ⟨#[]⟩,.int .i64 0,.slice none 0 0,.int .i64 0,.string ⟨#[]⟩,.int .i64 0,.slice none 0 0,.string ⟨#[]⟩,.slice none 0 0,.slice none 0 0] 33)).heap[w.heap.size+1]?=some (.cells #[.int .i64 0,.string ⟨#[]⟩,.slice none 0 0,.slice none 0 0,.slice none 0 0,.slice none 0 0,.int .i64 0,.slice none 0 0,.int .i64 0,.int .i64 0,.string ⟨#[]⟩,.int .i64 0,.slice none 0 0,.int .i64 0,.string ⟨#[]⟩,.int .i64 0,.slice none 0 0,.string ⟨#[]⟩,.slice none 0 0,.slice none 0 0] 33 (0,0)):=by
  have h:=heap_alloc_new (w.alloc (.cells #[.int .i64 0,.string ⟨#[]⟩,.slice none 0 0,.slice none 0 0,.slice none 0 0,.slice none 0 0,.int .i64 0,.slice none 0 0,.int .i64 0,.int .i64 0,.string ⟨#[]⟩,.int .i64 0,.slice none 0 0,.int .i64 0,.string ⟨#[]⟩,.int .i64 0,.slice none 0 0,.string ⟨#[]⟩,.slice none 0 0,.slice none 0 0] 33)) (.cells #[.int .i64 0,.string ⟨#[]⟩,.slice none 0 0,.slice none 0 0,.slice none 0 0,.slice none 0 0,.int .i64 0,.slice none 0 0,.int .i64 0,.int .i64 0,.string ⟨#[]⟩,.int .i64 0,.slice none 0 0,.int .i64 0,.string ⟨#[]⟩,.int .i64 0,.slice none 0 0,.string ⟨#[]⟩,.slice none 0 0,.slice none 0 0] 33)
  rwa [show (w.alloc (.cells #[.int .i64 0,.string ⟨#[]⟩,.slice none 0 0,.slice none 0 0,.slice none 0 0,.slice none 0 0,.int .i64 0,.slice none 0 0,.int .i64 0,.int .i64 0,.string ⟨#[]⟩,.int .i64 0,.slice none 0 0,.int .i64 0,.string ⟨#[]⟩,.int .i64 0,.slice none 0 0,.string ⟨#[]⟩,.slice none 0 0,.slice none 0 0] 33)).heap.size=w.heap.size+1 by simp] at h
 refine wpList_store_mid rfl 33 (.tmp 3) (.tmp 5) rfl (w.heap.size+1) 0 #[.int .i64 0,.string ⟨#[]⟩,.slice none 0 0,.slice none 0 0,.slice none 0 0,.slice none 0 0,.int .i64 0,.slice none 0 0,.int .i64 0,.int .i64 0,.string ⟨#[]⟩,.int .i64 0,.slice none 0 0,.int .i64 0,.string ⟨#[]⟩,.int .i64 0,.slice none 0 0,.string ⟨#[]⟩,.slice none 0 0,.slice none 0 0] rfl rfl (there_all hY) infoIt20 (by simp [Value.oneCell']) ?_
 obtain ⟨y1,y2,y3,y4,y5⟩:=item_begin (C:=#[.int .i64 0,.string ⟨#[]⟩,.slice none 0 0,.slice none 0 0,.slice none 0 0,.slice none 0 0,.int .i64 0,.slice none 0 0,.int .i64 0,.int .i64 0,.string ⟨#[]⟩,.int .i64 0,.slice none 0 0,.int .i64 0,.string ⟨#[]⟩,.int .i64 0,.slice none 0 0,.string ⟨#[]⟩,.slice none 0 0,.slice none 0 0]) HPW.out hY rfl
 generalize World.setCells _ _ _ _=w0 at y1 y2 y3 y4 y5 ⊢
 have HB0:=Lib.hid y1
 have HZ0:=Lib.hid y2
 have HP0:=Lib.hid y3
 have HFX0:=Lib.hid y4
 have HS0:=Lib.hid y5
 have HF0:=Lib.hid (PFr.refl b w0)
 clear y1 y2 y3 y4 y5 hY
 have HG:=Lib.hid (rgot_yes HWF.out ⟨#[116,121,112,101]⟩ kw_type HP0.out HY.out)
 go_wp2_with fail
 go_at_call 97
 refine HG.out.mono ?_
 rintro e w1 ⟨rfl,hp,hf⟩
 have HP1:=Lib.hid hp
 have HF1:=Lib.hid (HF0.out.trans hf)
 clear hp hf HG HP0 HF0
 have hsn:w.heap.size+2≤w1.heap.size:=Nat.le_trans HS0.out HF1.out.size
 have hbn:=(HF1.out.block (w.heap.size+1) (by have:=HS0.out;omega) (by have:=HBW.out;omega)).trans HB0.out
 have hzn:zeroIB w1 w.heap.size:=zero_pfr HF1.out w.heap.size (by have:=HS0.out;omega) (by have:=HBW.out;omega) HZ0.out
 have HFW:=Lib.hid (HFX0.out.trans HF1.out)
 have dn0:=(Lib.cell_of_heap hbn 0).trans rfl
 have fn0:=Lib.frozen_of_heap hbn 0
 have HX:=Lib.hid (Rd.beside HP.out HFW.out HP1.out (N:=w.heap.size+1) (by omega) 0 (.int .i64 1))
 have HBN:=Lib.hid hbn
 have HZN:=Lib.hid hzn
 have HSN:=Lib.hid hsn
 have HN:=Lib.hid (rname_cont HX.out HK1.out (.inl ⟨rfl,HO.out⟩))
 clear hbn hzn hsn
 go_wp2_with fail
 go_at_call 98
 refine HN.out.mono ?_
 rintro e w2x ⟨y,k2,er2,rfl,hk2,hp2,hf2,hc2⟩
 have hsx:(w1.setCell ⟨w.heap.size+1,0,none⟩ (.int .i64 1)).heap.size=w1.heap.size:=by simp [World.setCell]
 have hb2:w2x.heap[w.heap.size+1]?=some (.cells #[.int .i64 1,.string ⟨#[]⟩,.slice none 0 0,.slice none 0 0,.slice none 0 0,.slice none 0 0,.int .i64 0,.slice none 0 0,.int .i64 0,.int .i64 0,.string ⟨#[]⟩,.int .i64 0,.slice none 0 0,.int .i64 0,.string ⟨#[]⟩,.int .i64 0,.slice none 0 0,.string ⟨#[]⟩,.slice none 0 0,.slice none 0 0] 33 (0,0)):=(hf2.block (w.heap.size+1) (by rw [hsx];have:=HSN.out;omega) (by have:=HBW.out;omega)).trans (blk_put w1 (w.heap.size+1) 0 _ HBN.out (by show 0 < 20;decide))
 have hz2:zeroIB w2x w.heap.size:=zero_pfr hf2 w.heap.size (by rw [hsx];have:=HSN.out;omega) (by have:=HBW.out;omega) (zero_put (by omega) HZN.out)
 have hs2:w.heap.size+2≤w2x.heap.size:=by have:=hf2.size;rw [hsx] at this;have:=HSN.out;omega
 have HFQ:=Lib.hid ((HFW.out.putNew (N:=w.heap.size+1) (by omega) 0 (.int .i64 1)).trans hf2)
 have hc3:Cont OT er2 (bindO (argsO (varO ts) ts k2) (fun l k2'=>bindO (expO ts k2' [61]) (fun _ k3'=>bindO (rowO (ctorO ts 0) ts [124] 16384 k3') (fun cs k4=>Out.ok (⟨1,y.data.toList,l,cs,[],[],0,[],zeroG⟩:ItemT) k4)))=OT):=hc2.imp (fun ⟨s,e,_,h⟩=>by rw [e];exact h)
 have d1:=(Lib.cell_of_heap hb2 1).trans rfl
 have f1:=Lib.frozen_of_heap hb2 1
 have HBOX:Hid ((w2x.setCell ⟨w.heap.size+1,1,none⟩ (.string y)).heap[w.heap.size+1]?=some (.cells #[.int .i64 1,.string y,.slice none 0 0,.slice none 0 0,.slice none 0 0,.slice none 0 0,.int .i64 0,.slice none 0 0,.int .i64 0,.int .i64 0,.string ⟨#[]⟩,.int .i64 0,.slice none 0 0,.int .i64 0,.string ⟨#[]⟩,.int .i64 0,.slice none 0 0,.string ⟨#[]⟩,.slice none 0 0,.slice none 0 0] 33 (0,0))):=Lib.hid (blk_put w2x (w.heap.size+1) 1 _ hb2 (by show 1 < 20;decide))
 have HPB:=Lib.hid (Rd.beside HP.out HFQ.out hp2 (N:=w.heap.size+1) (by omega) 1 (.string y))
 have HKB:=Lib.hid hk2
 have HCB:=Lib.hid hc3
 have HFB:=Lib.hid (HFQ.out.putNew (N:=w.heap.size+1) (by omega) 1 (.string y))
 have hsy:(w2x.setCell ⟨w.heap.size+1,1,none⟩ (.string y)).heap.size=w2x.heap.size:=by simp [World.setCell]
 have HBX:Hid (w.heap.size≤w.heap.size+1):=Lib.hid (by omega)
 have HBXB:Hid (w.heap.size+1 < (w2x.setCell ⟨w.heap.size+1,1,none⟩ (.string y)).heap.size):=Lib.hid (by rw [hsy];omega)
 have HNB:Hid (b < w.heap.size+1):=Lib.hid (by have:=HBW.out;omega)
 have HBB:Hid (b < (w2x.setCell ⟨w.heap.size+1,1,none⟩ (.string y)).heap.size):=Lib.hid (by rw [hsy];have:=HBW.out;omega)
 have HZB:Hid (zeroIB (w2x.setCell ⟨w.heap.size+1,1,none⟩ (.string y)) w.heap.size):=Lib.hid (zero_put (by omega) hz2)
 clear hk2 hp2 hf2 hc2 hc3 hsx hsy hb2 hz2 hs2 dn0 fn0 HX HN HBN HZN HSN HFW HFQ HP1 HF1
 go_wp2_with fail
 clear d1 f1
 generalize w2x.setCell ⟨w.heap.size+1,1,none⟩ (.string y)=wB at HBOX HPB HFB HBXB HBB HZB ⊢
 have HST:=Lib.hid (lp_start (OT:=OT) (t:=9) (sz:=1) (V:=strH) (rd:=varO ts) (f:=fun l k2'=>bindO (expO ts k2' [61]) (fun _ k3'=>bindO (rowO (ctorO ts 0) ts [124] 16384 k3') (fun cs k4=>Out.ok (⟨1,y.data.toList,l,cs,[],[],0,[],zeroG⟩:ItemT) k4))) (bx:=(w.heap.size+1)) (Bx:=fun v=>#[.int .i64 1,.string y,v,.slice none 0 0,.slice none 0 0,.slice none 0 0,.int .i64 0,.slice none 0 0,.int .i64 0,.int .i64 0,.string ⟨#[]⟩,.int .i64 0,.slice none 0 0,.int .i64 0,.string ⟨#[]⟩,.int .i64 0,.slice none 0 0,.string ⟨#[]⟩,.slice none 0 0,.slice none 0 0]) (T:=33) HBOX.out HPB.out HKB.out HCB.out)
 go_loopw [] (fun wr=>∃ s cap n kk er',Hid (LpI 9 1 (strH) b A c ts OT (varO ts) (fun l k2'=>bindO (expO ts k2' [61]) (fun _ k3'=>bindO (rowO (ctorO ts 0) ts [124] 16384 k3') (fun cs k4=>Out.ok (⟨1,y.data.toList,l,cs,[],[],0,[],zeroG⟩:ItemT) k4))) 33 (w.heap.size+1) (fun v=>#[.int .i64 1,.string y,v,.slice none 0 0,.slice none 0 0,.slice none 0 0,.int .i64 0,.slice none 0 0,.int .i64 0,.int .i64 0,.string ⟨#[]⟩,.int .i64 0,.slice none 0 0,.int .i64 0,.string ⟨#[]⟩,.int .i64 0,.slice none 0 0,.string ⟨#[]⟩,.slice none 0 0,.slice none 0 0]) wB wr s cap n kk er')) (fun wr=>meas ts.length b wr)
 case atStart=>exact ⟨none,0,0,_,_,HST⟩
 case round =>
  obtain ⟨s,cap,n,kk,er',hI⟩:=hrel
  have HI:=hI
  clear hI HST
  have c2:=HI.out.wd.c2
  have hbox:=HI.out.box
  have d3:=(Lib.cell_of_heap hbox 2).trans rfl
  clear hbox
  rcases (show er' ≠ 0 ∨ er'=0 from (Decidable.em (er'=0)).symm) with hne | rfl
  case' inl =>
   have hq:(er' == 0)=false:=by simpa using hne
   have HXC:=Lib.hid (lp_over HI.out hne)
   have HXB:=Lib.hid HI.out.box
   have HXR:=Lib.hid HI.out.wd
   have HXK:=Lib.hid HI.out.le
   have HXF:=Lib.hid HI.out.fr
   obtain ⟨W,hW⟩:∃ W:World,W=wr:=⟨_,rfl⟩
   rw [← hW] at HXC HXB HXR HXF c2 d3 ⊢
   obtain ⟨k3,hk3⟩:∃ k3:Nat,k3=kk:=⟨_,rfl⟩
   obtain ⟨er3,he3⟩:∃ er3:Int,er3=er':=⟨_,rfl⟩
   rw [← hk3] at HXC HXR HXK
   rw [← he3] at HXC HXR c2 hq
   clear HI hne hW hk3 he3
  case' inr =>
   obtain ⟨acc,vs,g,m,rfl,hrow,hfu,hal,hO⟩:=HI.out.cont.ok
   have HROW:=Lib.hid hrow
   have HAL:=Lib.hid hal
   have hfew:acc.length≤16384:=by have h2:=HI.out.le;omega
   have HM:=Lib.hid (rmore_any wr b A c ts HWF.out kk acc.length HI.out.wd HI.out.le)
   have hbz:(w.heap.size+1) < wr.heap.size:=(Array.getElem?_eq_some_iff.1 HI.out.box).1
   rcases lp_more hfu HI.out.le hO with ⟨k1,m2,hm,hk1,hk1l,hfu2,hT⟩ | ⟨k1,er1,hm,hk1l,hc1⟩
   case' inl =>
    rw [hm] at HM
    have HRX:=Lib.hid (fun (w3:World) (h3:Rd w3 b A c ts k1 0)=>HVG.out.cont (varO_fwd ts) (strH.sh) h3 hk1l (.inl ⟨rfl,hT⟩))
    have HK1:=Lib.hid hk1
    have HFU:=Lib.hid hfu2
    clear hrow hfu hal hO hm hk1 hk1l hfu2 hT
    go_wp2_with fail
    go_at_call 99
    refine HM.out.mono ?_
    rintro e w3 ⟨rfl,hp3,hf3⟩
    have hnb:(w.heap.size+1) ≠ b:=by have:=HNB.out;omega
    have d4:=(hf3.cell (p:=⟨(w.heap.size+1),2,none⟩) hbz hnb).trans d3
    have hw3:(w.heap.size+1) < w3.heap.size:=Nat.lt_of_lt_of_le hbz hf3.size
    have HOWN:=Lib.hid (own_fr HROW.out.own hf3 HBB.out)
    have HR3:=Lib.hid hp3
    have HF3:=Lib.hid hf3
    clear hp3 hf3 d3 c2
    go_wp2_with fail
    go_region_law (first
     | (go_simp;go_at_call 98;refine (HRX.out _ HR3.out.drew).mono ?_;rintro e w4 ⟨v4,k4,er4,rfl,⟨p2,rfl⟩,hk4,hp4,hf4,hc4⟩;replace hf4:=PFr.ofDrew hf4;have d5:=(hf4.cell (p:=⟨(w.heap.size+1),2,none⟩) hw3 hnb).trans d4;have hw4:(w.heap.size+1) < w4.heap.size:=Nat.lt_of_lt_of_le hw3 hf4.size;have hw5:¬ (w.heap.size+1)=w4.heap.size:=Nat.ne_of_lt hw4;have hw6:¬ w4.heap.size=(w.heap.size+1):=fun e=>hw5 e.symm)
     | ((refine step_str rfl (.tmp 56) (.tmp 59) rfl wB.heap.size (.slice s acc.length cap) acc.length (vs.flatMap cellsL) ?_ ?_ w4.heap.size p2 ?_ ?_ ?_ ?_ ?_);(rfl);(exact (own_fr HOWN.out hf4 HBB.out).alloc _);(rfl);(exact heap_alloc_new _ _);(omega);(have:=hf4.size;have:=HI.out.fr.size;have:=HF3.out.size;simp at this ⊢;omega);(intro g2 cap2 w6 hown6 hg6 hat6;have HG6:=Lib.hid hg6;have HOW:=Lib.hid hown6;have HAT:=Lib.hid hat6;obtain ⟨q1,q2,q3,q4⟩:=lp_grown HP.out HFB.out HBX.out HBXB.out HI.out HROW.out (HF3.out.trans hf4) hg6;have e3:=(Lib.cell_of_heap q1 2).trans rfl;have f3:=Lib.frozen_of_heap q1 2;clear q1 q2 q3 q4 hg6 hown6 hat6)))
    all_goals
     have HLN:=Lib.hid (lp_next HP.out HFB.out HBX.out HBXB.out 2 (fun _=>by show 2 < 20;decide) (fun _ _=>rfl) (strH.stable) HI.out HROW.out HAL.out (HF3.out.trans hf4) hp4 hk4 (show wr.heap.size≤w3.drew.heap.size from HF3.out.size) HK1.out HFU.out hc4 (v2:=.string p2) HOW.out HG6.out HAT.out)
     have HC4:=Lib.hid hc4
     have HK4:=Lib.hid hk4
     clear hf4 hp4 d4 d5 e3 f3 hk4 hc4
     go_wp2
     go_roundw
     case rel=>exact ⟨_,_,_,_,_,HLN⟩
     case measure =>
      rw [meas_on HI.out.wd]
      rcases HC4.out with ⟨rfl,_,_,h5,_⟩ | ⟨i,rfl,_⟩
      ·rw [meas_on HLN.out.wd]
       have h6:=HK1.out
       have h7:=HK4.out
       omega
      ·rw [meas_off HLN.out.wd (erN_ne i)]
       omega
   case' inr =>
    rw [hm] at HM
    have HC1:=Lib.hid hc1
    have HXK:=Lib.hid hk1l
    clear hrow hfu hal hO hm hk1l hc1
    go_wp2_with fail
    go_at_call 99
    refine HM.out.mono ?_
    rintro e W ⟨rfl,hp3,hf3⟩
    obtain ⟨HXFo,HXCo⟩:=lp_left (strH.stable) HBB.out HI.out HROW.out hf3 HC1.out
    have HXF:=Lib.hid HXFo
    have HXC:=Lib.hid HXCo
    have HXB:=Lib.hid ((hf3.block (w.heap.size+1) hbz (by have:=HNB.out;omega)).trans HI.out.box)
    have HXR:=Lib.hid hp3
    obtain ⟨n,hn⟩:∃ n:Nat,n=acc.length:=⟨_,rfl⟩
    rw [← hn] at HXC HXB
    obtain ⟨k3,hk3⟩:∃ k3:Nat,k3=k1:=⟨_,rfl⟩
    obtain ⟨er3,he3⟩:∃ er3:Int,er3=er1:=⟨_,rfl⟩
    rw [← hk3] at HXC HXR HXK
    rw [← he3] at HXC HXR
    clear hp3 hf3 HXFo HXCo HM HC1 hn hk3 he3 d3 c2 hfew hbz HROW HAL HI
  all_goals
   have HZW:=Lib.hid (zero_fr2 HXF.out w.heap.size (Nat.lt_trans (Nat.lt_succ_self _) HBXB.out) (Nat.ne_of_gt HBW.out) (Nat.ne_of_lt (Nat.lt_succ_self _)) HZB.out)
   obtain ⟨l,hl⟩:=Cont.pull [] HXC.out
   have HND:=Lib.hid (rneed_contQ HWF.out ⟨#[61]⟩ kw_eq HXR.out HXK.out (hl.imp (fun q=>(⟨q.1,q.2⟩:_∧bindO (expO ts k3 [61]) (fun _ k3'=>bindO (rowO (ctorO ts 0) ts [124] 16384 k3') (fun cs k4=>Out.ok (⟨1,y.data.toList,l,cs,[],[],0,[],zeroG⟩:ItemT) k4))=OT))))
   clear hl
   go_wp2_with fail
   go_at_call 59
   refine HND.out.mono ?_
   rintro e wC ⟨k5,er5,rfl,hk5,hp5,hf5,hc5⟩
   have HWB:Hid (wB.heap.size≤W.heap.size):=Lib.hid HXF.out.size
   have HWC:Hid (W.heap.size≤wC.heap.size):=Lib.hid hf5.size
   have HFC:=Lib.hid ((Fr2.toPFr HFB.out HXF.out HBX.out).trans hf5)
   have HBXC:Hid (w.heap.size+1 < wC.heap.size):=Lib.hid (by have:=HWB.out;have:=HWC.out;have:=HBXB.out;omega)
   have HBC:Hid (b < wC.heap.size):=Lib.hid (by have:=HBXC.out;have:=HBW.out;omega)
   have HZC:=Lib.hid (zero_pfr hf5 w.heap.size (by have:=HWB.out;have:=HBXB.out;omega) (Nat.ne_of_gt HBW.out) HZW.out)
   have HBXL:Hid (wC.heap[w.heap.size+1]?=some (.cells ((fun v=>#[.int .i64 1,.string y,.slice s n cap,v,.slice none 0 0,.slice none 0 0,.int .i64 0,.slice none 0 0,.int .i64 0,.int .i64 0,.string ⟨#[]⟩,.int .i64 0,.slice none 0 0,.int .i64 0,.string ⟨#[]⟩,.int .i64 0,.slice none 0 0,.string ⟨#[]⟩,.slice none 0 0,.slice none 0 0]) (.slice none 0 0)) 33 (0,0))):=Lib.hid ((hf5.block (w.heap.size+1) (by have:=HWB.out;have:=HBXB.out;omega) (by have:=HBW.out;omega)).trans HXB.out)
   have HQ5:Hid (Cont OT er5 (ArgsV 9 1 strH l (.slice s n cap) (w.heap.size+2) wC.heap.size wC∧bindO (ctorO ts 0 k5) (fun x k1=>bindO (rowLoop (ctorO ts 0) ts [124] 16384 (ts.length+1) k1 [x]) (fun cs k4=>Out.ok (⟨1,y.data.toList,l,cs,[],[],0,[],zeroG⟩:ItemT) k4))=OT)):=Lib.hid (hc5.imp (fun q=>by
    obtain ⟨q1,_,q3⟩:=q
    refine ⟨?_,rowB_first q3⟩
    have q4:=ArgsV.stable _ _ strH.stable _ _ _ _ _ wC q1 (fun j j1 j2=>hf5.block j j2 (by have:=HBXB.out;have:=HBW.out;omega))
    exact q4.wide (by have:=HBXB.out;omega) HWC.out))
   have hrow:RowH 80 2 CtorV wC.heap.size wC none 0 [] [] 0:=⟨.inl ⟨rfl,rfl,rfl⟩,⟨by simp,.inl ⟨rfl,rfl⟩⟩,trivial⟩
   have HROWL:=Lib.hid hrow
   have HFRL:Hid (Fr2 b (w.heap.size+1) wC wC):=Lib.hid (Fr2.refl' _ _ _)
   have HRX:=Lib.hid (fun (w3:World) (h3:Rd w3 b A c ts k5 er5)=>HCG.out.contQ (ctorO_fwd ts 0) CtorV.sh h3 hk5 HQ5.out)
   have d4:=(Lib.cell_of_heap HBXL.out 3).trans rfl
   have hw3:=HBXC.out
   have hnb:w.heap.size+1 ≠ b:=by have:=HBW.out;omega
   have HOWN:=Lib.hid hrow.own
   have HR3:=Lib.hid hp5
   have HF3:=Lib.hid (PFr.refl b wC)
   obtain ⟨acc,hacc⟩:∃ acc:List CtorT,acc=[]:=⟨_,rfl⟩
   obtain ⟨vs,hvs⟩:∃ vs:List Value,vs=[]:=⟨_,rfl⟩
   have hal0:acc.length=0:=by rw [hacc];rfl
   rw [← hacc,← hvs] at HROWL
   rw [← hvs] at HOWN
   have HOWN:Hid (wC.ownsRow wC.heap.size 80 2 (.slice none 0 0) acc.length (vs.flatMap cellsL)):=Lib.hid (by rw [hal0];exact HOWN.out)
   have HBXL:Hid (wC.heap[w.heap.size+1]?=some (.cells ((fun v=>#[.int .i64 1,.string y,.slice s n cap,v,.slice none 0 0,.slice none 0 0,.int .i64 0,.slice none 0 0,.int .i64 0,.int .i64 0,.string ⟨#[]⟩,.int .i64 0,.slice none 0 0,.int .i64 0,.string ⟨#[]⟩,.int .i64 0,.slice none 0 0,.string ⟨#[]⟩,.slice none 0 0,.slice none 0 0]) (.slice none acc.length 0)) 33 (0,0))):=Lib.hid (by rw [hal0];exact HBXL.out)
   have HACC:=Lib.hid hacc
   have HAL0:=Lib.hid hal0
   clear hp5 hf5 hk5 hc5 hrow HND hacc hvs
   have hfew:acc.length≤16384:=by omega
   go_wp2_with fail
   go_region_law (first
    | (go_simp;go_at_call 100;refine (HRX.out _ HR3.out.drew).mono ?_;rintro e w4 ⟨v4,k4,er4,rfl,⟨p2,p4,p5,p6,rfl⟩,hk4,hp4,hf4,hc4⟩;replace hf4:=PFr.ofDrew hf4;have d5:=(hf4.cell (p:=⟨(w.heap.size+1),3,none⟩) hw3 hnb).trans d4;have hw4:(w.heap.size+1) < w4.heap.size:=Nat.lt_of_lt_of_le hw3 hf4.size;have hw5:¬ (w.heap.size+1)=w4.heap.size:=Nat.ne_of_lt hw4;have hw6:¬ w4.heap.size=(w.heap.size+1):=fun e=>hw5 e.symm)
    | ((refine step_ctor rfl (.tmp 65) (.tmp 68) rfl wC.heap.size (.slice none 0 0) acc.length (vs.flatMap cellsL) ?_ ?_ w4.heap.size p2 p4 p5 p6 ?_ ?_ ?_ ?_ ?_);(rfl);(exact (own_fr HOWN.out hf4 HBC.out).alloc _);(rfl);(exact heap_alloc_new _ _);(omega);(have:=hf4.size;have:=HFRL.out.size;have:=HF3.out.size;simp at this ⊢;omega);(intro g2 cap2 w6 hown6 hg6 hat6;have HG6:=Lib.hid hg6;have HOW:=Lib.hid hown6;have HAT:=Lib.hid hat6;obtain ⟨q1,q2,q3,q4⟩:=lpr_grown (Bx:=fun v=>#[.int .i64 1,.string y,.slice s n cap,v,.slice none 0 0,.slice none 0 0,.int .i64 0,.slice none 0 0,.int .i64 0,.int .i64 0,.string ⟨#[]⟩,.int .i64 0,.slice none 0 0,.int .i64 0,.string ⟨#[]⟩,.int .i64 0,.slice none 0 0,.string ⟨#[]⟩,.slice none 0 0,.slice none 0 0]) HP.out HFC.out HBX.out HBXC.out HBXL.out HFRL.out HROWL.out (HF3.out.trans hf4) hg6;have e3:=(Lib.cell_of_heap q1 3).trans rfl;have f3:=Lib.frozen_of_heap q1 3;clear q1 q2 q3 q4 hg6 hown6 hat6)))
   all_goals
    have HLN:Hid (LpR 80 2 CtorV b A c ts OT (fun acc k=>(ArgsV 9 1 strH l (.slice s n cap) (w.heap.size+2) wC.heap.size wC)∧RowB ts (fun cs k4=>Out.ok (⟨1,y.data.toList,l,cs,[],[],0,[],zeroG⟩:ItemT) k4) OT acc k) 33 (w.heap.size+1) (fun v=>#[.int .i64 1,.string y,.slice s n cap,v,.slice none 0 0,.slice none 0 0,.int .i64 0,.slice none 0 0,.int .i64 0,.int .i64 0,.string ⟨#[]⟩,.int .i64 0,.slice none 0 0,.int .i64 0,.string ⟨#[]⟩,.int .i64 0,.slice none 0 0,.string ⟨#[]⟩,.slice none 0 0,.slice none 0 0]) wC (w6.setCell ⟨(w.heap.size+1),3,none⟩ (.slice (some ⟨g2,0,none⟩) (acc.length+1) cap2)) (some ⟨g2,0,none⟩) cap2 (acc.length+1) k4 er4):=Lib.hid (lpr_next HP.out HFC.out HBX.out HBXC.out 3 (fun _=>by show 3 < 20;decide) (fun _ _=>rfl) CtorV.stable HBXL.out HFRL.out HROWL.out (HF3.out.trans hf4) hp4 hk4 (show wC.heap.size≤wC.drew.heap.size from Nat.le_refl _) (v2:=.agg #[.string p2,.slice p4 p5 p6]) (hc4.imp (fun q=>by
     obtain ⟨q1,x,q2,q3,q4⟩:=q
     refine ⟨x,q2,q1,ts.length+1,by rw [HACC.out];simp;omega,by omega,?_⟩
     rw [HACC.out]
     exact q4)) HOW.out (by rw [HAL0.out];exact HG6.out) (by rw [HAL0.out];exact HAT.out))
    have hl1:acc.length+1=1:=by rw [HAL0.out]
    rw [hl1] at HLN
    clear hf4 hp4 d4 d5 e3 f3 hk4 hc4 HRX HROWL HFRL HOWN HBXL HQ5 HACC HR3 HF3 hl1
    go_wp2
    go_loopw [] (fun wr=>∃ s2 cap2 n2 kk er',Hid (LpR 80 2 CtorV b A c ts OT (fun acc k=>(ArgsV 9 1 strH l (.slice s n cap) (w.heap.size+2) wC.heap.size wC)∧RowB ts (fun cs k4=>Out.ok (⟨1,y.data.toList,l,cs,[],[],0,[],zeroG⟩:ItemT) k4) OT acc k) 33 (w.heap.size+1) (fun v=>#[.int .i64 1,.string y,.slice s n cap,v,.slice none 0 0,.slice none 0 0,.int .i64 0,.slice none 0 0,.int .i64 0,.int .i64 0,.string ⟨#[]⟩,.int .i64 0,.slice none 0 0,.int .i64 0,.string ⟨#[]⟩,.int .i64 0,.slice none 0 0,.string ⟨#[]⟩,.slice none 0 0,.slice none 0 0]) wC wr s2 cap2 n2 kk er')) (fun wr=>meas ts.length b wr)
    case atStart=>exact ⟨_,_,_,_,_,HLN⟩
    case round =>
     obtain ⟨s2,cap2x,n2,kk,er',hI⟩:=hrel
     have HI:=hI
     clear hI HLN hfew hal0 hw3 hnb
     cases hq:isB ts kk er' [124] with
     | true =>
      obtain ⟨rfl,hh⟩:er'=0∧hasT ts kk [124]=true:=by simpa [isB] using hq
      obtain ⟨acc,vs,g,rfl,hrow,q1,q2⟩:=HI.out.cont.ok
      obtain ⟨m,hal,hk1,hfu,hT⟩:=rowB_yes hfw hh q2
      have HG:=Lib.hid (rgot_yes HWF.out ⟨#[124]⟩ kw_bar HI.out.wd hh)
      have HV:=Lib.hid q1
      have HRX:=Lib.hid (fun (w3:World) (h3:Rd w3 b A c ts (kk+1) 0)=>HCG.out.cont (ctorO_fwd ts 0) CtorV.sh h3 hk1 (.inl ⟨rfl,hT⟩))
      have HROWL:=Lib.hid hrow
      have HBXL:=Lib.hid HI.out.box
      have HFRL:=Lib.hid HI.out.fr
      have HFU:=Lib.hid hfu
      have HAL:=Lib.hid hal
      have hbz:w.heap.size+1 < wr.heap.size:=(Array.getElem?_eq_some_iff.1 HI.out.box).1
      have hnb:w.heap.size+1 ≠ b:=by have:=HBW.out;omega
      have d3:=(Lib.cell_of_heap HBXL.out 3).trans rfl
      have hfew:acc.length≤16384:=by have:=HI.out.le;omega
      clear hq hh hrow q1 q2 hal hk1 hfu hT
      go_wp2_with fail
      go_at_call 97
      refine HG.out.mono ?_
      rintro e w3 ⟨rfl,hp3,hf3⟩
      have d4:=(hf3.cell (p:=⟨(w.heap.size+1),3,none⟩) hbz hnb).trans d3
      have hw3:(w.heap.size+1) < w3.heap.size:=Nat.lt_of_lt_of_le hbz hf3.size
      have HOWN:=Lib.hid (own_fr HROWL.out.own hf3 HBC.out)
      have HR3:=Lib.hid hp3
      have HF3:=Lib.hid hf3
      clear hp3 hf3 d3
      go_wp2_with fail
      go_region_law (first
       | (go_simp;go_at_call 100;refine (HRX.out _ HR3.out.drew).mono ?_;rintro e w4 ⟨v4,k4,er4,rfl,⟨p2,p4,p5,p6,rfl⟩,hk4,hp4,hf4,hc4⟩;replace hf4:=PFr.ofDrew hf4;have d5:=(hf4.cell (p:=⟨(w.heap.size+1),3,none⟩) hw3 hnb).trans d4;have hw4:(w.heap.size+1) < w4.heap.size:=Nat.lt_of_lt_of_le hw3 hf4.size;have hw5:¬ (w.heap.size+1)=w4.heap.size:=Nat.ne_of_lt hw4;have hw6:¬ w4.heap.size=(w.heap.size+1):=fun e=>hw5 e.symm)
       | ((refine step_ctor rfl (.tmp 74) (.tmp 77) rfl wC.heap.size (.slice s2 acc.length cap2x) acc.length (vs.flatMap cellsL) ?_ ?_ w4.heap.size p2 p4 p5 p6 ?_ ?_ ?_ ?_ ?_);(rfl);(exact (own_fr HOWN.out hf4 HBC.out).alloc _);(rfl);(exact heap_alloc_new _ _);(omega);(have:=hf4.size;have:=HFRL.out.size;have:=HF3.out.size;simp at this ⊢;omega);(intro g2 cap2 w6 hown6 hg6 hat6;have HG6:=Lib.hid hg6;have HOW:=Lib.hid hown6;have HAT:=Lib.hid hat6;obtain ⟨q1,q2,q3,q4⟩:=lpr_grown (Bx:=fun v=>#[.int .i64 1,.string y,.slice s n cap,v,.slice none 0 0,.slice none 0 0,.int .i64 0,.slice none 0 0,.int .i64 0,.int .i64 0,.string ⟨#[]⟩,.int .i64 0,.slice none 0 0,.int .i64 0,.string ⟨#[]⟩,.int .i64 0,.slice none 0 0,.string ⟨#[]⟩,.slice none 0 0,.slice none 0 0]) HP.out HFC.out HBX.out HBXC.out HBXL.out HFRL.out HROWL.out (HF3.out.trans hf4) hg6;have e3:=(Lib.cell_of_heap q1 3).trans rfl;have f3:=Lib.frozen_of_heap q1 3;clear q1 q2 q3 q4 hg6 hown6 hat6)))
      all_goals
       have HLN:=Lib.hid (lpr_next (Bx:=fun v=>#[.int .i64 1,.string y,.slice s n cap,v,.slice none 0 0,.slice none 0 0,.int .i64 0,.slice none 0 0,.int .i64 0,.int .i64 0,.string ⟨#[]⟩,.int .i64 0,.slice none 0 0,.int .i64 0,.string ⟨#[]⟩,.int .i64 0,.slice none 0 0,.string ⟨#[]⟩,.slice none 0 0,.slice none 0 0]) (R:=fun acc k=>(ArgsV 9 1 strH l (.slice s n cap) (w.heap.size+2) wC.heap.size wC)∧RowB ts (fun cs k4=>Out.ok (⟨1,y.data.toList,l,cs,[],[],0,[],zeroG⟩:ItemT) k4) OT acc k) HP.out HFC.out HBX.out HBXC.out 3 (fun _=>by show 3 < 20;decide) (fun _ _=>rfl) CtorV.stable HBXL.out HFRL.out HROWL.out (HF3.out.trans hf4) hp4 hk4 (show wr.heap.size≤w3.drew.heap.size from HF3.out.size) (v2:=.agg #[.string p2,.slice p4 p5 p6]) (hc4.imp (fun q=>by
        obtain ⟨x,q2,q3,q4⟩:=q
        exact ⟨x,q2,HV.out,m,by have:=HAL.out;simp;omega,by have:=HFU.out;omega,q4⟩)) HOW.out HG6.out HAT.out)
       have HC4:=Lib.hid hc4
       have HK4:=Lib.hid hk4
       clear hf4 hp4 d4 d5 e3 f3 hk4 hc4
       go_wp2
       go_roundw
       case rel=>exact ⟨_,_,_,_,_,HLN⟩
       case measure =>
        rw [meas_on HI.out.wd]
        rcases HC4.out with ⟨rfl,_,_,h5,_⟩ | ⟨i,rfl,_⟩
        ·rw [meas_on HLN.out.wd]
         have h7:=HK4.out
         omega
        ·rw [meas_off HLN.out.wd (erN_ne i)]
         omega
     | false =>
      have HG:=Lib.hid (rgot_not HWF.out ⟨#[124]⟩ kw_bar HI.out.wd HI.out.le hq)
      have HQ:=Lib.hid hq
      clear hq
      go_wp2_with fail
      go_at_call 97
      refine HG.out.mono ?_
      rintro e w3 ⟨rfl,hp3,hf3⟩
      have HR3:=Lib.hid hp3
      have hbz:w.heap.size+1 < wr.heap.size:=(Array.getElem?_eq_some_iff.1 HI.out.box).1
      have HBX3:=Lib.hid ((hf3.block (w.heap.size+1) hbz (by have:=HBW.out;omega)).trans HI.out.box)
      have HFR3:=Lib.hid (HI.out.fr.pfr hf3)
      have HZ3:=Lib.hid (zero_fr2 HFR3.out w.heap.size (Nat.lt_trans (Nat.lt_succ_self _) HBXC.out) (Nat.ne_of_gt HBW.out) (Nat.ne_of_lt (Nat.lt_succ_self _)) HZC.out)
      have HC3:Hid (Cont OT er' (ArgsV 9 1 strH l (.slice s n cap) (w.heap.size+2) wC.heap.size wC∧∃ cs,ArgsV 80 2 CtorV cs (.slice s2 n2 cap2x) wC.heap.size w3.heap.size w3∧.ok (⟨1,y.data.toList,l,cs,[],[],0,[],zeroG⟩:ItemT) kk=OT)):=Lib.hid (by
       rcases HI.out.cont with ⟨rfl,acc,vs,g,rfl,hrow,q1,q2⟩ | h
       ·have h6:=HQ.out
        rw [isB_ok] at h6
        exact .inl ⟨rfl,q1,acc,(hrow.fr CtorV.stable HBC.out hf3).held,rowB_no HI.out.le h6 q2⟩
       ·exact .inr h)
      have HK3:=Lib.hid HI.out.le
      clear hp3 hf3 HG hbz HI
      go_upto_region 41 with fail
      refine wp_region_list ?_
      refine wpList_load_mid rfl 33 (.tmp 3) rfl (w.heap.size+1) 0 rfl _ _ (range_all HBX3.out) Tryz.underlying33 rfl infoIt20 ?_
      refine wpList_store_mid rfl 33 (.tmp 2) (.tmp 157) rfl w.heap.size 0 #[.int .i64 1,.string y,.slice s n cap,.slice s2 n2 cap2x,.slice none 0 0,.slice none 0 0,.int .i64 0,.slice none 0 0,.int .i64 0,.int .i64 0,.string ⟨#[]⟩,.int .i64 0,.slice none 0 0,.int .i64 0,.string ⟨#[]⟩,.int .i64 0,.slice none 0 0,.string ⟨#[]⟩,.slice none 0 0,.slice none 0 0] rfl rfl (show World.there _ w.heap.size 0 20 from there_all HZ3.out) infoIt20 (by simp [Value.oneCell']) ?_
      obtain ⟨t0,t1,t2,t3⟩:=rputAll (C:=#[.int .i64 1,.string y,.slice s n cap,.slice s2 n2 cap2x,.slice none 0 0,.slice none 0 0,.int .i64 0,.slice none 0 0,.int .i64 0,.int .i64 0,.string ⟨#[]⟩,.int .i64 0,.slice none 0 0,.int .i64 0,.string ⟨#[]⟩,.int .i64 0,.slice none 0 0,.string ⟨#[]⟩,.slice none 0 0,.slice none 0 0]) HP.out (Fr2.toPFr HFC.out HFR3.out HBX.out) HR3.out HZ3.out rfl
      generalize World.setCells _ _ _ _=X at t0 t1 t2 t3 ⊢
      have T0:=Lib.hid t0
      have T1:=Lib.hid t1
      have T2:=Lib.hid t2
      have T3:=Lib.hid t3
      clear t0 t1 t2 t3
      go_wp2_with fail
      refine bodyPost_ret (v:=.agg #[.int .i64 1,.string y,.slice s n cap,.slice s2 n2 cap2x,.slice none 0 0,.slice none 0 0,.int .i64 0,.slice none 0 0,.int .i64 0,.int .i64 0,.string ⟨#[]⟩,.int .i64 0,.slice none 0 0,.int .i64 0,.string ⟨#[]⟩,.int .i64 0,.slice none 0 0,.string ⟨#[]⟩,.slice none 0 0,.slice none 0 0]) (results_cell_row Tryz.results58 _ _ w.heap.size 33 #[.int .i64 1,.string y,.slice s n cap,.slice s2 n2 cap2x,.slice none 0 0,.slice none 0 0,.int .i64 0,.slice none 0 0,.int .i64 0,.int .i64 0,.string ⟨#[]⟩,.int .i64 0,.slice none 0 0,.int .i64 0,.string ⟨#[]⟩,.int .i64 0,.slice none 0 0,.string ⟨#[]⟩,.slice none 0 0,.slice none 0 0] (0,0) _ rfl T0.out Tryz.underlying33 rfl infoIt20) rfl (rends_of HK3.out ⟨_,_,_,_,_,_,_,_,_,_,_,_,_,_,_,_,_,_,_,_,_,_,_,_,_,_,_,_,_,_,_,_,_,_,_,_,_,_,rfl⟩ T1.out T2.out (HC3.out.imp (fun q=>?_)))
      obtain ⟨q1,cs,q2,q3⟩:=q
      refine ⟨_,?_,q3⟩
      have e2:=HBXC.out
      have e3:=HFR3.out.size
      have e9:=T3.out.size
      have e6:=HBW.out
      have g3:=ArgsV.stable _ _ CtorV.stable _ _ _ _ _ X q2 (fun j j1 j2=>T3.out.block j (by omega))
      have g4:=ArgsV.stable _ _ strH.stable _ _ _ _ _ X q1 (fun j j1 j2=>(T3.out.block j (by omega)).trans (HFR3.out.block j j2 (by omega) (by omega)))
      exact ⟨_,_,_,_,_,_,_,_,_,_,_,_,_,_,_,_,_,by rw [bs_data],g4.wide (by omega) (by omega),g3.wide (by omega) (by omega),.inl ⟨rfl,rfl⟩,.inl ⟨rfl,rfl⟩,.inl ⟨rfl,rfl⟩,zeroG_holds _ _ _⟩
end Lx
end Go.Proofs.YtajomoclbpobhaaGreatDoor
