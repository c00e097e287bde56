/- The contract of the reference's reader's Item: a predicate's declaration. Conditions: the reader's block is its own; at most 16384 tokens, each of which is one by itself. -/
/- The contract of the reference's reader's Item: a clause. Conditions: the reader's block is its own; at most 16384 tokens, each of which is one by itself. -/
/- The contract of the reference's reader's Item: a mode's declaration. Conditions: the reader's block is its own; at most 16384 tokens, each of which is one by itself. -/
import Derived.Test.YtajomoclbpobhaaGreatDoorRdlA
namespace Go.Proofs.YtajomoclbpobhaaGreatDoor
set_option linter.unusedSimpArgs false
set_option linter.unusedVariables false
namespace Lx
open Go Go.RowKit
set_option maxRecDepth 100000 in
set_option maxHeartbeats 8000000 in
theorem ritem_pred (b:Nat) (A:Option Addr) (c:Nat) (ts:List Tok) (hw:WF ts) (w:World) (k:Nat) (OT:Out ItemT) (h:Rd w b A c ts k 0) (hk:k≤ts.length) (q0:isB ts k 0 [116,121,112,101]=false) (hy:hasT ts k [112,114,101,100]=true) (hO:predR ts (k+1)=OT) :
  Calls Tryz.prog 58 #[.pointer (some ⟨b,0,none⟩)] w fun e w'=>REnds b A c ts ItemV ShIt w OT e w':=by
 have HP:=Lib.hid h
 have HWF:=Lib.hid hw
 have hfw:=h.few
 have HBW:=Lib.hid h.lt
 have HK:=Lib.hid hk
 have HPW:=Lib.hid h
 have Q0:=Lib.hid q0
 clear h hw hk q0
 have HY:=Lib.hid hy
 have HO:=Lib.hid hO
 have HK1:Hid (k+1≤ts.length):=Lib.hid (by have:=hasT_in hy (by decide);omega)
 have HTG:=Lib.hid (rtype_top b A c ts HWF.out)
 clear hy hO
 go_enter Tryz.func58,Tryz.ntmps58
 go_upto_region 1 with fail
 refine wp_region_list ?_
 refine wpList_plain rfl fun _ hKK=>?_
 have HKK:=Lib.hid hKK
 clear hKK
 go_simp
 refine HKK.out _ _ ?_
 clear HKK
 refine wpList_plain rfl fun _ hKK=>?_
 have HKK:=Lib.hid hKK
 clear hKK
 go_simp
 refine HKK.out _ _ ?_
 clear HKK
 have hY:((w.alloc (.cells #[.int .i64 0,.string ⟨#[]⟩,.slice none 0 0,.slice none 0 0,.slice none 0 0,.slice none 0 0,.int .i64 0,.slice none 0 0,.int .i64 0,.int .i64 0,.string ⟨#[]⟩,.int .i64 0,.slice none 0 0,.int .i64 0,.string ⟨#[]⟩,.int .i64 0,.slice none 0 0,.string ⟨#[]⟩,.slice none 0 0,.slice none 0 0] 33)).alloc (.cells #[.int .i64 0,.string ⟨#[]⟩,.slice none 0 0,.slice none 0 0,.slice none 0 0,.slice none 0 0,.int .i64 0,.slice none 0 0,.int .i64 0,.int .i64 0,.string ⟨#[]⟩,.int .i64 0,.slice none 0 0,.int .i64 0,.string ⟨#[]⟩,.int .i64 0,.slice none 0 0,.string ⟨#[]⟩,.slice none 0 0,.slice none 0 0] 33)).heap[w.heap.size+1]?=some (.cells #[.int .i64 0,.string ⟨#[]⟩,.slice none 0 0,.slice none 0 0,.slice none 0 0,.slice none 0 0,.int .i64 0,.slice none 0 0,.int .i64 0,.int .i64 0,.string ⟨#[]⟩,.int .i64 0,.slice none 0 0,.int .i64 0,.string ⟨#[]⟩,.int .i64 0,.slice none 0 0,.string ⟨#[]⟩,.slice none 0 0,.slice none 0 0] 33 (0,0)):=by
  have h:=heap_alloc_new (w.alloc (.cells #[.int .i64 0,.string ⟨#[]⟩,.slice none 0 0,.slice none 0 0,.slice none 0 0,.slice none 0 0,.int .i64 0,.slice none 0 0,.int .i64 0,.int .i64 0,.string ⟨#[]⟩,.int .i64 0,.slice none 0 0,.int .i64 0,.string ⟨#[]⟩,.int .i64 0,.slice none 0 0,.string ⟨#[]⟩,.slice none 0 0,.slice none 0 0] 33)) (.cells #[.int .i64 0,.string ⟨#[]⟩,.slice none 0 0,.slice none 0 0,.slice none 0 0,.slice none 0 0,.int .i64 0,.slice none 0 0,.int .i64 0,.int .i64 0,.string ⟨#[]⟩,.int .i64 0,.slice none 0 0,.int .i64 0,.string ⟨#[]⟩,.int .i64 0,.slice none 0 0,.string ⟨#[]⟩,.slice none 0 0,.slice none 0 0] 33)
  rwa [show (w.alloc (.cells #[.int .i64 0,.string ⟨#[]⟩,.slice none 0 0,.slice none 0 0,.slice none 0 0,.slice none 0 0,.int .i64 0,.slice none 0 0,.int .i64 0,.int .i64 0,.string ⟨#[]⟩,.int .i64 0,.slice none 0 0,.int .i64 0,.string ⟨#[]⟩,.int .i64 0,.slice none 0 0,.string ⟨#[]⟩,.slice none 0 0,.slice none 0 0] 33)).heap.size=w.heap.size+1 by simp] at h
 refine wpList_store_mid rfl 33 (.tmp 3) (.tmp 5) rfl (w.heap.size+1) 0 #[.int .i64 0,.string ⟨#[]⟩,.slice none 0 0,.slice none 0 0,.slice none 0 0,.slice none 0 0,.int .i64 0,.slice none 0 0,.int .i64 0,.int .i64 0,.string ⟨#[]⟩,.int .i64 0,.slice none 0 0,.int .i64 0,.string ⟨#[]⟩,.int .i64 0,.slice none 0 0,.string ⟨#[]⟩,.slice none 0 0,.slice none 0 0] rfl rfl (there_all hY) infoIt20 (by simp [Value.oneCell']) ?_
 obtain ⟨y1,y2,y3,y4,y5⟩:=item_begin (C:=#[.int .i64 0,.string ⟨#[]⟩,.slice none 0 0,.slice none 0 0,.slice none 0 0,.slice none 0 0,.int .i64 0,.slice none 0 0,.int .i64 0,.int .i64 0,.string ⟨#[]⟩,.int .i64 0,.slice none 0 0,.int .i64 0,.string ⟨#[]⟩,.int .i64 0,.slice none 0 0,.string ⟨#[]⟩,.slice none 0 0,.slice none 0 0]) HPW.out hY rfl
 generalize World.setCells _ _ _ _=w0 at y1 y2 y3 y4 y5 ⊢
 have HB0:=Lib.hid y1
 have HZ0:=Lib.hid y2
 have HP0:=Lib.hid y3
 have HFX0:=Lib.hid y4
 have HS0:=Lib.hid y5
 have HF0:=Lib.hid (PFr.refl b w0)
 clear y1 y2 y3 y4 y5 hY
 have HG:=Lib.hid (rgot_not HWF.out ⟨#[116,121,112,101]⟩ kw_type HP0.out HK.out Q0.out)
 go_wp2_with fail
 go_at_call 97
 refine HG.out.mono ?_
 rintro e w1 ⟨rfl,hp,hf⟩
 have HP1:=Lib.hid hp
 have HF1:=Lib.hid (HF0.out.trans hf)
 clear hp hf HG HP0 HF0 Q0
 have HG:=Lib.hid (rgot_yes HWF.out ⟨#[112,114,101,100]⟩ kw_pred HP1.out HY.out)
 go_wp2_with fail
 go_at_call 97
 refine HG.out.mono ?_
 rintro e w2 ⟨rfl,hp,hf⟩
 have HP2:=Lib.hid hp
 have HF2:=Lib.hid (HF1.out.trans hf)
 clear hp hf HG HP1 HF1
 have hsn:w.heap.size+2≤w2.heap.size:=Nat.le_trans HS0.out HF2.out.size
 have hbn:=(HF2.out.block (w.heap.size+1) (by have:=HS0.out;omega) (by have:=HBW.out;omega)).trans HB0.out
 have hzn:zeroIB w2 w.heap.size:=zero_pfr HF2.out w.heap.size (by have:=HS0.out;omega) (by have:=HBW.out;omega) HZ0.out
 have HFW:=Lib.hid (HFX0.out.trans HF2.out)
 have dn0:=(Lib.cell_of_heap hbn 0).trans rfl
 have fn0:=Lib.frozen_of_heap hbn 0
 have HX:=Lib.hid (Rd.beside HP.out HFW.out HP2.out (N:=w.heap.size+1) (by omega) 0 (.int .i64 2))
 have HBN:=Lib.hid hbn
 have HZN:=Lib.hid hzn
 have HSN:=Lib.hid hsn
 have HN:=Lib.hid (rname_cont HX.out HK1.out (.inl ⟨rfl,HO.out⟩))
 clear hbn hzn hsn
 go_wp2_with fail
 go_at_call 98
 refine HN.out.mono ?_
 rintro e w2x ⟨y,k2,er2,rfl,hk2,hp2,hf2,hc2⟩
 have hsx:(w2.setCell ⟨w.heap.size+1,0,none⟩ (.int .i64 2)).heap.size=w2.heap.size:=by simp [World.setCell]
 have hb2:w2x.heap[w.heap.size+1]?=some (.cells #[.int .i64 2,.string ⟨#[]⟩,.slice none 0 0,.slice none 0 0,.slice none 0 0,.slice none 0 0,.int .i64 0,.slice none 0 0,.int .i64 0,.int .i64 0,.string ⟨#[]⟩,.int .i64 0,.slice none 0 0,.int .i64 0,.string ⟨#[]⟩,.int .i64 0,.slice none 0 0,.string ⟨#[]⟩,.slice none 0 0,.slice none 0 0] 33 (0,0)):=(hf2.block (w.heap.size+1) (by rw [hsx];have:=HSN.out;omega) (by have:=HBW.out;omega)).trans (blk_put w2 (w.heap.size+1) 0 _ HBN.out (by show 0 < 20;decide))
 have hz2:zeroIB w2x w.heap.size:=zero_pfr hf2 w.heap.size (by rw [hsx];have:=HSN.out;omega) (by have:=HBW.out;omega) (zero_put (by omega) HZN.out)
 have hs2:w.heap.size+2≤w2x.heap.size:=by have:=hf2.size;rw [hsx] at this;have:=HSN.out;omega
 have HFQ:=Lib.hid ((HFW.out.putNew (N:=w.heap.size+1) (by omega) 0 (.int .i64 2)).trans hf2)
 have hc3:Cont OT er2 (bindO (argsO (typeO ts 66 0) ts k2) (fun l k'=>Out.ok (⟨2,y.data.toList,[],[],l,[],0,[],zeroG⟩:ItemT) k')=OT):=hc2.imp (fun ⟨s,e,_,h⟩=>by rw [e];exact h)
 have d1:=(Lib.cell_of_heap hb2 1).trans rfl
 have f1:=Lib.frozen_of_heap hb2 1
 have HBOX:Hid ((w2x.setCell ⟨w.heap.size+1,1,none⟩ (.string y)).heap[w.heap.size+1]?=some (.cells #[.int .i64 2,.string y,.slice none 0 0,.slice none 0 0,.slice none 0 0,.slice none 0 0,.int .i64 0,.slice none 0 0,.int .i64 0,.int .i64 0,.string ⟨#[]⟩,.int .i64 0,.slice none 0 0,.int .i64 0,.string ⟨#[]⟩,.int .i64 0,.slice none 0 0,.string ⟨#[]⟩,.slice none 0 0,.slice none 0 0] 33 (0,0))):=Lib.hid (blk_put w2x (w.heap.size+1) 1 _ hb2 (by show 1 < 20;decide))
 have HPB:=Lib.hid (Rd.beside HP.out HFQ.out hp2 (N:=w.heap.size+1) (by omega) 1 (.string y))
 have HKB:=Lib.hid hk2
 have HCB:=Lib.hid hc3
 have HFB:=Lib.hid (HFQ.out.putNew (N:=w.heap.size+1) (by omega) 1 (.string y))
 have hsy:(w2x.setCell ⟨w.heap.size+1,1,none⟩ (.string y)).heap.size=w2x.heap.size:=by simp [World.setCell]
 have HBX:Hid (w.heap.size≤w.heap.size+1):=Lib.hid (by omega)
 have HBXB:Hid (w.heap.size+1 < (w2x.setCell ⟨w.heap.size+1,1,none⟩ (.string y)).heap.size):=Lib.hid (by rw [hsy];omega)
 have HNB:Hid (b < w.heap.size+1):=Lib.hid (by have:=HBW.out;omega)
 have HBB:Hid (b < (w2x.setCell ⟨w.heap.size+1,1,none⟩ (.string y)).heap.size):=Lib.hid (by rw [hsy];have:=HBW.out;omega)
 have HZB:Hid (zeroIB (w2x.setCell ⟨w.heap.size+1,1,none⟩ (.string y)) w.heap.size):=Lib.hid (zero_put (by omega) hz2)
 clear hk2 hp2 hf2 hc2 hc3 hsx hsy hb2 hz2 hs2 dn0 fn0 HX HN HBN HZN HSN HFW HFQ HP2 HF2
 go_wp2_with fail
 clear d1 f1
 generalize w2x.setCell ⟨w.heap.size+1,1,none⟩ (.string y)=wB at HBOX HPB HFB HBXB HBB HZB ⊢
 have HST:=Lib.hid (lp_start (OT:=OT) (t:=35) (sz:=3) (V:=TypeV 66) (rd:=typeO ts 66 0) (f:=fun l k'=>Out.ok (⟨2,y.data.toList,[],[],l,[],0,[],zeroG⟩:ItemT) k') (bx:=(w.heap.size+1)) (Bx:=fun v=>#[.int .i64 2,.string y,.slice none 0 0,.slice none 0 0,v,.slice none 0 0,.int .i64 0,.slice none 0 0,.int .i64 0,.int .i64 0,.string ⟨#[]⟩,.int .i64 0,.slice none 0 0,.int .i64 0,.string ⟨#[]⟩,.int .i64 0,.slice none 0 0,.string ⟨#[]⟩,.slice none 0 0,.slice none 0 0]) (T:=33) HBOX.out HPB.out HKB.out HCB.out)
 go_loopw [] (fun wr=>∃ s cap n kk er',Hid (LpI 35 3 (TypeV 66) b A c ts OT (typeO ts 66 0) (fun l k'=>Out.ok (⟨2,y.data.toList,[],[],l,[],0,[],zeroG⟩:ItemT) k') 33 (w.heap.size+1) (fun v=>#[.int .i64 2,.string y,.slice none 0 0,.slice none 0 0,v,.slice none 0 0,.int .i64 0,.slice none 0 0,.int .i64 0,.int .i64 0,.string ⟨#[]⟩,.int .i64 0,.slice none 0 0,.int .i64 0,.string ⟨#[]⟩,.int .i64 0,.slice none 0 0,.string ⟨#[]⟩,.slice none 0 0,.slice none 0 0]) wB wr s cap n kk er')) (fun wr=>meas ts.length b wr)
 case atStart=>exact ⟨none,0,0,_,_,HST⟩
 case round =>
  obtain ⟨s,cap,n,kk,er',hI⟩:=hrel
  have HI:=hI
  clear hI HST
  have c2:=HI.out.wd.c2
  have hbox:=HI.out.box
  have d3:=(Lib.cell_of_heap hbox 4).trans rfl
  clear hbox
  rcases (show er' ≠ 0 ∨ er'=0 from (Decidable.em (er'=0)).symm) with hne | rfl
  case' inl =>
   have hq:(er' == 0)=false:=by simpa using hne
   have HXC:=Lib.hid (lp_over HI.out hne)
   have HXB:=Lib.hid HI.out.box
   have HXR:=Lib.hid HI.out.wd
   have HXK:=Lib.hid HI.out.le
   have HXF:=Lib.hid HI.out.fr
   obtain ⟨W,hW⟩:∃ W:World,W=wr:=⟨_,rfl⟩
   rw [← hW] at HXC HXB HXR HXF c2 d3 ⊢
   obtain ⟨k3,hk3⟩:∃ k3:Nat,k3=kk:=⟨_,rfl⟩
   obtain ⟨er3,he3⟩:∃ er3:Int,er3=er':=⟨_,rfl⟩
   rw [← hk3] at HXC HXR HXK
   rw [← he3] at HXC HXR c2 hq
   clear HI hne hW hk3 he3
  case' inr =>
   obtain ⟨acc,vs,g,m,rfl,hrow,hfu,hal,hO⟩:=HI.out.cont.ok
   have HROW:=Lib.hid hrow
   have HAL:=Lib.hid hal
   have hfew:acc.length≤16384:=by have h2:=HI.out.le;omega
   have HM:=Lib.hid (rmore_any wr b A c ts HWF.out kk acc.length HI.out.wd HI.out.le)
   have hbz:(w.heap.size+1) < wr.heap.size:=(Array.getElem?_eq_some_iff.1 HI.out.box).1
   rcases lp_more hfu HI.out.le hO with ⟨k1,m2,hm,hk1,hk1l,hfu2,hT⟩ | ⟨k1,er1,hm,hk1l,hc1⟩
   case' inl =>
    rw [hm] at HM
    have HRX:=Lib.hid (fun (w3:World) (h3:Rd w3 b A c ts k1 0)=>HTG.out.cont (typeO_fwd ts 66 0) (TypeV.sh) h3 hk1l (.inl ⟨rfl,hT⟩))
    have HK1:=Lib.hid hk1
    have HFU:=Lib.hid hfu2
    clear hrow hfu hal hO hm hk1 hk1l hfu2 hT
    go_wp2_with fail
    go_at_call 99
    refine HM.out.mono ?_
    rintro e w3 ⟨rfl,hp3,hf3⟩
    have hnb:(w.heap.size+1) ≠ b:=by have:=HNB.out;omega
    have d4:=(hf3.cell (p:=⟨(w.heap.size+1),4,none⟩) hbz hnb).trans d3
    have hw3:(w.heap.size+1) < w3.heap.size:=Nat.lt_of_lt_of_le hbz hf3.size
    have HOWN:=Lib.hid (own_fr HROW.out.own hf3 HBB.out)
    have HR3:=Lib.hid hp3
    have HF3:=Lib.hid hf3
    clear hp3 hf3 d3 c2
    go_wp2_with fail
    go_region_law (first
     | (go_simp;go_at_call 101;refine (HRX.out _ HR3.out.drew).mono ?_;rintro e w4 ⟨v4,k4,er4,rfl,⟨p1,p2,p4,p5,p6,rfl⟩,hk4,hp4,hf4,hc4⟩;replace hf4:=PFr.ofDrew hf4;have d5:=(hf4.cell (p:=⟨(w.heap.size+1),4,none⟩) hw3 hnb).trans d4;have hw4:(w.heap.size+1) < w4.heap.size:=Nat.lt_of_lt_of_le hw3 hf4.size;have hw5:¬ (w.heap.size+1)=w4.heap.size:=Nat.ne_of_lt hw4;have hw6:¬ w4.heap.size=(w.heap.size+1):=fun e=>hw5 e.symm)
     | ((refine step_type rfl (.tmp 100) (.tmp 103) rfl wB.heap.size (.slice s acc.length cap) acc.length (vs.flatMap cellsL) ?_ ?_ w4.heap.size p1 p2 p4 p5 p6 ?_ ?_ ?_ ?_ ?_);(rfl);(exact (own_fr HOWN.out hf4 HBB.out).alloc _);(rfl);(exact heap_alloc_new _ _);(omega);(have:=hf4.size;have:=HI.out.fr.size;have:=HF3.out.size;simp at this ⊢;omega);(intro g2 cap2 w6 hown6 hg6 hat6;have HG6:=Lib.hid hg6;have HOW:=Lib.hid hown6;have HAT:=Lib.hid hat6;obtain ⟨q1,q2,q3,q4⟩:=lp_grown HP.out HFB.out HBX.out HBXB.out HI.out HROW.out (HF3.out.trans hf4) hg6;have e3:=(Lib.cell_of_heap q1 4).trans rfl;have f3:=Lib.frozen_of_heap q1 4;clear q1 q2 q3 q4 hg6 hown6 hat6)))
    all_goals
     have HLN:=Lib.hid (lp_next HP.out HFB.out HBX.out HBXB.out 4 (fun _=>by show 4 < 20;decide) (fun _ _=>rfl) (TypeV.stable 66) HI.out HROW.out HAL.out (HF3.out.trans hf4) hp4 hk4 (show wr.heap.size≤w3.drew.heap.size from HF3.out.size) HK1.out HFU.out hc4 (v2:=.agg #[.bool p1,.string p2,.slice p4 p5 p6]) HOW.out HG6.out HAT.out)
     have HC4:=Lib.hid hc4
     have HK4:=Lib.hid hk4
     clear hf4 hp4 d4 d5 e3 f3 hk4 hc4
     go_wp2
     go_roundw
     case rel=>exact ⟨_,_,_,_,_,HLN⟩
     case measure =>
      rw [meas_on HI.out.wd]
      rcases HC4.out with ⟨rfl,_,_,h5,_⟩ | ⟨i,rfl,_⟩
      ·rw [meas_on HLN.out.wd]
       have h6:=HK1.out
       have h7:=HK4.out
       omega
      ·rw [meas_off HLN.out.wd (erN_ne i)]
       omega
   case' inr =>
    rw [hm] at HM
    have HC1:=Lib.hid hc1
    have HXK:=Lib.hid hk1l
    clear hrow hfu hal hO hm hk1l hc1
    go_wp2_with fail
    go_at_call 99
    refine HM.out.mono ?_
    rintro e W ⟨rfl,hp3,hf3⟩
    obtain ⟨HXFo,HXCo⟩:=lp_left (TypeV.stable 66) HBB.out HI.out HROW.out hf3 HC1.out
    have HXF:=Lib.hid HXFo
    have HXC:=Lib.hid HXCo
    have HXB:=Lib.hid ((hf3.block (w.heap.size+1) hbz (by have:=HNB.out;omega)).trans HI.out.box)
    have HXR:=Lib.hid hp3
    obtain ⟨n,hn⟩:∃ n:Nat,n=acc.length:=⟨_,rfl⟩
    rw [← hn] at HXC HXB
    obtain ⟨k3,hk3⟩:∃ k3:Nat,k3=k1:=⟨_,rfl⟩
    obtain ⟨er3,he3⟩:∃ er3:Int,er3=er1:=⟨_,rfl⟩
    rw [← hk3] at HXC HXR HXK
    rw [← he3] at HXC HXR
    clear hp3 hf3 HXFo HXCo HM HC1 hn hk3 he3 d3 c2 hfew hbz HROW HAL HI
  all_goals
   have HZ:=Lib.hid (zero_fr2 HXF.out w.heap.size (Nat.lt_trans (Nat.lt_succ_self _) HBXB.out) (Nat.ne_of_gt HBW.out) (Nat.ne_of_lt (Nat.lt_succ_self _)) HZB.out)
   go_upto_region 41 with fail
   refine wp_region_list ?_
   refine wpList_load_mid rfl 33 (.tmp 3) rfl (w.heap.size+1) 0 rfl _ _ (range_all HXB.out) Tryz.underlying33 rfl infoIt20 ?_
   refine wpList_store_mid rfl 33 (.tmp 2) (.tmp 157) rfl w.heap.size 0 #[.int .i64 2,.string y,.slice none 0 0,.slice none 0 0,.slice s n cap,.slice none 0 0,.int .i64 0,.slice none 0 0,.int .i64 0,.int .i64 0,.string ⟨#[]⟩,.int .i64 0,.slice none 0 0,.int .i64 0,.string ⟨#[]⟩,.int .i64 0,.slice none 0 0,.string ⟨#[]⟩,.slice none 0 0,.slice none 0 0] rfl rfl (show World.there _ w.heap.size 0 20 from there_all HZ.out) infoIt20 (by simp [Value.oneCell']) ?_
   obtain ⟨t0,t1,t2,t3⟩:=rputAll (C:=#[.int .i64 2,.string y,.slice none 0 0,.slice none 0 0,.slice s n cap,.slice none 0 0,.int .i64 0,.slice none 0 0,.int .i64 0,.int .i64 0,.string ⟨#[]⟩,.int .i64 0,.slice none 0 0,.int .i64 0,.string ⟨#[]⟩,.int .i64 0,.slice none 0 0,.string ⟨#[]⟩,.slice none 0 0,.slice none 0 0]) HP.out (Fr2.toPFr HFB.out HXF.out HBX.out) HXR.out HZ.out rfl
   generalize World.setCells _ _ _ _=X at t0 t1 t2 t3 ⊢
   have T0:=Lib.hid t0
   have T1:=Lib.hid t1
   have T2:=Lib.hid t2
   have T3:=Lib.hid t3
   clear t0 t1 t2 t3
   go_wp2_with fail
   refine bodyPost_ret (v:=.agg #[.int .i64 2,.string y,.slice none 0 0,.slice none 0 0,.slice s n cap,.slice none 0 0,.int .i64 0,.slice none 0 0,.int .i64 0,.int .i64 0,.string ⟨#[]⟩,.int .i64 0,.slice none 0 0,.int .i64 0,.string ⟨#[]⟩,.int .i64 0,.slice none 0 0,.string ⟨#[]⟩,.slice none 0 0,.slice none 0 0]) (results_cell_row Tryz.results58 _ _ w.heap.size 33 #[.int .i64 2,.string y,.slice none 0 0,.slice none 0 0,.slice s n cap,.slice none 0 0,.int .i64 0,.slice none 0 0,.int .i64 0,.int .i64 0,.string ⟨#[]⟩,.int .i64 0,.slice none 0 0,.int .i64 0,.string ⟨#[]⟩,.int .i64 0,.slice none 0 0,.string ⟨#[]⟩,.slice none 0 0,.slice none 0 0] (0,0) _ rfl T0.out Tryz.underlying33 rfl infoIt20) rfl (rends_of HXK.out ⟨_,_,_,_,_,_,_,_,_,_,_,_,_,_,_,_,_,_,_,_,_,_,_,_,_,_,_,_,_,_,_,_,_,_,_,_,_,_,rfl⟩ T1.out T2.out (HXC.out.imp (fun q=>?_)))
   obtain ⟨l,g1,g2⟩:=q
   refine ⟨_,?_,g2⟩
   have e2:=HBXB.out
   have g3:=ArgsV.stable _ _ (TypeV.stable 66) _ _ _ _ _ X g1 (fun j j1 _=>T3.out.block j (by omega))
   exact ⟨_,_,_,_,_,_,_,_,_,_,_,_,_,_,_,_,_,by rw [bs_data],.inl ⟨rfl,rfl⟩,.inl ⟨rfl,rfl⟩,g3.wide (by omega) (by rw [T3.out.size];exact Nat.le_refl _),.inl ⟨rfl,rfl⟩,.inl ⟨rfl,rfl⟩,zeroG_holds _ _ _⟩
end Lx
end Go.Proofs.YtajomoclbpobhaaGreatDoor
namespace Go.Proofs.YtajomoclbpobhaaGreatDoor
set_option linter.unusedSimpArgs false
set_option linter.unusedVariables false
namespace Lx
open Go Go.RowKit
set_option maxRecDepth 100000 in
set_option maxHeartbeats 8000000 in
theorem ritem_clause (b:Nat) (A:Option Addr) (c:Nat) (ts:List Tok) (hw:WF ts) (w:World) (k:Nat) (er:Int) (OT:Out ItemT) (h:Rd w b A c ts k er) (hk:k≤ts.length) (q0:isB ts k er [116,121,112,101]=false) (q1:isB ts k er [112,114,101,100]=false) (q2:isB ts k er [109,111,100,101]=false) (hO:Cont OT er (clauseR ts k=OT)) :
  Calls Tryz.prog 58 #[.pointer (some ⟨b,0,none⟩)] w fun e w'=>REnds b A c ts ItemV ShIt w OT e w':=by
 have HP:=Lib.hid h
 have HWF:=Lib.hid hw
 have hfw:=h.few
 have HBW:=Lib.hid h.lt
 have HK:=Lib.hid hk
 have HPW:=Lib.hid h
 have Q0:=Lib.hid q0
 have Q1:=Lib.hid q1
 have Q2:=Lib.hid q2
 clear h hw hk q0 q1 q2
 have HO:=Lib.hid hO
 have HTG:=Lib.hid (rterm_top b A c ts HWF.out)
 have HGG:=Lib.hid (rtopgoal_genc b A c ts HWF.out)
 clear hO
 go_enter Tryz.func58,Tryz.ntmps58
 go_upto_region 1 with fail
 refine wp_region_list ?_
 refine wpList_plain rfl fun _ hKK=>?_
 have HKK:=Lib.hid hKK
 clear hKK
 go_simp
 refine HKK.out _ _ ?_
 clear HKK
 refine wpList_plain rfl fun _ hKK=>?_
 have HKK:=Lib.hid hKK
 clear hKK
 go_simp
 refine HKK.out _ _ ?_
 clear HKK
 have hY:((w.alloc (.cells #[.int .i64 0,.string ⟨#[]⟩,.slice none 0 0,.slice none 0 0,.slice none 0 0,.slice none 0 0,.int .i64 0,.slice none 0 0,.int .i64 0,.int .i64 0,.string ⟨#[]⟩,.int .i64 0,.slice none 0 0,.int .i64 0,.string ⟨#[]⟩,.int .i64 0,.slice none 0 0,.string ⟨#[]⟩,.slice none 0 0,.slice none 0 0] 33)).alloc (.cells #[.int .i64 0,.string ⟨#[]⟩,.slice none 0 0,.slice none 0 0,.slice none 0 0,.slice none 0 0,.int .i64 0,.slice none 0 0,.int .i64 0,.int .i64 0,.string ⟨#[]⟩,.int .i64 0,.slice none 0 0,.int .i64 0,.string ⟨#[]⟩,.int .i64 0,.slice none 0 0,.string ⟨#[]⟩,.slice none 0 0,.slice none 0 0] 33)).heap[w.heap.size+1]?=some (.cells #[.int .i64 0,.string ⟨#[]⟩,.slice none 0 0,.slice none 0 0,.slice none 0 0,.slice none 0 0,.int .i64 0,.slice none 0 0,.int .i64 0,.int .i64 0,.string ⟨#[]⟩,.int .i64 0,.slice none 0 0,.int .i64 0,.string ⟨#[]⟩,.int .i64 0,.slice none 0 0,.string ⟨#[]⟩,.slice none 0 0,.slice none 0 0] 33 (0,0)):=by
  have h:=heap_alloc_new (w.alloc (.cells #[.int .i64 0,.string ⟨#[]⟩,.slice none 0 0,.slice none 0 0,.slice none 0 0,.slice none 0 0,.int .i64 0,.slice none 0 0,.int .i64 0,.int .i64 0,.string ⟨#[]⟩,.int .i64 0,.slice none 0 0,.int .i64 0,.string ⟨#[]⟩,.int .i64 0,.slice none 0 0,.string ⟨#[]⟩,.slice none 0 0,.slice none 0 0] 33)) (.cells #[.int .i64 0,.string ⟨#[]⟩,.slice none 0 0,.slice none 0 0,.slice none 0 0,.slice none 0 0,.int .i64 0,.slice none 0 0,.int .i64 0,.int .i64 0,.string ⟨#[]⟩,.int .i64 0,.slice none 0 0,.int .i64 0,.string ⟨#[]⟩,.int .i64 0,.slice none 0 0,.string ⟨#[]⟩,.slice none 0 0,.slice none 0 0] 33)
  rwa [show (w.alloc (.cells #[.int .i64 0,.string ⟨#[]⟩,.slice none 0 0,.slice none 0 0,.slice none 0 0,.slice none 0 0,.int .i64 0,.slice none 0 0,.int .i64 0,.int .i64 0,.string ⟨#[]⟩,.int .i64 0,.slice none 0 0,.int .i64 0,.string ⟨#[]⟩,.int .i64 0,.slice none 0 0,.string ⟨#[]⟩,.slice none 0 0,.slice none 0 0] 33)).heap.size=w.heap.size+1 by simp] at h
 refine wpList_store_mid rfl 33 (.tmp 3) (.tmp 5) rfl (w.heap.size+1) 0 #[.int .i64 0,.string ⟨#[]⟩,.slice none 0 0,.slice none 0 0,.slice none 0 0,.slice none 0 0,.int .i64 0,.slice none 0 0,.int .i64 0,.int .i64 0,.string ⟨#[]⟩,.int .i64 0,.slice none 0 0,.int .i64 0,.string ⟨#[]⟩,.int .i64 0,.slice none 0 0,.string ⟨#[]⟩,.slice none 0 0,.slice none 0 0] rfl rfl (there_all hY) infoIt20 (by simp [Value.oneCell']) ?_
 obtain ⟨y1,y2,y3,y4,y5⟩:=item_begin (C:=#[.int .i64 0,.string ⟨#[]⟩,.slice none 0 0,.slice none 0 0,.slice none 0 0,.slice none 0 0,.int .i64 0,.slice none 0 0,.int .i64 0,.int .i64 0,.string ⟨#[]⟩,.int .i64 0,.slice none 0 0,.int .i64 0,.string ⟨#[]⟩,.int .i64 0,.slice none 0 0,.string ⟨#[]⟩,.slice none 0 0,.slice none 0 0]) HPW.out hY rfl
 generalize World.setCells _ _ _ _=w0 at y1 y2 y3 y4 y5 ⊢
 have HB0:=Lib.hid y1
 have HZ0:=Lib.hid y2
 have HP0:=Lib.hid y3
 have HFX0:=Lib.hid y4
 have HS0:=Lib.hid y5
 have HF0:=Lib.hid (PFr.refl b w0)
 clear y1 y2 y3 y4 y5 hY
 have HG:=Lib.hid (rgot_not HWF.out ⟨#[116,121,112,101]⟩ kw_type HP0.out HK.out Q0.out)
 go_wp2_with fail
 go_at_call 97
 refine HG.out.mono ?_
 rintro e w1 ⟨rfl,hp,hf⟩
 have HP1:=Lib.hid hp
 have HF1:=Lib.hid (HF0.out.trans hf)
 clear hp hf HG HP0 HF0 Q0
 have HG:=Lib.hid (rgot_not HWF.out ⟨#[112,114,101,100]⟩ kw_pred HP1.out HK.out Q1.out)
 go_wp2_with fail
 go_at_call 97
 refine HG.out.mono ?_
 rintro e w2 ⟨rfl,hp,hf⟩
 have HP2:=Lib.hid hp
 have HF2:=Lib.hid (HF1.out.trans hf)
 clear hp hf HG HP1 HF1 Q1
 have HG:=Lib.hid (rgot_not HWF.out ⟨#[109,111,100,101]⟩ kw_mode HP2.out HK.out Q2.out)
 go_wp2_with fail
 go_at_call 97
 refine HG.out.mono ?_
 rintro e w3 ⟨rfl,hp,hf⟩
 have HP3:=Lib.hid hp
 have HF3:=Lib.hid (HF2.out.trans hf)
 clear hp hf HG HP2 HF2 Q2
 have hsn:w.heap.size+2≤w3.heap.size:=Nat.le_trans HS0.out HF3.out.size
 have hbn:=(HF3.out.block (w.heap.size+1) (by have:=HS0.out;omega) (by have:=HBW.out;omega)).trans HB0.out
 have hzn:zeroIB w3 w.heap.size:=zero_pfr HF3.out w.heap.size (by have:=HS0.out;omega) (by have:=HBW.out;omega) HZ0.out
 have HFW:=Lib.hid (HFX0.out.trans HF3.out)
 have dn0:=(Lib.cell_of_heap hbn 0).trans rfl
 have fn0:=Lib.frozen_of_heap hbn 0
 have HX:=Lib.hid (Rd.beside HP.out HFW.out HP3.out (N:=w.heap.size+1) (by omega) 0 (.int .i64 4))
 have HBN:=Lib.hid hbn
 have HZN:=Lib.hid hzn
 have HSN:=Lib.hid hsn
 have HN:=Lib.hid (rname_cont HX.out HK.out HO.out)
 clear hbn hzn hsn
 go_wp2_with fail
 go_at_call 98
 refine HN.out.mono ?_
 rintro e w2x ⟨y,k2,er2,rfl,hk2,hp2,hf2,hc2⟩
 have hsx:(w3.setCell ⟨w.heap.size+1,0,none⟩ (.int .i64 4)).heap.size=w3.heap.size:=by simp [World.setCell]
 have hb2:w2x.heap[w.heap.size+1]?=some (.cells #[.int .i64 4,.string ⟨#[]⟩,.slice none 0 0,.slice none 0 0,.slice none 0 0,.slice none 0 0,.int .i64 0,.slice none 0 0,.int .i64 0,.int .i64 0,.string ⟨#[]⟩,.int .i64 0,.slice none 0 0,.int .i64 0,.string ⟨#[]⟩,.int .i64 0,.slice none 0 0,.string ⟨#[]⟩,.slice none 0 0,.slice none 0 0] 33 (0,0)):=(hf2.block (w.heap.size+1) (by rw [hsx];have:=HSN.out;omega) (by have:=HBW.out;omega)).trans (blk_put w3 (w.heap.size+1) 0 _ HBN.out (by show 0 < 20;decide))
 have hz2:zeroIB w2x w.heap.size:=zero_pfr hf2 w.heap.size (by rw [hsx];have:=HSN.out;omega) (by have:=HBW.out;omega) (zero_put (by omega) HZN.out)
 have hs2:w.heap.size+2≤w2x.heap.size:=by have:=hf2.size;rw [hsx] at this;have:=HSN.out;omega
 have HFQ:=Lib.hid ((HFW.out.putNew (N:=w.heap.size+1) (by omega) 0 (.int .i64 4)).trans hf2)
 have hc3:Cont OT er2 (bindO (argsO (termO ts 66 0) ts k2) (fun l k2'=>if hasT ts k2' [58,45]=true then bindO (goalO (primO ts 66 0) ts (k2'+1)) (fun g k3'=>Out.ok (⟨4,y.data.toList,[],[],[],[],0,l,g⟩:ItemT) k3') else Out.ok (⟨4,y.data.toList,[],[],[],[],0,l,trueG⟩:ItemT) k2')=OT):=hc2.imp (fun ⟨s,e,_,h⟩=>by rw [e];exact h)
 have d1:=(Lib.cell_of_heap hb2 1).trans rfl
 have f1:=Lib.frozen_of_heap hb2 1
 have HBOX:Hid ((w2x.setCell ⟨w.heap.size+1,1,none⟩ (.string y)).heap[w.heap.size+1]?=some (.cells #[.int .i64 4,.string y,.slice none 0 0,.slice none 0 0,.slice none 0 0,.slice none 0 0,.int .i64 0,.slice none 0 0,.int .i64 0,.int .i64 0,.string ⟨#[]⟩,.int .i64 0,.slice none 0 0,.int .i64 0,.string ⟨#[]⟩,.int .i64 0,.slice none 0 0,.string ⟨#[]⟩,.slice none 0 0,.slice none 0 0] 33 (0,0))):=Lib.hid (blk_put w2x (w.heap.size+1) 1 _ hb2 (by show 1 < 20;decide))
 have HPB:=Lib.hid (Rd.beside HP.out HFQ.out hp2 (N:=w.heap.size+1) (by omega) 1 (.string y))
 have HKB:=Lib.hid hk2
 have HCB:=Lib.hid hc3
 have HFB:=Lib.hid (HFQ.out.putNew (N:=w.heap.size+1) (by omega) 1 (.string y))
 have hsy:(w2x.setCell ⟨w.heap.size+1,1,none⟩ (.string y)).heap.size=w2x.heap.size:=by simp [World.setCell]
 have HBX:Hid (w.heap.size≤w.heap.size+1):=Lib.hid (by omega)
 have HBXB:Hid (w.heap.size+1 < (w2x.setCell ⟨w.heap.size+1,1,none⟩ (.string y)).heap.size):=Lib.hid (by rw [hsy];omega)
 have HNB:Hid (b < w.heap.size+1):=Lib.hid (by have:=HBW.out;omega)
 have HBB:Hid (b < (w2x.setCell ⟨w.heap.size+1,1,none⟩ (.string y)).heap.size):=Lib.hid (by rw [hsy];have:=HBW.out;omega)
 have HZB:Hid (zeroIB (w2x.setCell ⟨w.heap.size+1,1,none⟩ (.string y)) w.heap.size):=Lib.hid (zero_put (by omega) hz2)
 clear hk2 hp2 hf2 hc2 hc3 hsx hsy hb2 hz2 hs2 dn0 fn0 HX HN HBN HZN HSN HFW HFQ HP3 HF3
 go_wp2_with fail
 clear d1 f1
 generalize w2x.setCell ⟨w.heap.size+1,1,none⟩ (.string y)=wB at HBOX HPB HFB HBXB HBB HZB ⊢
 have HST:=Lib.hid (lp_start (OT:=OT) (t:=28) (sz:=4) (V:=TermV 66) (rd:=termO ts 66 0) (f:=fun l k2'=>if hasT ts k2' [58,45]=true then bindO (goalO (primO ts 66 0) ts (k2'+1)) (fun g k3'=>Out.ok (⟨4,y.data.toList,[],[],[],[],0,l,g⟩:ItemT) k3') else Out.ok (⟨4,y.data.toList,[],[],[],[],0,l,trueG⟩:ItemT) k2') (bx:=(w.heap.size+1)) (Bx:=fun v=>#[.int .i64 4,.string y,.slice none 0 0,.slice none 0 0,.slice none 0 0,.slice none 0 0,.int .i64 0,v,.int .i64 0,.int .i64 0,.string ⟨#[]⟩,.int .i64 0,.slice none 0 0,.int .i64 0,.string ⟨#[]⟩,.int .i64 0,.slice none 0 0,.string ⟨#[]⟩,.slice none 0 0,.slice none 0 0]) (T:=33) HBOX.out HPB.out HKB.out HCB.out)
 go_loopw [] (fun wr=>∃ s cap n kk er',Hid (LpI 28 4 (TermV 66) b A c ts OT (termO ts 66 0) (fun l k2'=>if hasT ts k2' [58,45]=true then bindO (goalO (primO ts 66 0) ts (k2'+1)) (fun g k3'=>Out.ok (⟨4,y.data.toList,[],[],[],[],0,l,g⟩:ItemT) k3') else Out.ok (⟨4,y.data.toList,[],[],[],[],0,l,trueG⟩:ItemT) k2') 33 (w.heap.size+1) (fun v=>#[.int .i64 4,.string y,.slice none 0 0,.slice none 0 0,.slice none 0 0,.slice none 0 0,.int .i64 0,v,.int .i64 0,.int .i64 0,.string ⟨#[]⟩,.int .i64 0,.slice none 0 0,.int .i64 0,.string ⟨#[]⟩,.int .i64 0,.slice none 0 0,.string ⟨#[]⟩,.slice none 0 0,.slice none 0 0]) wB wr s cap n kk er')) (fun wr=>meas ts.length b wr)
 case atStart=>exact ⟨none,0,0,_,_,HST⟩
 case round =>
  obtain ⟨s,cap,n,kk,er',hI⟩:=hrel
  have HI:=hI
  clear hI HST
  have c2:=HI.out.wd.c2
  have hbox:=HI.out.box
  have d3:=(Lib.cell_of_heap hbox 7).trans rfl
  clear hbox
  rcases (show er' ≠ 0 ∨ er'=0 from (Decidable.em (er'=0)).symm) with hne | rfl
  case' inl =>
   have hq:(er' == 0)=false:=by simpa using hne
   have HXC:=Lib.hid (lp_over HI.out hne)
   have HXB:=Lib.hid HI.out.box
   have HXR:=Lib.hid HI.out.wd
   have HXK:=Lib.hid HI.out.le
   have HXF:=Lib.hid HI.out.fr
   obtain ⟨W,hW⟩:∃ W:World,W=wr:=⟨_,rfl⟩
   rw [← hW] at HXC HXB HXR HXF c2 d3 ⊢
   obtain ⟨k3,hk3⟩:∃ k3:Nat,k3=kk:=⟨_,rfl⟩
   obtain ⟨er3,he3⟩:∃ er3:Int,er3=er':=⟨_,rfl⟩
   rw [← hk3] at HXC HXR HXK
   rw [← he3] at HXC HXR c2 hq
   clear HI hne hW hk3 he3
  case' inr =>
   obtain ⟨acc,vs,g,m,rfl,hrow,hfu,hal,hO⟩:=HI.out.cont.ok
   have HROW:=Lib.hid hrow
   have HAL:=Lib.hid hal
   have hfew:acc.length≤16384:=by have h2:=HI.out.le;omega
   have HM:=Lib.hid (rmore_any wr b A c ts HWF.out kk acc.length HI.out.wd HI.out.le)
   have hbz:(w.heap.size+1) < wr.heap.size:=(Array.getElem?_eq_some_iff.1 HI.out.box).1
   rcases lp_more hfu HI.out.le hO with ⟨k1,m2,hm,hk1,hk1l,hfu2,hT⟩ | ⟨k1,er1,hm,hk1l,hc1⟩
   case' inl =>
    rw [hm] at HM
    have HRX:=Lib.hid (fun (w3:World) (h3:Rd w3 b A c ts k1 0)=>HTG.out.cont (termO_fwd ts 66 0) (TermV.sh) h3 hk1l (.inl ⟨rfl,hT⟩))
    have HK1:=Lib.hid hk1
    have HFU:=Lib.hid hfu2
    clear hrow hfu hal hO hm hk1 hk1l hfu2 hT
    go_wp2_with fail
    go_at_call 99
    refine HM.out.mono ?_
    rintro e w3 ⟨rfl,hp3,hf3⟩
    have hnb:(w.heap.size+1) ≠ b:=by have:=HNB.out;omega
    have d4:=(hf3.cell (p:=⟨(w.heap.size+1),7,none⟩) hbz hnb).trans d3
    have hw3:(w.heap.size+1) < w3.heap.size:=Nat.lt_of_lt_of_le hbz hf3.size
    have HOWN:=Lib.hid (own_fr HROW.out.own hf3 HBB.out)
    have HR3:=Lib.hid hp3
    have HF3:=Lib.hid hf3
    clear hp3 hf3 d3 c2
    go_wp2_with fail
    go_region_law (first
     | (go_simp;go_at_call 102;refine (HRX.out _ HR3.out.drew).mono ?_;rintro e w4 ⟨v4,k4,er4,rfl,⟨p1,p2,p3,p4,p5,p6,rfl⟩,hk4,hp4,hf4,hc4⟩;replace hf4:=PFr.ofDrew hf4;have d5:=(hf4.cell (p:=⟨(w.heap.size+1),7,none⟩) hw3 hnb).trans d4;have hw4:(w.heap.size+1) < w4.heap.size:=Nat.lt_of_lt_of_le hw3 hf4.size;have hw5:¬ (w.heap.size+1)=w4.heap.size:=Nat.ne_of_lt hw4;have hw6:¬ w4.heap.size=(w.heap.size+1):=fun e=>hw5 e.symm)
     | ((refine step_term rfl (.tmp 23) (.tmp 26) rfl wB.heap.size (.slice s acc.length cap) acc.length (vs.flatMap cellsL) ?_ ?_ w4.heap.size p1 p3 p2 p4 p5 p6 ?_ ?_ ?_ ?_ ?_);(rfl);(exact (own_fr HOWN.out hf4 HBB.out).alloc _);(rfl);(exact heap_alloc_new _ _);(omega);(have:=hf4.size;have:=HI.out.fr.size;have:=HF3.out.size;simp at this ⊢;omega);(intro g2 cap2 w6 hown6 hg6 hat6;have HG6:=Lib.hid hg6;have HOW:=Lib.hid hown6;have HAT:=Lib.hid hat6;obtain ⟨q1,q2,q3,q4⟩:=lp_grown HP.out HFB.out HBX.out HBXB.out HI.out HROW.out (HF3.out.trans hf4) hg6;have e3:=(Lib.cell_of_heap q1 7).trans rfl;have f3:=Lib.frozen_of_heap q1 7;clear q1 q2 q3 q4 hg6 hown6 hat6)))
    all_goals
     have HLN:=Lib.hid (lp_next HP.out HFB.out HBX.out HBXB.out 7 (fun _=>by show 7 < 20;decide) (fun _ _=>rfl) (TermV.stable 66) HI.out HROW.out HAL.out (HF3.out.trans hf4) hp4 hk4 (show wr.heap.size≤w3.drew.heap.size from HF3.out.size) HK1.out HFU.out hc4 (v2:=.agg #[.int .i64 p1,.string p2,.int .i64 p3,.slice p4 p5 p6]) HOW.out HG6.out HAT.out)
     have HC4:=Lib.hid hc4
     have HK4:=Lib.hid hk4
     clear hf4 hp4 d4 d5 e3 f3 hk4 hc4
     go_wp2
     go_roundw
     case rel=>exact ⟨_,_,_,_,_,HLN⟩
     case measure =>
      rw [meas_on HI.out.wd]
      rcases HC4.out with ⟨rfl,_,_,h5,_⟩ | ⟨i,rfl,_⟩
      ·rw [meas_on HLN.out.wd]
       have h6:=HK1.out
       have h7:=HK4.out
       omega
      ·rw [meas_off HLN.out.wd (erN_ne i)]
       omega
   case' inr =>
    rw [hm] at HM
    have HC1:=Lib.hid hc1
    have HXK:=Lib.hid hk1l
    clear hrow hfu hal hO hm hk1l hc1
    go_wp2_with fail
    go_at_call 99
    refine HM.out.mono ?_
    rintro e W ⟨rfl,hp3,hf3⟩
    obtain ⟨HXFo,HXCo⟩:=lp_left (TermV.stable 66) HBB.out HI.out HROW.out hf3 HC1.out
    have HXF:=Lib.hid HXFo
    have HXC:=Lib.hid HXCo
    have HXB:=Lib.hid ((hf3.block (w.heap.size+1) hbz (by have:=HNB.out;omega)).trans HI.out.box)
    have HXR:=Lib.hid hp3
    obtain ⟨n,hn⟩:∃ n:Nat,n=acc.length:=⟨_,rfl⟩
    rw [← hn] at HXC HXB
    obtain ⟨k3,hk3⟩:∃ k3:Nat,k3=k1:=⟨_,rfl⟩
    obtain ⟨er3,he3⟩:∃ er3:Int,er3=er1:=⟨_,rfl⟩
    rw [← hk3] at HXC HXR HXK
    rw [← he3] at HXC HXR
    clear hp3 hf3 HXFo HXCo HM HC1 hn hk3 he3 d3 c2 hfew hbz HROW HAL HI
  all_goals
   have HZ:=Lib.hid (zero_fr2 HXF.out w.heap.size (Nat.lt_trans (Nat.lt_succ_self _) HBXB.out) (Nat.ne_of_gt HBW.out) (Nat.ne_of_lt (Nat.lt_succ_self _)) HZB.out)
   go_upto_region 6 with fail
   refine wp_region_list ?_
   refine wpList_plain rfl fun _ hKK=>?_
   have HKK:=Lib.hid hKK
   clear hKK
   go_simp
   refine HKK.out _ _ ?_
   clear HKK
   refine wpList_plain rfl fun _ hKK=>?_
   have HKK:=Lib.hid hKK
   clear hKK
   go_simp
   refine HKK.out _ _ ?_
   clear HKK
   refine wpList_store_mid rfl 31 (.tmp 30) (.tmp 29) rfl (w.heap.size+1) 8 #[.int .i64 1,.int .i64 0,.string ⟨#[]⟩,.int .i64 0,.slice none 0 0,.int .i64 0,.string ⟨#[]⟩,.int .i64 0,.slice none 0 0,.string ⟨#[]⟩,.slice none 0 0,.slice none 0 0] rfl rfl (there_goal HXB.out rfl) infoGo12 (by simp [Value.oneCell']) ?_
   have HX6:Hid ((W.setCells (w.heap.size+1) 8 [.int .i64 1,.int .i64 0,.string ⟨#[]⟩,.int .i64 0,.slice none 0 0,.int .i64 0,.string ⟨#[]⟩,.int .i64 0,.slice none 0 0,.string ⟨#[]⟩,.slice none 0 0,.slice none 0 0]).heap[w.heap.size+1]?=some (.cells #[.int .i64 4,.string y,.slice none 0 0,.slice none 0 0,.slice none 0 0,.slice none 0 0,.int .i64 0,.slice s n cap,.int .i64 1,.int .i64 0,.string ⟨#[]⟩,.int .i64 0,.slice none 0 0,.int .i64 0,.string ⟨#[]⟩,.int .i64 0,.slice none 0 0,.string ⟨#[]⟩,.slice none 0 0,.slice none 0 0] 33 (0,0))):=Lib.hid (sets_goal HXB.out rfl rfl)
   obtain ⟨y1,y2⟩:=Rd.sets HP.out (Fr2.toPFr HFB.out HXF.out HBX.out) HXR.out (N:=w.heap.size+1) (by omega) 8 [.int .i64 1,.int .i64 0,.string ⟨#[]⟩,.int .i64 0,.slice none 0 0,.int .i64 0,.string ⟨#[]⟩,.int .i64 0,.slice none 0 0,.string ⟨#[]⟩,.slice none 0 0,.slice none 0 0]
   have HR6:=Lib.hid y1
   have HF6:=Lib.hid y2
   have HZ6:=Lib.hid (zero_sets (N:=w.heap.size+1) (i:=8) (l:=[.int .i64 1,.int .i64 0,.string ⟨#[]⟩,.int .i64 0,.slice none 0 0,.int .i64 0,.string ⟨#[]⟩,.int .i64 0,.slice none 0 0,.string ⟨#[]⟩,.slice none 0 0,.slice none 0 0]) (by omega) HZ.out)
   have HE6:Hid (∀ j,j ≠ w.heap.size+1→(W.setCells (w.heap.size+1) 8 [.int .i64 1,.int .i64 0,.string ⟨#[]⟩,.int .i64 0,.slice none 0 0,.int .i64 0,.string ⟨#[]⟩,.int .i64 0,.slice none 0 0,.string ⟨#[]⟩,.slice none 0 0,.slice none 0 0]).heap[j]?=W.heap[j]?):=Lib.hid (fun j hj=>sets_else _ _ _ _ j hj)
   have HS6:Hid ((W.setCells (w.heap.size+1) 8 [.int .i64 1,.int .i64 0,.string ⟨#[]⟩,.int .i64 0,.slice none 0 0,.int .i64 0,.string ⟨#[]⟩,.int .i64 0,.slice none 0 0,.string ⟨#[]⟩,.slice none 0 0,.slice none 0 0]).heap.size=W.heap.size):=Lib.hid (sets_size _ _ _ _)
   have HWB:Hid (wB.heap.size≤W.heap.size):=Lib.hid HXF.out.size
   clear y1 y2
   have hcx:(World.setCells W (w.heap.size+1) 8 (#[.int .i64 1,.int .i64 0,.string ⟨#[]⟩,.int .i64 0,.slice none 0 0,.int .i64 0,.string ⟨#[]⟩,.int .i64 0,.slice none 0 0,.string ⟨#[]⟩,.slice none 0 0,.slice none 0 0]:Array Value).toList)=W.setCells (w.heap.size+1) 8 [.int .i64 1,.int .i64 0,.string ⟨#[]⟩,.int .i64 0,.slice none 0 0,.int .i64 0,.string ⟨#[]⟩,.int .i64 0,.slice none 0 0,.string ⟨#[]⟩,.slice none 0 0,.slice none 0 0]:=rfl
   rw [hcx]
   clear hcx
   generalize W.setCells (w.heap.size+1) 8 [.int .i64 1,.int .i64 0,.string ⟨#[]⟩,.int .i64 0,.slice none 0 0,.int .i64 0,.string ⟨#[]⟩,.int .i64 0,.slice none 0 0,.string ⟨#[]⟩,.slice none 0 0,.slice none 0 0]=X6 at HX6 HR6 HF6 HZ6 HE6 HS6 ⊢
   cases hq6:isB ts k3 er3 [58,45] with
   | false =>
    have HG:=Lib.hid (rgot_not HWF.out ⟨#[58,45]⟩ kw_arrow HR6.out HXK.out hq6)
    have HQ6:=Lib.hid hq6
    clear hq6
    go_wp2_with fail
    go_at_call 97
    refine HG.out.mono ?_
    rintro e w7 ⟨rfl,hp7,hf7⟩
    have HP7:=Lib.hid hp7
    have HF7:=Lib.hid hf7
    have HX7:=Lib.hid ((hf7.block (w.heap.size+1) (by have:=HS6.out;have:=HWB.out;have:=HBXB.out;omega) (by have:=HBW.out;omega)).trans HX6.out)
    have HZ7:=Lib.hid (zero_pfr hf7 w.heap.size (by have:=HS6.out;have:=HWB.out;have:=HBXB.out;omega) (Nat.ne_of_gt HBW.out) HZ6.out)
    clear hp7 hf7 HG
    go_upto_region 41 with fail
    refine wp_region_list ?_
    refine wpList_load_mid rfl 33 (.tmp 3) rfl (w.heap.size+1) 0 rfl _ _ (range_all HX7.out) Tryz.underlying33 rfl infoIt20 ?_
    refine wpList_store_mid rfl 33 (.tmp 2) (.tmp 157) rfl w.heap.size 0 #[.int .i64 4,.string y,.slice none 0 0,.slice none 0 0,.slice none 0 0,.slice none 0 0,.int .i64 0,.slice s n cap,.int .i64 1,.int .i64 0,.string ⟨#[]⟩,.int .i64 0,.slice none 0 0,.int .i64 0,.string ⟨#[]⟩,.int .i64 0,.slice none 0 0,.string ⟨#[]⟩,.slice none 0 0,.slice none 0 0] rfl rfl (show World.there _ w.heap.size 0 20 from there_all HZ7.out) infoIt20 (by simp [Value.oneCell']) ?_
    obtain ⟨t0,t1,t2,t3⟩:=rputAll (C:=#[.int .i64 4,.string y,.slice none 0 0,.slice none 0 0,.slice none 0 0,.slice none 0 0,.int .i64 0,.slice s n cap,.int .i64 1,.int .i64 0,.string ⟨#[]⟩,.int .i64 0,.slice none 0 0,.int .i64 0,.string ⟨#[]⟩,.int .i64 0,.slice none 0 0,.string ⟨#[]⟩,.slice none 0 0,.slice none 0 0]) HP.out (HF6.out.trans HF7.out) HP7.out HZ7.out rfl
    generalize World.setCells _ _ _ _=X at t0 t1 t2 t3 ⊢
    have T0:=Lib.hid t0
    have T1:=Lib.hid t1
    have T2:=Lib.hid t2
    have T3:=Lib.hid t3
    clear t0 t1 t2 t3
    go_wp2_with fail
    refine bodyPost_ret (v:=.agg #[.int .i64 4,.string y,.slice none 0 0,.slice none 0 0,.slice none 0 0,.slice none 0 0,.int .i64 0,.slice s n cap,.int .i64 1,.int .i64 0,.string ⟨#[]⟩,.int .i64 0,.slice none 0 0,.int .i64 0,.string ⟨#[]⟩,.int .i64 0,.slice none 0 0,.string ⟨#[]⟩,.slice none 0 0,.slice none 0 0]) (results_cell_row Tryz.results58 _ _ w.heap.size 33 #[.int .i64 4,.string y,.slice none 0 0,.slice none 0 0,.slice none 0 0,.slice none 0 0,.int .i64 0,.slice s n cap,.int .i64 1,.int .i64 0,.string ⟨#[]⟩,.int .i64 0,.slice none 0 0,.int .i64 0,.string ⟨#[]⟩,.int .i64 0,.slice none 0 0,.string ⟨#[]⟩,.slice none 0 0,.slice none 0 0] (0,0) _ rfl T0.out Tryz.underlying33 rfl infoIt20) rfl (rends_of HXK.out ⟨_,_,_,_,_,_,_,_,_,_,_,_,_,_,_,_,_,_,_,_,_,_,_,_,_,_,_,_,_,_,_,_,_,_,_,_,_,_,rfl⟩ T1.out T2.out ?_)
    rcases HXC.out with ⟨rfl,l,g1,g2⟩ | h
    ·have hqq:=HQ6.out
     rw [isB_ok] at hqq
     rw [if_neg (by rw [hqq];decide)] at g2
     refine .inl ⟨rfl,_,?_,g2⟩
     have e2:=HBXB.out
     have e3:=HWB.out
     have e4:=HS6.out
     have e5:=HF7.out.size
     have e6:=HBW.out
     have g3:=ArgsV.stable _ _ (TermV.stable 66) _ _ _ _ _ X g1 (fun j j1 j2=>(T3.out.block j (by omega)).trans ((HF7.out.block j (by omega) (by omega)).trans (HE6.out j (by omega))))
     exact ⟨_,_,_,_,_,_,_,_,_,_,_,_,_,_,_,_,_,by rw [bs_data],.inl ⟨rfl,rfl⟩,.inl ⟨rfl,rfl⟩,.inl ⟨rfl,rfl⟩,.inl ⟨rfl,rfl⟩,g3.wide (by omega) (by rw [T3.out.size];omega),trueG_holds _ _ _⟩
    ·exact .inr h
   | true =>
    obtain ⟨rfl,hh⟩:er3=0∧hasT ts k3 [58,45]=true:=by simpa [isB] using hq6
    have HG:=Lib.hid (rgot_yes HWF.out ⟨#[58,45]⟩ kw_arrow HR6.out hh)
    have hin:=hasT_in hh (by decide)
    obtain ⟨l,g1,g2⟩:=HXC.out.ok
    rw [if_pos hh] at g2
    have HV:=Lib.hid g1
    have HO2:=Lib.hid g2
    have HK7:Hid (k3+1≤ts.length):=Lib.hid hin
    clear hq6 hh hin g1 g2
    go_wp2_with fail
    go_at_call 97
    refine HG.out.mono ?_
    rintro e w7 ⟨rfl,hp7,hf7⟩
    have HC:=Lib.hid (HGG.out.cont (joinO_fwd (joinO_fwd (primO_fwd ts 66 0) [44] 5) [59] 6) GoalV.sh hp7 HK7.out (.inl ⟨rfl,HO2.out⟩))
    have HF7:=Lib.hid hf7
    have HX7:=Lib.hid ((hf7.block (w.heap.size+1) (by have:=HS6.out;have:=HWB.out;have:=HBXB.out;omega) (by have:=HBW.out;omega)).trans HX6.out)
    have HZ7:=Lib.hid (zero_pfr hf7 w.heap.size (by have:=HS6.out;have:=HWB.out;have:=HBXB.out;omega) (Nat.ne_of_gt HBW.out) HZ6.out)
    clear hp7 hf7 HG
    go_wp2_with fail
    go_at_call 103
    refine HC.out.mono ?_
    rintro e w8 ⟨v8,k8,er8,rfl,⟨u1,u2,u3,u4,u5,u6,u7,u8,u9,ua,ub,uc,ud,ue,uf,ug,uh,ui,uj,uk,rfl⟩,hk8,hp8,hf8,hc8⟩
    have hs7:=HF7.out.size
    have hs8:=hf8.size
    have hs9:w.heap.size+1 < w7.heap.size:=by have:=HS6.out;have:=HWB.out;have:=HBXB.out;omega
    have hx8:=(hf8.block (w.heap.size+1) hs9 (by have:=HBW.out;omega)).trans HX7.out
    have HZ8:=Lib.hid (zero_pfr hf8 w.heap.size (by omega) (Nat.ne_of_gt HBW.out) HZ7.out)
    have HF8:=Lib.hid ((HF6.out.trans HF7.out).trans hf8)
    rename_i hKK
    refine hKK _ _ ?_
    clear hKK
    refine wpList_plain rfl fun _ hKK=>?_
    have HKK:=Lib.hid hKK
    clear hKK
    go_simp
    refine HKK.out _ _ ?_
    clear HKK
    refine wpList_store_mid rfl 31 (.tmp 35) (.tmp 34) rfl (w.heap.size+1) 8 #[.int .i64 u1,.int .i64 u2,.string u3,.int .i64 u4,.slice u5 u6 u7,.int .i64 u8,.string u9,.int .i64 ua,.slice ub uc ud,.string ue,.slice uf ug uh,.slice ui uj uk] rfl rfl (there_goal hx8 rfl) infoGo12 (by simp [Value.oneCell']) ?_
    have HX9:Hid ((w8.setCells (w.heap.size+1) 8 [.int .i64 u1,.int .i64 u2,.string u3,.int .i64 u4,.slice u5 u6 u7,.int .i64 u8,.string u9,.int .i64 ua,.slice ub uc ud,.string ue,.slice uf ug uh,.slice ui uj uk]).heap[w.heap.size+1]?=some (.cells #[.int .i64 4,.string y,.slice none 0 0,.slice none 0 0,.slice none 0 0,.slice none 0 0,.int .i64 0,.slice s n cap,.int .i64 u1,.int .i64 u2,.string u3,.int .i64 u4,.slice u5 u6 u7,.int .i64 u8,.string u9,.int .i64 ua,.slice ub uc ud,.string ue,.slice uf ug uh,.slice ui uj uk] 33 (0,0))):=Lib.hid (sets_goal hx8 rfl rfl)
    obtain ⟨y1,y2⟩:=Rd.sets HP.out HF8.out hp8 (N:=w.heap.size+1) (by omega) 8 [.int .i64 u1,.int .i64 u2,.string u3,.int .i64 u4,.slice u5 u6 u7,.int .i64 u8,.string u9,.int .i64 ua,.slice ub uc ud,.string ue,.slice uf ug uh,.slice ui uj uk]
    have HR9:=Lib.hid y1
    have HF9:=Lib.hid y2
    have HZ9:=Lib.hid (zero_sets (N:=w.heap.size+1) (i:=8) (l:=[.int .i64 u1,.int .i64 u2,.string u3,.int .i64 u4,.slice u5 u6 u7,.int .i64 u8,.string u9,.int .i64 ua,.slice ub uc ud,.string ue,.slice uf ug uh,.slice ui uj uk]) (by omega) HZ8.out)
    have HE9:Hid (∀ j,j ≠ w.heap.size+1→(w8.setCells (w.heap.size+1) 8 [.int .i64 u1,.int .i64 u2,.string u3,.int .i64 u4,.slice u5 u6 u7,.int .i64 u8,.string u9,.int .i64 ua,.slice ub uc ud,.string ue,.slice uf ug uh,.slice ui uj uk]).heap[j]?=w8.heap[j]?):=Lib.hid (fun j hj=>sets_else _ _ _ _ j hj)
    have HS9:Hid ((w8.setCells (w.heap.size+1) 8 [.int .i64 u1,.int .i64 u2,.string u3,.int .i64 u4,.slice u5 u6 u7,.int .i64 u8,.string u9,.int .i64 ua,.slice ub uc ud,.string ue,.slice uf ug uh,.slice ui uj uk]).heap.size=w8.heap.size):=Lib.hid (sets_size _ _ _ _)
    have HE8:Hid (∀ j,j < w7.heap.size→j ≠ b→w8.heap[j]?=w7.heap[j]?):=Lib.hid (fun j j1 j2=>hf8.block j j1 j2)
    have HS8:Hid (w7.heap.size≤w8.heap.size):=Lib.hid hs8
    have HS7:Hid (X6.heap.size≤w7.heap.size):=Lib.hid hs7
    have HC8:=Lib.hid hc8
    have HK8:=Lib.hid hk8
    clear y1 y2 hx8 hf8 hp8 hc8 hk8 hs7 hs8 hs9
    have hcx:(World.setCells w8 (w.heap.size+1) 8 (#[.int .i64 u1,.int .i64 u2,.string u3,.int .i64 u4,.slice u5 u6 u7,.int .i64 u8,.string u9,.int .i64 ua,.slice ub uc ud,.string ue,.slice uf ug uh,.slice ui uj uk]:Array Value).toList)=w8.setCells (w.heap.size+1) 8 [.int .i64 u1,.int .i64 u2,.string u3,.int .i64 u4,.slice u5 u6 u7,.int .i64 u8,.string u9,.int .i64 ua,.slice ub uc ud,.string ue,.slice uf ug uh,.slice ui uj uk]:=rfl
    rw [hcx]
    clear hcx
    generalize w8.setCells (w.heap.size+1) 8 [.int .i64 u1,.int .i64 u2,.string u3,.int .i64 u4,.slice u5 u6 u7,.int .i64 u8,.string u9,.int .i64 ua,.slice ub uc ud,.string ue,.slice uf ug uh,.slice ui uj uk]=X9 at HX9 HR9 HF9 HZ9 HE9 HS9 ⊢
    go_upto_region 41 with fail
    refine wp_region_list ?_
    refine wpList_load_mid rfl 33 (.tmp 3) rfl (w.heap.size+1) 0 rfl _ _ (range_all HX9.out) Tryz.underlying33 rfl infoIt20 ?_
    refine wpList_store_mid rfl 33 (.tmp 2) (.tmp 157) rfl w.heap.size 0 #[.int .i64 4,.string y,.slice none 0 0,.slice none 0 0,.slice none 0 0,.slice none 0 0,.int .i64 0,.slice s n cap,.int .i64 u1,.int .i64 u2,.string u3,.int .i64 u4,.slice u5 u6 u7,.int .i64 u8,.string u9,.int .i64 ua,.slice ub uc ud,.string ue,.slice uf ug uh,.slice ui uj uk] rfl rfl (show World.there _ w.heap.size 0 20 from there_all HZ9.out) infoIt20 (by simp [Value.oneCell']) ?_
    obtain ⟨t0,t1,t2,t3⟩:=rputAll (C:=#[.int .i64 4,.string y,.slice none 0 0,.slice none 0 0,.slice none 0 0,.slice none 0 0,.int .i64 0,.slice s n cap,.int .i64 u1,.int .i64 u2,.string u3,.int .i64 u4,.slice u5 u6 u7,.int .i64 u8,.string u9,.int .i64 ua,.slice ub uc ud,.string ue,.slice uf ug uh,.slice ui uj uk]) HP.out HF9.out HR9.out HZ9.out rfl
    generalize World.setCells _ _ _ _=X at t0 t1 t2 t3 ⊢
    have T0:=Lib.hid t0
    have T1:=Lib.hid t1
    have T2:=Lib.hid t2
    have T3:=Lib.hid t3
    clear t0 t1 t2 t3
    go_wp2_with fail
    refine bodyPost_ret (v:=.agg #[.int .i64 4,.string y,.slice none 0 0,.slice none 0 0,.slice none 0 0,.slice none 0 0,.int .i64 0,.slice s n cap,.int .i64 u1,.int .i64 u2,.string u3,.int .i64 u4,.slice u5 u6 u7,.int .i64 u8,.string u9,.int .i64 ua,.slice ub uc ud,.string ue,.slice uf ug uh,.slice ui uj uk]) (results_cell_row Tryz.results58 _ _ w.heap.size 33 #[.int .i64 4,.string y,.slice none 0 0,.slice none 0 0,.slice none 0 0,.slice none 0 0,.int .i64 0,.slice s n cap,.int .i64 u1,.int .i64 u2,.string u3,.int .i64 u4,.slice u5 u6 u7,.int .i64 u8,.string u9,.int .i64 ua,.slice ub uc ud,.string ue,.slice uf ug uh,.slice ui uj uk] (0,0) _ rfl T0.out Tryz.underlying33 rfl infoIt20) rfl (rends_of HK8.out ⟨_,_,_,_,_,_,_,_,_,_,_,_,_,_,_,_,_,_,_,_,_,_,_,_,_,_,_,_,_,_,_,_,_,_,_,_,_,_,rfl⟩ T1.out T2.out (HC8.out.imp (fun q=>?_)))
    obtain ⟨g,g1,_,g2⟩:=q
    refine ⟨_,?_,g2⟩
    have e2:=HBXB.out
    have e3:=HWB.out
    have e4:=HS6.out
    have e5:=HS7.out
    have e6:=HBW.out
    have e7:=HS8.out
    have e8:=HS9.out
    have e9:=T3.out.size
    have g3:=ArgsV.stable _ _ (TermV.stable 66) _ _ _ _ _ X HV.out (fun j j1 j2=>(T3.out.block j (by omega)).trans ((HE9.out j (by omega)).trans ((HE8.out j (by omega) (by omega)).trans ((HF7.out.block j (by omega) (by omega)).trans (HE6.out j (by omega))))))
    have g4:=GoalV.stable 134 _ _ _ _ _ X g1 (fun j j1 j2=>(T3.out.block j (by omega)).trans (HE9.out j (by omega)))
    exact ⟨_,_,_,_,_,_,_,_,_,_,_,_,_,_,_,_,_,by rw [bs_data],.inl ⟨rfl,rfl⟩,.inl ⟨rfl,rfl⟩,.inl ⟨rfl,rfl⟩,.inl ⟨rfl,rfl⟩,g3.wide (by omega) (by omega),GoalV.wide _ _ _ _ _ _ _ _ g4 (by omega) (by omega)⟩
end Lx
end Go.Proofs.YtajomoclbpobhaaGreatDoor
namespace Go.Proofs.YtajomoclbpobhaaGreatDoor
set_option linter.unusedSimpArgs false
set_option linter.unusedVariables false
namespace Lx
open Go Go.RowKit
set_option maxRecDepth 100000 in
set_option maxHeartbeats 8000000 in
theorem ritem_mode (b:Nat) (A:Option Addr) (c:Nat) (ts:List Tok) (hw:WF ts) (w:World) (k:Nat) (OT:Out ItemT) (h:Rd w b A c ts k 0) (hk:k≤ts.length) (q0:isB ts k 0 [116,121,112,101]=false) (q1:isB ts k 0 [112,114,101,100]=false) (hy:hasT ts k [109,111,100,101]=true) (hO:modeR ts (k+1)=OT) :
  Calls Tryz.prog 58 #[.pointer (some ⟨b,0,none⟩)] w fun e w'=>REnds b A c ts ItemV ShIt w OT e w':=by
 have HP:=Lib.hid h
 have HWF:=Lib.hid hw
 have hfw:=h.few
 have HBW:=Lib.hid h.lt
 have HK:=Lib.hid hk
 have HPW:=Lib.hid h
 have Q0:=Lib.hid q0
 have Q1:=Lib.hid q1
 clear h hw hk q0 q1
 have HY:=Lib.hid hy
 have HO:=Lib.hid hO
 have HK1:Hid (k+1≤ts.length):=Lib.hid (by have:=hasT_in hy (by decide);omega)
 clear hy hO
 go_enter Tryz.func58,Tryz.ntmps58
 go_upto_region 1 with fail
 refine wp_region_list ?_
 refine wpList_plain rfl fun _ hKK=>?_
 have HKK:=Lib.hid hKK
 clear hKK
 go_simp
 refine HKK.out _ _ ?_
 clear HKK
 refine wpList_plain rfl fun _ hKK=>?_
 have HKK:=Lib.hid hKK
 clear hKK
 go_simp
 refine HKK.out _ _ ?_
 clear HKK
 have hY:((w.alloc (.cells #[.int .i64 0,.string ⟨#[]⟩,.slice none 0 0,.slice none 0 0,.slice none 0 0,.slice none 0 0,.int .i64 0,.slice none 0 0,.int .i64 0,.int .i64 0,.string ⟨#[]⟩,.int .i64 0,.slice none 0 0,.int .i64 0,.string ⟨#[]⟩,.int .i64 0,.slice none 0 0,.string ⟨#[]⟩,.slice none 0 0,.slice none 0 0] 33)).alloc (.cells #[.int .i64 0,.string ⟨#[]⟩,.slice none 0 0,.slice none 0 0,.slice none 0 0,.slice none 0 0,.int .i64 0,.slice none 0 0,.int .i64 0,.int .i64 0,.string ⟨#[]⟩,.int .i64 0,.slice none 0 0,.int .i64 0,.string ⟨#[]⟩,.int .i64 0,.slice none 0 0,.string ⟨#[]⟩,.slice none 0 0,.slice none 0 0] 33)).heap[w.heap.size+1]?=some (.cells #[.int .i64 0,.string ⟨#[]⟩,.slice none 0 0,.slice none 0 0,.slice none 0 0,.slice none 0 0,.int .i64 0,.slice none 0 0,.int .i64 0,.int .i64 0,.string ⟨#[]⟩,.int .i64 0,.slice none 0 0,.int .i64 0,.string ⟨#[]⟩,.int .i64 0,.slice none 0 0,.string ⟨#[]⟩,.slice none 0 0,.slice none 0 0] 33 (0,0)):=by
  have h:=heap_alloc_new (w.alloc (.cells #[.int .i64 0,.string ⟨#[]⟩,.slice none 0 0,.slice none 0 0,.slice none 0 0,.slice none 0 0,.int .i64 0,.slice none 0 0,.int .i64 0,.int .i64 0,.string ⟨#[]⟩,.int .i64 0,.slice none 0 0,.int .i64 0,.string ⟨#[]⟩,.int .i64 0,.slice none 0 0,.string ⟨#[]⟩,.slice none 0 0,.slice none 0 0] 33)) (.cells #[.int .i64 0,.string ⟨#[]⟩,.slice none 0 0,.slice none 0 0,.slice none 0 0,.slice none 0 0,.int .i64 0,.slice none 0 0,.int .i64 0,.int .i64 0,.string ⟨#[]⟩,.int .i64 0,.slice none 0 0,.int .i64 0,.string ⟨#[]⟩,.int .i64 0,.slice none 0 0,.string ⟨#[]⟩,.slice none 0 0,.slice none 0 0] 33)
  rwa [show (w.alloc (.cells #[.int .i64 0,.string ⟨#[]⟩,.slice none 0 0,.slice none 0 0,.slice none 0 0,.slice none 0 0,.int .i64 0,.slice none 0 0,.int .i64 0,.int .i64 0,.string ⟨#[]⟩,.int .i64 0,.slice none 0 0,.int .i64 0,.string ⟨#[]⟩,.int .i64 0,.slice none 0 0,.string ⟨#[]⟩,.slice none 0 0,.slice none 0 0] 33)).heap.size=w.heap.size+1 by simp] at h
 refine wpList_store_mid rfl 33 (.tmp 3) (.tmp 5) rfl (w.heap.size+1) 0 #[.int .i64 0,.string ⟨#[]⟩,.slice none 0 0,.slice none 0 0,.slice none 0 0,.slice none 0 0,.int .i64 0,.slice none 0 0,.int .i64 0,.int .i64 0,.string ⟨#[]⟩,.int .i64 0,.slice none 0 0,.int .i64 0,.string ⟨#[]⟩,.int .i64 0,.slice none 0 0,.string ⟨#[]⟩,.slice none 0 0,.slice none 0 0] rfl rfl (there_all hY) infoIt20 (by simp [Value.oneCell']) ?_
 obtain ⟨y1,y2,y3,y4,y5⟩:=item_begin (C:=#[.int .i64 0,.string ⟨#[]⟩,.slice none 0 0,.slice none 0 0,.slice none 0 0,.slice none 0 0,.int .i64 0,.slice none 0 0,.int .i64 0,.int .i64 0,.string ⟨#[]⟩,.int .i64 0,.slice none 0 0,.int .i64 0,.string ⟨#[]⟩,.int .i64 0,.slice none 0 0,.string ⟨#[]⟩,.slice none 0 0,.slice none 0 0]) HPW.out hY rfl
 generalize World.setCells _ _ _ _=w0 at y1 y2 y3 y4 y5 ⊢
 have HB0:=Lib.hid y1
 have HZ0:=Lib.hid y2
 have HP0:=Lib.hid y3
 have HFX0:=Lib.hid y4
 have HS0:=Lib.hid y5
 have HF0:=Lib.hid (PFr.refl b w0)
 clear y1 y2 y3 y4 y5 hY
 have HG:=Lib.hid (rgot_not HWF.out ⟨#[116,121,112,101]⟩ kw_type HP0.out HK.out Q0.out)
 go_wp2_with fail
 go_at_call 97
 refine HG.out.mono ?_
 rintro e w1 ⟨rfl,hp,hf⟩
 have HP1:=Lib.hid hp
 have HF1:=Lib.hid (HF0.out.trans hf)
 clear hp hf HG HP0 HF0 Q0
 have HG:=Lib.hid (rgot_not HWF.out ⟨#[112,114,101,100]⟩ kw_pred HP1.out HK.out Q1.out)
 go_wp2_with fail
 go_at_call 97
 refine HG.out.mono ?_
 rintro e w2 ⟨rfl,hp,hf⟩
 have HP2:=Lib.hid hp
 have HF2:=Lib.hid (HF1.out.trans hf)
 clear hp hf HG HP1 HF1 Q1
 have HG:=Lib.hid (rgot_yes HWF.out ⟨#[109,111,100,101]⟩ kw_mode HP2.out HY.out)
 go_wp2_with fail
 go_at_call 97
 refine HG.out.mono ?_
 rintro e w3 ⟨rfl,hp,hf⟩
 have HP3:=Lib.hid hp
 have HF3:=Lib.hid (HF2.out.trans hf)
 clear hp hf HG HP2 HF2
 have hsn:w.heap.size+2≤w3.heap.size:=Nat.le_trans HS0.out HF3.out.size
 have hbn:=(HF3.out.block (w.heap.size+1) (by have:=HS0.out;omega) (by have:=HBW.out;omega)).trans HB0.out
 have hzn:zeroIB w3 w.heap.size:=zero_pfr HF3.out w.heap.size (by have:=HS0.out;omega) (by have:=HBW.out;omega) HZ0.out
 have HFW:=Lib.hid (HFX0.out.trans HF3.out)
 have dn0:=(Lib.cell_of_heap hbn 0).trans rfl
 have fn0:=Lib.frozen_of_heap hbn 0
 have HX:=Lib.hid (Rd.beside HP.out HFW.out HP3.out (N:=w.heap.size+1) (by omega) 0 (.int .i64 3))
 have HBN:=Lib.hid hbn
 have HZN:=Lib.hid hzn
 have HSN:=Lib.hid hsn
 have HN:=Lib.hid (rname_cont HX.out HK1.out (.inl ⟨rfl,HO.out⟩))
 clear hbn hzn hsn
 go_wp2_with fail
 go_at_call 98
 refine HN.out.mono ?_
 rintro e w2x ⟨y,k2,er2,rfl,hk2,hp2,hf2,hc2⟩
 have hsx:(w3.setCell ⟨w.heap.size+1,0,none⟩ (.int .i64 3)).heap.size=w3.heap.size:=by simp [World.setCell]
 have hb2:w2x.heap[w.heap.size+1]?=some (.cells #[.int .i64 3,.string ⟨#[]⟩,.slice none 0 0,.slice none 0 0,.slice none 0 0,.slice none 0 0,.int .i64 0,.slice none 0 0,.int .i64 0,.int .i64 0,.string ⟨#[]⟩,.int .i64 0,.slice none 0 0,.int .i64 0,.string ⟨#[]⟩,.int .i64 0,.slice none 0 0,.string ⟨#[]⟩,.slice none 0 0,.slice none 0 0] 33 (0,0)):=(hf2.block (w.heap.size+1) (by rw [hsx];have:=HSN.out;omega) (by have:=HBW.out;omega)).trans (blk_put w3 (w.heap.size+1) 0 _ HBN.out (by show 0 < 20;decide))
 have hz2:zeroIB w2x w.heap.size:=zero_pfr hf2 w.heap.size (by rw [hsx];have:=HSN.out;omega) (by have:=HBW.out;omega) (zero_put (by omega) HZN.out)
 have hs2:w.heap.size+2≤w2x.heap.size:=by have:=hf2.size;rw [hsx] at this;have:=HSN.out;omega
 have HFQ:=Lib.hid ((HFW.out.putNew (N:=w.heap.size+1) (by omega) 0 (.int .i64 3)).trans hf2)
 have hc3:Cont OT er2 (bindO (argsO (wayO ts) ts k2) (fun l k2'=>bindO (expO ts k2' [105,115]) (fun _ k3'=>bindO (detO ts k3') (fun d k4=>Out.ok (⟨3,y.data.toList,[],[],[],l,d,[],zeroG⟩:ItemT) k4)))=OT):=hc2.imp (fun ⟨s,e,_,h⟩=>by rw [e];exact h)
 have d1:=(Lib.cell_of_heap hb2 1).trans rfl
 have f1:=Lib.frozen_of_heap hb2 1
 have HBOX:Hid ((w2x.setCell ⟨w.heap.size+1,1,none⟩ (.string y)).heap[w.heap.size+1]?=some (.cells #[.int .i64 3,.string y,.slice none 0 0,.slice none 0 0,.slice none 0 0,.slice none 0 0,.int .i64 0,.slice none 0 0,.int .i64 0,.int .i64 0,.string ⟨#[]⟩,.int .i64 0,.slice none 0 0,.int .i64 0,.string ⟨#[]⟩,.int .i64 0,.slice none 0 0,.string ⟨#[]⟩,.slice none 0 0,.slice none 0 0] 33 (0,0))):=Lib.hid (blk_put w2x (w.heap.size+1) 1 _ hb2 (by show 1 < 20;decide))
 have HPB:=Lib.hid (Rd.beside HP.out HFQ.out hp2 (N:=w.heap.size+1) (by omega) 1 (.string y))
 have HKB:=Lib.hid hk2
 have HCB:=Lib.hid hc3
 have HFB:=Lib.hid (HFQ.out.putNew (N:=w.heap.size+1) (by omega) 1 (.string y))
 have hsy:(w2x.setCell ⟨w.heap.size+1,1,none⟩ (.string y)).heap.size=w2x.heap.size:=by simp [World.setCell]
 have HBX:Hid (w.heap.size≤w.heap.size+1):=Lib.hid (by omega)
 have HBXB:Hid (w.heap.size+1 < (w2x.setCell ⟨w.heap.size+1,1,none⟩ (.string y)).heap.size):=Lib.hid (by rw [hsy];omega)
 have HNB:Hid (b < w.heap.size+1):=Lib.hid (by have:=HBW.out;omega)
 have HBB:Hid (b < (w2x.setCell ⟨w.heap.size+1,1,none⟩ (.string y)).heap.size):=Lib.hid (by rw [hsy];have:=HBW.out;omega)
 have HZB:Hid (zeroIB (w2x.setCell ⟨w.heap.size+1,1,none⟩ (.string y)) w.heap.size):=Lib.hid (zero_put (by omega) hz2)
 clear hk2 hp2 hf2 hc2 hc3 hsx hsy hb2 hz2 hs2 dn0 fn0 HX HN HBN HZN HSN HFW HFQ HP3 HF3
 go_wp2_with fail
 clear d1 f1
 generalize w2x.setCell ⟨w.heap.size+1,1,none⟩ (.string y)=wB at HBOX HPB HFB HBXB HBB HZB ⊢
 obtain ⟨i0,hi,hz0,hz1,hz2⟩:=info_parts infoBo
 have HI0:=Lib.hid hi
 have HI1:=Lib.hid hz0
 have HI2:=Lib.hid hz1
 have HI3:=Lib.hid hz2
 clear hi hz0 hz1 hz2
 have HST:=Lib.hid (lp_start (OT:=OT) (t:=4) (sz:=1) (V:=boolV) (rd:=wayO ts) (f:=fun l k2'=>bindO (expO ts k2' [105,115]) (fun _ k3'=>bindO (detO ts k3') (fun d k4=>Out.ok (⟨3,y.data.toList,[],[],[],l,d,[],zeroG⟩:ItemT) k4))) (bx:=(w.heap.size+1)) (Bx:=fun v=>#[.int .i64 3,.string y,.slice none 0 0,.slice none 0 0,.slice none 0 0,v,.int .i64 0,.slice none 0 0,.int .i64 0,.int .i64 0,.string ⟨#[]⟩,.int .i64 0,.slice none 0 0,.int .i64 0,.string ⟨#[]⟩,.int .i64 0,.slice none 0 0,.string ⟨#[]⟩,.slice none 0 0,.slice none 0 0]) (T:=33) HBOX.out HPB.out HKB.out HCB.out)
 go_loopw [] (fun wr=>∃ s cap n kk er',Hid (LpI 4 1 (boolV) b A c ts OT (wayO ts) (fun l k2'=>bindO (expO ts k2' [105,115]) (fun _ k3'=>bindO (detO ts k3') (fun d k4=>Out.ok (⟨3,y.data.toList,[],[],[],l,d,[],zeroG⟩:ItemT) k4))) 33 (w.heap.size+1) (fun v=>#[.int .i64 3,.string y,.slice none 0 0,.slice none 0 0,.slice none 0 0,v,.int .i64 0,.slice none 0 0,.int .i64 0,.int .i64 0,.string ⟨#[]⟩,.int .i64 0,.slice none 0 0,.int .i64 0,.string ⟨#[]⟩,.int .i64 0,.slice none 0 0,.string ⟨#[]⟩,.slice none 0 0,.slice none 0 0]) wB wr s cap n kk er')) (fun wr=>meas ts.length b wr)
 case atStart=>exact ⟨none,0,0,_,_,HST⟩
 case round =>
  obtain ⟨s,cap,n,kk,er',hI⟩:=hrel
  have HI:=hI
  clear hI HST
  have c2:=HI.out.wd.c2
  have hbox:=HI.out.box
  have d3:=(Lib.cell_of_heap hbox 5).trans rfl
  clear hbox
  rcases (show er' ≠ 0 ∨ er'=0 from (Decidable.em (er'=0)).symm) with hne | rfl
  case' inl =>
   have hq:(er' == 0)=false:=by simpa using hne
   have HXC:=Lib.hid (lp_over HI.out hne)
   have HXB:=Lib.hid HI.out.box
   have HXR:=Lib.hid HI.out.wd
   have HXK:=Lib.hid HI.out.le
   have HXF:=Lib.hid HI.out.fr
   obtain ⟨W,hW⟩:∃ W:World,W=wr:=⟨_,rfl⟩
   rw [← hW] at HXC HXB HXR HXF c2 d3 ⊢
   obtain ⟨k3,hk3⟩:∃ k3:Nat,k3=kk:=⟨_,rfl⟩
   obtain ⟨er3,he3⟩:∃ er3:Int,er3=er':=⟨_,rfl⟩
   rw [← hk3] at HXC HXR HXK
   rw [← he3] at HXC HXR c2 hq
   clear HI hne hW hk3 he3
  case' inr =>
   obtain ⟨acc,vs,g,m,rfl,hrow,hfu,hal,hO⟩:=HI.out.cont.ok
   have HROW:=Lib.hid hrow
   have HAL:=Lib.hid hal
   have hfew:acc.length≤16384:=by have h2:=HI.out.le;omega
   have HM:=Lib.hid (rmore_any wr b A c ts HWF.out kk acc.length HI.out.wd HI.out.le)
   have hbz:(w.heap.size+1) < wr.heap.size:=(Array.getElem?_eq_some_iff.1 HI.out.box).1
   rcases lp_more hfu HI.out.le hO with ⟨k1,m2,hm,hk1,hk1l,hfu2,hT⟩ | ⟨k1,er1,hm,hk1l,hc1⟩
   case' inl =>
    rw [hm] at HM
    have HK1:=Lib.hid hk1
    have HFU:=Lib.hid hfu2
    have HKL:=Lib.hid hk1l
    have HT:=Lib.hid hT
    have hnb:(w.heap.size+1) ≠ b:=by have:=HNB.out;omega
    clear hrow hfu hal hO hm hk1 hk1l hfu2 hT
    go_wp2_with fail
    go_at_call 99
    refine HM.out.mono ?_
    rintro e w3 ⟨rfl,hp3,hf3⟩
    have HP3:=Lib.hid hp3
    have HF3:=Lib.hid hf3
    clear hp3 hf3 HM c2
    cases hqi:isB ts k1 0 [105,110] with
    | true =>
     have hh:hasT ts k1 [105,110]=true:=(isB_ok ts k1 _).symm.trans hqi
     have HG:=Lib.hid (rgot_yes HWF.out ⟨#[105,110]⟩ kw_in HP3.out hh)
     have hin:=hasT_in hh (by decide)
     have hT:=HT.out
     rw [show wayO ts k1=.ok true (k1+1) by unfold wayO;rw [if_pos hh]] at hT
     have HK4:Hid (k1+1≤ts.length):=Lib.hid hin
     clear hqi hh hin
     go_wp2_with fail
     go_at_call 97
     refine HG.out.mono ?_
     rintro e w4 ⟨rfl,hp4,hf4⟩
     have HP4:=Lib.hid hp4
     have HF4:=Lib.hid (HF3.out.trans hf4)
     have HC4:Hid (Cont OT 0 (∃ x,boolV x (.bool true) w4.heap.size w4.heap.size w4∧k1 < k1+1∧bindO (tailO (wayO ts) ts m2 (k1+1) (acc++[x])) (fun l k2'=>bindO (expO ts k2' [105,115]) (fun _ k3'=>bindO (detO ts k3') (fun d k4=>Out.ok (⟨3,y.data.toList,[],[],[],l,d,[],zeroG⟩:ItemT) k4)))=OT)):=Lib.hid (.inl ⟨rfl,true,rfl,Nat.lt_succ_self _,hT⟩)
     clear hp4 hf4 hT HG
     have hbz4:w.heap.size+1 < w4.heap.size:=Nat.lt_of_lt_of_le hbz HF4.out.size
     have d4:=(HF4.out.cell (p:=⟨(w.heap.size+1),5,none⟩) hbz hnb).trans d3
     have hw5:¬ (w.heap.size+1)=w4.heap.size:=Nat.ne_of_lt hbz4
     have hw6:¬ w4.heap.size=(w.heap.size+1):=fun e=>hw5 e.symm
     have HO4:=Lib.hid (own_fr HROW.out.own HF4.out HBB.out)
     have hW4:wB.heap.size≤w4.heap.size:=Nat.le_trans HI.out.fr.size HF4.out.size
     go_wp2_with (at_builtin;refine wpList_append_lies _ rfl _ _ 25 rfl wB.heap.size 4 i0 (.bool false) 1 1 Tryz.underlying25 HI0.out HI1.out HI2.out HI3.out rfl (by decide) _ _ _ rfl (HO4.out.alloc _) ⟨w4.heap.size,0,none⟩ 1 1 [.bool true] rfl rfl (cells_new _ #[.bool true] _ _ rfl) (by simp [Value.oneCell']) (by decide) (by unfold maxLen;omega) (by omega) (by simp;omega) _ rfl ?_;intro g2 cap2 w6 hown6 hg6 hat6 _;have HG6:=Lib.hid hg6;have HOW:=Lib.hid hown6;have HAT:=Lib.hid hat6;obtain ⟨q1,q2,q3,q4⟩:=lp_grown HP.out HFB.out HBX.out HBXB.out HI.out HROW.out HF4.out hg6;have e3:=(Lib.cell_of_heap q1 5).trans rfl;have f3:=Lib.frozen_of_heap q1 5;clear q1 q2 q3 q4 hg6 hown6 hat6)
     have HLN:=Lib.hid (lp_next HP.out HFB.out HBX.out HBXB.out 5 (fun _=>by show 5 < 20;decide) (fun _ _=>rfl) boolV.stable HI.out HROW.out HAL.out HF4.out HP4.out HK4.out (lo4:=w4.heap.size) HF4.out.size HK1.out HFU.out HC4.out (v2:=.bool true) HOW.out HG6.out HAT.out)
     clear d4 e3 f3
     go_wp2
     go_roundw
     case rel=>exact ⟨_,_,_,_,_,HLN⟩
     case measure =>
      rw [meas_on HI.out.wd]
      rcases HC4.out with ⟨hz0,_,_,h5,_⟩ | ⟨i,hz0,_⟩
      ·have h9:=HLN.out.wd
       rw [hz0] at h9
       rw [meas_on h9]
       have h7:=HK4.out
       have h8:=HK1.out
       omega
      ·have h9:=HLN.out.wd
       rw [hz0] at h9
       rw [meas_off h9 (erN_ne i)]
       omega
    | false =>
     have HG:=Lib.hid (rgot_not HWF.out ⟨#[105,110]⟩ kw_in HP3.out HKL.out hqi)
     have hh:hasT ts k1 [105,110]=false:=(isB_ok ts k1 _).symm.trans hqi
     have hT:=HT.out
     have hwy:wayO ts k1=bindO (expO ts k1 [111,117,116]) (fun _ k'=>.ok false k'):=by
      unfold wayO expO
      rw [if_neg (by rw [hh];decide)]
      cases hasT ts k1 [111,117,116] <;> rfl
     rw [hwy,bindO_assoc] at hT
     have HT2:=Lib.hid hT
     clear hqi hh hT hwy
     go_wp2_with fail
     go_at_call 97
     refine HG.out.mono ?_
     rintro e w3b ⟨rfl,hp3b,hf3b⟩
     have HND:=Lib.hid (rneed_cont HWF.out ⟨#[111,117,116]⟩ kw_out hp3b HKL.out (.inl ⟨rfl,HT2.out⟩))
     have HF3b:=Lib.hid (HF3.out.trans hf3b)
     clear hp3b hf3b HG
     go_wp2_with fail
     go_at_call 59
     refine HND.out.mono ?_
     rintro e w4 ⟨k4,er4,rfl,hk4,hp4,hf4,hc4⟩
     have HP4:=Lib.hid hp4
     have HF4:=Lib.hid (HF3b.out.trans hf4)
     have HK4:=Lib.hid hk4
     have HC4:Hid (Cont OT er4 (∃ x,boolV x (.bool false) w4.heap.size w4.heap.size w4∧k1 < k4∧bindO (tailO (wayO ts) ts m2 k4 (acc++[x])) (fun l k2'=>bindO (expO ts k2' [105,115]) (fun _ k3'=>bindO (detO ts k3') (fun d k4=>Out.ok (⟨3,y.data.toList,[],[],[],l,d,[],zeroG⟩:ItemT) k4)))=OT)):=Lib.hid (hc4.imp (fun q=>⟨false,rfl,q.1,q.2⟩))
     clear hp4 hf4 hk4 hc4 HND
     have hbz4:w.heap.size+1 < w4.heap.size:=Nat.lt_of_lt_of_le hbz HF4.out.size
     have d4:=(HF4.out.cell (p:=⟨(w.heap.size+1),5,none⟩) hbz hnb).trans d3
     have hw5:¬ (w.heap.size+1)=w4.heap.size:=Nat.ne_of_lt hbz4
     have hw6:¬ w4.heap.size=(w.heap.size+1):=fun e=>hw5 e.symm
     have HO4:=Lib.hid (own_fr HROW.out.own HF4.out HBB.out)
     have hW4:wB.heap.size≤w4.heap.size:=Nat.le_trans HI.out.fr.size HF4.out.size
     go_wp2_with (at_builtin;refine wpList_append_lies _ rfl _ _ 25 rfl wB.heap.size 4 i0 (.bool false) 1 1 Tryz.underlying25 HI0.out HI1.out HI2.out HI3.out rfl (by decide) _ _ _ rfl (HO4.out.alloc _) ⟨w4.heap.size,0,none⟩ 1 1 [.bool false] rfl rfl (cells_new _ #[.bool false] _ _ rfl) (by simp [Value.oneCell']) (by decide) (by unfold maxLen;omega) (by omega) (by simp;omega) _ rfl ?_;intro g2 cap2 w6 hown6 hg6 hat6 _;have HG6:=Lib.hid hg6;have HOW:=Lib.hid hown6;have HAT:=Lib.hid hat6;obtain ⟨q1,q2,q3,q4⟩:=lp_grown HP.out HFB.out HBX.out HBXB.out HI.out HROW.out HF4.out hg6;have e3:=(Lib.cell_of_heap q1 5).trans rfl;have f3:=Lib.frozen_of_heap q1 5;clear q1 q2 q3 q4 hg6 hown6 hat6)
     have HLN:=Lib.hid (lp_next HP.out HFB.out HBX.out HBXB.out 5 (fun _=>by show 5 < 20;decide) (fun _ _=>rfl) boolV.stable HI.out HROW.out HAL.out HF4.out HP4.out HK4.out (lo4:=w4.heap.size) HF4.out.size HK1.out HFU.out HC4.out (v2:=.bool false) HOW.out HG6.out HAT.out)
     clear d4 e3 f3
     go_wp2
     go_roundw
     case rel=>exact ⟨_,_,_,_,_,HLN⟩
     case measure =>
      rw [meas_on HI.out.wd]
      rcases HC4.out with ⟨hz0,_,_,h5,_⟩ | ⟨i,hz0,_⟩
      ·have h9:=HLN.out.wd
       rw [hz0] at h9
       rw [meas_on h9]
       have h7:=HK4.out
       have h8:=HK1.out
       omega
      ·have h9:=HLN.out.wd
       rw [hz0] at h9
       rw [meas_off h9 (erN_ne i)]
       omega
   case' inr =>
    rw [hm] at HM
    have HC1:=Lib.hid hc1
    have HXK:=Lib.hid hk1l
    clear hrow hfu hal hO hm hk1l hc1
    go_wp2_with fail
    go_at_call 99
    refine HM.out.mono ?_
    rintro e W ⟨rfl,hp3,hf3⟩
    obtain ⟨HXFo,HXCo⟩:=lp_left (boolV.stable) HBB.out HI.out HROW.out hf3 HC1.out
    have HXF:=Lib.hid HXFo
    have HXC:=Lib.hid HXCo
    have HXB:=Lib.hid ((hf3.block (w.heap.size+1) hbz (by have:=HNB.out;omega)).trans HI.out.box)
    have HXR:=Lib.hid hp3
    obtain ⟨n,hn⟩:∃ n:Nat,n=acc.length:=⟨_,rfl⟩
    rw [← hn] at HXC HXB
    obtain ⟨k3,hk3⟩:∃ k3:Nat,k3=k1:=⟨_,rfl⟩
    obtain ⟨er3,he3⟩:∃ er3:Int,er3=er1:=⟨_,rfl⟩
    rw [← hk3] at HXC HXR HXK
    rw [← he3] at HXC HXR
    clear hp3 hf3 HXFo HXCo HM HC1 hn hk3 he3 d3 c2 hfew hbz HROW HAL HI
  all_goals
   have HZW:=Lib.hid (zero_fr2 HXF.out w.heap.size (Nat.lt_trans (Nat.lt_succ_self _) HBXB.out) (Nat.ne_of_gt HBW.out) (Nat.ne_of_lt (Nat.lt_succ_self _)) HZB.out)
   obtain ⟨l,hl⟩:=Cont.pull [] HXC.out
   have HND:=Lib.hid (rneed_contQ HWF.out ⟨#[105,115]⟩ kw_is HXR.out HXK.out (hl.imp (fun q=>(⟨q.1,q.2⟩:_∧bindO (expO ts k3 [105,115]) (fun _ k3'=>bindO (detO ts k3') (fun d k4=>Out.ok (⟨3,y.data.toList,[],[],[],l,d,[],zeroG⟩:ItemT) k4))=OT))))
   clear hl
   go_wp2_with fail
   go_at_call 59
   refine HND.out.mono ?_
   rintro e w5 ⟨k5,er5,rfl,hk5,hp5,hf5,hc5⟩
   have HWB:Hid (wB.heap.size≤W.heap.size):=Lib.hid HXF.out.size
   have HR5:=Lib.hid hp5
   have HK5:=Lib.hid hk5
   have HC5:=Lib.hid hc5
   have HF5:=Lib.hid ((Fr2.toPFr HFB.out HXF.out HBX.out).trans hf5)
   have HZ5:=Lib.hid (zero_pfr hf5 w.heap.size (by have:=HWB.out;have:=HBXB.out;omega) (Nat.ne_of_gt HBW.out) HZW.out)
   have HB5:=Lib.hid ((hf5.block (w.heap.size+1) (by have:=HWB.out;have:=HBXB.out;omega) (by have:=HBW.out;omega)).trans HXB.out)
   have HE5:Hid (∀ j,j < W.heap.size→j ≠ b→w5.heap[j]?=W.heap[j]?):=Lib.hid (fun j j1 j2=>hf5.block j j1 j2)
   have HS5:Hid (W.heap.size≤w5.heap.size):=Lib.hid hf5.size
   clear hp5 hf5 hk5 hc5 HND
   cases hd0:isB ts k5 er5 [100,101,116] with
   | true =>
    obtain ⟨rfl,hh⟩:er5=0∧hasT ts k5 [100,101,116]=true:=by simpa [isB] using hd0
    have HG:=Lib.hid (rgot_yes HWF.out ⟨#[100,101,116]⟩ kw_det HR5.out hh)
    have HKY:Hid (k5+1≤ts.length):=Lib.hid (hasT_in hh (by decide))
    have HQ:Hid (ArgsV 4 1 boolV l (.slice s n cap) wB.heap.size W.heap.size W∧.ok (⟨3,y.data.toList,[],[],[],l,1,[],zeroG⟩:ItemT) (k5+1)=OT):=Lib.hid (by
     obtain ⟨q1,_,q2⟩:=HC5.out.ok
     refine ⟨q1,?_⟩
     rw [show detO ts k5=.ok 1 (k5+1) by unfold detO;rw [if_pos hh]] at q2
     exact q2)
    have HCQ:Hid (Cont OT 0 (ArgsV 4 1 boolV l (.slice s n cap) wB.heap.size W.heap.size W∧.ok (⟨3,y.data.toList,[],[],[],l,1,[],zeroG⟩:ItemT) (k5+1)=OT)):=Lib.hid (.inl ⟨rfl,HQ.out⟩)
    clear hh HQ 
    go_wp2_with fail
    go_at_call 97
    refine HG.out.mono ?_
    rintro e w6y ⟨rfl,hp,hf⟩
    have HPy:=Lib.hid hp
    have HFy:=Lib.hid (HF5.out.trans hf)
    have hby:=(hf.block (w.heap.size+1) (by have:=HS5.out;have:=HWB.out;have:=HBXB.out;omega) (by have:=HBW.out;omega)).trans HB5.out
    have HZy:=Lib.hid (zero_pfr hf w.heap.size (by have:=HS5.out;have:=HWB.out;have:=HBXB.out;omega) (Nat.ne_of_gt HBW.out) HZ5.out)
    have HEy:Hid (∀ j,j < W.heap.size→j ≠ b→w6y.heap[j]?=W.heap[j]?):=Lib.hid (fun j j1 j2=>(hf.block j (by have:=HS5.out;omega) j2).trans (HE5.out j j1 j2))
    have HSy:Hid (W.heap.size≤w6y.heap.size):=Lib.hid (Nat.le_trans HS5.out hf.size)
    have dy:=(Lib.cell_of_heap hby 6).trans rfl
    have fy:=Lib.frozen_of_heap hby 6
    have HBy:Hid ((w6y.setCell ⟨w.heap.size+1,6,none⟩ (.int .i64 1)).heap[w.heap.size+1]?=some (.cells #[.int .i64 3,.string y,.slice none 0 0,.slice none 0 0,.slice none 0 0,.slice s n cap,.int .i64 1,.slice none 0 0,.int .i64 0,.int .i64 0,.string ⟨#[]⟩,.int .i64 0,.slice none 0 0,.int .i64 0,.string ⟨#[]⟩,.int .i64 0,.slice none 0 0,.string ⟨#[]⟩,.slice none 0 0,.slice none 0 0] 33 (0,0))):=Lib.hid (blk_put w6y (w.heap.size+1) 6 _ hby (by show 6 < 20;decide))
    have HRy:=Lib.hid (Rd.beside HP.out HFy.out HPy.out (N:=w.heap.size+1) (by omega) 6 (.int .i64 1))
    have HFz:=Lib.hid (HFy.out.putNew (N:=w.heap.size+1) (by omega) 6 (.int .i64 1))
    have HZz:=Lib.hid (zero_put (N:=w.heap.size+1) (i:=6) (v:=.int .i64 1) (by omega) HZy.out)
    have HEz:Hid (∀ j,j < W.heap.size→j ≠ b→j ≠ w.heap.size+1→(w6y.setCell ⟨w.heap.size+1,6,none⟩ (.int .i64 1)).heap[j]?=W.heap[j]?):=Lib.hid (fun j j1 j2 j3=>(Below.heap_setCell _ _ _ j j3).trans (HEy.out j j1 j2))
    have HSz:Hid (W.heap.size≤(w6y.setCell ⟨w.heap.size+1,6,none⟩ (.int .i64 1)).heap.size):=Lib.hid (by simpa [World.setCell] using HSy.out)
    clear hp hf hby HG
    go_upto_region 41 with fail
    clear dy fy
    generalize w6y.setCell ⟨w.heap.size+1,6,none⟩ (.int .i64 1)=Wz at HBy HRy HFz HZz HEz HSz ⊢
    refine wp_region_list ?_
    refine wpList_load_mid rfl 33 (.tmp 3) rfl (w.heap.size+1) 0 rfl _ _ (range_all HBy.out) Tryz.underlying33 rfl infoIt20 ?_
    refine wpList_store_mid rfl 33 (.tmp 2) (.tmp 157) rfl w.heap.size 0 #[.int .i64 3,.string y,.slice none 0 0,.slice none 0 0,.slice none 0 0,.slice s n cap,.int .i64 1,.slice none 0 0,.int .i64 0,.int .i64 0,.string ⟨#[]⟩,.int .i64 0,.slice none 0 0,.int .i64 0,.string ⟨#[]⟩,.int .i64 0,.slice none 0 0,.string ⟨#[]⟩,.slice none 0 0,.slice none 0 0] rfl rfl (show World.there _ w.heap.size 0 20 from there_all HZz.out) infoIt20 (by simp [Value.oneCell']) ?_
    obtain ⟨t0,t1,t2,t3⟩:=rputAll (C:=#[.int .i64 3,.string y,.slice none 0 0,.slice none 0 0,.slice none 0 0,.slice s n cap,.int .i64 1,.slice none 0 0,.int .i64 0,.int .i64 0,.string ⟨#[]⟩,.int .i64 0,.slice none 0 0,.int .i64 0,.string ⟨#[]⟩,.int .i64 0,.slice none 0 0,.string ⟨#[]⟩,.slice none 0 0,.slice none 0 0]) HP.out HFz.out HRy.out HZz.out rfl
    generalize World.setCells _ _ _ _=X at t0 t1 t2 t3 ⊢
    have T0:=Lib.hid t0
    have T1:=Lib.hid t1
    have T2:=Lib.hid t2
    have T3:=Lib.hid t3
    clear t0 t1 t2 t3
    go_wp2_with fail
    refine bodyPost_ret (v:=.agg #[.int .i64 3,.string y,.slice none 0 0,.slice none 0 0,.slice none 0 0,.slice s n cap,.int .i64 1,.slice none 0 0,.int .i64 0,.int .i64 0,.string ⟨#[]⟩,.int .i64 0,.slice none 0 0,.int .i64 0,.string ⟨#[]⟩,.int .i64 0,.slice none 0 0,.string ⟨#[]⟩,.slice none 0 0,.slice none 0 0]) (results_cell_row Tryz.results58 _ _ w.heap.size 33 #[.int .i64 3,.string y,.slice none 0 0,.slice none 0 0,.slice none 0 0,.slice s n cap,.int .i64 1,.slice none 0 0,.int .i64 0,.int .i64 0,.string ⟨#[]⟩,.int .i64 0,.slice none 0 0,.int .i64 0,.string ⟨#[]⟩,.int .i64 0,.slice none 0 0,.string ⟨#[]⟩,.slice none 0 0,.slice none 0 0] (0,0) _ rfl T0.out Tryz.underlying33 rfl infoIt20) rfl (rends_of HKY.out ⟨_,_,_,_,_,_,_,_,_,_,_,_,_,_,_,_,_,_,_,_,_,_,_,_,_,_,_,_,_,_,_,_,_,_,_,_,_,_,rfl⟩ T1.out T2.out (HCQ.out.imp (fun q=>?_)))
    obtain ⟨q1,q2⟩:=q
    refine ⟨_,?_,q2⟩
    have e2:=HBXB.out
    have e3:=HWB.out
    have e4:=HSz.out
    have e6:=HBW.out
    have e9:=T3.out.size
    have g4:=ArgsV.stable _ _ boolV.stable _ _ _ _ _ X q1 (fun j j1 j2=>(T3.out.block j (by omega)).trans (HEz.out j j2 (by omega) (by omega)))
    exact ⟨_,_,_,_,_,_,_,_,_,_,_,_,_,_,_,_,_,by rw [bs_data],.inl ⟨rfl,rfl⟩,.inl ⟨rfl,rfl⟩,.inl ⟨rfl,rfl⟩,g4.wide (by omega) (by omega),.inl ⟨rfl,rfl⟩,zeroG_holds _ _ _⟩
   | false =>
    have HG:=Lib.hid (rgot_not HWF.out ⟨#[100,101,116]⟩ kw_det HR5.out HK5.out hd0)
    go_wp2_with fail
    go_at_call 97
    refine HG.out.mono ?_
    rintro e w6 ⟨rfl,hp,hf⟩
    have HR6:=Lib.hid hp
    have HF6:=Lib.hid (HF5.out.trans hf)
    have HB6:=Lib.hid ((hf.block (w.heap.size+1) (by have:=HS5.out;have:=HWB.out;have:=HBXB.out;omega) (by have:=HBW.out;omega)).trans HB5.out)
    have HZ6:=Lib.hid (zero_pfr hf w.heap.size (by have:=HS5.out;have:=HWB.out;have:=HBXB.out;omega) (Nat.ne_of_gt HBW.out) HZ5.out)
    have HE6:Hid (∀ j,j < W.heap.size→j ≠ b→w6.heap[j]?=W.heap[j]?):=Lib.hid (fun j j1 j2=>(hf.block j (by have:=HS5.out;omega) j2).trans (HE5.out j j1 j2))
    have HS6:Hid (W.heap.size≤w6.heap.size):=Lib.hid (Nat.le_trans HS5.out hf.size)
    clear hp hf HG
    cases hd1:isB ts k5 er5 [115,101,109,105,100,101,116] with
    | true =>
     obtain ⟨rfl,hh⟩:er5=0∧hasT ts k5 [115,101,109,105,100,101,116]=true:=by simpa [isB] using hd1
     have HG:=Lib.hid (rgot_yes HWF.out ⟨#[115,101,109,105,100,101,116]⟩ kw_semidet HR6.out hh)
     have HKY:Hid (k5+1≤ts.length):=Lib.hid (hasT_in hh (by decide))
     have HQ:Hid (ArgsV 4 1 boolV l (.slice s n cap) wB.heap.size W.heap.size W∧.ok (⟨3,y.data.toList,[],[],[],l,2,[],zeroG⟩:ItemT) (k5+1)=OT):=Lib.hid (by
      obtain ⟨q1,_,q2⟩:=HC5.out.ok
      refine ⟨q1,?_⟩
      rw [show detO ts k5=.ok 2 (k5+1) by unfold detO;rw [if_neg (by rw [(isB_ok ts k5 _).symm.trans hd0];decide),if_pos hh]] at q2
      exact q2)
     have HCQ:Hid (Cont OT 0 (ArgsV 4 1 boolV l (.slice s n cap) wB.heap.size W.heap.size W∧.ok (⟨3,y.data.toList,[],[],[],l,2,[],zeroG⟩:ItemT) (k5+1)=OT)):=Lib.hid (.inl ⟨rfl,HQ.out⟩)
     clear hh HQ hd0
     go_wp2_with fail
     go_at_call 97
     refine HG.out.mono ?_
     rintro e w7y ⟨rfl,hp,hf⟩
     have HPy:=Lib.hid hp
     have HFy:=Lib.hid (HF6.out.trans hf)
     have hby:=(hf.block (w.heap.size+1) (by have:=HS6.out;have:=HWB.out;have:=HBXB.out;omega) (by have:=HBW.out;omega)).trans HB6.out
     have HZy:=Lib.hid (zero_pfr hf w.heap.size (by have:=HS6.out;have:=HWB.out;have:=HBXB.out;omega) (Nat.ne_of_gt HBW.out) HZ6.out)
     have HEy:Hid (∀ j,j < W.heap.size→j ≠ b→w7y.heap[j]?=W.heap[j]?):=Lib.hid (fun j j1 j2=>(hf.block j (by have:=HS6.out;omega) j2).trans (HE6.out j j1 j2))
     have HSy:Hid (W.heap.size≤w7y.heap.size):=Lib.hid (Nat.le_trans HS6.out hf.size)
     have dy:=(Lib.cell_of_heap hby 6).trans rfl
     have fy:=Lib.frozen_of_heap hby 6
     have HBy:Hid ((w7y.setCell ⟨w.heap.size+1,6,none⟩ (.int .i64 2)).heap[w.heap.size+1]?=some (.cells #[.int .i64 3,.string y,.slice none 0 0,.slice none 0 0,.slice none 0 0,.slice s n cap,.int .i64 2,.slice none 0 0,.int .i64 0,.int .i64 0,.string ⟨#[]⟩,.int .i64 0,.slice none 0 0,.int .i64 0,.string ⟨#[]⟩,.int .i64 0,.slice none 0 0,.string ⟨#[]⟩,.slice none 0 0,.slice none 0 0] 33 (0,0))):=Lib.hid (blk_put w7y (w.heap.size+1) 6 _ hby (by show 6 < 20;decide))
     have HRy:=Lib.hid (Rd.beside HP.out HFy.out HPy.out (N:=w.heap.size+1) (by omega) 6 (.int .i64 2))
     have HFz:=Lib.hid (HFy.out.putNew (N:=w.heap.size+1) (by omega) 6 (.int .i64 2))
     have HZz:=Lib.hid (zero_put (N:=w.heap.size+1) (i:=6) (v:=.int .i64 2) (by omega) HZy.out)
     have HEz:Hid (∀ j,j < W.heap.size→j ≠ b→j ≠ w.heap.size+1→(w7y.setCell ⟨w.heap.size+1,6,none⟩ (.int .i64 2)).heap[j]?=W.heap[j]?):=Lib.hid (fun j j1 j2 j3=>(Below.heap_setCell _ _ _ j j3).trans (HEy.out j j1 j2))
     have HSz:Hid (W.heap.size≤(w7y.setCell ⟨w.heap.size+1,6,none⟩ (.int .i64 2)).heap.size):=Lib.hid (by simpa [World.setCell] using HSy.out)
     clear hp hf hby HG
     go_upto_region 41 with fail
     clear dy fy
     generalize w7y.setCell ⟨w.heap.size+1,6,none⟩ (.int .i64 2)=Wz at HBy HRy HFz HZz HEz HSz ⊢
     refine wp_region_list ?_
     refine wpList_load_mid rfl 33 (.tmp 3) rfl (w.heap.size+1) 0 rfl _ _ (range_all HBy.out) Tryz.underlying33 rfl infoIt20 ?_
     refine wpList_store_mid rfl 33 (.tmp 2) (.tmp 157) rfl w.heap.size 0 #[.int .i64 3,.string y,.slice none 0 0,.slice none 0 0,.slice none 0 0,.slice s n cap,.int .i64 2,.slice none 0 0,.int .i64 0,.int .i64 0,.string ⟨#[]⟩,.int .i64 0,.slice none 0 0,.int .i64 0,.string ⟨#[]⟩,.int .i64 0,.slice none 0 0,.string ⟨#[]⟩,.slice none 0 0,.slice none 0 0] rfl rfl (show World.there _ w.heap.size 0 20 from there_all HZz.out) infoIt20 (by simp [Value.oneCell']) ?_
     obtain ⟨t0,t1,t2,t3⟩:=rputAll (C:=#[.int .i64 3,.string y,.slice none 0 0,.slice none 0 0,.slice none 0 0,.slice s n cap,.int .i64 2,.slice none 0 0,.int .i64 0,.int .i64 0,.string ⟨#[]⟩,.int .i64 0,.slice none 0 0,.int .i64 0,.string ⟨#[]⟩,.int .i64 0,.slice none 0 0,.string ⟨#[]⟩,.slice none 0 0,.slice none 0 0]) HP.out HFz.out HRy.out HZz.out rfl
     generalize World.setCells _ _ _ _=X at t0 t1 t2 t3 ⊢
     have T0:=Lib.hid t0
     have T1:=Lib.hid t1
     have T2:=Lib.hid t2
     have T3:=Lib.hid t3
     clear t0 t1 t2 t3
     go_wp2_with fail
     refine bodyPost_ret (v:=.agg #[.int .i64 3,.string y,.slice none 0 0,.slice none 0 0,.slice none 0 0,.slice s n cap,.int .i64 2,.slice none 0 0,.int .i64 0,.int .i64 0,.string ⟨#[]⟩,.int .i64 0,.slice none 0 0,.int .i64 0,.string ⟨#[]⟩,.int .i64 0,.slice none 0 0,.string ⟨#[]⟩,.slice none 0 0,.slice none 0 0]) (results_cell_row Tryz.results58 _ _ w.heap.size 33 #[.int .i64 3,.string y,.slice none 0 0,.slice none 0 0,.slice none 0 0,.slice s n cap,.int .i64 2,.slice none 0 0,.int .i64 0,.int .i64 0,.string ⟨#[]⟩,.int .i64 0,.slice none 0 0,.int .i64 0,.string ⟨#[]⟩,.int .i64 0,.slice none 0 0,.string ⟨#[]⟩,.slice none 0 0,.slice none 0 0] (0,0) _ rfl T0.out Tryz.underlying33 rfl infoIt20) rfl (rends_of HKY.out ⟨_,_,_,_,_,_,_,_,_,_,_,_,_,_,_,_,_,_,_,_,_,_,_,_,_,_,_,_,_,_,_,_,_,_,_,_,_,_,rfl⟩ T1.out T2.out (HCQ.out.imp (fun q=>?_)))
     obtain ⟨q1,q2⟩:=q
     refine ⟨_,?_,q2⟩
     have e2:=HBXB.out
     have e3:=HWB.out
     have e4:=HSz.out
     have e6:=HBW.out
     have e9:=T3.out.size
     have g4:=ArgsV.stable _ _ boolV.stable _ _ _ _ _ X q1 (fun j j1 j2=>(T3.out.block j (by omega)).trans (HEz.out j j2 (by omega) (by omega)))
     exact ⟨_,_,_,_,_,_,_,_,_,_,_,_,_,_,_,_,_,by rw [bs_data],.inl ⟨rfl,rfl⟩,.inl ⟨rfl,rfl⟩,.inl ⟨rfl,rfl⟩,g4.wide (by omega) (by omega),.inl ⟨rfl,rfl⟩,zeroG_holds _ _ _⟩
    | false =>
     have HG:=Lib.hid (rgot_not HWF.out ⟨#[115,101,109,105,100,101,116]⟩ kw_semidet HR6.out HK5.out hd1)
     go_wp2_with fail
     go_at_call 97
     refine HG.out.mono ?_
     rintro e w7 ⟨rfl,hp,hf⟩
     have HR7:=Lib.hid hp
     have HF7:=Lib.hid (HF6.out.trans hf)
     have HB7:=Lib.hid ((hf.block (w.heap.size+1) (by have:=HS6.out;have:=HWB.out;have:=HBXB.out;omega) (by have:=HBW.out;omega)).trans HB6.out)
     have HZ7:=Lib.hid (zero_pfr hf w.heap.size (by have:=HS6.out;have:=HWB.out;have:=HBXB.out;omega) (Nat.ne_of_gt HBW.out) HZ6.out)
     have HE7:Hid (∀ j,j < W.heap.size→j ≠ b→w7.heap[j]?=W.heap[j]?):=Lib.hid (fun j j1 j2=>(hf.block j (by have:=HS6.out;omega) j2).trans (HE6.out j j1 j2))
     have HS7:Hid (W.heap.size≤w7.heap.size):=Lib.hid (Nat.le_trans HS6.out hf.size)
     clear hp hf HG
     cases hd2:isB ts k5 er5 [109,117,108,116,105] with
     | true =>
      obtain ⟨rfl,hh⟩:er5=0∧hasT ts k5 [109,117,108,116,105]=true:=by simpa [isB] using hd2
      have HG:=Lib.hid (rgot_yes HWF.out ⟨#[109,117,108,116,105]⟩ kw_multi HR7.out hh)
      have HKY:Hid (k5+1≤ts.length):=Lib.hid (hasT_in hh (by decide))
      have HQ:Hid (ArgsV 4 1 boolV l (.slice s n cap) wB.heap.size W.heap.size W∧.ok (⟨3,y.data.toList,[],[],[],l,3,[],zeroG⟩:ItemT) (k5+1)=OT):=Lib.hid (by
       obtain ⟨q1,_,q2⟩:=HC5.out.ok
       refine ⟨q1,?_⟩
       rw [show detO ts k5=.ok 3 (k5+1) by unfold detO;rw [if_neg (by rw [(isB_ok ts k5 _).symm.trans hd0];decide),if_neg (by rw [(isB_ok ts k5 _).symm.trans hd1];decide),if_pos hh]] at q2
       exact q2)
      have HCQ:Hid (Cont OT 0 (ArgsV 4 1 boolV l (.slice s n cap) wB.heap.size W.heap.size W∧.ok (⟨3,y.data.toList,[],[],[],l,3,[],zeroG⟩:ItemT) (k5+1)=OT)):=Lib.hid (.inl ⟨rfl,HQ.out⟩)
      clear hh HQ hd0 hd1
      go_wp2_with fail
      go_at_call 97
      refine HG.out.mono ?_
      rintro e w8y ⟨rfl,hp,hf⟩
      have HPy:=Lib.hid hp
      have HFy:=Lib.hid (HF7.out.trans hf)
      have hby:=(hf.block (w.heap.size+1) (by have:=HS7.out;have:=HWB.out;have:=HBXB.out;omega) (by have:=HBW.out;omega)).trans HB7.out
      have HZy:=Lib.hid (zero_pfr hf w.heap.size (by have:=HS7.out;have:=HWB.out;have:=HBXB.out;omega) (Nat.ne_of_gt HBW.out) HZ7.out)
      have HEy:Hid (∀ j,j < W.heap.size→j ≠ b→w8y.heap[j]?=W.heap[j]?):=Lib.hid (fun j j1 j2=>(hf.block j (by have:=HS7.out;omega) j2).trans (HE7.out j j1 j2))
      have HSy:Hid (W.heap.size≤w8y.heap.size):=Lib.hid (Nat.le_trans HS7.out hf.size)
      have dy:=(Lib.cell_of_heap hby 6).trans rfl
      have fy:=Lib.frozen_of_heap hby 6
      have HBy:Hid ((w8y.setCell ⟨w.heap.size+1,6,none⟩ (.int .i64 3)).heap[w.heap.size+1]?=some (.cells #[.int .i64 3,.string y,.slice none 0 0,.slice none 0 0,.slice none 0 0,.slice s n cap,.int .i64 3,.slice none 0 0,.int .i64 0,.int .i64 0,.string ⟨#[]⟩,.int .i64 0,.slice none 0 0,.int .i64 0,.string ⟨#[]⟩,.int .i64 0,.slice none 0 0,.string ⟨#[]⟩,.slice none 0 0,.slice none 0 0] 33 (0,0))):=Lib.hid (blk_put w8y (w.heap.size+1) 6 _ hby (by show 6 < 20;decide))
      have HRy:=Lib.hid (Rd.beside HP.out HFy.out HPy.out (N:=w.heap.size+1) (by omega) 6 (.int .i64 3))
      have HFz:=Lib.hid (HFy.out.putNew (N:=w.heap.size+1) (by omega) 6 (.int .i64 3))
      have HZz:=Lib.hid (zero_put (N:=w.heap.size+1) (i:=6) (v:=.int .i64 3) (by omega) HZy.out)
      have HEz:Hid (∀ j,j < W.heap.size→j ≠ b→j ≠ w.heap.size+1→(w8y.setCell ⟨w.heap.size+1,6,none⟩ (.int .i64 3)).heap[j]?=W.heap[j]?):=Lib.hid (fun j j1 j2 j3=>(Below.heap_setCell _ _ _ j j3).trans (HEy.out j j1 j2))
      have HSz:Hid (W.heap.size≤(w8y.setCell ⟨w.heap.size+1,6,none⟩ (.int .i64 3)).heap.size):=Lib.hid (by simpa [World.setCell] using HSy.out)
      clear hp hf hby HG
      go_upto_region 41 with fail
      clear dy fy
      generalize w8y.setCell ⟨w.heap.size+1,6,none⟩ (.int .i64 3)=Wz at HBy HRy HFz HZz HEz HSz ⊢
      refine wp_region_list ?_
      refine wpList_load_mid rfl 33 (.tmp 3) rfl (w.heap.size+1) 0 rfl _ _ (range_all HBy.out) Tryz.underlying33 rfl infoIt20 ?_
      refine wpList_store_mid rfl 33 (.tmp 2) (.tmp 157) rfl w.heap.size 0 #[.int .i64 3,.string y,.slice none 0 0,.slice none 0 0,.slice none 0 0,.slice s n cap,.int .i64 3,.slice none 0 0,.int .i64 0,.int .i64 0,.string ⟨#[]⟩,.int .i64 0,.slice none 0 0,.int .i64 0,.string ⟨#[]⟩,.int .i64 0,.slice none 0 0,.string ⟨#[]⟩,.slice none 0 0,.slice none 0 0] rfl rfl (show World.there _ w.heap.size 0 20 from there_all HZz.out) infoIt20 (by simp [Value.oneCell']) ?_
      obtain ⟨t0,t1,t2,t3⟩:=rputAll (C:=#[.int .i64 3,.string y,.slice none 0 0,.slice none 0 0,.slice none 0 0,.slice s n cap,.int .i64 3,.slice none 0 0,.int .i64 0,.int .i64 0,.string ⟨#[]⟩,.int .i64 0,.slice none 0 0,.int .i64 0,.string ⟨#[]⟩,.int .i64 0,.slice none 0 0,.string ⟨#[]⟩,.slice none 0 0,.slice none 0 0]) HP.out HFz.out HRy.out HZz.out rfl
      generalize World.setCells _ _ _ _=X at t0 t1 t2 t3 ⊢
      have T0:=Lib.hid t0
      have T1:=Lib.hid t1
      have T2:=Lib.hid t2
      have T3:=Lib.hid t3
      clear t0 t1 t2 t3
      go_wp2_with fail
      refine bodyPost_ret (v:=.agg #[.int .i64 3,.string y,.slice none 0 0,.slice none 0 0,.slice none 0 0,.slice s n cap,.int .i64 3,.slice none 0 0,.int .i64 0,.int .i64 0,.string ⟨#[]⟩,.int .i64 0,.slice none 0 0,.int .i64 0,.string ⟨#[]⟩,.int .i64 0,.slice none 0 0,.string ⟨#[]⟩,.slice none 0 0,.slice none 0 0]) (results_cell_row Tryz.results58 _ _ w.heap.size 33 #[.int .i64 3,.string y,.slice none 0 0,.slice none 0 0,.slice none 0 0,.slice s n cap,.int .i64 3,.slice none 0 0,.int .i64 0,.int .i64 0,.string ⟨#[]⟩,.int .i64 0,.slice none 0 0,.int .i64 0,.string ⟨#[]⟩,.int .i64 0,.slice none 0 0,.string ⟨#[]⟩,.slice none 0 0,.slice none 0 0] (0,0) _ rfl T0.out Tryz.underlying33 rfl infoIt20) rfl (rends_of HKY.out ⟨_,_,_,_,_,_,_,_,_,_,_,_,_,_,_,_,_,_,_,_,_,_,_,_,_,_,_,_,_,_,_,_,_,_,_,_,_,_,rfl⟩ T1.out T2.out (HCQ.out.imp (fun q=>?_)))
      obtain ⟨q1,q2⟩:=q
      refine ⟨_,?_,q2⟩
      have e2:=HBXB.out
      have e3:=HWB.out
      have e4:=HSz.out
      have e6:=HBW.out
      have e9:=T3.out.size
      have g4:=ArgsV.stable _ _ boolV.stable _ _ _ _ _ X q1 (fun j j1 j2=>(T3.out.block j (by omega)).trans (HEz.out j j2 (by omega) (by omega)))
      exact ⟨_,_,_,_,_,_,_,_,_,_,_,_,_,_,_,_,_,by rw [bs_data],.inl ⟨rfl,rfl⟩,.inl ⟨rfl,rfl⟩,.inl ⟨rfl,rfl⟩,g4.wide (by omega) (by omega),.inl ⟨rfl,rfl⟩,zeroG_holds _ _ _⟩
     | false =>
      have HG:=Lib.hid (rgot_not HWF.out ⟨#[109,117,108,116,105]⟩ kw_multi HR7.out HK5.out hd2)
      go_wp2_with fail
      go_at_call 97
      refine HG.out.mono ?_
      rintro e w8 ⟨rfl,hp,hf⟩
      have HR8:=Lib.hid hp
      have HF8:=Lib.hid (HF7.out.trans hf)
      have HB8:=Lib.hid ((hf.block (w.heap.size+1) (by have:=HS7.out;have:=HWB.out;have:=HBXB.out;omega) (by have:=HBW.out;omega)).trans HB7.out)
      have HZ8:=Lib.hid (zero_pfr hf w.heap.size (by have:=HS7.out;have:=HWB.out;have:=HBXB.out;omega) (Nat.ne_of_gt HBW.out) HZ7.out)
      have HE8:Hid (∀ j,j < W.heap.size→j ≠ b→w8.heap[j]?=W.heap[j]?):=Lib.hid (fun j j1 j2=>(hf.block j (by have:=HS7.out;omega) j2).trans (HE7.out j j1 j2))
      have HS8:Hid (W.heap.size≤w8.heap.size):=Lib.hid (Nat.le_trans HS7.out hf.size)
      clear hp hf HG
      cases hd3:isB ts k5 er5 [110,111,110,100,101,116] with
      | true =>
       obtain ⟨rfl,hh⟩:er5=0∧hasT ts k5 [110,111,110,100,101,116]=true:=by simpa [isB] using hd3
       have HG:=Lib.hid (rgot_yes HWF.out ⟨#[110,111,110,100,101,116]⟩ kw_nondet HR8.out hh)
       have HKY:Hid (k5+1≤ts.length):=Lib.hid (hasT_in hh (by decide))
       have HQ:Hid (ArgsV 4 1 boolV l (.slice s n cap) wB.heap.size W.heap.size W∧.ok (⟨3,y.data.toList,[],[],[],l,4,[],zeroG⟩:ItemT) (k5+1)=OT):=Lib.hid (by
        obtain ⟨q1,_,q2⟩:=HC5.out.ok
        refine ⟨q1,?_⟩
        rw [show detO ts k5=.ok 4 (k5+1) by unfold detO;rw [if_neg (by rw [(isB_ok ts k5 _).symm.trans hd0];decide),if_neg (by rw [(isB_ok ts k5 _).symm.trans hd1];decide),if_neg (by rw [(isB_ok ts k5 _).symm.trans hd2];decide),if_pos hh]] at q2
        exact q2)
       have HCQ:Hid (Cont OT 0 (ArgsV 4 1 boolV l (.slice s n cap) wB.heap.size W.heap.size W∧.ok (⟨3,y.data.toList,[],[],[],l,4,[],zeroG⟩:ItemT) (k5+1)=OT)):=Lib.hid (.inl ⟨rfl,HQ.out⟩)
       clear hh HQ hd0 hd1 hd2
       go_wp2_with fail
       go_at_call 97
       refine HG.out.mono ?_
       rintro e w9y ⟨rfl,hp,hf⟩
       have HPy:=Lib.hid hp
       have HFy:=Lib.hid (HF8.out.trans hf)
       have hby:=(hf.block (w.heap.size+1) (by have:=HS8.out;have:=HWB.out;have:=HBXB.out;omega) (by have:=HBW.out;omega)).trans HB8.out
       have HZy:=Lib.hid (zero_pfr hf w.heap.size (by have:=HS8.out;have:=HWB.out;have:=HBXB.out;omega) (Nat.ne_of_gt HBW.out) HZ8.out)
       have HEy:Hid (∀ j,j < W.heap.size→j ≠ b→w9y.heap[j]?=W.heap[j]?):=Lib.hid (fun j j1 j2=>(hf.block j (by have:=HS8.out;omega) j2).trans (HE8.out j j1 j2))
       have HSy:Hid (W.heap.size≤w9y.heap.size):=Lib.hid (Nat.le_trans HS8.out hf.size)
       have dy:=(Lib.cell_of_heap hby 6).trans rfl
       have fy:=Lib.frozen_of_heap hby 6
       have HBy:Hid ((w9y.setCell ⟨w.heap.size+1,6,none⟩ (.int .i64 4)).heap[w.heap.size+1]?=some (.cells #[.int .i64 3,.string y,.slice none 0 0,.slice none 0 0,.slice none 0 0,.slice s n cap,.int .i64 4,.slice none 0 0,.int .i64 0,.int .i64 0,.string ⟨#[]⟩,.int .i64 0,.slice none 0 0,.int .i64 0,.string ⟨#[]⟩,.int .i64 0,.slice none 0 0,.string ⟨#[]⟩,.slice none 0 0,.slice none 0 0] 33 (0,0))):=Lib.hid (blk_put w9y (w.heap.size+1) 6 _ hby (by show 6 < 20;decide))
       have HRy:=Lib.hid (Rd.beside HP.out HFy.out HPy.out (N:=w.heap.size+1) (by omega) 6 (.int .i64 4))
       have HFz:=Lib.hid (HFy.out.putNew (N:=w.heap.size+1) (by omega) 6 (.int .i64 4))
       have HZz:=Lib.hid (zero_put (N:=w.heap.size+1) (i:=6) (v:=.int .i64 4) (by omega) HZy.out)
       have HEz:Hid (∀ j,j < W.heap.size→j ≠ b→j ≠ w.heap.size+1→(w9y.setCell ⟨w.heap.size+1,6,none⟩ (.int .i64 4)).heap[j]?=W.heap[j]?):=Lib.hid (fun j j1 j2 j3=>(Below.heap_setCell _ _ _ j j3).trans (HEy.out j j1 j2))
       have HSz:Hid (W.heap.size≤(w9y.setCell ⟨w.heap.size+1,6,none⟩ (.int .i64 4)).heap.size):=Lib.hid (by simpa [World.setCell] using HSy.out)
       clear hp hf hby HG
       go_upto_region 41 with fail
       clear dy fy
       generalize w9y.setCell ⟨w.heap.size+1,6,none⟩ (.int .i64 4)=Wz at HBy HRy HFz HZz HEz HSz ⊢
       refine wp_region_list ?_
       refine wpList_load_mid rfl 33 (.tmp 3) rfl (w.heap.size+1) 0 rfl _ _ (range_all HBy.out) Tryz.underlying33 rfl infoIt20 ?_
       refine wpList_store_mid rfl 33 (.tmp 2) (.tmp 157) rfl w.heap.size 0 #[.int .i64 3,.string y,.slice none 0 0,.slice none 0 0,.slice none 0 0,.slice s n cap,.int .i64 4,.slice none 0 0,.int .i64 0,.int .i64 0,.string ⟨#[]⟩,.int .i64 0,.slice none 0 0,.int .i64 0,.string ⟨#[]⟩,.int .i64 0,.slice none 0 0,.string ⟨#[]⟩,.slice none 0 0,.slice none 0 0] rfl rfl (show World.there _ w.heap.size 0 20 from there_all HZz.out) infoIt20 (by simp [Value.oneCell']) ?_
       obtain ⟨t0,t1,t2,t3⟩:=rputAll (C:=#[.int .i64 3,.string y,.slice none 0 0,.slice none 0 0,.slice none 0 0,.slice s n cap,.int .i64 4,.slice none 0 0,.int .i64 0,.int .i64 0,.string ⟨#[]⟩,.int .i64 0,.slice none 0 0,.int .i64 0,.string ⟨#[]⟩,.int .i64 0,.slice none 0 0,.string ⟨#[]⟩,.slice none 0 0,.slice none 0 0]) HP.out HFz.out HRy.out HZz.out rfl
       generalize World.setCells _ _ _ _=X at t0 t1 t2 t3 ⊢
       have T0:=Lib.hid t0
       have T1:=Lib.hid t1
       have T2:=Lib.hid t2
       have T3:=Lib.hid t3
       clear t0 t1 t2 t3
       go_wp2_with fail
       refine bodyPost_ret (v:=.agg #[.int .i64 3,.string y,.slice none 0 0,.slice none 0 0,.slice none 0 0,.slice s n cap,.int .i64 4,.slice none 0 0,.int .i64 0,.int .i64 0,.string ⟨#[]⟩,.int .i64 0,.slice none 0 0,.int .i64 0,.string ⟨#[]⟩,.int .i64 0,.slice none 0 0,.string ⟨#[]⟩,.slice none 0 0,.slice none 0 0]) (results_cell_row Tryz.results58 _ _ w.heap.size 33 #[.int .i64 3,.string y,.slice none 0 0,.slice none 0 0,.slice none 0 0,.slice s n cap,.int .i64 4,.slice none 0 0,.int .i64 0,.int .i64 0,.string ⟨#[]⟩,.int .i64 0,.slice none 0 0,.int .i64 0,.string ⟨#[]⟩,.int .i64 0,.slice none 0 0,.string ⟨#[]⟩,.slice none 0 0,.slice none 0 0] (0,0) _ rfl T0.out Tryz.underlying33 rfl infoIt20) rfl (rends_of HKY.out ⟨_,_,_,_,_,_,_,_,_,_,_,_,_,_,_,_,_,_,_,_,_,_,_,_,_,_,_,_,_,_,_,_,_,_,_,_,_,_,rfl⟩ T1.out T2.out (HCQ.out.imp (fun q=>?_)))
       obtain ⟨q1,q2⟩:=q
       refine ⟨_,?_,q2⟩
       have e2:=HBXB.out
       have e3:=HWB.out
       have e4:=HSz.out
       have e6:=HBW.out
       have e9:=T3.out.size
       have g4:=ArgsV.stable _ _ boolV.stable _ _ _ _ _ X q1 (fun j j1 j2=>(T3.out.block j (by omega)).trans (HEz.out j j2 (by omega) (by omega)))
       exact ⟨_,_,_,_,_,_,_,_,_,_,_,_,_,_,_,_,_,by rw [bs_data],.inl ⟨rfl,rfl⟩,.inl ⟨rfl,rfl⟩,.inl ⟨rfl,rfl⟩,g4.wide (by omega) (by omega),.inl ⟨rfl,rfl⟩,zeroG_holds _ _ _⟩
      | false =>
       have HG:=Lib.hid (rgot_not HWF.out ⟨#[110,111,110,100,101,116]⟩ kw_nondet HR8.out HK5.out hd3)
       go_wp2_with fail
       go_at_call 97
       refine HG.out.mono ?_
       rintro e w9 ⟨rfl,hp,hf⟩
       have HR9:=Lib.hid hp
       have HF9:=Lib.hid (HF8.out.trans hf)
       have HB9:=Lib.hid ((hf.block (w.heap.size+1) (by have:=HS8.out;have:=HWB.out;have:=HBXB.out;omega) (by have:=HBW.out;omega)).trans HB8.out)
       have HZ9:=Lib.hid (zero_pfr hf w.heap.size (by have:=HS8.out;have:=HWB.out;have:=HBXB.out;omega) (Nat.ne_of_gt HBW.out) HZ8.out)
       have HE9:Hid (∀ j,j < W.heap.size→j ≠ b→w9.heap[j]?=W.heap[j]?):=Lib.hid (fun j j1 j2=>(hf.block j (by have:=HS8.out;omega) j2).trans (HE8.out j j1 j2))
       have HS9:Hid (W.heap.size≤w9.heap.size):=Lib.hid (Nat.le_trans HS8.out hf.size)
       clear hp hf HG
       go_wp2_with fail
       go_at_call 57
       refine (rfail_any w9 b A c ts k5 er5 2 HR9.out (by decide) (by decide)).mono ?_
       rintro e w10 ⟨rfl,hp,hf⟩
       have HR10:=Lib.hid hp
       have HF10:=Lib.hid (HF9.out.trans hf)
       have HB10:=Lib.hid ((hf.block (w.heap.size+1) (by have:=HS9.out;have:=HWB.out;have:=HBXB.out;omega) (by have:=HBW.out;omega)).trans HB9.out)
       have HZ10:=Lib.hid (zero_pfr hf w.heap.size (by have:=HS9.out;have:=HWB.out;have:=HBXB.out;omega) (Nat.ne_of_gt HBW.out) HZ9.out)
       have HCE:Hid (Cont OT (failE er5 2) False):=Lib.hid (by
        rcases HC5.out with ⟨rfl,_,_,q2⟩ | ⟨i,rfl,rfl⟩
        ·rw [show detO ts k5=.no 2 by unfold detO;rw [if_neg (by rw [(isB_ok ts k5 _).symm.trans hd0];decide),if_neg (by rw [(isB_ok ts k5 _).symm.trans hd1];decide),if_neg (by rw [(isB_ok ts k5 _).symm.trans hd2];decide),if_neg (by rw [(isB_ok ts k5 _).symm.trans hd3];decide)]] at q2
         exact .inr ⟨2,rfl,q2.symm⟩
        ·exact .inr ⟨i,if_neg (erN_ne i),rfl⟩)
       clear hp hf hd0 hd1 hd2 hd3
       go_upto_region 41 with fail
       refine wp_region_list ?_
       refine wpList_load_mid rfl 33 (.tmp 3) rfl (w.heap.size+1) 0 rfl _ _ (range_all HB10.out) Tryz.underlying33 rfl infoIt20 ?_
       refine wpList_store_mid rfl 33 (.tmp 2) (.tmp 157) rfl w.heap.size 0 #[.int .i64 3,.string y,.slice none 0 0,.slice none 0 0,.slice none 0 0,.slice s n cap,.int .i64 0,.slice none 0 0,.int .i64 0,.int .i64 0,.string ⟨#[]⟩,.int .i64 0,.slice none 0 0,.int .i64 0,.string ⟨#[]⟩,.int .i64 0,.slice none 0 0,.string ⟨#[]⟩,.slice none 0 0,.slice none 0 0] rfl rfl (show World.there _ w.heap.size 0 20 from there_all HZ10.out) infoIt20 (by simp [Value.oneCell']) ?_
       obtain ⟨t0,t1,t2,t3⟩:=rputAll (C:=#[.int .i64 3,.string y,.slice none 0 0,.slice none 0 0,.slice none 0 0,.slice s n cap,.int .i64 0,.slice none 0 0,.int .i64 0,.int .i64 0,.string ⟨#[]⟩,.int .i64 0,.slice none 0 0,.int .i64 0,.string ⟨#[]⟩,.int .i64 0,.slice none 0 0,.string ⟨#[]⟩,.slice none 0 0,.slice none 0 0]) HP.out HF10.out HR10.out HZ10.out rfl
       generalize World.setCells _ _ _ _=X at t0 t1 t2 t3 ⊢
       have T0:=Lib.hid t0
       have T1:=Lib.hid t1
       have T2:=Lib.hid t2
       have T3:=Lib.hid t3
       clear t0 t1 t2 t3
       go_wp2_with fail
       refine bodyPost_ret (v:=.agg #[.int .i64 3,.string y,.slice none 0 0,.slice none 0 0,.slice none 0 0,.slice s n cap,.int .i64 0,.slice none 0 0,.int .i64 0,.int .i64 0,.string ⟨#[]⟩,.int .i64 0,.slice none 0 0,.int .i64 0,.string ⟨#[]⟩,.int .i64 0,.slice none 0 0,.string ⟨#[]⟩,.slice none 0 0,.slice none 0 0]) (results_cell_row Tryz.results58 _ _ w.heap.size 33 #[.int .i64 3,.string y,.slice none 0 0,.slice none 0 0,.slice none 0 0,.slice s n cap,.int .i64 0,.slice none 0 0,.int .i64 0,.int .i64 0,.string ⟨#[]⟩,.int .i64 0,.slice none 0 0,.int .i64 0,.string ⟨#[]⟩,.int .i64 0,.slice none 0 0,.string ⟨#[]⟩,.slice none 0 0,.slice none 0 0] (0,0) _ rfl T0.out Tryz.underlying33 rfl infoIt20) rfl (rends_of HK5.out ⟨_,_,_,_,_,_,_,_,_,_,_,_,_,_,_,_,_,_,_,_,_,_,_,_,_,_,_,_,_,_,_,_,_,_,_,_,_,_,rfl⟩ T1.out T2.out (HCE.out.imp (fun q=>?_)))
       exact q.elim
end Lx
end Go.Proofs.YtajomoclbpobhaaGreatDoor
