/- The reference: Compare of data. Conditions: as each states. -/
import Derived.Test.YtnpacamcgifabaaDoorDl
import Derived.Deep.RegionHeld
import Derived.Deep.Cut
namespace Go.Proofs.YtnpacamcgifabaaDoor
set_option linter.unusedSimpArgs false
set_option linter.unusedVariables false
namespace Lx
open Go Go.RowKit
def RCmpC (d:Nat):Prop:=∀ (Vol Vol2:Nat→Prop) (x y:DaT) (v1 v2:Value) (w:World),DaW d Vol x v1 w→DaW d Vol2 y v2 w→Calls Tryd.prog 45 #[v1,v2] w fun e w'=>e=.returned (.int .i64 (cmpD x y))∧Below w.heap.size w w'
set_option maxRecDepth 100000 in
set_option maxHeartbeats 4000000 in
theorem rcompare_step (d:Nat) (HC:Hid (RCmpC d)):RCmpC (d+1):=by
 rintro Vol Vol2 ⟨c,n,s,l⟩ ⟨c2,n2,s2,l2⟩ v1 v2 w ⟨va,rfl,hr⟩ ⟨va2,rfl,hr2⟩
 obtain ⟨A,k,rfl⟩:=hr.slice
 obtain ⟨A2,k2,rfl⟩:=hr2.slice
 have hf1:=hr.few
 have hf2:=hr2.few
 unfold maxLen at hf1 hf2
 have hb:=below_two w (.cells #[.bool c,.int .i64 n,.string s,.slice A l.length k] 68) (.cells #[.bool c2,.int .i64 n2,.string s2,.slice A2 l2.length k2] 68)
 have HB:=Lib.hid hb
 have HR:=Lib.hid ((RowW.step (DaW.step d)).below hr hb)
 have HR2:=Lib.hid ((RowW.step (DaW.step d)).below hr2 hb)
 have HX:=Lib.hid (TwoB.made w (.bool c) (.int .i64 n) (.string s) (.slice A l.length k) (.bool c2) (.int .i64 n2) (.string s2) (.slice A2 l2.length k2))
 clear hb hr hr2
 cases c
 ·cases c2
  ·by_cases h1:n < n2
   ·have hd:decide (n < n2)=true:=by simpa using h1
    have HE:Hid (cmpI n n2=-1):=Lib.hid (if_pos h1)
    go_enter Tryd.func45,Tryd.ntmps45
    have x0:=(cellH HX.out.one 0).trans rfl
    have x1:=(cellH HX.out.one 1).trans rfl
    have x2:=(cellH HX.out.one 2).trans rfl
    have x3:=(cellH HX.out.one 3).trans rfl
    have y0:=(cellH HX.out.two 0).trans rfl
    have y1:=(cellH HX.out.two 1).trans rfl
    have y2:=(cellH HX.out.two 2).trans rfl
    have y3:=(cellH HX.out.two 3).trans rfl
    go_wp2_with fail
    go_ret
    exact ⟨by rw [cmp_ff,HE.out];rfl,HB.out⟩
   ·have hd:decide (n < n2)=false:=by simpa using h1
    by_cases h2:n2 < n
    ·have hd2:decide (n2 < n)=true:=by simpa using h2
     have HE:Hid (cmpI n n2=1):=Lib.hid (by unfold cmpI;rw [if_neg h1,if_pos h2])
     go_enter Tryd.func45,Tryd.ntmps45
     have x0:=(cellH HX.out.one 0).trans rfl
     have x1:=(cellH HX.out.one 1).trans rfl
     have x2:=(cellH HX.out.one 2).trans rfl
     have x3:=(cellH HX.out.one 3).trans rfl
     have y0:=(cellH HX.out.two 0).trans rfl
     have y1:=(cellH HX.out.two 1).trans rfl
     have y2:=(cellH HX.out.two 2).trans rfl
     have y3:=(cellH HX.out.two 3).trans rfl
     go_wp2_with fail
     go_ret
     exact ⟨by rw [cmp_ff,HE.out];rfl,HB.out⟩
    ·have hd2:decide (n2 < n)=false:=by simpa using h2
     have HE:Hid (cmpI n n2=0):=Lib.hid (by unfold cmpI;rw [if_neg h1,if_neg h2])
     go_enter Tryd.func45,Tryd.ntmps45
     have x0:=(cellH HX.out.one 0).trans rfl
     have x1:=(cellH HX.out.one 1).trans rfl
     have x2:=(cellH HX.out.one 2).trans rfl
     have x3:=(cellH HX.out.one 3).trans rfl
     have y0:=(cellH HX.out.two 0).trans rfl
     have y1:=(cellH HX.out.two 1).trans rfl
     have y2:=(cellH HX.out.two 2).trans rfl
     have y3:=(cellH HX.out.two 3).trans rfl
     go_wp2_with fail
     go_ret
     exact ⟨by rw [cmp_ff,HE.out];rfl,HB.out⟩
  ·go_enter Tryd.func45,Tryd.ntmps45
   have x0:=(cellH HX.out.one 0).trans rfl
   have x1:=(cellH HX.out.one 1).trans rfl
   have x2:=(cellH HX.out.one 2).trans rfl
   have x3:=(cellH HX.out.one 3).trans rfl
   have y0:=(cellH HX.out.two 0).trans rfl
   have y1:=(cellH HX.out.two 1).trans rfl
   have y2:=(cellH HX.out.two 2).trans rfl
   have y3:=(cellH HX.out.two 3).trans rfl
   go_wp2_with fail
   go_ret
   exact ⟨by rw [cmp_ft];rfl,HB.out⟩
 ·cases c2
  ·go_enter Tryd.func45,Tryd.ntmps45
   have x0:=(cellH HX.out.one 0).trans rfl
   have x1:=(cellH HX.out.one 1).trans rfl
   have x2:=(cellH HX.out.one 2).trans rfl
   have x3:=(cellH HX.out.one 3).trans rfl
   have y0:=(cellH HX.out.two 0).trans rfl
   have y1:=(cellH HX.out.two 1).trans rfl
   have y2:=(cellH HX.out.two 2).trans rfl
   have y3:=(cellH HX.out.two 3).trans rfl
   go_wp2_with fail
   go_ret
   exact ⟨by rw [cmp_tf];rfl,HB.out⟩
  ·rcases cmpS_cases s s2 with ⟨hs,hlt,hgt,hne⟩ | ⟨hs,heq⟩ | ⟨hs,hgt,hlt,hne⟩
   ·have HS:=Lib.hid hs
    clear hgt hne hs
    go_enter Tryd.func45,Tryd.ntmps45
    have x0:=(cellH HX.out.one 0).trans rfl
    have x1:=(cellH HX.out.one 1).trans rfl
    have x2:=(cellH HX.out.one 2).trans rfl
    have x3:=(cellH HX.out.one 3).trans rfl
    have y0:=(cellH HX.out.two 0).trans rfl
    have y1:=(cellH HX.out.two 1).trans rfl
    have y2:=(cellH HX.out.two 2).trans rfl
    have y3:=(cellH HX.out.two 3).trans rfl
    go_wp2_with fail
    go_ret
    exact ⟨by rw [cmp_tt,HS.out];rfl,HB.out⟩
   ·have HS:=Lib.hid hs
    have hlt:Op.bytesLess s.toList s2.toList=false:=by rw [heq];exact less_irr _
    have heq:(s.toList == s2.toList)=true:=by rw [heq];exact beq_self_eq_true _
    have hirr:Op.bytesLess s2.toList s2.toList=false:=less_irr _
    clear hs
    by_cases hll:l.length < l2.length
    ·have hdl:decide (l.length < l2.length)=true:=by simpa using hll
     have HE:Hid (cmpI l.length l2.length=-1):=Lib.hid (if_pos (by omega))
     clear hll
     go_enter Tryd.func45,Tryd.ntmps45
     have x0:=(cellH HX.out.one 0).trans rfl
     have x1:=(cellH HX.out.one 1).trans rfl
     have x2:=(cellH HX.out.one 2).trans rfl
     have x3:=(cellH HX.out.one 3).trans rfl
     have y0:=(cellH HX.out.two 0).trans rfl
     have y1:=(cellH HX.out.two 1).trans rfl
     have y2:=(cellH HX.out.two 2).trans rfl
     have y3:=(cellH HX.out.two 3).trans rfl
     go_wp2_with fail
     go_ret
     exact ⟨by rw [cmp_tt,HS.out,lx_zero,HE.out];rfl,HB.out⟩
    ·by_cases hlg:l2.length < l.length
     ·have hdl:decide (l.length < l2.length)=false:=by simpa using hll
      have hdg:decide (l2.length < l.length)=true:=by simpa using hlg
      have HE:Hid (cmpI l.length l2.length=1):=Lib.hid (by unfold cmpI;rw [if_neg (by omega),if_pos (by omega)])
      clear hll hlg
      go_enter Tryd.func45,Tryd.ntmps45
      have x0:=(cellH HX.out.one 0).trans rfl
      have x1:=(cellH HX.out.one 1).trans rfl
      have x2:=(cellH HX.out.one 2).trans rfl
      have x3:=(cellH HX.out.one 3).trans rfl
      have y0:=(cellH HX.out.two 0).trans rfl
      have y1:=(cellH HX.out.two 1).trans rfl
      have y2:=(cellH HX.out.two 2).trans rfl
      have y3:=(cellH HX.out.two 3).trans rfl
      go_wp2_with fail
      go_ret
      exact ⟨by rw [cmp_tt,HS.out,lx_zero,HE.out];rfl,HB.out⟩
     ·have hl:l.length=l2.length:=by omega
      have hdl:decide (l.length < l2.length)=false:=by simp;omega
      have hdg:decide (l2.length < l.length)=false:=by simp;omega
      have HL:=Lib.hid hl
      clear hl hll hlg
      go_enter Tryd.func45,Tryd.ntmps45
      have x0:=(cellH HX.out.one 0).trans rfl
      have x1:=(cellH HX.out.one 1).trans rfl
      have x2:=(cellH HX.out.one 2).trans rfl
      have x3:=(cellH HX.out.one 3).trans rfl
      have y0:=(cellH HX.out.two 0).trans rfl
      have y1:=(cellH HX.out.two 1).trans rfl
      have y2:=(cellH HX.out.two 2).trans rfl
      have y3:=(cellH HX.out.two 3).trans rfl
      go_wp2_with fail
      clear x0 x1 x2 x3 y0 y1 y2 y3 hdl hdg hlt heq
      generalize hW:((w.alloc (.cells #[.bool true,.int .i64 n,.string s,.slice A l.length k] 68)).alloc (.cells #[.bool true,.int .i64 n2,.string s2,.slice A2 l2.length k2] 68))=W0 at HX HR HR2 HB ⊢
      clear hW
      generalize hX0:w.heap.size=X at HX ⊢
      have HX0:=Lib.hid hX0
      clear hX0
      go_loopw [71] (fun t wr=>∃ i:Nat,i≤l.length∧t=.int .i64 i∧Hid (cmpDs l l2=cmpDs (l.drop i) (l2.drop i))∧Hid (Below W0.heap.size W0 wr)) (fun t _=>l.length - (intOf t).toNat)
      case atStart=>exact ⟨0,Nat.zero_le _,rfl,Lib.hid rfl,Lib.hid (Below.refl _ _)⟩
      case round =>
       obtain ⟨i,hi,rfl,HD,HBR⟩:=hrel
       by_cases hlt:i < l.length
       ·have hlt2:i < l2.length:=by rw [← HL.out];exact hlt
        obtain ⟨g1,o1,u1,rfl,hg1,_,hv1,hc1⟩:=RowW.at ((RowW.step (DaW.step d)).below HR.out HBR.out) i hlt
        obtain ⟨g2,o2,u2,rfl,hg2,_,hv2,hc2⟩:=RowW.at ((RowW.step (DaW.step d)).below HR2.out HBR.out) i hlt2
        obtain ⟨B1,n1,m1,rfl⟩:=hv1.this
        obtain ⟨B2,n5,m2,rfl⟩:=hv2.this
        have a0:=(hc1 0 (by decide)).trans rfl
        have a1:=(hc1 1 (by decide)).trans rfl
        have a2:=(hc1 2 (by decide)).trans rfl
        have a3:=(hc1 3 (by decide)).trans rfl
        have b0:=(hc2 0 (by decide)).trans rfl
        have b1:=(hc2 1 (by decide)).trans rfl
        have b2:=(hc2 2 (by decide)).trans rfl
        have b3:=(hc2 3 (by decide)).trans rfl
        simp only [cellsL,Value.cells,List.getElem?_cons_zero,List.getElem?_cons_succ,Nat.add_zero] at a0 a1 a2 a3 b0 b1 b2 b3
        have hi0:(0:Int)≤(i:Int):=by omega
        have hi1:(i:Int) < (l.length:Int):=by omega
        have hi2:(i:Int) < (l2.length:Int):=by omega
        have hdc:decide (i < l.length)=true:=by simpa using hlt
        have hdc2:decide (i < l2.length)=true:=by simpa using hlt2
        have hdq:cmpDs l l2=lx (cmpD l[i] l2[i]) (cmpDs (l.drop (i+1)) (l2.drop (i+1))):=by
         rw [HD.out,List.drop_eq_getElem_cons hlt,List.drop_eq_getElem_cons hlt2,cmpDs]
        have HLT:=Lib.hid hlt
        generalize hxx:l[i]=x at hv1 a0 a1 a2 a3 hdq
        generalize hyy:l2[i]=y at hv2 b0 b1 b2 b3 hdq
        have HV1:=Lib.hid hv1
        have HV2:=Lib.hid hv2
        have HDQ:=Lib.hid hdq
        have HXR:=Lib.hid (HX.out.below HBR.out)
        have HCF:Hid (∀ W,Below wr.heap.size wr W→W.cell? ⟨X,3,none⟩=some (.slice (some ⟨g1,o1,none⟩) l.length k)∧W.cell? ⟨X+1,3,none⟩=some (.slice (some ⟨g2,o2,none⟩) l2.length k2)∧W.cell? ⟨g1,o1+i * 4,none⟩=some (.bool x.ctor)∧W.cell? ⟨g1,o1+i * 4+1,none⟩=some (.int .i64 x.int)∧W.cell? ⟨g1,o1+i * 4+2,none⟩=some (.string x.name)∧W.cell? ⟨g1,o1+i * 4+3,none⟩=some (.slice B1 n1 m1)∧W.cell? ⟨g2,o2+i * 4,none⟩=some (.bool y.ctor)∧W.cell? ⟨g2,o2+i * 4+1,none⟩=some (.int .i64 y.int)∧W.cell? ⟨g2,o2+i * 4+2,none⟩=some (.string y.name)∧W.cell? ⟨g2,o2+i * 4+3,none⟩=some (.slice B2 n5 m2)):=Lib.hid (fun W hb=>by
         have hx:=HXR.out.below hb
         exact ⟨(cellH hx.one 3).trans rfl,(cellH hx.two 3).trans rfl,(World.cell?_of_block (hb.block g1 hg1)).trans a0,(World.cell?_of_block (hb.block g1 hg1)).trans a1,(World.cell?_of_block (hb.block g1 hg1)).trans a2,(World.cell?_of_block (hb.block g1 hg1)).trans a3,(World.cell?_of_block (hb.block g2 hg2)).trans b0,(World.cell?_of_block (hb.block g2 hg2)).trans b1,(World.cell?_of_block (hb.block g2 hg2)).trans b2,(World.cell?_of_block (hb.block g2 hg2)).trans b3⟩)
        clear hv1 hv2 hdq hxx hyy a0 a1 a2 a3 b0 b1 b2 b3 hc1 hc2 hg1 hg2
        go_upto_region 18 with fail
        refine wp_region_held_drew (S:=fun W=>W.cell? ⟨X,3,none⟩=some (.slice (some ⟨g1,o1,none⟩) l.length k)∧W.cell? ⟨X+1,3,none⟩=some (.slice (some ⟨g2,o2,none⟩) l2.length k2)∧W.cell? ⟨g1,o1+i * 4,none⟩=some (.bool x.ctor)∧W.cell? ⟨g1,o1+i * 4+1,none⟩=some (.int .i64 x.int)∧W.cell? ⟨g1,o1+i * 4+2,none⟩=some (.string x.name)∧W.cell? ⟨g1,o1+i * 4+3,none⟩=some (.slice B1 n1 m1)∧W.cell? ⟨g2,o2+i * 4,none⟩=some (.bool y.ctor)∧W.cell? ⟨g2,o2+i * 4+1,none⟩=some (.int .i64 y.int)∧W.cell? ⟨g2,o2+i * 4+2,none⟩=some (.string y.name)∧W.cell? ⟨g2,o2+i * 4+3,none⟩=some (.slice B2 n5 m2)) (by kernel_rfl) (HCF.out _ (below_drw (Below.refl _ _))) (fun hHeld=>?_)
        have HBY:Hid (Below wr.heap.size wr wr.drew):=Lib.hid (below_drw (Below.refl _ _))
        generalize wr.drew=Y at hHeld HBY ⊢
        (refine wpAnyH_take (i:=0) (oi:=_) (v:=?_) rfl (by kernel_rfl) (by kernel_rfl) (by kernel_rfl) (fun _ _ _ h=>h) (Or.inl ⟨by kernel_rfl,?_⟩) (by assumption) ?_;rotate_left;(focus (intro w hSw;(try dsimp only at hSw);go_simp;(try with_reducible rfl);done));(try simp only [Act.put,List.setIfInBounds_toArray,List.set_cons_zero,List.set_cons_succ]))
        (refine wpAnyH_take (i:=1) (oi:=_) (v:=?_) rfl (by kernel_rfl) (by kernel_rfl) (by kernel_rfl) (fun _ _ _ h=>h) (Or.inl ⟨by kernel_rfl,?_⟩) (by assumption) ?_;rotate_left;(focus (intro w hSw;(try dsimp only at hSw);go_simp;(try with_reducible rfl);done));(try simp only [Act.put,List.setIfInBounds_toArray,List.set_cons_zero,List.set_cons_succ]))
        (refine wpAnyH_take (i:=2) (oi:=_) (v:=?_) rfl (by kernel_rfl) (by kernel_rfl) (by kernel_rfl) (fun _ _ _ h=>h) (Or.inl ⟨by kernel_rfl,?_⟩) (by assumption) ?_;rotate_left;(focus (intro w hSw;(try dsimp only at hSw);go_simp;(try with_reducible rfl);done));(try simp only [Act.put,List.setIfInBounds_toArray,List.set_cons_zero,List.set_cons_succ]))
        (refine wpAnyH_take (i:=3) (oi:=_) (v:=?_) rfl (by kernel_rfl) (by kernel_rfl) (by kernel_rfl) (fun _ _ _ h=>h) (Or.inl ⟨by kernel_rfl,?_⟩) (by assumption) ?_;rotate_left;(focus (intro w hSw;(try dsimp only at hSw);go_simp;(try with_reducible rfl);done));(try simp only [Act.put,List.setIfInBounds_toArray,List.set_cons_zero,List.set_cons_succ]))
        (refine wpAnyH_take (i:=4) (oi:=_) (v:=?_) rfl (by kernel_rfl) (by kernel_rfl) (by kernel_rfl) (fun _ _ _ h=>h) (Or.inl ⟨by kernel_rfl,?_⟩) (by assumption) ?_;rotate_left;(focus (intro w hSw;(try dsimp only at hSw);go_simp;(try with_reducible rfl);done));(try simp only [Act.put,List.setIfInBounds_toArray,List.set_cons_zero,List.set_cons_succ]))
        (refine wpAnyH_take (i:=5) (oi:=_) (v:=?_) rfl (by kernel_rfl) (by kernel_rfl) (by kernel_rfl) (fun _ _ _ h=>h) (Or.inl ⟨by kernel_rfl,?_⟩) (by assumption) ?_;rotate_left;(focus (intro w hSw;(try dsimp only at hSw);go_simp;(try with_reducible rfl);done));(try simp only [Act.put,List.setIfInBounds_toArray,List.set_cons_zero,List.set_cons_succ]))
        (refine wpAnyH_take (i:=6) (oi:=_) (v:=?_) rfl (by kernel_rfl) (by kernel_rfl) (by kernel_rfl) (fun _ _ _ h=>h) (Or.inl ⟨by kernel_rfl,?_⟩) (by assumption) ?_;rotate_left;(focus (intro w hSw;(try dsimp only at hSw);go_simp;(try with_reducible rfl);done));(try simp only [Act.put,List.setIfInBounds_toArray,List.set_cons_zero,List.set_cons_succ]))
        (refine wpAnyH_take (i:=7) (oi:=_) (v:=?_) rfl (by kernel_rfl) (by kernel_rfl) (by kernel_rfl) (fun _ _ _ h=>h) (Or.inl ⟨by kernel_rfl,?_⟩) (by assumption) ?_;rotate_left;(focus (intro w hSw;(try dsimp only at hSw);go_simp;(try with_reducible rfl);done));(try simp only [Act.put,List.setIfInBounds_toArray,List.set_cons_zero,List.set_cons_succ]))
        (refine wpAnyH_take (i:=8) (oi:=_) (v:=?_) rfl (by kernel_rfl) (by kernel_rfl) (by kernel_rfl) (fun _ _ _ h=>h) (Or.inl ⟨by kernel_rfl,?_⟩) (by assumption) ?_;rotate_left;(focus (intro w hSw;(try dsimp only at hSw);go_simp;(try with_reducible rfl);done));(try simp only [Act.put,List.setIfInBounds_toArray,List.set_cons_zero,List.set_cons_succ]))
        (refine wpAnyH_take (i:=9) (oi:=_) (v:=?_) rfl (by kernel_rfl) (by kernel_rfl) (by kernel_rfl) (fun _ _ _ h=>h) (Or.inl ⟨by kernel_rfl,?_⟩) (by assumption) ?_;rotate_left;(focus (intro w hSw;(try dsimp only at hSw);go_simp;(try with_reducible rfl);done));(try simp only [Act.put,List.setIfInBounds_toArray,List.set_cons_zero,List.set_cons_succ]))
        refine wpAnyH_ready (rs:=[10]) (by kernel_rfl) (by simp) ?_
        refine AllReadyH.cons (o:=_) rfl (fun K hK=>?_) AllReadyH.nil
        go_simp
        try go_at_call 45
        refine (HC.out Vol Vol2 x y _ _ Y ((DaW.step d).below HV1.out HBY.out) ((DaW.step d).below HV2.out HBY.out)).mono ?_
        rintro e Y2 ⟨rfl,hb2⟩
        have HBY2:=Lib.hid (HBY.out.trans (hb2.mono HBY.out.size))
        clear hb2
        go_simp
        refine hK.out _ _ (HCF.out _ HBY2.out) (fun hHeld=>?_)
        clear hK K
        try simp only [Act.put,List.setIfInBounds_toArray,List.set_cons_zero,List.set_cons_succ]
        refine wpAnyH_ready (rs:=[11]) (by kernel_rfl) (by simp) ?_
        refine AllReadyH.cons (o:=_) rfl (fun K hK=>?_) AllReadyH.nil
        go_simp
        refine hK.out _ _ (HCF.out _ HBY2.out) (fun hHeld=>?_)
        clear hK K
        try simp only [Act.put,List.setIfInBounds_toArray,List.set_cons_zero,List.set_cons_succ]
        refine wpAnyH_done (by kernel_rfl) ?_ _
        have HB3:=Lib.hid (HBR.out.trans (HBY2.out.mono HBR.out.size))
        by_cases hz:cmpD x y=0
        ·have HQ:Hid (cmpDs l l2=cmpDs (l.drop (i+1)) (l2.drop (i+1))):=Lib.hid (by rw [HDQ.out,lx,if_pos hz])
         rw [hz]
         go_wp2_with fail
         go_roundw
         case rel=>exact ⟨i+1,by have:=HLT.out;omega,by go_num,HQ,HB3⟩
         case measure=>have:=HLT.out;simp [intOf];omega
        ·have HQ:Hid (cmpDs l l2=cmpD x y):=Lib.hid (by rw [HDQ.out,lx,if_neg hz])
         generalize cmpD x y=q at hz HQ ⊢
         have hq1:(q != 0)=true:=by simpa using hz
         have hq2:(q == 0)=false:=by simpa using hz
         go_wp2_with fail
         go_ret
         exact ⟨by rw [cmp_tt,HS.out,lx_zero,HL.out,cmpI_self,lx_zero,HQ.out];rfl,HB.out.trans (HB3.out.mono HB.out.size)⟩
       ·obtain rfl:i=l.length:=by omega
        have hdc:decide (l.length < l.length)=false:=by simp
        have HQ:Hid (cmpDs l l2=0):=Lib.hid (by rw [HD.out,List.drop_length,cmpDs])
        go_wp2_with fail
        go_ret
        exact ⟨by rw [cmp_tt,HS.out,lx_zero,HL.out,cmpI_self,lx_zero,HQ.out];rfl,HB.out.trans (HBR.out.mono HB.out.size)⟩
   ·have HS:=Lib.hid hs
    have heq:(s.toList == s2.toList)=false:=beq_eq_false_iff_ne.2 hne
    clear hgt hne hs
    go_enter Tryd.func45,Tryd.ntmps45
    have x0:=(cellH HX.out.one 0).trans rfl
    have x1:=(cellH HX.out.one 1).trans rfl
    have x2:=(cellH HX.out.one 2).trans rfl
    have x3:=(cellH HX.out.one 3).trans rfl
    have y0:=(cellH HX.out.two 0).trans rfl
    have y1:=(cellH HX.out.two 1).trans rfl
    have y2:=(cellH HX.out.two 2).trans rfl
    have y3:=(cellH HX.out.two 3).trans rfl
    go_wp2_with fail
    go_ret
    exact ⟨by rw [cmp_tt,HS.out];rfl,HB.out⟩
theorem rcompare_any:∀ d,RCmpC d
 | 0=>fun _ _ _ _ _ _ _ h _=>h.elim
 | d+1=>rcompare_step d (Lib.hid (rcompare_any d))
end Lx
end Go.Proofs.YtnpacamcgifabaaDoor
