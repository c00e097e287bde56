/- The walk of the statement UnifyForms: it returns true. Conditions: the error variables hold their errors; the types and declared types are ones that memory holds, of bounded size, their texts too; the table of the powers of ten lies as the library's text lays it. -/
import Derived.Test.YtnpacamcgifabaaDoorZxT
import Derived.Test.YtnpacamcgifabaaDoorZxO
import Derived.Test.YtnpacamcgifabaaDoorUs
import Derived.Test.YtnpacamcgifabaaDoorZxA
import Derived.Deep.RegionHeld3
import Derived.BigQuiet
namespace Go.Proofs.YtnpacamcgifabaaDoor
set_option linter.unusedSimpArgs false
set_option linter.unusedVariables false
namespace Lx
open Go Go.RowKit
set_option maxRecDepth 100000 in
set_option maxHeartbeats 20000000 in
theorem lawForms_any (f:Nat→Addr) (d0 d1:Nat) (l:List TyT) (xs:List ExT) (vl vx:Value) (w:World) (hl:RowW 4 (TyW d0) (fun _=>False) l vl w) (hx:RowW 3 (ExW d1) (fun _=>False) xs vx w)
  (hfew:∀ (i:Nat) (h:i < l.length),fewT l[i]) (hwf:wfTs l) (hsz:sizeTs l≤2000000) (htx:∀ (i:Nat) (h:i < l.length),(txT l[i]).length≤40000000) (hnm:∀ n ∈ nmEs xs,n.size≤maxLen) (hse:sizeEs xs≤2000000) (he:ErrU f w)
  (ht : Lib.TabBelow Tryd.prog w.heap.size w "internal/strconv.uint64pow10" .u64 Lib.pow10Tab) :
  Calls Tryd.prog 4 #[vl,vx] w fun e w'=>e=.returned (.bool true)∧Below w.heap.size w w':=by
 obtain ⟨A0,c0,rfl⟩:=hl.slice
 obtain ⟨A1,c1,rfl⟩:=hx.slice
 have hf0:=hl.few
 have hf1:=hx.few
 unfold maxLen at hf0 hf1
 have HL:=Lib.hid hl
 have HX:=Lib.hid hx
 have HFEW:=Lib.hid hfew
 have HWF:=Lib.hid hwf
 have HSZ:=Lib.hid hsz
 have HTX:=Lib.hid htx
 have HNM:=Lib.hid hnm
 have HSE:=Lib.hid hse
 have HTB:=Lib.hid ht
 have HAL:=Lib.hid (alive_any f w he)
 obtain ⟨D,hD⟩:∃ D,ds [] (nmEs xs)=D:=⟨_,rfl⟩
 have HDN:Hid D.Nodup:=Lib.hid (hD ▸ ds_nodup _ _ List.nodup_nil)
 have HDS:Hid (∀ n ∈ D,n.size≤maxLen):=Lib.hid (fun n hn=>hnm n ((ds_mem_iff _ _).1 (by rw [hD];exact hn)))
 have hDl:D.length≤2000000:=by
  have h1:=ds_few (nmEs xs) []
  have h2:=nmEs_few xs
  rw [hD] at h1
  simp only [List.length_nil] at h1
  omega
 have HDE:=Lib.hid hD
 have HDL:=Lib.hid hDl
 clear hl hx hfew hwf hsz htx hnm hse ht he hD
 go_enter Tryd.func4,Tryd.ntmps4
 go_wp2_with fail
 refine HAL.out.mono ?_
 rintro e w1 ⟨rfl,hb1⟩
 have HB1:=Lib.hid hb1
 clear hb1 HAL
 go_wp2_with fail
 try go_at_call 24
 refine (names_any d1 (fun _=>False) xs _ w1 ((RowW.step (ExW.step d1)).below HX.out HB1.out) HNM.out HSE.out).mono ?_
 rintro e w2 ⟨v2,rfl,ho2,hb2⟩
 rw [HDE.out] at ho2
 have HO2:=Lib.hid ho2
 have HB2:=Lib.hid (HB1.out.trans (hb2.mono HB1.out.size))
 clear ho2 hb2
 obtain ⟨A2,c2,hs2⟩:=HO2.out.shape
 subst hs2
 go_wp2_with fail
 try go_at_call 25
 refine (rnames_any d1 (fun _=>False) xs _ w2 ((RowW.step (ExW.step d1)).below HX.out HB2.out) HSE.out).mono ?_
 rintro e w3 ⟨v3,rfl,ho3,hb3⟩
 rw [HDE.out] at ho3
 have HO2:=Lib.hid (HO2.out.below hb3)
 have HO3:=Lib.hid ho3
 have HB3:=Lib.hid (HB2.out.trans (hb3.mono HB2.out.size))
 clear ho3 hb3
 obtain ⟨A3,c3,hs3⟩:=HO3.out.shape
 subst hs3
 have hmm:=@run_makeMap Tryd.prog
 have hnn:(((D.length:Nat):Int) != ((D.length:Nat):Int))=false:=by simp
 have HK0:Hid (KnS w3.heap.size w3.heap.size w3 [] _ _ _):=Lib.hid (KnS.start w3)
 go_wp2_with fail
 clear hmm hnn
 generalize hW0:(((w3.alloc (.map #[] 0)).alloc (.cells #[] 9)).alloc (.cells #[] 32))=W0 at HK0 ⊢
 clear hW0
 obtain ⟨q,hq⟩:=RowW.pick HL.out
 have HQ:=Lib.hid hq
 clear hq
 go_loopw [8,9,31] (fun u1 u2 t W=>∃ (i:Nat) (s1 s2:Value),i≤D.length∧t=.int .i64 i∧s1=u1∧s2=u2∧Hid (KnS w3.heap.size w3.heap.size w3 (entF D l q i) s1 s2 W)) (fun _ _ t _=>D.length - (intOf t).toNat)
 case atStart=>exact ⟨0,_,_,Nat.zero_le _,rfl,rfl,rfl,by rw [entF_zero];exact HK0⟩
 case round =>
  obtain ⟨i,s1,s2,hi,rfl,rfl,rfl,HK⟩:=hrel
  clear HK0
  by_cases hlt:i < D.length
  ·have HLOW:=Lib.hid HK.out.low
   obtain ⟨b2,o2,u2,rfl,hb2l,_,hu2,hc2⟩:=RowW.at (HO2.out.row (Vol:=fun _=>False) (fun _ e=>e.elim)) i hlt
   obtain rfl:u2=.string D[i]:=hu2
   obtain ⟨b3,o3,u3,rfl,hb3l,_,hu3,hc3⟩:=RowW.at (HO3.out.row (Vol:=fun _=>False) (fun _ e=>e.elim)) i hlt
   obtain rfl:u3=.string D[i]:=hu3
   have q2:=(hc2 0 (by decide)).trans rfl
   have q3:=(hc3 0 (by decide)).trans rfl
   simp only [cellsL,Value.cells,List.getElem?_cons_zero,Nat.add_zero,Nat.mul_one] at q2 q3
   have hnew:=entF_new (l:=l) (q:=q) HDN.out hlt
   have hns:=HDS.out _ (List.getElem_mem hlt)
   have hmo:=fun (hli:i < l.length)=>entF_more (q:=q) hli hlt
   have HLT:=Lib.hid hlt
   generalize hnn:D[i]=nn at q2 q3 hnew hns hmo
   clear hnn hc2 hc3
   have HN3:=Lib.hid q3
   have HL3:=Lib.hid hb3l
   have p2:=cell_low HLOW.out hb2l q2
   have p3:=cell_low HLOW.out hb3l q3
   have hi0:(0:Int)≤(i:Int):=by omega
   have hi1:(i:Int) < (D.length:Int):=by omega
   have hdc:decide (i < D.length)=true:=by simpa using hlt
   have hne:(!(nn.toList == nn.toList))=false:=bneself
   have HNEW:=Lib.hid hnew
   have HNS:=Lib.hid hns
   clear q2 q3 hnew hns hlt
   by_cases hli:i < l.length
   ·obtain ⟨b0,o0,rfl,hb0l,_,hty,hc0⟩:=HQ.out i hli
    have HES:=Lib.hid (hmo hli)
    generalize hqv:q i=vi at hty hc0 HES
    obtain ⟨Aq,lq,cq,rfl⟩:=hty.this
    generalize hxx:l[i]=x at hty hc0 HES
    have a0:=(hc0 0 (by decide)).trans rfl
    have a1:=(hc0 1 (by decide)).trans rfl
    have a2:=(hc0 2 (by decide)).trans rfl
    have a3:=(hc0 3 (by decide)).trans rfl
    simp only [cellsL,Value.cells,List.getElem?_cons_zero,List.getElem?_cons_succ,Nat.add_zero] at a0 a1 a2 a3
    have HCF:Hid (∀ W,Below w3.heap.size w3 W→W.cell? ⟨b3,o3+i,none⟩=some (.string nn)∧W.cell? ⟨b0,o0+i * 4,none⟩=some (.int .i64 x.kind)∧W.cell? ⟨b0,o0+i * 4+1,none⟩=some (.string x.name)∧W.cell? ⟨b0,o0+i * 4+2,none⟩=some (.int .i64 x.var)∧W.cell? ⟨b0,o0+i * 4+3,none⟩=some (.slice Aq lq cq)):=Lib.hid (fun W hb=>by
     have hb':=HB3.out.trans (hb.mono HB3.out.size)
     exact ⟨cell_low hb HL3.out HN3.out,cell_low hb' hb0l a0,cell_low hb' hb0l a1,cell_low hb' hb0l a2,cell_low hb' hb0l a3⟩)
    have hd0:decide (i < l.length)=true:=by simpa using hli
    have hi2:(i:Int) < (l.length:Int):=by omega
    clear a0 a1 a2 a3 hc0 hty hqv hxx hmo hb0l
    go_wp2_with fail
    go_quiet (fail)
    have HKQ:=Lib.hid (HK.out.below (below_drewN (Below.refl _ _) nq))
    generalize wr.drewN nq=X at HKQ ⊢
    clear p2 p3 hne hdc
    go_upto_region 15 with fail
    refine wp_region_held_drew (S:=fun W=>W.cell? ⟨b3,o3+i,none⟩=some (.string nn)∧W.cell? ⟨b0,o0+i * 4,none⟩=some (.int .i64 x.kind)∧W.cell? ⟨b0,o0+i * 4+1,none⟩=some (.string x.name)∧W.cell? ⟨b0,o0+i * 4+2,none⟩=some (.int .i64 x.var)∧W.cell? ⟨b0,o0+i * 4+3,none⟩=some (.slice Aq lq cq)) (by kernel_rfl) (HCF.out _ (below_drw HKQ.out.low)) (fun hHeld=>?_)
    have HR:=Lib.hid (HKQ.out.below (below_drw (Below.refl _ _)))
    generalize X.drew=Y at hHeld HR ⊢
    obtain ⟨Y0,hput,hmp,hkp⟩:=runPutV (.agg #[.int .i64 x.kind,.string x.name,.int .i64 x.var,.slice Aq lq cq]) HR.out.map HNS.out (entFM_in HNEW.out)
    have HR0:=Lib.hid (HR.out.put hkp hmp)
    clear hmp hkp
    (refine wpAnyH_take (i:=0) (oi:=_) (v:=?_) rfl (by kernel_rfl) (by kernel_rfl) (by kernel_rfl) (fun _ _ _ h=>h) (Or.inl ⟨by kernel_rfl,?_⟩) (by assumption) ?_;rotate_left;(focus (intro w hSw;(try dsimp only at hSw);go_simp;(try with_reducible rfl);done));(try simp only [Act.put,List.setIfInBounds_toArray,List.set_cons_zero,List.set_cons_succ]))
    (refine wpAnyH_take (i:=1) (oi:=_) (v:=?_) rfl (by kernel_rfl) (by kernel_rfl) (by kernel_rfl) (fun _ _ _ h=>h) (Or.inl ⟨by kernel_rfl,?_⟩) (by assumption) ?_;rotate_left;(focus (intro w hSw;(try dsimp only at hSw);go_simp;(try with_reducible rfl);done));(try simp only [Act.put,List.setIfInBounds_toArray,List.set_cons_zero,List.set_cons_succ]))
    (refine wpAnyH_take (i:=2) (oi:=_) (v:=?_) rfl (by kernel_rfl) (by kernel_rfl) (by kernel_rfl) (fun _ _ _ h=>h) (Or.inl ⟨by kernel_rfl,?_⟩) (by assumption) ?_;rotate_left;(focus (intro w hSw;(try dsimp only at hSw);go_simp;(try with_reducible rfl);done));(try simp only [Act.put,List.setIfInBounds_toArray,List.set_cons_zero,List.set_cons_succ]))
    (refine wpAnyH_take (i:=3) (oi:=_) (v:=?_) rfl (by kernel_rfl) (by kernel_rfl) (by kernel_rfl) (fun _ _ _ h=>h) (Or.inl ⟨by kernel_rfl,?_⟩) (by assumption) ?_;rotate_left;(focus (intro w hSw;(try dsimp only at hSw);go_simp;(try with_reducible rfl);done));(try simp only [Act.put,List.setIfInBounds_toArray,List.set_cons_zero,List.set_cons_succ]))
    (refine wpAnyH_take (i:=4) (oi:=_) (v:=?_) rfl (by kernel_rfl) (by kernel_rfl) (by kernel_rfl) (fun _ _ _ h=>h) (Or.inl ⟨by kernel_rfl,?_⟩) (by assumption) ?_;rotate_left;(focus (intro w hSw;(try dsimp only at hSw);go_simp;(try with_reducible rfl);done));(try simp only [Act.put,List.setIfInBounds_toArray,List.set_cons_zero,List.set_cons_succ]))
    (refine wpAnyH_take (i:=5) (oi:=_) (v:=?_) rfl (by kernel_rfl) (by kernel_rfl) (by kernel_rfl) (fun _ _ _ h=>h) (Or.inl ⟨by kernel_rfl,?_⟩) (by assumption) ?_;rotate_left;(focus (intro w hSw;(try dsimp only at hSw);go_simp;(try with_reducible rfl);done));(try simp only [Act.put,List.setIfInBounds_toArray,List.set_cons_zero,List.set_cons_succ]))
    (refine wpAnyH_take (i:=6) (oi:=_) (v:=?_) rfl (by kernel_rfl) (by kernel_rfl) (by kernel_rfl) (fun _ _ _ h=>h) (Or.inl ⟨by kernel_rfl,?_⟩) (by assumption) ?_;rotate_left;(focus (intro w hSw;(try dsimp only at hSw);go_simp;(try with_reducible rfl);done));(try simp only [Act.put,List.setIfInBounds_toArray,List.set_cons_zero,List.set_cons_succ]))
    (refine wpAnyH_take (i:=7) (oi:=_) (v:=?_) rfl (by kernel_rfl) (by kernel_rfl) (by kernel_rfl) (fun _ _ _ h=>h) (Or.inl ⟨by kernel_rfl,?_⟩) (by assumption) ?_;rotate_left;(focus (intro w hSw;(try dsimp only at hSw);go_simp;(try with_reducible rfl);done));(try simp only [Act.put,List.setIfInBounds_toArray,List.set_cons_zero,List.set_cons_succ]))
    (refine wpAnyH_take (i:=8) (oi:=_) (v:=?_) rfl (by kernel_rfl) (by kernel_rfl) (by kernel_rfl) (fun _ _ _ h=>h) (Or.inl ⟨by kernel_rfl,?_⟩) (by assumption) ?_;rotate_left;(focus (intro w hSw;(try dsimp only at hSw);go_simp;(try with_reducible rfl);done));(try simp only [Act.put,List.setIfInBounds_toArray,List.set_cons_zero,List.set_cons_succ]))
    refine wpAnyH_ready (rs:=[9]) (by kernel_rfl) (by simp) ?_
    refine AllReadyH.cons (o:=_) rfl (fun K hK=>?_) AllReadyH.nil
    go_simp
    clear hput HR
    have HR:=HR0
    clear HR0
    refine hK.out _ _ (HCF.out _ HR.out.low) (fun hHeld=>?_)
    clear hK K
    try simp only [Act.put,List.setIfInBounds_toArray,List.set_cons_zero,List.set_cons_succ]
    refine wpAnyH_done (by kernel_rfl) ?_ _
    go_upto_region 16 with fail
    refine wp_region_held_drew (S:=fun W=>W.cell? ⟨b3,o3+i,none⟩=some (.string nn)∧W.cell? ⟨b0,o0+i * 4,none⟩=some (.int .i64 x.kind)∧W.cell? ⟨b0,o0+i * 4+1,none⟩=some (.string x.name)∧W.cell? ⟨b0,o0+i * 4+2,none⟩=some (.int .i64 x.var)∧W.cell? ⟨b0,o0+i * 4+3,none⟩=some (.slice Aq lq cq)) (by kernel_rfl) (HCF.out _ (below_drw HR.out.low)) (fun hHeld=>?_)
    have HR:=Lib.hid (HR.out.below (below_drw (Below.refl _ _)))
    generalize Y0.drew=Y1 at hHeld HR ⊢
    obtain ⟨Z,hZ⟩:∃ Z,Z=Y1.heap.size:=⟨_,rfl⟩
    have HZ:Hid (Z≤Y1.heap.size):=Lib.hid (Nat.le_of_eq hZ)
    have HOV:Hid (∀ k,s1.ownBlock=some k→k < Z):=Lib.hid (fun k e=>by rw [hZ];exact (HR.out.names.lt k e).2)
    have HOU:Hid (∀ k,s2.ownBlock=some k→k < Z):=Lib.hid (fun k e=>by rw [hZ];exact (HR.out.types.lt k e).2)
    clear hZ
    (refine wpAnyH_take (i:=0) (oi:=_) (v:=?_) rfl (by kernel_rfl) (by kernel_rfl) (by kernel_rfl) (fun _ _ _ h=>h) (Or.inl ⟨by kernel_rfl,?_⟩) (by assumption) ?_;rotate_left;(focus (intro w hSw;(try dsimp only at hSw);go_simp;(try with_reducible rfl);done));(try simp only [Act.put,List.setIfInBounds_toArray,List.set_cons_zero,List.set_cons_succ]))
    (refine wpAnyH_take (i:=1) (oi:=_) (v:=?_) rfl (by kernel_rfl) (by kernel_rfl) (by kernel_rfl) (fun _ _ _ h=>h) (Or.inl ⟨by kernel_rfl,?_⟩) (by assumption) ?_;rotate_left;(focus (intro w hSw;(try dsimp only at hSw);go_simp;(try with_reducible rfl);done));(try simp only [Act.put,List.setIfInBounds_toArray,List.set_cons_zero,List.set_cons_succ]))
    (refine wpAnyH_take (i:=2) (oi:=_) (v:=?_) rfl (by kernel_rfl) (by kernel_rfl) (by kernel_rfl) (fun _ _ _ h=>h) (Or.inl ⟨by kernel_rfl,?_⟩) (by assumption) ?_;rotate_left;(focus (intro w hSw;(try dsimp only at hSw);go_simp;(try with_reducible rfl);done));(try simp only [Act.put,List.setIfInBounds_toArray,List.set_cons_zero,List.set_cons_succ]))
    (refine wpAnyH_take (i:=3) (oi:=_) (v:=?_) rfl (by kernel_rfl) (by kernel_rfl) (by kernel_rfl) (fun _ _ _ h=>h) (Or.inl ⟨by kernel_rfl,?_⟩) (by assumption) ?_;rotate_left;(focus (intro w hSw;(try dsimp only at hSw);go_simp;(try with_reducible rfl);done));(try simp only [Act.put,List.setIfInBounds_toArray,List.set_cons_zero,List.set_cons_succ]))
    (refine wpAnyH_take (i:=4) (oi:=_) (v:=?_) rfl (by kernel_rfl) (by kernel_rfl) (by kernel_rfl) (fun _ _ _ h=>h) (Or.inl ⟨by kernel_rfl,?_⟩) (by assumption) ?_;rotate_left;(focus (intro w hSw;(try dsimp only at hSw);go_simp;(try with_reducible rfl);done));(try simp only [Act.put,List.setIfInBounds_toArray,List.set_cons_zero,List.set_cons_succ]))
    (refine wpAnyH_take (i:=7) (oi:=_) (v:=?_) rfl (by kernel_rfl) (by kernel_rfl) (by kernel_rfl) (fun _ _ _ h=>h) (Or.inl ⟨by kernel_rfl,?_⟩) (by assumption) ?_;rotate_left;(focus (intro w hSw;(try dsimp only at hSw);go_simp;(try with_reducible rfl);done));(try simp only [Act.put,List.setIfInBounds_toArray,List.set_cons_zero,List.set_cons_succ]))
    (refine wpAnyH_take (i:=8) (oi:=_) (v:=?_) rfl (by kernel_rfl) (by kernel_rfl) (by kernel_rfl) (fun _ _ _ h=>h) (Or.inl ⟨by kernel_rfl,?_⟩) (by assumption) ?_;rotate_left;(focus (intro w hSw;(try dsimp only at hSw);go_simp;(try with_reducible rfl);done));(try simp only [Act.put,List.setIfInBounds_toArray,List.set_cons_zero,List.set_cons_succ]))
    (refine wpAnyH_take (i:=9) (oi:=_) (v:=?_) rfl (by kernel_rfl) (by kernel_rfl) (by kernel_rfl) (fun _ _ _ h=>h) (Or.inl ⟨by kernel_rfl,?_⟩) (by assumption) ?_;rotate_left;(focus (intro w hSw;(try dsimp only at hSw);go_simp;(try with_reducible rfl);done));(try simp only [Act.put,List.setIfInBounds_toArray,List.set_cons_zero,List.set_cons_succ]))
    (refine wpAnyH_take (i:=10) (oi:=_) (v:=?_) rfl (by kernel_rfl) (by kernel_rfl) (by kernel_rfl) (fun _ _ _ h=>h) (Or.inl ⟨by kernel_rfl,?_⟩) (by assumption) ?_;rotate_left;(focus (intro w hSw;(try dsimp only at hSw);go_simp;(try with_reducible rfl);done));(try simp only [Act.put,List.setIfInBounds_toArray,List.set_cons_zero,List.set_cons_succ]))
    (refine wpAnyH_take (i:=11) (oi:=_) (v:=?_) rfl (by kernel_rfl) (by kernel_rfl) (by kernel_rfl) (fun _ _ _ h=>h) (Or.inl ⟨by kernel_rfl,?_⟩) (by assumption) ?_;rotate_left;(focus (intro w hSw;(try dsimp only at hSw);go_simp;(try with_reducible rfl);done));(try simp only [Act.put,List.setIfInBounds_toArray,List.set_cons_zero,List.set_cons_succ]))
    refine wpAnyH_ready (rs:=[5,12]) (by kernel_rfl) (by simp) ?_
    refine (AllReadyH.cons (o:=_) rfl (fun K hK=>?_) (AllReadyH.cons (o:=_) rfl (fun K hK=>?_) AllReadyH.nil))
    ·go_simp
     have hbl:=below_alloc Y1 (.cells #[.string nn] 9)
     have HT1:Hid (TmpB Z Y1.heap.size (.cells #[.string nn] 9 (0,0)) _):=Lib.hid ⟨heap_alloc_new Y1 (.cells #[.string nn] 9),HZ.out⟩
     have HR:=Lib.hid (HR.out.below hbl)
     have HZ:=Lib.hid (Nat.le_trans HZ.out hbl.size)
     generalize (Y1.alloc (.cells #[.string nn] 9))=V1 at HR HT1 HZ hbl ⊢
     clear hbl
     generalize Y1.heap.size=t1 at HT1 ⊢
     refine hK.out _ _ (HCF.out _ HR.out.low) (fun hHeld=>?_)
     clear hK K
     try simp only [Act.put,List.setIfInBounds_toArray,List.set_cons_zero,List.set_cons_succ]
     refine wpAnyH_ready (rs:=[6,12]) (by kernel_rfl) (by simp) ?_
     refine (AllReadyH.cons (o:=_) rfl (fun K hK=>?_) (AllReadyH.cons (o:=_) rfl (fun K hK=>?_) AllReadyH.nil))
     ·refine step_str rfl (.tmp 56) (.tmp 61) rfl w3.heap.size s1 _ (by kernel_rfl) HR.out.names t1 nn (by kernel_rfl) HT1.out.blk (by rw [entFN_len,entF_len];have:=HDL.out;omega) HR.out.szB ?_
      intro v1 V2 hown1 hgrow1
      have HZ:=Lib.hid (Nat.le_trans HZ.out hgrow1.size)
      have HR:=Lib.hid (HR.out.addN hgrow1 hown1)
      clear hown1 hgrow1 HT1
      refine hK.out _ _ (HCF.out _ HR.out.low) (fun hHeld=>?_)
      clear hK K
      try simp only [Act.put,List.setIfInBounds_toArray,List.set_cons_zero,List.set_cons_succ]
      refine wpAnyH_ready (rs:=[12]) (by kernel_rfl) (by simp) ?_
      refine (AllReadyH.cons (o:=_) rfl (fun K hK=>?_) AllReadyH.nil)
      go_simp
      have hbl:=below_alloc V2 (.cells #[.int .i64 x.kind,.string x.name,.int .i64 x.var,.slice Aq lq cq] 32)
      have HT2:Hid (TmpB Z V2.heap.size (.cells #[.int .i64 x.kind,.string x.name,.int .i64 x.var,.slice Aq lq cq] 32 (0,0)) _):=Lib.hid ⟨heap_alloc_new V2 (.cells #[.int .i64 x.kind,.string x.name,.int .i64 x.var,.slice Aq lq cq] 32),HZ.out⟩
      have HR:=Lib.hid (HR.out.below hbl)
      have HZ:=Lib.hid (Nat.le_trans HZ.out hbl.size)
      generalize (V2.alloc (.cells #[.int .i64 x.kind,.string x.name,.int .i64 x.var,.slice Aq lq cq] 32))=V3 at HR HT2 HZ hbl ⊢
      clear hbl
      generalize V2.heap.size=t2 at HT2 ⊢
      refine hK.out _ _ (HCF.out _ HR.out.low) (fun hHeld=>?_)
      clear hK K
      try simp only [Act.put,List.setIfInBounds_toArray,List.set_cons_zero,List.set_cons_succ]
      refine wpAnyH_ready (rs:=[13]) (by kernel_rfl) (by simp) ?_
      refine (AllReadyH.cons (o:=_) rfl (fun K hK=>?_) AllReadyH.nil)
      refine step_tyI rfl (.tmp 63) (.tmp 68) rfl w3.heap.size s2 _ _ (by kernel_rfl) HR.out.types t2 x.kind x.var x.name Aq lq cq (by kernel_rfl) HT2.out.blk (by rw [entF_len];have:=HDL.out;omega) HR.out.szB ?_
      intro g2 c2' V4 hown2 hgrow2 hat2
      have HZ:=Lib.hid (Nat.le_trans HZ.out hgrow2.size)
      have HR:=Lib.hid (HR.out.addT hgrow2 hown2)
      clear hown2 hgrow2 hat2 HT2
      refine hK.out _ _ (HCF.out _ HR.out.low) (fun hHeld=>?_)
      clear hK K
      try simp only [Act.put,List.setIfInBounds_toArray,List.set_cons_zero,List.set_cons_succ]
      (refine wpAnyH_take (i:=14) (oi:=_) (v:=?_) rfl (by kernel_rfl) (by kernel_rfl) (by kernel_rfl) (fun _ _ _ h=>h) (Or.inl ⟨by kernel_rfl,?_⟩) (by assumption) ?_;rotate_left;(focus (intro w hSw;(try dsimp only at hSw);go_simp;(try with_reducible rfl);done));(try simp only [Act.put,List.setIfInBounds_toArray,List.set_cons_zero,List.set_cons_succ]))
      (refine wpAnyH_take (i:=15) (oi:=_) (v:=?_) rfl (by kernel_rfl) (by kernel_rfl) (by kernel_rfl) (fun _ _ _ h=>h) (Or.inl ⟨by kernel_rfl,?_⟩) (by assumption) ?_;rotate_left;(focus (intro w hSw;(try dsimp only at hSw);go_simp;(try with_reducible rfl);done));(try simp only [Act.put,List.setIfInBounds_toArray,List.set_cons_zero,List.set_cons_succ]))
      refine wpAnyH_done (by kernel_rfl) ?_ _
      go_wp2_with fail
      go_roundw
      case rel=>exact ⟨i+1,_,_,by have:=HLT.out;omega,by go_num,rfl,rfl,by rw [HES.out];unfold KnS;rw [entFM_snoc,entFN_snoc,entFV_snoc,List.length_append];exact HR⟩
      case measure=>have:=HLT.out;simp [intOf];omega
     ·go_simp
      have hbl:=below_alloc V1 (.cells #[.int .i64 x.kind,.string x.name,.int .i64 x.var,.slice Aq lq cq] 32)
      have HT2:Hid (TmpB Z V1.heap.size (.cells #[.int .i64 x.kind,.string x.name,.int .i64 x.var,.slice Aq lq cq] 32 (0,0)) _):=Lib.hid ⟨heap_alloc_new V1 (.cells #[.int .i64 x.kind,.string x.name,.int .i64 x.var,.slice Aq lq cq] 32),HZ.out⟩
      have HT1:=Lib.hid (HT1.out.below hbl)
      have HR:=Lib.hid (HR.out.below hbl)
      have HZ:=Lib.hid (Nat.le_trans HZ.out hbl.size)
      generalize (V1.alloc (.cells #[.int .i64 x.kind,.string x.name,.int .i64 x.var,.slice Aq lq cq] 32))=V2 at HR HT2 HZ HT1 hbl ⊢
      clear hbl
      generalize V1.heap.size=t2 at HT2 ⊢
      refine hK.out _ _ (HCF.out _ HR.out.low) (fun hHeld=>?_)
      clear hK K
      try simp only [Act.put,List.setIfInBounds_toArray,List.set_cons_zero,List.set_cons_succ]
      refine wpAnyH_ready (rs:=[6]) (by kernel_rfl) (by simp) ?_
      refine (AllReadyH.cons (o:=_) rfl (fun K hK=>?_) AllReadyH.nil)
      refine step_str rfl (.tmp 56) (.tmp 61) rfl w3.heap.size s1 _ (by kernel_rfl) HR.out.names t1 nn (by kernel_rfl) HT1.out.blk (by rw [entFN_len,entF_len];have:=HDL.out;omega) HR.out.szB ?_
      intro v1 V6 hown1 hgrow1
      have HT2:=Lib.hid (HT2.out.grown hgrow1 HOV.out)
      have HZ:=Lib.hid (Nat.le_trans HZ.out hgrow1.size)
      have HR:=Lib.hid (HR.out.addN hgrow1 hown1)
      clear hown1 hgrow1 HT1
      refine hK.out _ _ (HCF.out _ HR.out.low) (fun hHeld=>?_)
      clear hK K
      try simp only [Act.put,List.setIfInBounds_toArray,List.set_cons_zero,List.set_cons_succ]
      refine wpAnyH_ready (rs:=[13]) (by kernel_rfl) (by simp) ?_
      refine (AllReadyH.cons (o:=_) rfl (fun K hK=>?_) AllReadyH.nil)
      refine step_tyI rfl (.tmp 63) (.tmp 68) rfl w3.heap.size s2 _ _ (by kernel_rfl) HR.out.types t2 x.kind x.var x.name Aq lq cq (by kernel_rfl) HT2.out.blk (by rw [entF_len];have:=HDL.out;omega) HR.out.szB ?_
      intro g2 c2' V7 hown2 hgrow2 hat2
      have HZ:=Lib.hid (Nat.le_trans HZ.out hgrow2.size)
      have HR:=Lib.hid (HR.out.addT hgrow2 hown2)
      clear hown2 hgrow2 hat2 HT2
      refine hK.out _ _ (HCF.out _ HR.out.low) (fun hHeld=>?_)
      clear hK K
      try simp only [Act.put,List.setIfInBounds_toArray,List.set_cons_zero,List.set_cons_succ]
      (refine wpAnyH_take (i:=14) (oi:=_) (v:=?_) rfl (by kernel_rfl) (by kernel_rfl) (by kernel_rfl) (fun _ _ _ h=>h) (Or.inl ⟨by kernel_rfl,?_⟩) (by assumption) ?_;rotate_left;(focus (intro w hSw;(try dsimp only at hSw);go_simp;(try with_reducible rfl);done));(try simp only [Act.put,List.setIfInBounds_toArray,List.set_cons_zero,List.set_cons_succ]))
      (refine wpAnyH_take (i:=15) (oi:=_) (v:=?_) rfl (by kernel_rfl) (by kernel_rfl) (by kernel_rfl) (fun _ _ _ h=>h) (Or.inl ⟨by kernel_rfl,?_⟩) (by assumption) ?_;rotate_left;(focus (intro w hSw;(try dsimp only at hSw);go_simp;(try with_reducible rfl);done));(try simp only [Act.put,List.setIfInBounds_toArray,List.set_cons_zero,List.set_cons_succ]))
      refine wpAnyH_done (by kernel_rfl) ?_ _
      go_wp2_with fail
      go_roundw
      case rel=>exact ⟨i+1,_,_,by have:=HLT.out;omega,by go_num,rfl,rfl,by rw [HES.out];unfold KnS;rw [entFM_snoc,entFN_snoc,entFV_snoc,List.length_append];exact HR⟩
      case measure=>have:=HLT.out;simp [intOf];omega
    ·go_simp
     have hbl:=below_alloc Y1 (.cells #[.int .i64 x.kind,.string x.name,.int .i64 x.var,.slice Aq lq cq] 32)
     have HT2:Hid (TmpB Z Y1.heap.size (.cells #[.int .i64 x.kind,.string x.name,.int .i64 x.var,.slice Aq lq cq] 32 (0,0)) _):=Lib.hid ⟨heap_alloc_new Y1 (.cells #[.int .i64 x.kind,.string x.name,.int .i64 x.var,.slice Aq lq cq] 32),HZ.out⟩
     have HR:=Lib.hid (HR.out.below hbl)
     have HZ:=Lib.hid (Nat.le_trans HZ.out hbl.size)
     generalize (Y1.alloc (.cells #[.int .i64 x.kind,.string x.name,.int .i64 x.var,.slice Aq lq cq] 32))=V1 at HR HT2 HZ hbl ⊢
     clear hbl
     generalize Y1.heap.size=t2 at HT2 ⊢
     refine hK.out _ _ (HCF.out _ HR.out.low) (fun hHeld=>?_)
     clear hK K
     try simp only [Act.put,List.setIfInBounds_toArray,List.set_cons_zero,List.set_cons_succ]
     refine wpAnyH_ready (rs:=[5]) (by kernel_rfl) (by simp) ?_
     refine (AllReadyH.cons (o:=_) rfl (fun K hK=>?_) AllReadyH.nil)
     go_simp
     have hbl:=below_alloc V1 (.cells #[.string nn] 9)
     have HT1:Hid (TmpB Z V1.heap.size (.cells #[.string nn] 9 (0,0)) _):=Lib.hid ⟨heap_alloc_new V1 (.cells #[.string nn] 9),HZ.out⟩
     have HT2:=Lib.hid (HT2.out.below hbl)
     have HR:=Lib.hid (HR.out.below hbl)
     have HZ:=Lib.hid (Nat.le_trans HZ.out hbl.size)
     generalize (V1.alloc (.cells #[.string nn] 9))=V9 at HR HT1 HZ HT2 hbl ⊢
     clear hbl
     generalize V1.heap.size=t1 at HT1 ⊢
     refine hK.out _ _ (HCF.out _ HR.out.low) (fun hHeld=>?_)
     clear hK K
     try simp only [Act.put,List.setIfInBounds_toArray,List.set_cons_zero,List.set_cons_succ]
     refine wpAnyH_ready (rs:=[6]) (by kernel_rfl) (by simp) ?_
     refine (AllReadyH.cons (o:=_) rfl (fun K hK=>?_) AllReadyH.nil)
     refine step_str rfl (.tmp 56) (.tmp 61) rfl w3.heap.size s1 _ (by kernel_rfl) HR.out.names t1 nn (by kernel_rfl) HT1.out.blk (by rw [entFN_len,entF_len];have:=HDL.out;omega) HR.out.szB ?_
     intro v1 V10 hown1 hgrow1
     have HT2:=Lib.hid (HT2.out.grown hgrow1 HOV.out)
     have HZ:=Lib.hid (Nat.le_trans HZ.out hgrow1.size)
     have HR:=Lib.hid (HR.out.addN hgrow1 hown1)
     clear hown1 hgrow1 HT1
     refine hK.out _ _ (HCF.out _ HR.out.low) (fun hHeld=>?_)
     clear hK K
     try simp only [Act.put,List.setIfInBounds_toArray,List.set_cons_zero,List.set_cons_succ]
     refine wpAnyH_ready (rs:=[13]) (by kernel_rfl) (by simp) ?_
     refine (AllReadyH.cons (o:=_) rfl (fun K hK=>?_) AllReadyH.nil)
     refine step_tyI rfl (.tmp 63) (.tmp 68) rfl w3.heap.size s2 _ _ (by kernel_rfl) HR.out.types t2 x.kind x.var x.name Aq lq cq (by kernel_rfl) HT2.out.blk (by rw [entF_len];have:=HDL.out;omega) HR.out.szB ?_
     intro g2 c2' V11 hown2 hgrow2 hat2
     have HZ:=Lib.hid (Nat.le_trans HZ.out hgrow2.size)
     have HR:=Lib.hid (HR.out.addT hgrow2 hown2)
     clear hown2 hgrow2 hat2 HT2
     refine hK.out _ _ (HCF.out _ HR.out.low) (fun hHeld=>?_)
     clear hK K
     try simp only [Act.put,List.setIfInBounds_toArray,List.set_cons_zero,List.set_cons_succ]
     (refine wpAnyH_take (i:=14) (oi:=_) (v:=?_) rfl (by kernel_rfl) (by kernel_rfl) (by kernel_rfl) (fun _ _ _ h=>h) (Or.inl ⟨by kernel_rfl,?_⟩) (by assumption) ?_;rotate_left;(focus (intro w hSw;(try dsimp only at hSw);go_simp;(try with_reducible rfl);done));(try simp only [Act.put,List.setIfInBounds_toArray,List.set_cons_zero,List.set_cons_succ]))
     (refine wpAnyH_take (i:=15) (oi:=_) (v:=?_) rfl (by kernel_rfl) (by kernel_rfl) (by kernel_rfl) (fun _ _ _ h=>h) (Or.inl ⟨by kernel_rfl,?_⟩) (by assumption) ?_;rotate_left;(focus (intro w hSw;(try dsimp only at hSw);go_simp;(try with_reducible rfl);done));(try simp only [Act.put,List.setIfInBounds_toArray,List.set_cons_zero,List.set_cons_succ]))
     refine wpAnyH_done (by kernel_rfl) ?_ _
     go_wp2_with fail
     go_roundw
     case rel=>exact ⟨i+1,_,_,by have:=HLT.out;omega,by go_num,rfl,rfl,by rw [HES.out];unfold KnS;rw [entFM_snoc,entFN_snoc,entFV_snoc,List.length_append];exact HR⟩
     case measure=>have:=HLT.out;simp [intOf];omega
   ·have HES:=Lib.hid (entF_same (D:=D) (q:=q) hli)
    have hd0:decide (i < l.length)=false:=by simpa using hli
    clear hmo
    go_wp2_with fail
    go_quiet (fail)
    have HKQ:=Lib.hid (HK.out.below (below_drewN (Below.refl _ _) nq))
    generalize wr.drewN nq=X at HKQ ⊢
    go_wp2_with fail
    go_roundw
    case rel=>exact ⟨i+1,_,_,by have:=HLT.out;omega,by go_num,rfl,rfl,by rw [HES.out];exact HKQ⟩
    case measure=>have:=HLT.out;simp [intOf];omega
  ·obtain rfl:i=D.length:=by omega
   have hdc:decide (D.length < D.length)=false:=by simp
   have HVM:=Lib.hid (KnS.rows (D:=d0) (Vol:=fun _=>False) HK.out (fun i h=>by
    have h1:=h
    rw [entF_len] at h1
    obtain ⟨_,_,_,_,_,hty,_⟩:=HQ.out i (by omega)
    rw [entF_at i h (by omega) (by omega)]
    exact (TyW.step d0).below hty (HB3.out.trans (HK.out.low.mono HB3.out.size))) (fun i j h1 h2 hji=>by
    have h3:=h1
    have h4:=h2
    rw [entF_len] at h3 h4
    rw [entF_at i h1 (by omega) (by omega),entF_at j h2 (by omega) (by omega)]
    exact nodup_ne HDN.out (by omega) (by omega) hji) (fun i h=>by
    have h1:=h
    rw [entF_len] at h1
    rw [entF_at i h (by omega) (by omega)]
    exact HFEW.out i (by omega)) (fun _ e=>e.elim))
   have HB4:=Lib.hid (HB3.out.trans (HK.out.low.mono HB3.out.size))
   have HDQ:Hid (D.length=D.length):=Lib.hid rfl
   generalize (entF D l q D.length).map (·.1)=σ at HVM
   clear HK HQ HO2 HO3 HDN HDS HDE HDL hi
   generalize hwr:wr=W1 at HVM HB4 ⊢
   clear hwr
   go_wp2_with fail
   clear hdc
   go_loopw [73] (fun t W=>∃ k:Nat,k≤xs.length∧t=.int .i64 k∧Hid (Below W1.heap.size W1 W)) (fun t _=>xs.length - (intOf t).toNat)
   case atStart=>exact ⟨0,Nat.zero_le _,rfl,Lib.hid (Below.refl _ _)⟩
   case round =>
    obtain ⟨k,hk,rfl,HB⟩:=hrel
    have HBW:=Lib.hid (HB4.out.trans (HB.out.mono HB4.out.size))
    by_cases hlt:k < xs.length
    ·obtain ⟨gg,o,vi,rfl,hg,_,hvi,hc⟩:=RowW.at ((RowW.step (ExW.step d1)).below HX.out HBW.out) k hlt
     obtain ⟨B1,n1,m1,rfl⟩:=hvi.this
     have a0:=(hc 0 (by decide)).trans rfl
     have a1:=(hc 1 (by decide)).trans rfl
     have a2:=(hc 2 (by decide)).trans rfl
     simp only [cellsL,Value.cells,List.getElem?_cons_zero,List.getElem?_cons_succ,Nat.add_zero] at a0 a1 a2
     have hk0:(0:Int)≤(k:Int):=by omega
     have hk1:(k:Int) < (xs.length:Int):=by omega
     have hdc:decide (k < xs.length)=true:=by simpa using hlt
     have hsx:sizeE xs[k]≤2000000:=by have h1:=sizeEs_mem hlt;have:=HSE.out;omega
     have hnx:∀ n ∈ nmE xs[k],n.size≤maxLen:=fun n hn=>HNM.out n (nmEs_mem hlt hn)
     have HLT:=Lib.hid hlt
     generalize hxx:xs[k]=x at hvi a0 a1 a2 hsx hnx
     clear hxx hlt hc
     have hbx:=below_alloc wr (.cells #[.bool x.isVar,.string x.name,.slice B1 n1 m1] 53)
     have HXB:=Lib.hid (heap_alloc_new wr (.cells #[.bool x.isVar,.string x.name,.slice B1 n1 m1] 53))
     have HVI:=Lib.hid ((ExW.step d1).below hvi hbx)
     have HBX:=Lib.hid (HB.out.trans (hbx.mono HB.out.size))
     have HSX:=Lib.hid hsx
     have HNX:=Lib.hid hnx
     clear hvi hbx hsx hnx
     go_upto_region 21 with fail
     clear a0 a1 a2
     generalize (wr.alloc (.cells #[.bool x.isVar,.string x.name,.slice B1 n1 m1] 53))=W5 at HXB HVI HBX ⊢
     generalize wr.heap.size=N5 at HXB ⊢
     have HXX:Hid (∀ W,Below W5.heap.size W5 W→W.cell? ⟨N5,0,none⟩=some (.bool x.isVar)∧W.cell? ⟨N5,1,none⟩=some (.string x.name)∧W.cell? ⟨N5,2,none⟩=some (.slice B1 n1 m1)):=Lib.hid (fun W hb=>by
      have h:=(hb.block N5 (Array.getElem?_eq_some_iff.1 HXB.out).1).trans HXB.out
      exact ⟨(cellH h 0).trans rfl,(cellH h 1).trans rfl,(cellH h 2).trans rfl⟩)
     have HIN:Hid (∀ W,Below W5.heap.size W5 W→Calls Tryd.prog 26 #[.agg #[.bool x.isVar,.string x.name,.slice B1 n1 m1],.map (some w3.heap.size)] W fun e w'=>∃ v',e=.returned v'∧TyE (fun _=>False) (inst σ x) v' w'∧Below W5.heap.size W5 w'∧Below W.heap.size W w'):=Lib.hid (fun W hb=>by
      have hb2:=HBX.out.trans (hb.mono HBX.out.size)
      exact (inst_any d0 σ d1 (fun _=>False) x _ _ W ((ExW.step d1).below HVI.out hb) (HVM.out.1.step hb2 (fun _ _ e=>e)) HNX.out HSX.out (fun _ e=>e.elim)).mono (fun e w' ⟨v',h1,h2,h3⟩=>⟨v',h1,h2,hb.trans (h3.mono hb.size),h3⟩))
     have HRI:Hid (∀ W,Below W5.heap.size W5 W→Calls Tryd.prog 27 #[.agg #[.bool x.isVar,.string x.name,.slice B1 n1 m1],s1,s2] W fun e w'=>∃ v',e=.returned v'∧TyE (fun _=>False) (inst σ x) v' w'∧Below W5.heap.size W5 w'∧Below W.heap.size W w'):=Lib.hid (fun W hb=>by
      have hb2:=HBX.out.trans (hb.mono HBX.out.size)
      exact (rinst_any d0 σ d1 (fun _=>False) x _ _ _ W ((ExW.step d1).below HVI.out hb) ((RowW.step StrH.step).below HVM.out.2.1 hb2) ((RowW.step (TyW.step d0)).below HVM.out.2.2 hb2) HSX.out (fun _ e=>e.elim)).mono (fun e w' ⟨v',h1,h2,h3⟩=>⟨v',h1,h2,hb.trans (h3.mono hb.size),h3⟩))
     have hx0:=HXX.out W5.drew (below_drw (Below.refl _ _))
     have HBD:Hid (Below W5.heap.size W5 W5.drew):=Lib.hid (below_drw (Below.refl _ _))
     go_region_held3 (fun W=>W.cell? ⟨N5,0,none⟩=some (.bool x.isVar)∧W.cell? ⟨N5,1,none⟩=some (.string x.name)∧W.cell? ⟨N5,2,none⟩=some (.slice B1 n1 m1)) (first | exact hx0 | exact HXX.out _ HBI.out | exact HXX.out _ HBR.out | exact HXX.out _ HBS.out) (first
      | (go_at_call 26;have hq1:=HIN.out _ (by first | exact HBR.out | exact HBD.out);with_reducible refine hq1.mono ?_;clear hq1;rintro e wA ⟨va,rfl,hta,hb5,hba⟩;have HBI:=Lib.hid hb5;have HTA:=Lib.hid hta;(try have HTR:=Lib.hid (TyE.step.below HTR.out hba));clear hta hb5 hba)
      | (go_at_call 27;have hq2:=HRI.out _ (by first | exact HBI.out | exact HBD.out);with_reducible refine hq2.mono ?_;clear hq2;rintro e wB ⟨vb,rfl,htb,hb5,hbb⟩;have HBR:=Lib.hid hb5;have HTR:=Lib.hid htb;(try have HTA:=Lib.hid (TyE.step.below HTA.out hbb));clear htb hb5 hbb)
      | (go_at_call 14;have hq3:=same_eqF HTA.out HTR.out;with_reducible refine hq3.mono ?_;clear hq3;rintro e wC ⟨rfl,hbc⟩;have HBS:=Lib.hid ((by first | exact (HBR.out.trans (hbc.mono HBR.out.size)) | exact (HBI.out.trans (hbc.mono HBI.out.size)):Below W5.heap.size W5 wC));clear hbc))
     all_goals
      clear hx0
      go_wp2_with fail
      go_roundw
      case rel=>exact ⟨k+1,by have:=HLT.out;omega,by go_num,Lib.hid (HBX.out.trans (HBS.out.mono HBX.out.size))⟩
      case measure=>have:=HLT.out;simp [intOf];omega
    ·obtain rfl:k=xs.length:=by omega
     have hdc:decide (xs.length < xs.length)=false:=by simp
     clear HVM HB
     generalize hwr:wr=W2 at HBW ⊢
     clear hwr
     go_wp2_with fail
     clear hdc
     go_loopw [89] (fun t W=>∃ k:Nat,k≤l.length∧t=.int .i64 k∧Hid (Below w.heap.size w W)) (fun t _=>l.length - (intOf t).toNat)
     case atStart=>exact ⟨0,Nat.zero_le _,rfl,HBW⟩
     case round =>
      obtain ⟨k,hk,rfl,HB⟩:=hrel
      by_cases hlt:k < l.length
      ·obtain ⟨gg,o,vi,rfl,hg,_,hvi,hc⟩:=RowW.at ((RowW.step (TyW.step d0)).below HL.out HB.out) k hlt
       obtain ⟨B1,n1,m1,rfl⟩:=hvi.this
       obtain ⟨g8,o8,v8,e8,hg8,_,hv8,hc8⟩:=RowW.at ((RowW.step (TyW.step d0)).below HL.out HB.out) 0 (by omega)
       injection e8 with e8
       injection e8 with e8 e9
       subst e8
       subst e9
       obtain ⟨B8,n8,m8,rfl⟩:=hv8.this
       have a0:=(hc 0 (by decide)).trans rfl
       have a1:=(hc 1 (by decide)).trans rfl
       have a2:=(hc 2 (by decide)).trans rfl
       have a3:=(hc 3 (by decide)).trans rfl
       have z0:=(hc8 0 (by decide)).trans rfl
       have z1:=(hc8 1 (by decide)).trans rfl
       have z2:=(hc8 2 (by decide)).trans rfl
       have z3:=(hc8 3 (by decide)).trans rfl
       simp only [cellsL,Value.cells,List.getElem?_cons_zero,List.getElem?_cons_succ,Nat.add_zero,Nat.zero_mul] at a0 a1 a2 a3 z0 z1 z2 z3
       have hk0:(0:Int)≤(k:Int):=by omega
       have hk1:(k:Int) < (l.length:Int):=by omega
       have hl0:(0:Int) < (l.length:Int):=by omega
       have hdc:decide (k < l.length)=true:=by simpa using hlt
       have hwx:=wfTs_mem HWF.out hlt
       have htl:=HTX.out k hlt
       have HLT:=Lib.hid hlt
       generalize hxx:l[k]=x at hvi a0 a1 a2 a3 hwx htl
       generalize hyy:l[0]'(Nat.lt_of_le_of_lt (Nat.zero_le _) HLT.out)=y at hv8 z0 z1 z2 z3
       clear hxx hyy hlt hc hc8
       have hbx:=below_alloc wr (.cells #[.int .i64 x.kind,.string x.name,.int .i64 x.var,.slice B1 n1 m1] 32)
       have HXB:=Lib.hid (heap_alloc_new wr (.cells #[.int .i64 x.kind,.string x.name,.int .i64 x.var,.slice B1 n1 m1] 32))
       have HVI:=Lib.hid ((TyW.step d0).below hvi hbx)
       have HV8:=Lib.hid ((TyW.step d0).below hv8 hbx)
       have HBX:=Lib.hid (HB.out.trans (hbx.mono HB.out.size))
       have HSB:Hid (wr.heap.size < (wr.alloc (.cells #[.int .i64 x.kind,.string x.name,.int .i64 x.var,.slice B1 n1 m1] 32)).heap.size):=Lib.hid (by simp)
       have HZC:Hid (∀ W,Below (wr.alloc (.cells #[.int .i64 x.kind,.string x.name,.int .i64 x.var,.slice B1 n1 m1] 32)).heap.size (wr.alloc (.cells #[.int .i64 x.kind,.string x.name,.int .i64 x.var,.slice B1 n1 m1] 32)) W→W.cell? ⟨gg,o,none⟩=some (.int .i64 y.kind)∧W.cell? ⟨gg,o+1,none⟩=some (.string y.name)∧W.cell? ⟨gg,o+2,none⟩=some (.int .i64 y.var)∧W.cell? ⟨gg,o+3,none⟩=some (.slice B8 n8 m8)):=Lib.hid (fun W hb=>by
        have h:=hbx.trans (hb.mono hbx.size)
        exact ⟨cell_low h hg z0,cell_low h hg z1,cell_low h hg z2,cell_low h hg z3⟩)
       have HWX:=Lib.hid hwx
       have HTL:=Lib.hid htl
       clear hvi hv8 hbx hwx htl
       by_cases h100:k > 100
       ·have hd1:decide (100 < k)=true:=by simpa using h100
        have hd2:decide ((100:Int) < (k:Int))=true:=by simp;omega
        go_wp2_with fail
        clear a0 a1 a2 a3 z0 z1 z2 z3 hd1 hd2 hdc
        have HBT:=HBX
        generalize hW5:(wr.alloc (.cells #[.int .i64 x.kind,.string x.name,.int .i64 x.var,.slice B1 n1 m1] 32))=wt at HBT ⊢
        clear hW5
        try go_at_call 32
        refine (plain_anyI d0 (fun _=>False) l _ wt ((RowW.step (TyW.step d0)).below HL.out HBT.out) HWF.out (fun _ e=>e.elim) HSZ.out).mono ?_
        rintro e wu ⟨vu,rfl,hvu,hbu⟩
        have HVU:=Lib.hid hvu
        have HBU:=Lib.hid (HBT.out.trans (hbu.mono HBT.out.size))
        clear hvu hbu
        go_wp2_with fail
        go_at_call 33
        refine (rplain_any d0 (fun _=>False) l _ wu ((RowW.step (TyW.step d0)).below HL.out HBU.out) HSZ.out (fun _ e=>e.elim)).mono ?_
        rintro e wv ⟨vv,rfl,hvv,hbv⟩
        have HSR:=Lib.hid (same_rowsF ((RowW.step TyE.step).below HVU.out hbv) hvv)
        have HBV:=Lib.hid (HBU.out.trans (hbv.mono HBU.out.size))
        clear hvv hbv
        go_wp2_with fail
        go_at_call 31
        refine HSR.out.mono ?_
        rintro e wz ⟨rfl,hbz⟩
        have HBZ:=Lib.hid (HBV.out.trans (hbz.mono HBV.out.size))
        clear hbz
        go_wp2_with fail
        go_ret
        exact ⟨rfl,HBZ.out⟩
       ·have hd1:decide (100 < k)=false:=by simpa using h100
        have hd2:decide ((100:Int) < (k:Int))=false:=by simp;omega
        go_upto_region 28 with fail
        clear a0 a1 a2 a3 z0 z1 z2 z3 hd1 hd2 hdc
        generalize (wr.alloc (.cells #[.int .i64 x.kind,.string x.name,.int .i64 x.var,.slice B1 n1 m1] 32))=W5 at HXB HVI HV8 HBX HSB HZC ⊢
        generalize wr.heap.size=N5 at HXB HSB ⊢
        have HCC:Hid (∀ W,Below W5.heap.size W5 W→W.cell? ⟨N5,0,none⟩=some (.int .i64 x.kind)∧W.cell? ⟨N5,1,none⟩=some (.string x.name)∧W.cell? ⟨N5,2,none⟩=some (.int .i64 x.var)∧W.cell? ⟨N5,3,none⟩=some (.slice B1 n1 m1)∧W.cell? ⟨gg,o,none⟩=some (.int .i64 y.kind)∧W.cell? ⟨gg,o+1,none⟩=some (.string y.name)∧W.cell? ⟨gg,o+2,none⟩=some (.int .i64 y.var)∧W.cell? ⟨gg,o+3,none⟩=some (.slice B8 n8 m8)):=Lib.hid (fun W hb=>by
         have h:=(hb.block N5 (Array.getElem?_eq_some_iff.1 HXB.out).1).trans HXB.out
         obtain ⟨e0,e1,e2,e3⟩:=HZC.out W hb
         exact ⟨(cellH h 0).trans rfl,(cellH h 1).trans rfl,(cellH h 2).trans rfl,(cellH h 3).trans rfl,e0,e1,e2,e3⟩)
        have HTA:Hid (∀ W,Below W5.heap.size W5 W→Calls Tryd.prog 28 #[.agg #[.int .i64 x.kind,.string x.name,.int .i64 x.var,.slice B1 n1 m1]] W fun e w'=>e=.returned (.string (bs (txT x)))∧Below W5.heap.size W5 w'):=Lib.hid (fun W hb=>(text_any d0 (fun _=>False) x _ W ((TyW.step d0).below HVI.out hb) HWX.out (by have:=HTL.out;omega) (tab_on HTB.out (HBX.out.trans (hb.mono HBX.out.size)))).mono (fun e w' ⟨h1,h2⟩=>⟨h1,hb.trans (h2.mono hb.size)⟩))
        have HTR:Hid (∀ W,Below W5.heap.size W5 W→Calls Tryd.prog 29 #[.agg #[.int .i64 x.kind,.string x.name,.int .i64 x.var,.slice B1 n1 m1]] W fun e w'=>e=.returned (.string (bs (txT x)))∧Below W5.heap.size W5 w'):=Lib.hid (fun W hb=>(rtext_any d0 (fun _=>False) x _ W ((TyW.step d0).below HVI.out hb) HWX.out (by have:=HTL.out;omega)).mono (fun e w' ⟨h1,h2⟩=>⟨h1,hb.trans (h2.mono hb.size)⟩))
        have HUS:Hid (∀ W,Below W5.heap.size W5 W→Calls Tryd.prog 30 #[.agg #[.int .i64 x.kind,.string x.name,.int .i64 x.var,.slice B1 n1 m1],.agg #[.int .i64 y.kind,.string y.name,.int .i64 y.var,.slice B8 n8 m8]] W fun e w'=>e=.returned (.bool (eqT x y))∧Below W5.heap.size W5 w'):=Lib.hid (fun W hb=>(usame_any d0 (fun _=>False) (fun _=>False) x y _ _ W ((TyW.step d0).below HVI.out hb) ((TyW.step d0).below HV8.out hb)).mono (fun e w' ⟨h1,h2⟩=>⟨h1,hb.trans (h2.mono hb.size)⟩))
        have HRS:Hid (∀ W,Below W5.heap.size W5 W→Calls Tryd.prog 14 #[.agg #[.int .i64 x.kind,.string x.name,.int .i64 x.var,.slice B1 n1 m1],.agg #[.int .i64 y.kind,.string y.name,.int .i64 y.var,.slice B8 n8 m8]] W fun e w'=>e=.returned (.bool (eqT x y))∧Below W5.heap.size W5 w'):=Lib.hid (fun W hb=>(same_any d0 (fun _=>False) (fun _=>False) x y _ _ W ((TyW.step d0).below HVI.out hb) ((TyW.step d0).below HV8.out hb)).mono (fun e w' ⟨h1,h2⟩=>⟨h1,hb.trans (h2.mono hb.size)⟩))
        clear HXB HVI HV8 HZC HSB
        generalize bs (txT x)=tt at HTA HTR
        generalize eqT x y=bb at HUS HRS
        have hne:(!(tt.toList == tt.toList))=false:=bneself
        have hbn:(bb != bb)=false:=by simp
        have hl1:0 < l.length:=by have:=HLT.out;omega
        have hl2:decide (0 < l.length)=true:=by simpa using hl1
        refine wp_region_held_drew (S:=fun W=>W.cell? ⟨N5,0,none⟩=some (.int .i64 x.kind)∧W.cell? ⟨N5,1,none⟩=some (.string x.name)∧W.cell? ⟨N5,2,none⟩=some (.int .i64 x.var)∧W.cell? ⟨N5,3,none⟩=some (.slice B1 n1 m1)∧W.cell? ⟨gg,o,none⟩=some (.int .i64 y.kind)∧W.cell? ⟨gg,o+1,none⟩=some (.string y.name)∧W.cell? ⟨gg,o+2,none⟩=some (.int .i64 y.var)∧W.cell? ⟨gg,o+3,none⟩=some (.slice B8 n8 m8)) (by kernel_rfl) (HCC.out _ (below_drw (Below.refl _ _))) (fun hHeld=>?_)
        have HBR:Hid (Below W5.heap.size W5 W5.drew):=Lib.hid (below_drw (Below.refl _ _))
        (refine wpAnyH_take (i:=0) (oi:=_) (v:=?_) rfl (by kernel_rfl) (by kernel_rfl) (by kernel_rfl) (fun _ _ _ h=>h) (Or.inl ⟨by kernel_rfl,?_⟩) (by assumption) ?_;rotate_left;(focus (intro w hSw;(try dsimp only at hSw);go_simp;(try with_reducible rfl);done));(try simp only [Act.put,List.setIfInBounds_toArray,List.set_cons_zero,List.set_cons_succ]))
        (refine wpAnyH_take (i:=2) (oi:=_) (v:=?_) rfl (by kernel_rfl) (by kernel_rfl) (by kernel_rfl) (fun _ _ _ h=>h) (Or.inl ⟨by kernel_rfl,?_⟩) (by assumption) ?_;rotate_left;(focus (intro w hSw;(try dsimp only at hSw);go_simp;(try with_reducible rfl);done));(try simp only [Act.put,List.setIfInBounds_toArray,List.set_cons_zero,List.set_cons_succ]))
        refine wpAnyH_ready (rs:=[1]) (by kernel_rfl) (by simp) ?_
        refine (AllReadyH.cons (o:=_) rfl (fun K hK=>?_) AllReadyH.nil)
        go_simp
        try go_at_call 28
        refine (HTA.out _ HBR.out).mono ?_
        rintro e wc1 ⟨rfl,hbq⟩
        have HBR:=Lib.hid hbq
        clear hbq
        go_simp
        refine hK.out _ _ (HCC.out _ HBR.out) (fun hHeld=>?_)
        clear hK K
        try simp only [Act.put,List.setIfInBounds_toArray,List.set_cons_zero,List.set_cons_succ]
        refine wpAnyH_ready (rs:=[3]) (by kernel_rfl) (by simp) ?_
        refine (AllReadyH.cons (o:=_) rfl (fun K hK=>?_) AllReadyH.nil)
        go_simp
        try go_at_call 29
        refine (HTR.out _ HBR.out).mono ?_
        rintro e wc2 ⟨rfl,hbq⟩
        have HBR:=Lib.hid hbq
        clear hbq
        go_simp
        refine hK.out _ _ (HCC.out _ HBR.out) (fun hHeld=>?_)
        clear hK K
        try simp only [Act.put,List.setIfInBounds_toArray,List.set_cons_zero,List.set_cons_succ]
        (refine wpAnyH_take (i:=4) (oi:=_) (v:=?_) rfl (by kernel_rfl) (by kernel_rfl) (by kernel_rfl) (fun _ _ _ h=>h) (Or.inl ⟨by kernel_rfl,?_⟩) (by assumption) ?_;rotate_left;(focus (intro w hSw;(try dsimp only at hSw);go_simp;(try with_reducible rfl);done));(try simp only [Act.put,List.setIfInBounds_toArray,List.set_cons_zero,List.set_cons_succ]))
        (refine wpAnyH_take (i:=5) (oi:=_) (v:=?_) rfl (by kernel_rfl) (by kernel_rfl) (by kernel_rfl) (fun _ _ _ h=>h) (Or.inl ⟨by kernel_rfl,?_⟩) (by assumption) ?_;rotate_left;(focus (intro w hSw;(try dsimp only at hSw);go_simp;(try with_reducible rfl);done));(try simp only [Act.put,List.setIfInBounds_toArray,List.set_cons_zero,List.set_cons_succ]))
        (refine wpAnyH_take (i:=6) (oi:=_) (v:=?_) rfl (by kernel_rfl) (by kernel_rfl) (by kernel_rfl) (fun _ _ _ h=>h) (Or.inl ⟨by kernel_rfl,?_⟩) (by assumption) ?_;rotate_left;(focus (intro w hSw;(try dsimp only at hSw);go_simp;(try with_reducible rfl);done));(try simp only [Act.put,List.setIfInBounds_toArray,List.set_cons_zero,List.set_cons_succ]))
        (refine wpAnyH_take (i:=7) (oi:=_) (v:=?_) rfl (by kernel_rfl) (by kernel_rfl) (by kernel_rfl) (fun _ _ _ h=>h) (Or.inl ⟨by kernel_rfl,?_⟩) (by assumption) ?_;rotate_left;(focus (intro w hSw;(try dsimp only at hSw);go_simp;(try with_reducible rfl);done));(try simp only [Act.put,List.setIfInBounds_toArray,List.set_cons_zero,List.set_cons_succ]))
        (refine wpAnyH_take (i:=8) (oi:=_) (v:=?_) rfl (by kernel_rfl) (by kernel_rfl) (by kernel_rfl) (fun _ _ _ h=>h) (Or.inl ⟨by kernel_rfl,?_⟩) (by assumption) ?_;rotate_left;(focus (intro w hSw;(try dsimp only at hSw);go_simp;(try with_reducible rfl);done));(try simp only [Act.put,List.setIfInBounds_toArray,List.set_cons_zero,List.set_cons_succ]))
        (refine wpAnyH_take (i:=9) (oi:=_) (v:=?_) rfl (by kernel_rfl) (by kernel_rfl) (by kernel_rfl) (fun _ _ _ h=>h) (Or.inl ⟨by kernel_rfl,?_⟩) (by assumption) ?_;rotate_left;(focus (intro w hSw;(try dsimp only at hSw);go_simp;(try with_reducible rfl);done));(try simp only [Act.put,List.setIfInBounds_toArray,List.set_cons_zero,List.set_cons_succ]))
        (refine wpAnyH_take (i:=11) (oi:=_) (v:=?_) rfl (by kernel_rfl) (by kernel_rfl) (by kernel_rfl) (fun _ _ _ h=>h) (Or.inl ⟨by kernel_rfl,?_⟩) (by assumption) ?_;rotate_left;(focus (intro w hSw;(try dsimp only at hSw);go_simp;(try with_reducible rfl);done));(try simp only [Act.put,List.setIfInBounds_toArray,List.set_cons_zero,List.set_cons_succ]))
        (refine wpAnyH_take (i:=12) (oi:=_) (v:=?_) rfl (by kernel_rfl) (by kernel_rfl) (by kernel_rfl) (fun _ _ _ h=>h) (Or.inl ⟨by kernel_rfl,?_⟩) (by assumption) ?_;rotate_left;(focus (intro w hSw;(try dsimp only at hSw);go_simp;(try with_reducible rfl);done));(try simp only [Act.put,List.setIfInBounds_toArray,List.set_cons_zero,List.set_cons_succ]))
        (refine wpAnyH_take (i:=13) (oi:=_) (v:=?_) rfl (by kernel_rfl) (by kernel_rfl) (by kernel_rfl) (fun _ _ _ h=>h) (Or.inl ⟨by kernel_rfl,?_⟩) (by assumption) ?_;rotate_left;(focus (intro w hSw;(try dsimp only at hSw);go_simp;(try with_reducible rfl);done));(try simp only [Act.put,List.setIfInBounds_toArray,List.set_cons_zero,List.set_cons_succ]))
        (refine wpAnyH_take (i:=14) (oi:=_) (v:=?_) rfl (by kernel_rfl) (by kernel_rfl) (by kernel_rfl) (fun _ _ _ h=>h) (Or.inl ⟨by kernel_rfl,?_⟩) (by assumption) ?_;rotate_left;(focus (intro w hSw;(try dsimp only at hSw);go_simp;(try with_reducible rfl);done));(try simp only [Act.put,List.setIfInBounds_toArray,List.set_cons_zero,List.set_cons_succ]))
        refine wpAnyH_ready (rs:=[10]) (by kernel_rfl) (by simp) ?_
        refine (AllReadyH.cons (o:=_) rfl (fun K hK=>?_) AllReadyH.nil)
        go_simp
        try go_at_call 30
        refine (HUS.out _ HBR.out).mono ?_
        rintro e wc3 ⟨rfl,hbq⟩
        have HBR:=Lib.hid hbq
        clear hbq
        go_simp
        refine hK.out _ _ (HCC.out _ HBR.out) (fun hHeld=>?_)
        clear hK K
        try simp only [Act.put,List.setIfInBounds_toArray,List.set_cons_zero,List.set_cons_succ]
        refine wpAnyH_ready (rs:=[15]) (by kernel_rfl) (by simp) ?_
        refine (AllReadyH.cons (o:=_) rfl (fun K hK=>?_) AllReadyH.nil)
        go_simp
        try go_at_call 14
        refine (HRS.out _ HBR.out).mono ?_
        rintro e wc4 ⟨rfl,hbq⟩
        have HBR:=Lib.hid hbq
        clear hbq
        go_simp
        refine hK.out _ _ (HCC.out _ HBR.out) (fun hHeld=>?_)
        clear hK K
        try simp only [Act.put,List.setIfInBounds_toArray,List.set_cons_zero,List.set_cons_succ]
        (refine wpAnyH_take (i:=16) (oi:=_) (v:=?_) rfl (by kernel_rfl) (by kernel_rfl) (by kernel_rfl) (fun _ _ _ h=>h) (Or.inl ⟨by kernel_rfl,?_⟩) (by assumption) ?_;rotate_left;(focus (intro w hSw;(try dsimp only at hSw);go_simp;(try with_reducible rfl);done));(try simp only [Act.put,List.setIfInBounds_toArray,List.set_cons_zero,List.set_cons_succ]))
        (refine wpAnyH_take (i:=17) (oi:=_) (v:=?_) rfl (by kernel_rfl) (by kernel_rfl) (by kernel_rfl) (fun _ _ _ h=>h) (Or.inl ⟨by kernel_rfl,?_⟩) (by assumption) ?_;rotate_left;(focus (intro w hSw;(try dsimp only at hSw);go_simp;(try with_reducible rfl);done));(try simp only [Act.put,List.setIfInBounds_toArray,List.set_cons_zero,List.set_cons_succ]))
        refine wpAnyH_done (by kernel_rfl) ?_ _
        go_wp2_with fail
        go_roundw
        case rel=>exact ⟨k+1,by have:=HLT.out;omega,by go_num,Lib.hid (HBX.out.trans (HBR.out.mono HBX.out.size))⟩
        case measure=>have:=HLT.out;simp [intOf];omega
      ·obtain rfl:k=l.length:=by omega
       have hdc:decide (l.length < l.length)=false:=by simp
       go_wp2_with fail
       clear hdc
       have HBT:=HB
       generalize hW5:wr=wt at HBT ⊢
       clear hW5
       try go_at_call 32
       refine (plain_anyI d0 (fun _=>False) l _ wt ((RowW.step (TyW.step d0)).below HL.out HBT.out) HWF.out (fun _ e=>e.elim) HSZ.out).mono ?_
       rintro e wu ⟨vu,rfl,hvu,hbu⟩
       have HVU:=Lib.hid hvu
       have HBU:=Lib.hid (HBT.out.trans (hbu.mono HBT.out.size))
       clear hvu hbu
       go_wp2_with fail
       go_at_call 33
       refine (rplain_any d0 (fun _=>False) l _ wu ((RowW.step (TyW.step d0)).below HL.out HBU.out) HSZ.out (fun _ e=>e.elim)).mono ?_
       rintro e wv ⟨vv,rfl,hvv,hbv⟩
       have HSR:=Lib.hid (same_rowsF ((RowW.step TyE.step).below HVU.out hbv) hvv)
       have HBV:=Lib.hid (HBU.out.trans (hbv.mono HBU.out.size))
       clear hvv hbv
       go_wp2_with fail
       go_at_call 31
       refine HSR.out.mono ?_
       rintro e wz ⟨rfl,hbz⟩
       have HBZ:=Lib.hid (HBV.out.trans (hbz.mono HBV.out.size))
       clear hbz
       go_wp2_with fail
       go_ret
       exact ⟨rfl,HBZ.out⟩
end Lx
end Go.Proofs.YtnpacamcgifabaaDoor
