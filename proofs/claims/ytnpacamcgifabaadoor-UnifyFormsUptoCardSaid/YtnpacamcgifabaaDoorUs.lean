/- The statements' example: it holds. Conditions: the error variables hold their errors. -/
import Derived.Test.YtnpacamcgifabaaDoorUr
namespace Go.Proofs.YtnpacamcgifabaaDoor
set_option linter.unusedSimpArgs false
set_option linter.unusedVariables false
namespace Lx
open Go Go.RowKit
set_option maxRecDepth 100000 in
set_option maxHeartbeats 4000000 in
theorem alive_gh (f:Nat→Addr) (w:World) (he:ErrU f w) :
  Calls Tryd.prog 12 #[] w fun e w'=>e=.returned (.bool true)∧Below w.heap.size w w'∧∃ g cs,w.heap.size≤g∧w'.heap[g]?=some (.cells cs 89 (0,0)):=by
 have HE:=Lib.hid he
 clear he
 go_enter Tryd.func12,Tryd.ntmps12
 go_wp2_with fail
 refine (new_any w).mono ?_
 rintro e w1 ⟨rfl,hT1,hb1⟩
 have HT1:=Lib.hid hT1
 have HB1:=Lib.hid hb1
 clear hT1 hb1
 go_wp2_with fail
 refine (fresh_any w.heap.size w.heap.size 0 none 0 w1 HT1.out (by omega) HB1.out.size).mono ?_
 rintro e w2 ⟨rfl,⟨A2,c2,hT2⟩,hb2⟩
 have HT2:=Lib.hid hT2
 have HB2:=Lib.hid (HB1.out.trans hb2)
 clear hT2 hb2 HB1 HT1
 go_wp2_with fail
 refine (fresh_any w.heap.size w.heap.size 1 A2 c2 w2 HT2.out (by omega) HB2.out.size).mono ?_
 rintro e w3 ⟨rfl,⟨A3,c3,hT3⟩,hb3⟩
 have HB3:=Lib.hid (HB2.out.trans hb3)
 obtain ⟨g,R,rfl,hgB,hR3⟩:=rowT_of hT3
 have HR3:=Lib.hid hR3
 have HGB:=Lib.hid hgB
 clear hT3 hb3 HB2 HT2 hR3 hgB
 go_wp2_with fail
 have hX:Below w3.heap.size w3 ((w3.alloc (.cells #[.int .i64 4,.string ⟨#[]⟩,.int .i64 0,.slice none 0 0] 32)).alloc (.cells #[.int .i64 4,.string ⟨#[]⟩,.int .i64 1,.slice none 0 0] 32)):=(below_alloc _ _).alloc (by simp) _
 have hxs:((w3.alloc (.cells #[.int .i64 4,.string ⟨#[]⟩,.int .i64 0,.slice none 0 0] 32)).alloc (.cells #[.int .i64 4,.string ⟨#[]⟩,.int .i64 1,.slice none 0 0] 32)).heap.size=w3.heap.size+1+1:=by simp
 have hxa:((w3.alloc (.cells #[.int .i64 4,.string ⟨#[]⟩,.int .i64 0,.slice none 0 0] 32)).alloc (.cells #[.int .i64 4,.string ⟨#[]⟩,.int .i64 1,.slice none 0 0] 32)).heap[w3.heap.size]?=some (.cells #[.int .i64 4,.string ⟨#[]⟩,.int .i64 0,.slice none 0 0] 32):=(Below.heap_alloc _ _ w3.heap.size (by simp)).trans (heap_alloc_new _ _)
 have hxb:((w3.alloc (.cells #[.int .i64 4,.string ⟨#[]⟩,.int .i64 0,.slice none 0 0] 32)).alloc (.cells #[.int .i64 4,.string ⟨#[]⟩,.int .i64 1,.slice none 0 0] 32)).heap[w3.heap.size+1]?=some (.cells #[.int .i64 4,.string ⟨#[]⟩,.int .i64 1,.slice none 0 0] 32):=by
  have:=heap_alloc_new (w3.alloc (.cells #[.int .i64 4,.string ⟨#[]⟩,.int .i64 0,.slice none 0 0] 32)) (.cells #[.int .i64 4,.string ⟨#[]⟩,.int .i64 1,.slice none 0 0] 32)
  simpa using this
 have hty0:∀ W:World,TyW 1 (fun _=>False) (.mk 4 ⟨#[]⟩ 0 []) (.agg #[.int .i64 4,.string ⟨#[]⟩,.int .i64 0,.slice none 0 0]) W:=fun W=>⟨_,rfl,RowW.nil _ _⟩
 have hty1:∀ W:World,TyW 1 (fun _=>False) (.mk 4 ⟨#[]⟩ 1 []) (.agg #[.int .i64 4,.string ⟨#[]⟩,.int .i64 1,.slice none 0 0]) W:=fun W=>⟨_,rfl,RowW.nil _ _⟩
 have htyi:∀ W:World,TyW 1 (fun _=>False) (.mk 1 ⟨#[]⟩ 0 []) (.agg #[.int .i64 1,.string ⟨#[]⟩,.int .i64 0,.slice none 0 0]) W:=fun W=>⟨_,rfl,RowW.nil _ _⟩
 have hrow:=row1 (hty0 ((w3.alloc (.cells #[.int .i64 4,.string ⟨#[]⟩,.int .i64 0,.slice none 0 0] 32)).alloc (.cells #[.int .i64 4,.string ⟨#[]⟩,.int .i64 1,.slice none 0 0] 32))) (fun k e=>e.elim)
 have hY:=below_alloc ((w3.alloc (.cells #[.int .i64 4,.string ⟨#[]⟩,.int .i64 0,.slice none 0 0] 32)).alloc (.cells #[.int .i64 4,.string ⟨#[]⟩,.int .i64 1,.slice none 0 0] 32)) (.cells #[.int .i64 4,.string ⟨#[]⟩,.int .i64 0,.slice none 0 0] 32)
 rw [hxs] at hrow hY
 have HROW:=Lib.hid hrow
 have HXY:=Lib.hid (hX.trans (hY.mono (by omega)))
 have HXA:=Lib.hid ((hY.block w3.heap.size (by omega)).trans hxa)
 have HXB:=Lib.hid ((hY.block (w3.heap.size+1) (by omega)).trans hxb)
 have HSY:Hid (w3.heap.size+1+1+1=(((w3.alloc (.cells #[.int .i64 4,.string ⟨#[]⟩,.int .i64 0,.slice none 0 0] 32)).alloc (.cells #[.int .i64 4,.string ⟨#[]⟩,.int .i64 1,.slice none 0 0] 32)).alloc (.cells #[.int .i64 4,.string ⟨#[]⟩,.int .i64 0,.slice none 0 0] 32)).heap.size):=Lib.hid (by simp)
 have HT1:=Lib.hid hty1
 have HTI:=Lib.hid htyi
 have HD:=Lib.hid data_any
 clear hX hxs hxa hxb hrow hY hty0 hty1 htyi
 generalize (((w3.alloc (.cells #[.int .i64 4,.string ⟨#[]⟩,.int .i64 0,.slice none 0 0] 32)).alloc (.cells #[.int .i64 4,.string ⟨#[]⟩,.int .i64 1,.slice none 0 0] 32)).alloc (.cells #[.int .i64 4,.string ⟨#[]⟩,.int .i64 0,.slice none 0 0] 32))=Y at HROW HXY HXA HXB HSY ⊢
 refine (data_any _ _ _ _ Y).mono ?_
 rintro e w5 ⟨rfl,hb5⟩
 have HB5:=Lib.hid hb5
 clear hb5
 go_wp2_with fail
 have HROW2:=Lib.hid (row1 (HTI.out w5) (fun k e=>e.elim))
 have HB5b:=Lib.hid (HB5.out.trans ((below_alloc w5 (.cells #[.int .i64 1,.string ⟨#[]⟩,.int .i64 0,.slice none 0 0] 32)).mono HB5.out.size))
 generalize hZ5:w5.alloc (.cells #[.int .i64 1,.string ⟨#[]⟩,.int .i64 0,.slice none 0 0] 32)=Z5 at HROW2 HB5b ⊢
 refine (data_any _ _ _ _ Z5).mono ?_
 rintro e w6 ⟨rfl,hb6⟩
 have HB6:=Lib.hid hb6
 clear hb6 hZ5
 go_wp2_with fail
 have HYW:=Lib.hid (HB5b.out.trans (HB6.out.mono HB5b.out.size))
 have H36:=Lib.hid (HXY.out.trans (HYW.out.mono HXY.out.size))
 have HW6:=Lib.hid (HB3.out.trans (H36.out.mono HB3.out.size))
 refine (first_unify f w.heap.size g c3 _ _ _ _ w6 (RowT.stay _ _ _ _ _ _ _ HR3.out H36.out) (ErrU.stay f _ _ HE.out HW6.out) ⟨_,rfl,(RowW.step (TyW.step 1)).below HROW.out HYW.out⟩ ⟨_,rfl,(RowW.step (TyW.step 1)).below HROW2.out HB6.out⟩).mono ?_
 rintro e w7 ⟨rfl,A',c',hR7,hK7⟩
 have HR7:=Lib.hid hR7
 have hgl:g < w3.heap.size:=(Array.getElem?_eq_some_iff.1 HR3.out.2.1).1
 have HW7:=Lib.hid (HW6.out.trans (hK7.below (HW6.out.size) (fun k e=>by have:=HGB.out;omega)))
 have HA7:=Lib.hid ((hK7.block w3.heap.size (by have:=H36.out.size;have:=HYW.out.size;have:=HSY.out;omega) (by omega)).trans ((HYW.out.block w3.heap.size (by have:=HSY.out;omega)).trans HXA.out))
 have HB7:=Lib.hid ((hK7.block (w3.heap.size+1) (by have:=H36.out.size;have:=HYW.out.size;have:=HSY.out;omega) (by omega)).trans ((HYW.out.block (w3.heap.size+1) (by have:=HSY.out;omega)).trans HXB.out))
 have HS7:=Lib.hid (show w3.heap.size+2≤w7.heap.size by have:=HYW.out.size;have:=HSY.out;have:=hK7.size;omega)
 clear hR7 hK7 HROW HXY HXA HXB HSY HB5 HROW2 HB5b HB6 HYW H36 HW6 HR3 HB3
 go_upto_region 6 with fail
 have HB7:Hid (w7.drew.heap[w3.heap.size+1]?=some (.cells #[.int .i64 4,.string ⟨#[]⟩,.int .i64 1,.slice none 0 0] 32)):=HB7
 have HBD:=Lib.hid (show Below w7.heap.size w7 w7.drew from below_drw (Below.refl _ _))
 have HBV:=Lib.hid (show Below w7.heap.size w7 (w7.alloc (.cells #[.int .i64 4,.string ⟨#[]⟩,.int .i64 1,.slice none 0 0] 32)).drew from below_drw (below_alloc _ _))
 have HVB:Hid ((w7.alloc (.cells #[.int .i64 4,.string ⟨#[]⟩,.int .i64 1,.slice none 0 0] 32)).drew.heap[w3.heap.size+1]?=some (.cells #[.int .i64 4,.string ⟨#[]⟩,.int .i64 1,.slice none 0 0] 32)):=Lib.hid ((Below.heap_alloc w7 (.cells #[.int .i64 4,.string ⟨#[]⟩,.int .i64 1,.slice none 0 0] 32) (w3.heap.size+1) (by have:=HS7.out;omega)).trans HB7.out)
 have HROWV:Hid (RowW 4 (TyW 1) (fun _=>False) [.mk 4 ⟨#[]⟩ 1 []] (.slice (some ⟨w7.heap.size,0,none⟩) 1 1) (w7.alloc (.cells #[.int .i64 4,.string ⟨#[]⟩,.int .i64 1,.slice none 0 0] 32)).drew):=Lib.hid ((RowW.step (TyW.step 1)).below (row1 (HT1.out w7) (fun k e=>e.elim)) (below_drw (Below.refl _ _)))
 have b0:=(cellH HB7.out 0).trans rfl
 have b1:=(cellH HB7.out 1).trans rfl
 have b2:=(cellH HB7.out 2).trans rfl
 have b3:=(cellH HB7.out 3).trans rfl
 have v0:=(cellH HVB.out 0).trans rfl
 have v1:=(cellH HVB.out 1).trans rfl
 have v2:=(cellH HVB.out 2).trans rfl
 have v3:=(cellH HVB.out 3).trans rfl
 go_region_with (first
  | (go_at_call 48;refine (HD.out _ _ _ _ _).mono ?_;rintro e wA ⟨rfl,hbA⟩;have HBA:=Lib.hid (HBV.out.trans (hbA.mono HBV.out.size));have HCA:=Lib.hid ((hbA.block (w3.heap.size+1) (by have:=HBV.out.size;have:=HS7.out;omega)).trans HVB.out);have HROWA:=Lib.hid ((RowW.step (TyW.step 1)).below HROWV.out hbA);have d0:=(cellH HCA.out 0).trans rfl;have d1:=(cellH HCA.out 1).trans rfl;have d2:=(cellH HCA.out 2).trans rfl;have d3:=(cellH HCA.out 3).trans rfl;clear hbA)
  | (go_at_call 18;refine (second_unify f w.heap.size g c3 _ _ _ _ _ _ _ _ _ _ (RowT.stay _ _ _ _ _ _ _ HR7.out HBA.out) (ErrU.stay f _ _ HE.out (HW7.out.trans (HBA.out.mono HW7.out.size))) ⟨_,rfl,HROWA.out⟩).mono ?_;rintro e wB ⟨rfl,hbB⟩;have HBB:=Lib.hid (HBA.out.trans (hbB.mono HBA.out.size));clear hbB))
 all_goals
  clear b0 b1 b2 b3 d0 d1 d2 d3 HROWV HBV HVB HBD HB7
  have HRB:=Lib.hid (RowT.stay _ _ _ _ _ _ _ HR7.out HBB.out)
  have HWB:=Lib.hid (HW7.out.trans (HBB.out.mono HW7.out.size))
  have HAB:=Lib.hid ((HBB.out.block w3.heap.size (by have:=HS7.out;omega)).trans HA7.out)
  have a0:=(cellH HAB.out 0).trans rfl
  have a1:=(cellH HAB.out 1).trans rfl
  have a2:=(cellH HAB.out 2).trans rfl
  have a3:=(cellH HAB.out 3).trans rfl
  clear HR7 HW7 HA7 HBA HBB
  go_wp2_with fail
  refine (resolve_free f w.heap.size 2 0 1 0 ⟨#[]⟩ A' c' wB (by decide) (HRB.out.cell rfl) (ErrU.stay f _ _ HE.out HWB.out) (Lib.hid fun W hW=>?_)).mono ?_
  ·have hR:=RowT.stay _ _ _ _ _ _ _ HRB.out hW
   exact head_bound w.heap.size 2 0 ⟨#[]⟩ none 0 0 1 0 ⟨#[]⟩ A' 0 c' W (by decide) (by decide) (by decide) (hR.cell rfl) (hR.cell rfl) (hR.cell rfl) (hR.cell rfl)
  ·rintro e w8 ⟨rfl,hb8⟩
   have HW8:=Lib.hid (HWB.out.trans (hb8.mono HWB.out.size))
   have HR8:=Lib.hid (RowT.stay _ _ _ _ _ _ _ HRB.out hb8)
   clear hb8 a0 a1 a2 a3
   have HB9:=Lib.hid (HW8.out.trans ((below_alloc w8 (.cells #[.int .i64 1,.string ⟨#[]⟩,.int .i64 0,.slice none 0 0] 32)).mono HW8.out.size))
   have hty:=(ErrU.stay f _ _ HE.out HB9.out).types
   have heq:=eqlE_same (f 2)
   have HL:=Lib.hid (len_any w.heap.size 2 (w8.alloc (.cells #[.int .i64 1,.string ⟨#[]⟩,.int .i64 0,.slice none 0 0] 32)) (RowT.stay _ _ _ _ _ _ _ HR8.out (below_alloc _ _)).tab)
   go_wp2_with (go_at_call 23;refine HL.out.mono ?_;rintro e w9 ⟨rfl,rfl⟩)
   go_ret
   exact ⟨rfl,HB9.out,g,_,HGB.out,((below_alloc w8 (.cells #[.int .i64 1,.string ⟨#[]⟩,.int .i64 0,.slice none 0 0] 32)).block _ (Array.getElem?_eq_some_iff.1 HR8.out.2.1).1).trans HR8.out.2.1⟩
theorem alive_any (f:Nat→Addr) (w:World) (he:ErrU f w) :
  Calls Tryd.prog 12 #[] w fun e w'=>e=.returned (.bool true)∧Below w.heap.size w w':=(alive_gh f w he).mono (fun _ _ h=>⟨h.1,h.2.1⟩)
end Lx
end Go.Proofs.YtnpacamcgifabaaDoor
