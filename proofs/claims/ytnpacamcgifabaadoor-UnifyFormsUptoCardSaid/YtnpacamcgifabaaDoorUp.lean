/- Package unify: unify, as the example needs it: an unknown that is not bound with what is none; two types of one argument. Conditions: as each states. -/
import Derived.Test.YtnpacamcgifabaaDoorUo
namespace Go.Proofs.YtnpacamcgifabaaDoor
set_option linter.unusedSimpArgs false
set_option linter.unusedVariables false
namespace Lx
open Go Go.RowKit
set_option maxRecDepth 100000 in
set_option maxHeartbeats 4000000 in
theorem unify_free (b m i:Nat) (s1:ByteArray) (A1:Option Addr) (l1 c1:Nat) (k n:Int) (s:ByteArray) (A:Option Addr) (l c:Nat) (hk:k ≠ 4) (r:Value) (Q:World→Prop) (w:World) (h:CellT b m i 0 (.int .i64 0) w) (hi:i < m)
  (HBD:Hid (∀ W,Below w.heap.size w W→Calls Tryd.prog 86 #[.pointer (some ⟨b,0,none⟩),.int .i64 i,.agg #[.int .i64 k,.string s,.int .i64 n,.slice A l c]] W fun e w'=>e=.returned r∧Q w')) :
  Calls Tryd.prog 50 #[.pointer (some ⟨b,0,none⟩),.agg #[.int .i64 4,.string s1,.int .i64 i,.slice A1 l1 c1],.agg #[.int .i64 k,.string s,.int .i64 n,.slice A l c]] w fun e w'=>e=.returned r∧Q w':=by
 have H1:Hid (∀ W,Below w.heap.size w W→Calls Tryd.prog 85 #[.pointer (some ⟨b,0,none⟩),.agg #[.int .i64 4,.string s1,.int .i64 i,.slice A1 l1 c1]] W fun e w'=>e=.returned (.agg #[.int .i64 4,.string s1,.int .i64 i,.slice A1 l1 c1])∧Below W.heap.size W w'):=Lib.hid (fun W hb=>head_free b m i s1 A1 l1 c1 W (CellT.stay b m i 0 _ _ _ h hb) hi)
 have H2:Hid (∀ W,Below w.heap.size w W→Calls Tryd.prog 85 #[.pointer (some ⟨b,0,none⟩),.agg #[.int .i64 k,.string s,.int .i64 n,.slice A l c]] W fun e w'=>e=.returned (.agg #[.int .i64 k,.string s,.int .i64 n,.slice A l c])∧Below W.heap.size W w'):=Lib.hid (fun W hb=>head_other b k n s A l c W hk)
 have e4:(k == 4)=false:=by simpa using hk
 clear h
 have HB0:=Lib.hid (show Below w.heap.size w ((w.alloc (.cells #[.int .i64 4,.string s1,.int .i64 i,.slice A1 l1 c1] 32)).alloc (.cells #[.int .i64 k,.string s,.int .i64 n,.slice A l c] 32)) from (below_alloc _ _).alloc (by simp) _)
 have HA:=Lib.hid ((Below.heap_alloc (w.alloc (.cells #[.int .i64 4,.string s1,.int .i64 i,.slice A1 l1 c1] 32)) (.cells #[.int .i64 k,.string s,.int .i64 n,.slice A l c] 32) w.heap.size (by simp)).trans (heap_alloc_new w (.cells #[.int .i64 4,.string s1,.int .i64 i,.slice A1 l1 c1] 32)))
 have hz:(w.alloc (.cells #[.int .i64 4,.string s1,.int .i64 i,.slice A1 l1 c1] 32)).heap.size=w.heap.size+1:=by simp
 have HR:=Lib.hid (heap_alloc_new (w.alloc (.cells #[.int .i64 4,.string s1,.int .i64 i,.slice A1 l1 c1] 32)) (.cells #[.int .i64 k,.string s,.int .i64 n,.slice A l c] 32))
 rw [hz] at HR
 have HZ2:=Lib.hid (show ((w.alloc (.cells #[.int .i64 4,.string s1,.int .i64 i,.slice A1 l1 c1] 32)).alloc (.cells #[.int .i64 k,.string s,.int .i64 n,.slice A l c] 32)).heap.size=w.heap.size+2 by simp)
 clear hz
 go_enter Tryd.func50,Tryd.ntmps50
 go_upto_region 1 with fail
 generalize ((w.alloc (.cells #[.int .i64 4,.string s1,.int .i64 i,.slice A1 l1 c1] 32)).alloc (.cells #[.int .i64 k,.string s,.int .i64 n,.slice A l c] 32))=Z at HA HR HZ2 HB0 ⊢
 have HA:Hid (Z.drew.heap[w.heap.size]?=_):=HA
 have HR:Hid (Z.drew.heap[w.heap.size+1]?=_):=HR
 have HZ2:Hid (Z.drew.heap.size=_):=HZ2
 have HB0:=Lib.hid (below_drw HB0.out)
 have a0:=(cellH HA.out 0).trans rfl
 have a1:=(cellH HA.out 1).trans rfl
 have a2:=(cellH HA.out 2).trans rfl
 have a3:=(cellH HA.out 3).trans rfl
 have b0:=(cellH HR.out 0).trans rfl
 have b1:=(cellH HR.out 1).trans rfl
 have b2:=(cellH HR.out 2).trans rfl
 have b3:=(cellH HR.out 3).trans rfl
 go_region_with (first
  | (go_at_call 85;with_reducible refine (H1.out _ HB0.out).mono ?_;rintro e wA ⟨rfl,hbA⟩;have HBA:=Lib.hid hbA;have HAA:=Lib.hid ((hbA.block w.heap.size (by have:=HZ2.out;omega)).trans HA.out);have HRA:=Lib.hid ((hbA.block (w.heap.size+1) (by have:=HZ2.out;omega)).trans HR.out);have HB1:=Lib.hid (HB0.out.trans (hbA.mono HB0.out.size));have HSA:=Lib.hid hbA.size;have d0:=(cellH HRA.out 0).trans rfl;have d1:=(cellH HRA.out 1).trans rfl;have d2:=(cellH HRA.out 2).trans rfl;have d3:=(cellH HRA.out 3).trans rfl;clear hbA)
  | (go_at_call 85;with_reducible refine (H2.out _ HB1.out).mono ?_;rintro e wB ⟨rfl,hbB⟩;have HAB:=Lib.hid ((hbB.block w.heap.size (by have:=HZ2.out;have:=HSA.out;omega)).trans HAA.out);have HRB:=Lib.hid ((hbB.block (w.heap.size+1) (by have:=HZ2.out;have:=HSA.out;omega)).trans HRA.out);have HB2:=Lib.hid (HB1.out.trans (hbB.mono HB1.out.size));have HSB:=Lib.hid hbB.size;have x0:=(cellH HAB.out 0).trans rfl;have x1:=(cellH HAB.out 1).trans rfl;have x2:=(cellH HAB.out 2).trans rfl;have x3:=(cellH HAB.out 3).trans rfl;have y0:=(cellH HRB.out 0).trans rfl;have y1:=(cellH HRB.out 1).trans rfl;have y2:=(cellH HRB.out 2).trans rfl;have y3:=(cellH HRB.out 3).trans rfl;have f0:=frozenH HAB.out 0;have f1:=frozenH HAB.out 1;have f2:=frozenH HAB.out 2;have f3:=frozenH HAB.out 3;have g0:=frozenH HRB.out 0;have g1:=frozenH HRB.out 1;have g2:=frozenH HRB.out 2;have g3:=frozenH HRB.out 3;clear hbB))
 all_goals
  clear a0 a1 a2 a3 b0 b1 b2 b3 d0 d1 d2 d3 x0 x1 x2 x3 y0 y1 y2 y3 f0 f1 f2 f3 g0 g1 g2 g3
  have hk1:=kput4 wB w.heap.size (.int .i64 4) (.string s1) (.int .i64 i) (.slice A1 l1 c1)
  have hq1:=put4 (.int .i64 4) (.string s1) (.int .i64 i) (.slice A1 l1 c1) HAB.out
  have hr1:=(hk1.block (w.heap.size+1) (by have:=HZ2.out;have:=HSA.out;have:=HSB.out;omega) (by omega)).trans HRB.out
  have hk2:=kput4 (((((wB.setCell ⟨w.heap.size,0,none⟩ (.int .i64 4)).setCell ⟨w.heap.size,1,none⟩ (.string s1)).setCell ⟨w.heap.size,2,none⟩ (.int .i64 i)).setCell ⟨w.heap.size,3,none⟩ (.slice A1 l1 c1))) (w.heap.size+1) (.int .i64 k) (.string s) (.int .i64 n) (.slice A l c)
  have hr2:=put4 (.int .i64 k) (.string s) (.int .i64 n) (.slice A l c) hr1
  have hq2:=(hk2.block w.heap.size (by have:=hk1.size;have:=HZ2.out;have:=HSA.out;have:=HSB.out;omega) (by omega)).trans hq1
  have hkb:=(hk1.wider (S':=fun j=>w.heap.size≤j) (fun j _ e=>by omega)).trans (hk2.wider (fun j _ e=>by omega))
  have HBW:=Lib.hid (HB2.out.trans (hkb.below (by have:=HZ2.out;have:=HSA.out;have:=HSB.out;omega) (fun j e=>e)))
  have HQ:=Lib.hid hq2
  have HR2:=Lib.hid hr2
  have HSZ:=Lib.hid (show w.heap.size+2≤wB.heap.size by have:=HZ2.out;have:=HSA.out;have:=HSB.out;omega)
  have HSW:=Lib.hid (Nat.le_trans HSZ.out hkb.size)
  generalize ((((((((((wB.setCell ⟨w.heap.size,0,none⟩ (.int .i64 4)).setCell ⟨w.heap.size,1,none⟩ (.string s1)).setCell ⟨w.heap.size,2,none⟩ (.int .i64 i)).setCell ⟨w.heap.size,3,none⟩ (.slice A1 l1 c1))).setCell ⟨w.heap.size+1,0,none⟩ (.int .i64 k)).setCell ⟨w.heap.size+1,1,none⟩ (.string s)).setCell ⟨w.heap.size+1,2,none⟩ (.int .i64 n)).setCell ⟨w.heap.size+1,3,none⟩ (.slice A l c)))=W at HBW HQ HR2 HSW ⊢
  clear hk1 hq1 hr1 hk2 hr2 hq2 hkb HA HR HZ2 HB0 HAA HRA HB1 HSA HAB HRB HB2 HSB HSZ H1 H2
  have a0:=(cellH HQ.out 0).trans rfl
  have a1:=(cellH HQ.out 1).trans rfl
  have a2:=(cellH HQ.out 2).trans rfl
  have a3:=(cellH HQ.out 3).trans rfl
  have b0:=(cellH HR2.out 0).trans rfl
  have b1:=(cellH HR2.out 1).trans rfl
  have b2:=(cellH HR2.out 2).trans rfl
  have b3:=(cellH HR2.out 3).trans rfl
  go_wp2_with fail
  refine (HBD.out W HBW.out).mono ?_
  rintro e w3 ⟨rfl,hQ⟩
  clear a0 a1 a2 a3 b0 b1 b2 b3
  go_wp2_with fail
  go_ret
  exact ⟨rfl,hQ⟩
theorem cells4 {g o:Nat} {x0 x1 x2 x3:Value} {w w':World} (hg:g < w.heap.size) (h:w.cell? ⟨g,o,none⟩=some x0∧w.cell? ⟨g,o+1,none⟩=some x1∧w.cell? ⟨g,o+2,none⟩=some x2∧w.cell? ⟨g,o+3,none⟩=some x3) (hb:Below w.heap.size w w') :
  w'.cell? ⟨g,o,none⟩=some x0∧w'.cell? ⟨g,o+1,none⟩=some x1∧w'.cell? ⟨g,o+2,none⟩=some x2∧w'.cell? ⟨g,o+3,none⟩=some x3:=by
 have e:∀ o,w'.cell? ⟨g,o,none⟩=w.cell? ⟨g,o,none⟩:=fun o=>World.cell?_of_block (hb.block g hg)
 rw [e,e,e,e]
 exact h
set_option maxRecDepth 100000 in
set_option maxHeartbeats 4000000 in
theorem unify_one (b:Nat) (s:ByteArray) (n1 n2:Int) (g1 o1 c1 g2 o2 c2:Nat) (j1 m1 j2 m2:Int) (t1 t2:ByteArray) (A1 A2:Option Addr) (l1 p1 l2 p2:Nat) (Q:World→Prop) (w:World) (hg1:g1 < w.heap.size) (hg2:g2 < w.heap.size)
  (h1:w.cell? ⟨g1,o1,none⟩=some (.int .i64 j1)∧w.cell? ⟨g1,o1+1,none⟩=some (.string t1)∧w.cell? ⟨g1,o1+2,none⟩=some (.int .i64 m1)∧w.cell? ⟨g1,o1+3,none⟩=some (.slice A1 l1 p1)) (h2:w.cell? ⟨g2,o2,none⟩=some (.int .i64 j2)∧w.cell? ⟨g2,o2+1,none⟩=some (.string t2)∧w.cell? ⟨g2,o2+2,none⟩=some (.int .i64 m2)∧w.cell? ⟨g2,o2+3,none⟩=some (.slice A2 l2 p2))
  (HC:Hid (∀ W,Below w.heap.size w W→Calls Tryd.prog 50 #[.pointer (some ⟨b,0,none⟩),.agg #[.int .i64 j1,.string t1,.int .i64 m1,.slice A1 l1 p1],.agg #[.int .i64 j2,.string t2,.int .i64 m2,.slice A2 l2 p2]] W fun e w'=>e=.returned .nilIface∧Q w')) :
  Calls Tryd.prog 50 #[.pointer (some ⟨b,0,none⟩),.agg #[.int .i64 2,.string s,.int .i64 n1,.slice (some ⟨g1,o1,none⟩) 1 c1],.agg #[.int .i64 2,.string s,.int .i64 n2,.slice (some ⟨g2,o2,none⟩) 1 c2]] w fun e w'=>e=.returned .nilIface∧Q w':=by
 have H1:Hid (∀ W,Below w.heap.size w W→Calls Tryd.prog 85 #[.pointer (some ⟨b,0,none⟩),.agg #[.int .i64 2,.string s,.int .i64 n1,.slice (some ⟨g1,o1,none⟩) 1 c1]] W fun e w'=>e=.returned (.agg #[.int .i64 2,.string s,.int .i64 n1,.slice (some ⟨g1,o1,none⟩) 1 c1])∧Below W.heap.size W w'):=Lib.hid (fun W hb=>head_other b 2 n1 s _ 1 c1 W (by decide))
 have H2:Hid (∀ W,Below w.heap.size w W→Calls Tryd.prog 85 #[.pointer (some ⟨b,0,none⟩),.agg #[.int .i64 2,.string s,.int .i64 n2,.slice (some ⟨g2,o2,none⟩) 1 c2]] W fun e w'=>e=.returned (.agg #[.int .i64 2,.string s,.int .i64 n2,.slice (some ⟨g2,o2,none⟩) 1 c2])∧Below W.heap.size W w'):=Lib.hid (fun W hb=>head_other b 2 n2 s _ 1 c2 W (by decide))
 have HG:=Lib.hid (And.intro hg1 hg2)
 have HE1:=Lib.hid h1
 have HE2:=Lib.hid h2
 clear h1 h2 hg1 hg2
 have HB0:=Lib.hid (show Below w.heap.size w ((w.alloc (.cells #[.int .i64 2,.string s,.int .i64 n1,.slice (some ⟨g1,o1,none⟩) 1 c1] 32)).alloc (.cells #[.int .i64 2,.string s,.int .i64 n2,.slice (some ⟨g2,o2,none⟩) 1 c2] 32)) from (below_alloc _ _).alloc (by simp) _)
 have HA:=Lib.hid ((Below.heap_alloc (w.alloc (.cells #[.int .i64 2,.string s,.int .i64 n1,.slice (some ⟨g1,o1,none⟩) 1 c1] 32)) (.cells #[.int .i64 2,.string s,.int .i64 n2,.slice (some ⟨g2,o2,none⟩) 1 c2] 32) w.heap.size (by simp)).trans (heap_alloc_new w (.cells #[.int .i64 2,.string s,.int .i64 n1,.slice (some ⟨g1,o1,none⟩) 1 c1] 32)))
 have hz:(w.alloc (.cells #[.int .i64 2,.string s,.int .i64 n1,.slice (some ⟨g1,o1,none⟩) 1 c1] 32)).heap.size=w.heap.size+1:=by simp
 have HR:=Lib.hid (heap_alloc_new (w.alloc (.cells #[.int .i64 2,.string s,.int .i64 n1,.slice (some ⟨g1,o1,none⟩) 1 c1] 32)) (.cells #[.int .i64 2,.string s,.int .i64 n2,.slice (some ⟨g2,o2,none⟩) 1 c2] 32))
 rw [hz] at HR
 have HZ2:=Lib.hid (show ((w.alloc (.cells #[.int .i64 2,.string s,.int .i64 n1,.slice (some ⟨g1,o1,none⟩) 1 c1] 32)).alloc (.cells #[.int .i64 2,.string s,.int .i64 n2,.slice (some ⟨g2,o2,none⟩) 1 c2] 32)).heap.size=w.heap.size+2 by simp)
 clear hz
 go_enter Tryd.func50,Tryd.ntmps50
 go_upto_region 1 with fail
 generalize ((w.alloc (.cells #[.int .i64 2,.string s,.int .i64 n1,.slice (some ⟨g1,o1,none⟩) 1 c1] 32)).alloc (.cells #[.int .i64 2,.string s,.int .i64 n2,.slice (some ⟨g2,o2,none⟩) 1 c2] 32))=Z at HA HR HZ2 HB0 ⊢
 have HA:Hid (Z.drew.heap[w.heap.size]?=_):=HA
 have HR:Hid (Z.drew.heap[w.heap.size+1]?=_):=HR
 have HZ2:Hid (Z.drew.heap.size=_):=HZ2
 have HB0:=Lib.hid (below_drw HB0.out)
 have a0:=(cellH HA.out 0).trans rfl
 have a1:=(cellH HA.out 1).trans rfl
 have a2:=(cellH HA.out 2).trans rfl
 have a3:=(cellH HA.out 3).trans rfl
 have b0:=(cellH HR.out 0).trans rfl
 have b1:=(cellH HR.out 1).trans rfl
 have b2:=(cellH HR.out 2).trans rfl
 have b3:=(cellH HR.out 3).trans rfl
 go_region_with (first
  | (go_at_call 85;with_reducible refine (H1.out _ HB0.out).mono ?_;rintro e wA ⟨rfl,hbA⟩;have HBA:=Lib.hid hbA;have HAA:=Lib.hid ((hbA.block w.heap.size (by have:=HZ2.out;omega)).trans HA.out);have HRA:=Lib.hid ((hbA.block (w.heap.size+1) (by have:=HZ2.out;omega)).trans HR.out);have HB1:=Lib.hid (HB0.out.trans (hbA.mono HB0.out.size));have HSA:=Lib.hid hbA.size;have d0:=(cellH HRA.out 0).trans rfl;have d1:=(cellH HRA.out 1).trans rfl;have d2:=(cellH HRA.out 2).trans rfl;have d3:=(cellH HRA.out 3).trans rfl;clear hbA)
  | (go_at_call 85;with_reducible refine (H2.out _ HB1.out).mono ?_;rintro e wB ⟨rfl,hbB⟩;have HAB:=Lib.hid ((hbB.block w.heap.size (by have:=HZ2.out;have:=HSA.out;omega)).trans HAA.out);have HRB:=Lib.hid ((hbB.block (w.heap.size+1) (by have:=HZ2.out;have:=HSA.out;omega)).trans HRA.out);have HB2:=Lib.hid (HB1.out.trans (hbB.mono HB1.out.size));have HSB:=Lib.hid hbB.size;have x0:=(cellH HAB.out 0).trans rfl;have x1:=(cellH HAB.out 1).trans rfl;have x2:=(cellH HAB.out 2).trans rfl;have x3:=(cellH HAB.out 3).trans rfl;have y0:=(cellH HRB.out 0).trans rfl;have y1:=(cellH HRB.out 1).trans rfl;have y2:=(cellH HRB.out 2).trans rfl;have y3:=(cellH HRB.out 3).trans rfl;have f0:=frozenH HAB.out 0;have f1:=frozenH HAB.out 1;have f2:=frozenH HAB.out 2;have f3:=frozenH HAB.out 3;have g0:=frozenH HRB.out 0;have g1:=frozenH HRB.out 1;have g2:=frozenH HRB.out 2;have g3:=frozenH HRB.out 3;clear hbB))
 all_goals
  clear a0 a1 a2 a3 b0 b1 b2 b3 d0 d1 d2 d3 x0 x1 x2 x3 y0 y1 y2 y3 f0 f1 f2 f3 g0 g1 g2 g3
  have hk1:=kput4 wB w.heap.size (.int .i64 2) (.string s) (.int .i64 n1) (.slice (some ⟨g1,o1,none⟩) 1 c1)
  have hq1:=put4 (.int .i64 2) (.string s) (.int .i64 n1) (.slice (some ⟨g1,o1,none⟩) 1 c1) HAB.out
  have hr1:=(hk1.block (w.heap.size+1) (by have:=HZ2.out;have:=HSA.out;have:=HSB.out;omega) (by omega)).trans HRB.out
  have hk2:=kput4 (((((wB.setCell ⟨w.heap.size,0,none⟩ (.int .i64 2)).setCell ⟨w.heap.size,1,none⟩ (.string s)).setCell ⟨w.heap.size,2,none⟩ (.int .i64 n1)).setCell ⟨w.heap.size,3,none⟩ (.slice (some ⟨g1,o1,none⟩) 1 c1))) (w.heap.size+1) (.int .i64 2) (.string s) (.int .i64 n2) (.slice (some ⟨g2,o2,none⟩) 1 c2)
  have hr2:=put4 (.int .i64 2) (.string s) (.int .i64 n2) (.slice (some ⟨g2,o2,none⟩) 1 c2) hr1
  have hq2:=(hk2.block w.heap.size (by have:=hk1.size;have:=HZ2.out;have:=HSA.out;have:=HSB.out;omega) (by omega)).trans hq1
  have hkb:=(hk1.wider (S':=fun j=>w.heap.size≤j) (fun j _ e=>by omega)).trans (hk2.wider (fun j _ e=>by omega))
  have HBW:=Lib.hid (HB2.out.trans (hkb.below (by have:=HZ2.out;have:=HSA.out;have:=HSB.out;omega) (fun j e=>e)))
  have HQ:=Lib.hid hq2
  have HR2:=Lib.hid hr2
  have HSZ:=Lib.hid (show w.heap.size+2≤wB.heap.size by have:=HZ2.out;have:=HSA.out;have:=HSB.out;omega)
  have HSW:=Lib.hid (Nat.le_trans HSZ.out hkb.size)
  generalize ((((((((((wB.setCell ⟨w.heap.size,0,none⟩ (.int .i64 2)).setCell ⟨w.heap.size,1,none⟩ (.string s)).setCell ⟨w.heap.size,2,none⟩ (.int .i64 n1)).setCell ⟨w.heap.size,3,none⟩ (.slice (some ⟨g1,o1,none⟩) 1 c1))).setCell ⟨w.heap.size+1,0,none⟩ (.int .i64 2)).setCell ⟨w.heap.size+1,1,none⟩ (.string s)).setCell ⟨w.heap.size+1,2,none⟩ (.int .i64 n2)).setCell ⟨w.heap.size+1,3,none⟩ (.slice (some ⟨g2,o2,none⟩) 1 c2)))=W at HBW HQ HR2 HSW ⊢
  clear hk1 hq1 hr1 hk2 hr2 hq2 hkb HA HR HZ2 HB0 HAA HRA HB1 HSA HAB HRB HB2 HSB HSZ H1 H2
  have a0:=(cellH HQ.out 0).trans rfl
  have a1:=(cellH HQ.out 1).trans rfl
  have a2:=(cellH HQ.out 2).trans rfl
  have a3:=(cellH HQ.out 3).trans rfl
  have b0:=(cellH HR2.out 0).trans rfl
  have b1:=(cellH HR2.out 1).trans rfl
  have b2:=(cellH HR2.out 2).trans rfl
  have b3:=(cellH HR2.out 3).trans rfl
  go_wp2_with fail
  clear a0 a1 a2 b0 b1 b2
  go_loopw [76] (fun t wr=>(t=.int .i64 0∧wr=W) ∨ (t=.int .i64 1∧Hid (Q wr))) (fun t _=>1 - (intOf t).toNat)
  case atStart=>exact .inl ⟨rfl,rfl⟩
  case round =>
   rcases hrel with ⟨rfl,rfl⟩ | ⟨rfl,HQW⟩
   ·clear a3 b3
    have hbz:=below_alloc wr (.cells #[.int .i64 j1,.string t1,.int .i64 m1,.slice A1 l1 p1] 32)
    have HBZ:=Lib.hid (HBW.out.trans (hbz.mono HBW.out.size))
    obtain ⟨q0,q1,q2,q3⟩:=cells4 HG.out.1 HE1.out HBW.out
    obtain ⟨d0,d1,d2,d3⟩:=cells4 HG.out.2 HE2.out HBZ.out
    have hn:=heap_alloc_new wr (.cells #[.int .i64 j1,.string t1,.int .i64 m1,.slice A1 l1 p1] 32)
    have e0:=(cellH hn 0).trans rfl
    have e1:=(cellH hn 1).trans rfl
    have e2:=(cellH hn 2).trans rfl
    have e3:=(cellH hn 3).trans rfl
    have b3:=(cellH ((hbz.block (w.heap.size+1) (by have:=HSW.out;omega)).trans HR2.out) 3).trans rfl
    clear hbz hn
    go_upto_region 13 with fail
    generalize (wr.alloc (.cells #[.int .i64 j1,.string t1,.int .i64 m1,.slice A1 l1 p1] 32))=Y at HBZ e0 e1 e2 e3 d0 d1 d2 d3 b3 ⊢
    go_still_tail 7,(by kernel_rfl)
    have HBZ:=Lib.hid (below_drw HBZ.out)
    have HCALL:=Lib.hid (HC.out _ HBZ.out)
    have e0:Y.drew.cell? _=_:=e0
    have e1:Y.drew.cell? _=_:=e1
    have e2:Y.drew.cell? _=_:=e2
    have e3:Y.drew.cell? _=_:=e3
    have d0:Y.drew.cell? _=_:=d0
    have d1:Y.drew.cell? _=_:=d1
    have d2:Y.drew.cell? _=_:=d2
    have d3:Y.drew.cell? _=_:=d3
    have b3:Y.drew.cell? _=_:=b3
    change wpList _ _ _ _ _ Y.drew
    generalize Y.drew=X at HBZ e0 e1 e2 e3 d0 d1 d2 d3 b3 HCALL ⊢
    go_wp2_with (go_at_call 50;refine HCALL.out.mono ?_;rintro e w3 ⟨rfl,hQ3⟩;have HQ3:=Lib.hid hQ3;clear hQ3)
    go_roundw
    case rel=>exact .inr ⟨by go_num,HQ3⟩
    case measure=>simp [intOf]
   ·go_wp2_with fail
    go_ret
    exact ⟨rfl,HQW.out⟩
end Lx
end Go.Proofs.YtnpacamcgifabaaDoor
