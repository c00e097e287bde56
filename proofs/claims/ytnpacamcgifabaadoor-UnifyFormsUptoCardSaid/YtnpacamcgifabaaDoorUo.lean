/- Package unify: bind, as the example needs it. Conditions: as each states. -/
import Derived.Test.YtnpacamcgifabaaDoorUn
import Derived.BigRegion
namespace Go.Proofs.YtnpacamcgifabaaDoor
set_option linter.unusedSimpArgs false
set_option linter.unusedVariables false
namespace Lx
open Go Go.RowKit
/-- An unknown is bound to a type that has it: refused. -/
theorem bind_in (f:Nat→Addr) (b:Nat) (v k n:Int) (s:ByteArray) (A:Option Addr) (l c:Nat) (w:World) (he:ErrU f w)
  (HO:Hid (∀ W,Below w.heap.size w W→Calls Tryd.prog 106 #[.pointer (some ⟨b,0,none⟩),.int .i64 v,.agg #[.int .i64 k,.string s,.int .i64 n,.slice A l c]] W fun e w'=>e=.returned (.bool true)∧Below W.heap.size W w')) :
  Calls Tryd.prog 86 #[.pointer (some ⟨b,0,none⟩),.int .i64 v,.agg #[.int .i64 k,.string s,.int .i64 n,.slice A l c]] w fun e w'=>e=.returned (errP (f 2))∧Below w.heap.size w w':=by
 have hb0:=below_alloc w (.cells #[.int .i64 k,.string s,.int .i64 n,.slice A l c] 32)
 have HX:=Lib.hid (HO.out _ hb0)
 have HB:=Lib.hid hb0
 have HE:=Lib.hid he
 clear hb0 he HO
 go_enter Tryd.func86,Tryd.ntmps86
 go_wp2_with fail
 refine HX.out.mono ?_
 rintro e w1 ⟨rfl,hb1⟩
 have HB1:=Lib.hid (HB.out.trans (hb1.mono HB.out.size))
 have hl:=(ErrU.stay f _ _ HE.out HB1.out).types
 clear hb1
 go_wp2_with fail
 go_ret
 exact ⟨rfl,HB1.out⟩
/-- The row's block of a table, whole. -/
def RowT (b g m cap:Nat) (cs:Array Value) (w:World):Prop:=w.heap[b]?=some (.cells #[.slice (some ⟨g,0,none⟩) m cap] 86 (0,0))∧w.heap[g]?=some (.cells cs 89 (0,0))∧m * 6≤cs.size
theorem RowT.stay (b g m cap:Nat) (cs:Array Value):StayI (RowT b g m cap cs):=by
 rintro w w' ⟨h1,h2,h3⟩ hb
 exact ⟨(hb.block _ (Array.getElem?_eq_some_iff.1 h1).1).trans h1,(hb.block _ (Array.getElem?_eq_some_iff.1 h2).1).trans h2,h3⟩
theorem RowT.cell {b g m cap:Nat} {cs:Array Value} {w:World} (h:RowT b g m cap cs w) {i j:Nat} {v:Value} (hc:cs[i * 6+j]?=some v):CellT b m i j v w :=
 ⟨(Array.getElem?_eq_some_iff.1 h.1).1,g,cap,(cellH h.1 0).trans rfl,(Array.getElem?_eq_some_iff.1 h.2.1).1,(cellH h.2.1 _).trans hc⟩
theorem RowT.tab {b g m cap:Nat} {cs:Array Value} {w:World} (h:RowT b g m cap cs w):TabC b m w:=⟨(Array.getElem?_eq_some_iff.1 h.1).1,_,_,(cellH h.1 0).trans rfl⟩
set_option maxRecDepth 100000 in
set_option maxHeartbeats 4000000 in
/-- The first of two unknowns is bound to int. -/
theorem bind_int (A:Option Addr) (c:Nat) (b g cap:Nat) (z0 z1 z2 z3 z5:Value) (R:List Value) (w:World) (h:RowT b g 2 cap ⟨z0 :: z1 :: z2 :: z3 :: .int .i64 1 :: z5 :: R⟩ w) :
  Calls Tryd.prog 86 #[.pointer (some ⟨b,0,none⟩),.int .i64 0,.agg #[.int .i64 1,.string ⟨#[]⟩,.int .i64 0,.slice A 0 c]] w fun e w'=>e=.returned .nilIface∧RowT b g 2 cap ⟨.int .i64 1 :: .string ⟨#[]⟩ :: .int .i64 0 :: .slice A 0 c :: .int .i64 1 :: z5 :: R⟩ w'∧Kb (fun k=>k=g) w w':=by
 have hb0:=below_alloc w (.cells #[.int .i64 1,.string ⟨#[]⟩,.int .i64 0,.slice A 0 c] 32)
 have HX:=Lib.hid (occurs_int A c b 0 _:Calls Tryd.prog _ _ (w.alloc (.cells #[.int .i64 1,.string ⟨#[]⟩,.int .i64 0,.slice A 0 c] 32)) _)
 have HB:=Lib.hid hb0
 have HR:=Lib.hid (RowT.stay _ _ _ _ _ _ _ h hb0)
 have HN:=Lib.hid (nodesT_int A c)
 have HG:=Lib.hid grow_zero
 have HU:=Lib.hid (use_int A c)
 have HA:=Lib.hid (heap_alloc_new w (.cells #[.int .i64 1,.string ⟨#[]⟩,.int .i64 0,.slice A 0 c] 32))
 have hgl:=(Array.getElem?_eq_some_iff.1 h.2.1).1
 have hbl:=(Array.getElem?_eq_some_iff.1 h.1).1
 clear hb0 h
 go_enter Tryd.func86,Tryd.ntmps86
 go_wp2_with fail
 refine HX.out.mono ?_
 rintro e w1 ⟨rfl,hb1⟩
 have HB1:=Lib.hid (HB.out.trans (hb1.mono HB.out.size))
 have HR1:=Lib.hid (RowT.stay _ _ _ _ _ _ _ HR.out hb1)
 have HA1:=Lib.hid ((hb1.block _ (Array.getElem?_eq_some_iff.1 HA.out).1).trans HA.out)
 have a0:=(cellH HA1.out 0).trans rfl
 have a1:=(cellH HA1.out 1).trans rfl
 have a2:=(cellH HA1.out 2).trans rfl
 have a3:=(cellH HA1.out 3).trans rfl
 clear hb1 HX HR HA HB
 go_wp2_with (first | (go_at_call 55;refine (HN.out _ _).mono ?_;rintro e w2 ⟨rfl,hb2⟩;have HB2:=Lib.hid hb2;clear hb2) | (go_at_call 107;refine (HG.out _ _ _).mono ?_;rintro e w3 ⟨rfl,rfl⟩))
 have HA2:=Lib.hid ((HB2.out.block _ (Array.getElem?_eq_some_iff.1 HA1.out).1).trans HA1.out)
 have HR2:=Lib.hid (RowT.stay _ _ _ _ _ _ _ HR1.out HB2.out)
 have HB3:=Lib.hid (HB1.out.trans (HB2.out.mono HB1.out.size))
 clear HA1 HR1 HB1 HB2 a0 a1 a2 a3
 have HA2:Hid (w2.drew.heap[w.heap.size]?=_):=HA2
 have HR2:Hid (RowT b g 2 cap ⟨z0 :: z1 :: z2 :: z3 :: .int .i64 1 :: z5 :: R⟩ w2.drew):=HR2
 have HB3:=Lib.hid (below_drw HB3.out)
 have a0:=(cellH HA2.out 0).trans rfl
 have a1:=(cellH HA2.out 1).trans rfl
 have a2:=(cellH HA2.out 2).trans rfl
 have a3:=(cellH HA2.out 3).trans rfl
 have t0:=(cellH HR2.out.1 0).trans rfl
 have d0:w2.drew.cell? ⟨g,0,none⟩=some z0:=(cellH HR2.out.2.1 0).trans rfl
 have d1:w2.drew.cell? ⟨g,1,none⟩=some z1:=(cellH HR2.out.2.1 1).trans rfl
 have d2:w2.drew.cell? ⟨g,2,none⟩=some z2:=(cellH HR2.out.2.1 2).trans rfl
 have d3:w2.drew.cell? ⟨g,3,none⟩=some z3:=(cellH HR2.out.2.1 3).trans rfl
 have f0:=frozenH HR2.out.2.1 0
 have f1:=frozenH HR2.out.2.1 1
 have f2:=frozenH HR2.out.2.1 2
 have f3:=frozenH HR2.out.2.1 3
 have dd0:w2.cell? ⟨g,0,none⟩=some z0:=d0
 have dd1:w2.cell? ⟨g,1,none⟩=some z1:=d1
 have dd2:w2.cell? ⟨g,2,none⟩=some z2:=d2
 have dd3:w2.cell? ⟨g,3,none⟩=some z3:=d3
 have ff0:w2.frozen? ⟨g,0,none⟩=false:=f0
 have ff1:w2.frozen? ⟨g,1,none⟩=false:=f1
 have ff2:w2.frozen? ⟨g,2,none⟩=false:=f2
 have ff3:w2.frozen? ⟨g,3,none⟩=false:=f3
 go_region
 clear a0 a1 a2 a3 t0 d0 d1 d2 d3 f0 f1 f2 f3 dd0 dd1 dd2 dd3 ff0 ff1 ff2 ff3
 have hA:w2.heap[w.heap.size]?=_:=HA2.out
 have hg:w2.heap[g]?=_:=HR2.out.2.1
 have hb:w2.heap[b]?=_:=HR2.out.1
 have hB:Below w.heap.size w w2:=⟨HB3.out.os,HB3.out.tape,HB3.out.output,HB3.out.size,HB3.out.block⟩
 have hne:b ≠ g:=fun e=>by
  subst e
  rw [hg] at hb
  injection hb with q
  injection q with _ q _
  exact absurd q (by decide)
 have k1:Kb (fun k=>k=g) w2 ((((w2.setCell ⟨g,0,none⟩ (.int .i64 1)).setCell ⟨g,1,none⟩ (.string ⟨#[]⟩)).setCell ⟨g,2,none⟩ (.int .i64 0)).setCell ⟨g,3,none⟩ (.slice A 0 c)).drew:=(kput4 w2 g (.int .i64 1) (.string ⟨#[]⟩) (.int .i64 0) (.slice A 0 c)).trans (Kb.of_below (below_drw (Below.refl _ _)))
 have q1:((((w2.setCell ⟨g,0,none⟩ (.int .i64 1)).setCell ⟨g,1,none⟩ (.string ⟨#[]⟩)).setCell ⟨g,2,none⟩ (.int .i64 0)).setCell ⟨g,3,none⟩ (.slice A 0 c)).drew.heap[g]?=some (.cells ⟨.int .i64 1 :: .string ⟨#[]⟩ :: .int .i64 0 :: .slice A 0 c :: .int .i64 1 :: z5 :: R⟩ 89 (0,0)) :=
  blk_put _ _ 3 _ (blk_put _ _ 2 _ (blk_put _ _ 1 _ (blk_put _ _ 0 _ hg (by simp)) (by simp)) (by simp)) (by simp)
 have KW:=Lib.hid ((Kb.of_below hB).trans k1)
 have hbx:=(k1.block b (Array.getElem?_eq_some_iff.1 hb).1 hne).trans hb
 have HAX:=Lib.hid ((k1.block w.heap.size (Array.getElem?_eq_some_iff.1 hA).1 (by omega)).trans hA)
 have HRX:Hid (RowT b g 2 cap ⟨.int .i64 1 :: .string ⟨#[]⟩ :: .int .i64 0 :: .slice A 0 c :: .int .i64 1 :: z5 :: R⟩ _):=Lib.hid ⟨hbx,q1,by have:=HR2.out.2.2;simpa using this⟩
 clear hA hg hb hB k1 q1 hbx HA2 HR2 HB3
 generalize ((((w2.setCell ⟨g,0,none⟩ (.int .i64 1)).setCell ⟨g,1,none⟩ (.string ⟨#[]⟩)).setCell ⟨g,2,none⟩ (.int .i64 0)).setCell ⟨g,3,none⟩ (.slice A 0 c)).drew=X at KW HAX HRX ⊢
 have a0:=(cellH HAX.out 0).trans rfl
 have a1:=(cellH HAX.out 1).trans rfl
 have a2:=(cellH HAX.out 2).trans rfl
 have a3:=(cellH HAX.out 3).trans rfl
 go_wp2_with fail
 refine (HU.out _ _ _).mono ?_
 rintro e w3 ⟨rfl,hb3⟩
 have HB3:=Lib.hid hb3
 clear hb3 a0 a1 a2 a3
 go_wp2_with fail
 go_ret
 exact ⟨rfl,RowT.stay _ _ _ _ _ _ _ HRX.out HB3.out,KW.out.trans (Kb.of_below HB3.out)⟩
end Lx
end Go.Proofs.YtnpacamcgifabaaDoor
