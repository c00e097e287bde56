/- The reference's table: what it holds; now, what a type comes to. Conditions: as each states. -/
/- The reference's table: now at a type that is no unknown and has no parts. Conditions: as each states. -/
/- The reference's table: now in general: what a type comes to. Conditions: the table's types are clean, each of at most 200 nodes. -/
import Derived.Test.YtdegmeoapgibiaaDoorYxA
namespace Go.Proofs.YtdegmeoapgibiaaDoor
set_option linter.unusedSimpArgs false
set_option linter.unusedVariables false
namespace Lx
open Go Go.RowKit
mutual
theorem nodes_good {m:Nat}:∀ x:TyT,goodT m x→nodesZ x=(sizeT x:Int)
 | .mk k s n l,gt=>by
  rw [goodT] at gt
  rcases gt with ⟨rfl,_,_,rfl⟩ | ⟨rfl,_,rfl⟩ | ⟨rfl,_,rfl,_⟩ | ⟨rfl,_,h⟩
  ·simp [nodesZ,sizeT,sizeTs]
  ·simp [nodesZ,sizeT,sizeTs]
  ·simp [nodesZ,sizeT,sizeTs]
  ·rw [nodesZ,sizeT,if_pos rfl,nodes_goods l h]
   push_cast
   rfl
theorem nodes_goods {m:Nat}:∀ l:List TyT,goodTs m l→nodesZs l=(sizeTs l:Int)
 | [],_=>by simp [nodesZs,sizeTs]
 | x :: l,h=>by
  rw [nodesZs,sizeTs,nodes_good x h.1,nodes_goods l h.2]
  push_cast
  rfl
end
/-- The reference's table in memory: of each unknown its type. -/
structure RTab (Vol:Nat→Prop) (b m:Nat) (r:Rho) (w:World):Prop where
 row:∃ val,w.heap[b]?=some (.cells #[val] 29 (0,0))∧RowW 4 TyE Vol ((List.range m).map r) val w
theorem RTab.below {Vol:Nat→Prop} {b m:Nat} {r:Rho} {w w':World} (h:RTab Vol b m r w) (hb:Below w.heap.size w w'):RTab Vol b m r w':=by
 obtain ⟨val,h1,h2⟩:=h.row
 exact ⟨val,(hb.block b (Array.getElem?_eq_some_iff.1 h1).1).trans h1,(RowW.step TyE.step).below h2 hb⟩
theorem RTab.past {Vol:Nat→Prop} {b m:Nat} {r:Rho} {w w':World} (h:RTab Vol b m r w) (hb:Below w.heap.size w w'):RTab (fun j=>Vol j ∨ w.heap.size≤j) b m r w':=by
 obtain ⟨val,h1,h2⟩:=h.row
 exact ⟨val,(hb.block b (Array.getElem?_eq_some_iff.1 h1).1).trans h1,(RowW.step TyE.step) _ _ _ _ _ _ h2 (Kb.of_below hb) (fun k hk e=>e.elim id (fun e=>by omega))⟩
theorem RTab.wider {Vol Vol':Nat→Prop} {b m:Nat} {r:Rho} {w:World} (h:RTab Vol b m r w) (hv:∀ k,k < w.heap.size→Vol' k→Vol k):RTab Vol' b m r w:=by
 obtain ⟨val,h1,h2⟩:=h.row
 exact ⟨val,h1,(RowW.step TyE.step) _ _ _ _ _ _ h2 (Kb.refl _ _) hv⟩
/-- What now leaves: the type and what is left, where enough was left; else less than nothing is left. -/
def NowP (Vol:Nat→Prop) (r:Rho) (x:TyT) (left:Int) (w:World):Ending→World→Prop:=fun e w'=>∃ z v' q,e=.returned (.tuple #[v',.int .i64 q])∧TyE Vol z v' w'∧Below w.heap.size w w'∧((0≤left - sizeT (sub r x)∧z=sub r x∧q=left - sizeT (sub r x)) ∨ (left - sizeT (sub r x) < 0∧q < 0))
def NowC (b m d:Nat) (r:Rho):Prop:=∀ (Vol:Nat→Prop) (x:TyT) (xv:Value) (left:Int) (w:World),TyW d Vol x xv w→goodT m x→fewT x→RTab Vol b m r w→(∀ k,Vol k→k < w.heap.size)→0≤left→left≤2000000000 →
 Calls Tryd.prog 42 #[.pointer (some ⟨b,0,none⟩),xv,.int .i64 left] w (NowP Vol r x left w)
set_option maxRecDepth 100000 in
set_option maxHeartbeats 4000000 in
theorem now_free (b m:Nat) (r:Rho) (hr0:∀ i,i < m→goodT m (r i)∧sizeT (r i)≤200) (Vol:Nat→Prop) (s:ByteArray) (i:Nat) (A1:Option Addr) (n1 c1:Nat) (left:Int) (w:World) (him:i < m) (hx:TyE Vol (fr i) (.agg #[.int .i64 4,.string ⟨#[]⟩,.int .i64 (i:Int),.slice A1 n1 c1]) w) (hT:RTab Vol b m r w) (hvl:∀ k,Vol k→k < w.heap.size) (hl0:0≤left) (hl1:left≤2000000000) :
  Calls Tryd.prog 42 #[.pointer (some ⟨b,0,none⟩),.agg #[.int .i64 4,.string ⟨#[]⟩,.int .i64 (i:Int),.slice A1 n1 c1],.int .i64 left] w (NowP Vol r (fr i) left w):=by
 have HB:=Lib.hid (show Below w.heap.size w ((w.alloc (.cells #[.int .i64 4,.string ⟨#[]⟩,.int .i64 (i:Int),.slice A1 n1 c1] 32)).alloc (.cells #[.int .i64 0,.string ⟨#[]⟩,.int .i64 0,.slice none 0 0] 32)) from (below_alloc _ _).alloc (by simp) _)
 have HT:=Lib.hid (hT.past HB.out)
 have HXA:Hid (((w.alloc (.cells #[.int .i64 4,.string ⟨#[]⟩,.int .i64 (i:Int),.slice A1 n1 c1] 32)).alloc (.cells #[.int .i64 0,.string ⟨#[]⟩,.int .i64 0,.slice none 0 0] 32)).heap[w.heap.size]?=some (.cells #[.int .i64 4,.string ⟨#[]⟩,.int .i64 (i:Int),.slice A1 n1 c1] 32 (0,0))):=Lib.hid ((Below.heap_alloc _ _ _ (by simp)).trans (heap_alloc_new w _))
 have HZA:Hid (((w.alloc (.cells #[.int .i64 4,.string ⟨#[]⟩,.int .i64 (i:Int),.slice A1 n1 c1] 32)).alloc (.cells #[.int .i64 0,.string ⟨#[]⟩,.int .i64 0,.slice none 0 0] 32)).heap[w.heap.size+1]?=some (.cells #[.int .i64 0,.string ⟨#[]⟩,.int .i64 0,.slice none 0 0] 32 (0,0))):=Lib.hid (by
  have:=heap_alloc_new (w.alloc (.cells #[.int .i64 4,.string ⟨#[]⟩,.int .i64 (i:Int),.slice A1 n1 c1] 32)) (.cells #[.int .i64 0,.string ⟨#[]⟩,.int .i64 0,.slice none 0 0] 32)
  simpa using this)
 have HX0:=Lib.hid hx
 have HXE:=Lib.hid (TyE.step.below hx HB.out)
 obtain ⟨val,hb0,hrow⟩:=HT.out.row
 obtain ⟨Ar,cr,rfl⟩:=hrow.slice
 obtain ⟨gg,o,vi,rfl,hg,_,hvi,hc⟩:=RowW.at hrow i (by simpa using him)
 obtain ⟨B1,n2,c2,rfl⟩:=hvi.this
 have a0:=(hc 0 (by decide)).trans rfl
 have a1:=(hc 1 (by decide)).trans rfl
 have a2:=(hc 2 (by decide)).trans rfl
 have a3:=(hc 3 (by decide)).trans rfl
 simp only [cellsL,Value.cells,List.getElem?_cons_zero,List.getElem?_cons_succ,Nat.add_zero,List.getElem_map,List.getElem_range,List.length_map,List.length_range] at a0 a1 a2 a3 hb0 hvi
 have t0:=(cellH hb0 0).trans rfl
 have hk0:(0:Int)≤(i:Int):=by omega
 have hk1:(i:Int) < (m:Int):=by omega
 clear hc hrow hb0 hx
 have HVI:=Lib.hid hvi
 clear hvi
 by_cases q4:(r i).kind=4
 ·have e4:((r i).kind == 4)=true:=by simpa using q4
  have d4:decide ((r i).kind=4)=true:=by simpa using q4
  rw [q4] at a0
  by_cases qv:(r i).var=(i:Int)
  ·rw [qv] at a2
   go_enter Tryd.func42,Tryd.ntmps42
   go_wp2_with fail
   generalize ((w.alloc (.cells #[.int .i64 4,.string ⟨#[]⟩,.int .i64 (i:Int),.slice A1 n1 c1] 32)).alloc (.cells #[.int .i64 0,.string ⟨#[]⟩,.int .i64 0,.slice none 0 0] 32))=X at HB HT HXE HVI HXA HZA a0 a1 a2 a3 t0 hg ⊢
   have x0:=(cellH HXA.out 0).trans rfl
   have x2:=(cellH HXA.out 2).trans rfl
   go_quiet (fail)
   have HBQ:Hid (Below w.heap.size w (X.drewN nq)):=Lib.hid (below_drewN HB.out nq)
   have HXQ:Hid ((X.drewN nq).heap[w.heap.size]?=_):=Lib.hid HXA.out
   have HZQ:Hid ((X.drewN nq).heap[w.heap.size+1]?=_):=Lib.hid HZA.out
   have HXE:Hid (TyE Vol (fr i) _ (X.drewN nq)):=Lib.hid (TyE.step.below HXE.out (below_drewN (Below.refl _ _) nq))
   have HVI:Hid (TyE (fun j=>Vol j ∨ w.heap.size≤j) (r i) _ (X.drewN nq)):=Lib.hid (TyE.step.below HVI.out (below_drewN (Below.refl _ _) nq))
   have t0':(X.drewN nq).cell? ⟨b,0,none⟩=_:=t0
   have a0':(X.drewN nq).cell? ⟨gg,o+i * 4,none⟩=_:=a0
   have a1':(X.drewN nq).cell? ⟨gg,o+i * 4+1,none⟩=_:=a1
   have a2':(X.drewN nq).cell? ⟨gg,o+i * 4+2,none⟩=_:=a2
   have a3':(X.drewN nq).cell? ⟨gg,o+i * 4+3,none⟩=_:=a3
   clear a0 a1 a2 a3 t0 x0 x2
   generalize X.drewN nq=Y at HBQ HXQ HZQ HXE HVI t0' a0' a1' a2' a3' ⊢
   have x0:=(cellH HXQ.out 0).trans rfl
   have x1:=(cellH HXQ.out 1).trans rfl
   have x2:=(cellH HXQ.out 2).trans rfl
   have x3:=(cellH HXQ.out 3).trans rfl
   have r0:=(cellH HZQ.out 0).trans rfl
   have r1:=(cellH HZQ.out 1).trans rfl
   have r2:=(cellH HZQ.out 2).trans rfl
   have r3:=(cellH HZQ.out 3).trans rfl
   have fr0:=frozenH HZQ.out 0
   have fr1:=frozenH HZQ.out 1
   have fr2:=frozenH HZQ.out 2
   have fr3:=frozenH HZQ.out 3
   go_wp2_with fail
   clear x0 x1 x2 x3 r0 r1 r2 r3 fr0 fr1 fr2 fr3 a0' a1' a2' a3' t0'
   have hk:=kput4 Y (w.heap.size+1) (.int .i64 4) (.string ⟨#[]⟩) (.int .i64 (i:Int)) (.slice A1 n1 c1)
   have hq:=put4 (.int .i64 4) (.string ⟨#[]⟩) (.int .i64 (i:Int)) (.slice A1 n1 c1) HZQ.out
   have HBF:=Lib.hid (HBQ.out.trans (hk.below HBQ.out.size (fun k e=>by omega)))
   have HXF:Hid (TyE Vol (fr i) _ _):=Lib.hid (TyE.step _ _ _ _ _ _ (TyE.step _ (fun j=>Vol j ∨ j=w.heap.size+1) _ _ _ _ HX0.out (Kb.of_below HBQ.out) (fun j hj e=>e.elim id (fun e=>by omega))) (hk.wider (fun k _ e=>.inr e)) (fun k _ e=>.inl e))
   generalize ((((Y.setCell ⟨w.heap.size+1,0,none⟩ (.int .i64 4)).setCell ⟨w.heap.size+1,1,none⟩ (.string ⟨#[]⟩)).setCell ⟨w.heap.size+1,2,none⟩ (.int .i64 (i:Int))).setCell ⟨w.heap.size+1,3,none⟩ (.slice A1 n1 c1))=W5 at hq HBF HXF ⊢
   have z0:=(cellH hq 0).trans rfl
   have z1:=(cellH hq 1).trans rfl
   have z2:=(cellH hq 2).trans rfl
   have z3:=(cellH hq 3).trans rfl
   have hri:r i=fr i:=by
    obtain ⟨j,_,e⟩:=good_free (hr0 i him).1 q4
    rw [e] at qv
    have e2:(j:Int)=(i:Int):=qv
    have e3:j=i:=by omega
    rw [e,e3]
   exact bodyPost_ret (v:=.tuple #[.agg #[.int .i64 4,.string ⟨#[]⟩,.int .i64 (i:Int),.slice A1 n1 c1],.int .i64 (left - 1)]) (by simp [results,Tryd.results42,go_sem,z0,z1,z2,z3]) rfl ⟨fr i,_,_,rfl,HXF.out,HBF.out,by
    rw [sub_fr,hri,show sizeT (fr i)=1 from rfl]
    by_cases h:(0:Int)≤left - 1
    ·exact .inl ⟨h,rfl,rfl⟩
    ·exact .inr ⟨by push_cast;omega,by omega⟩⟩
  ·have ev:((r i).var == (i:Int))=false:=by simpa using qv
   have dv:decide ((r i).var=(i:Int))=false:=by simpa using qv
   go_enter Tryd.func42,Tryd.ntmps42
   go_wp2_with fail
   generalize ((w.alloc (.cells #[.int .i64 4,.string ⟨#[]⟩,.int .i64 (i:Int),.slice A1 n1 c1] 32)).alloc (.cells #[.int .i64 0,.string ⟨#[]⟩,.int .i64 0,.slice none 0 0] 32))=X at HB HT HXE HVI HXA HZA a0 a1 a2 a3 t0 hg ⊢
   have x0:=(cellH HXA.out 0).trans rfl
   have x2:=(cellH HXA.out 2).trans rfl
   go_quiet (fail)
   have HBQ:Hid (Below w.heap.size w (X.drewN nq)):=Lib.hid (below_drewN HB.out nq)
   have HXQ:Hid ((X.drewN nq).heap[w.heap.size]?=_):=Lib.hid HXA.out
   have HZQ:Hid ((X.drewN nq).heap[w.heap.size+1]?=_):=Lib.hid HZA.out
   have HXE:Hid (TyE Vol (fr i) _ (X.drewN nq)):=Lib.hid (TyE.step.below HXE.out (below_drewN (Below.refl _ _) nq))
   have HVI:Hid (TyE (fun j=>Vol j ∨ w.heap.size≤j) (r i) _ (X.drewN nq)):=Lib.hid (TyE.step.below HVI.out (below_drewN (Below.refl _ _) nq))
   have t0':(X.drewN nq).cell? ⟨b,0,none⟩=_:=t0
   have a0':(X.drewN nq).cell? ⟨gg,o+i * 4,none⟩=_:=a0
   have a1':(X.drewN nq).cell? ⟨gg,o+i * 4+1,none⟩=_:=a1
   have a2':(X.drewN nq).cell? ⟨gg,o+i * 4+2,none⟩=_:=a2
   have a3':(X.drewN nq).cell? ⟨gg,o+i * 4+3,none⟩=_:=a3
   clear a0 a1 a2 a3 t0 x0 x2
   generalize X.drewN nq=Y at HBQ HXQ HZQ HXE HVI t0' a0' a1' a2' a3' ⊢
   have x0:=(cellH HXQ.out 0).trans rfl
   have x1:=(cellH HXQ.out 1).trans rfl
   have x2:=(cellH HXQ.out 2).trans rfl
   have x3:=(cellH HXQ.out 3).trans rfl
   have r0:=(cellH HZQ.out 0).trans rfl
   have r1:=(cellH HZQ.out 1).trans rfl
   have r2:=(cellH HZQ.out 2).trans rfl
   have r3:=(cellH HZQ.out 3).trans rfl
   have fr0:=frozenH HZQ.out 0
   have fr1:=frozenH HZQ.out 1
   have fr2:=frozenH HZQ.out 2
   have fr3:=frozenH HZQ.out 3
   have en:((r i).var != (i:Int))=true:=by simpa using qv
   have fx0:=frozenH HXQ.out 0
   have fx1:=frozenH HXQ.out 1
   have fx2:=frozenH HXQ.out 2
   have fx3:=frozenH HXQ.out 3
   go_wp2_with fail
   go_region
   have hk:=kput4 Y w.heap.size (.int .i64 4) (.string (r i).name) (.int .i64 (r i).var) (.slice B1 n2 c2)
   have HQ:Hid (((((Y.setCell ⟨w.heap.size,0,none⟩ (.int .i64 4)).setCell ⟨w.heap.size,1,none⟩ (.string (r i).name)).setCell ⟨w.heap.size,2,none⟩ (.int .i64 (r i).var)).setCell ⟨w.heap.size,3,none⟩ (.slice B1 n2 c2)).drew.heap[w.heap.size]?=_):=Lib.hid (put4 (.int .i64 4) (.string (r i).name) (.int .i64 (r i).var) (.slice B1 n2 c2) HXQ.out)
   have HZH:Hid (((((Y.setCell ⟨w.heap.size,0,none⟩ (.int .i64 4)).setCell ⟨w.heap.size,1,none⟩ (.string (r i).name)).setCell ⟨w.heap.size,2,none⟩ (.int .i64 (r i).var)).setCell ⟨w.heap.size,3,none⟩ (.slice B1 n2 c2)).drew.heap[w.heap.size+1]?=_):=Lib.hid ((hk.block (w.heap.size+1) (Array.getElem?_eq_some_iff.1 HZQ.out).1 (by omega)).trans HZQ.out)
   have HBH:Hid (Below w.heap.size w ((((Y.setCell ⟨w.heap.size,0,none⟩ (.int .i64 4)).setCell ⟨w.heap.size,1,none⟩ (.string (r i).name)).setCell ⟨w.heap.size,2,none⟩ (.int .i64 (r i).var)).setCell ⟨w.heap.size,3,none⟩ (.slice B1 n2 c2)).drew):=Lib.hid (below_drw (HBQ.out.trans (hk.below HBQ.out.size (fun k e=>by omega))))
   have HVH:Hid (TyE (fun j=>Vol j ∨ w.heap.size≤j) (r i) (.agg #[.int .i64 4,.string (r i).name,.int .i64 (r i).var,.slice B1 n2 c2]) ((((Y.setCell ⟨w.heap.size,0,none⟩ (.int .i64 4)).setCell ⟨w.heap.size,1,none⟩ (.string (r i).name)).setCell ⟨w.heap.size,2,none⟩ (.int .i64 (r i).var)).setCell ⟨w.heap.size,3,none⟩ (.slice B1 n2 c2)).drew):=Lib.hid (TyE.step.below (TyE.step _ _ _ _ _ _ (by have h:=HVI.out;rw [q4] at h;exact h) (hk.wider (fun k _ (e:k=w.heap.size)=>.inr (by omega))) (fun _ _ e=>e)) (below_drw (Below.refl _ _)))
   clear hk x0 x1 x2 x3 r0 r1 r2 r3 fr0 fr1 fr2 fr3 fx0 fx1 fx2 fx3 a0' a1' a2' a3' t0'
   generalize ((((Y.setCell ⟨w.heap.size,0,none⟩ (.int .i64 4)).setCell ⟨w.heap.size,1,none⟩ (.string (r i).name)).setCell ⟨w.heap.size,2,none⟩ (.int .i64 (r i).var)).setCell ⟨w.heap.size,3,none⟩ (.slice B1 n2 c2)).drew=H at HQ HZH HBH HVH ⊢
   go_upto_region 3 with fail
   have HSX:Hid (∀ X:World,Below H.heap.size H X→X.cell? ⟨w.heap.size,0,none⟩=some (.int .i64 4)∧X.cell? ⟨w.heap.size,1,none⟩=some (.string (r i).name)∧X.cell? ⟨w.heap.size,2,none⟩=some (.int .i64 (r i).var)∧X.cell? ⟨w.heap.size,3,none⟩=some (.slice B1 n2 c2)):=Lib.hid (fun X hb=>by
    have e1:=(hb.block w.heap.size (Array.getElem?_eq_some_iff.1 HQ.out).1).trans HQ.out
    exact ⟨(cellH e1 0).trans rfl,(cellH e1 1).trans rfl,(cellH e1 2).trans rfl,(cellH e1 3).trans rfl⟩)
   have HBD:Hid (Below H.heap.size H H.drew):=Lib.hid (below_drw (Below.refl _ _))
   obtain ⟨dd,hvd⟩:=HVH.out
   have hnd:=refNodes_any dd _ _ _ _ ((TyW.step dd).below hvd HBD.out)
   have hs200:sizeT (r i)≤200:=(hr0 i him).2
   rw [show IntKind.i64.wrap (nodesZ (r i))=(sizeT (r i):Int) by rw [nodes_good _ (hr0 i him).1];simp only [IntKind.wrap_i64,wrap64];omega] at hnd
   have HND:=Lib.hid hnd
   have hw:IntKind.i64.wrap (left - (sizeT (r i):Int))=left - (sizeT (r i):Int):=by simp only [IntKind.wrap_i64,wrap64];omega
   have hw2:wrap64 (left - (sizeT (r i):Int))=left - (sizeT (r i):Int):=by simp only [wrap64];omega
   clear hvd hnd
   refine wp_region_held_drew (S:=fun W=>W.cell? ⟨w.heap.size,0,none⟩=some (.int .i64 4)∧W.cell? ⟨w.heap.size,1,none⟩=some (.string (r i).name)∧W.cell? ⟨w.heap.size,2,none⟩=some (.int .i64 (r i).var)∧W.cell? ⟨w.heap.size,3,none⟩=some (.slice B1 n2 c2)) (by kernel_rfl) (HSX.out H (Below.refl _ _)) (fun hHeld=>?_)
   (refine wpAnyH_take (i:=0) (oi:=_) (v:=?_) rfl (by kernel_rfl) (by kernel_rfl) (by kernel_rfl) (fun _ _ _ h=>h) (Or.inl ⟨by rfl,?_⟩) (by assumption) ?_;rotate_left;(focus (intro w hSw;(try dsimp only at hSw);go_simp;(try with_reducible rfl);done));(try simp only [Act.put,List.setIfInBounds_toArray,List.set_cons_zero,List.set_cons_succ]))
   (refine wpAnyH_take (i:=1) (oi:=_) (v:=?_) rfl (by kernel_rfl) (by kernel_rfl) (by kernel_rfl) (fun _ _ _ h=>h) (Or.inl ⟨by rfl,?_⟩) (by assumption) ?_;rotate_left;(focus (intro w hSw;(try dsimp only at hSw);go_simp;(try with_reducible rfl);done));(try simp only [Act.put,List.setIfInBounds_toArray,List.set_cons_zero,List.set_cons_succ]))
   (refine wpAnyH_take (i:=2) (oi:=_) (v:=?_) rfl (by kernel_rfl) (by kernel_rfl) (by kernel_rfl) (fun _ _ _ h=>h) (Or.inl ⟨by rfl,?_⟩) (by assumption) ?_;rotate_left;(focus (intro w hSw;(try dsimp only at hSw);go_simp;(try with_reducible rfl);done));(try simp only [Act.put,List.setIfInBounds_toArray,List.set_cons_zero,List.set_cons_succ]))
   refine wpAnyH_ready (rs:=[3]) (by kernel_rfl) (by simp) ?_
   refine AllReadyH.cons (o:=_) rfl (fun K hK=>?_) AllReadyH.nil
   go_simp
   refine HND.out.mono ?_
   rintro e w4 ⟨rfl,hb4⟩
   have HB4:=Lib.hid (HBD.out.trans (hb4.mono HBD.out.size))
   clear hb4
   refine hK.out _ _ (HSX.out _ HB4.out) (fun hHeld=>?_)
   clear hK K
   try simp only [Act.put,List.setIfInBounds_toArray,List.set_cons_zero,List.set_cons_succ]
   (refine wpAnyH_take (i:=4) (oi:=_) (v:=?_) rfl (by kernel_rfl) (by kernel_rfl) (by kernel_rfl) (fun _ _ _ h=>h) (Or.inl ⟨by rfl,?_⟩) (by assumption) ?_;rotate_left;(focus (intro w hSw;(try dsimp only at hSw);go_simp;(try simp only [hw,hw2]);(try with_reducible rfl);done));(try simp only [Act.put,List.setIfInBounds_toArray,List.set_cons_zero,List.set_cons_succ]))
   refine wpAnyH_ready (rs:=[5]) (by kernel_rfl) (by simp) ?_
   refine AllReadyH.cons (o:=_) rfl (fun K hK=>?_) AllReadyH.nil
   have HZ4:=Lib.hid ((HB4.out.block (w.heap.size+1) (Array.getElem?_eq_some_iff.1 HZH.out).1).trans HZH.out)
   have r0:=(cellH HZ4.out 0).trans rfl
   have r1:=(cellH HZ4.out 1).trans rfl
   have r2:=(cellH HZ4.out 2).trans rfl
   have r3:=(cellH HZ4.out 3).trans rfl
   have fr0:=frozenH HZ4.out 0
   have fr1:=frozenH HZ4.out 1
   have fr2:=frozenH HZ4.out 2
   have fr3:=frozenH HZ4.out 3
   go_simp
   clear r0 r1 r2 r3 fr0 fr1 fr2 fr3
   have hk2:=kput4 w4 (w.heap.size+1) (.int .i64 4) (.string (r i).name) (.int .i64 (r i).var) (.slice B1 n2 c2)
   have HQ5:=Lib.hid (put4 (.int .i64 4) (.string (r i).name) (.int .i64 (r i).var) (.slice B1 n2 c2) HZ4.out)
   have hx5:=(hk2.block w.heap.size (Array.getElem?_eq_some_iff.1 ((HB4.out.block w.heap.size (Array.getElem?_eq_some_iff.1 HQ.out).1).trans HQ.out)).1 (by omega)).trans ((HB4.out.block w.heap.size (Array.getElem?_eq_some_iff.1 HQ.out).1).trans HQ.out)
   have HBW4:=HBH.out.trans (HB4.out.mono HBH.out.size)
   have HBF:=Lib.hid (HBW4.trans (hk2.below HBW4.size (fun k e=>by omega)))
   have HVF:Hid (TyE Vol (r i) _ _):=Lib.hid (TyE.step _ _ _ _ _ _ (TyE.step.below HVH.out HB4.out) (hk2.wider (fun k _ (e:k=w.heap.size+1)=>.inr (by omega))) (fun _ _ e=>.inl e))
   have HS5:=Lib.hid (show ((((w4.setCell ⟨w.heap.size+1,0,none⟩ (.int .i64 4)).setCell ⟨w.heap.size+1,1,none⟩ (.string (r i).name)).setCell ⟨w.heap.size+1,2,none⟩ (.int .i64 (r i).var)).setCell ⟨w.heap.size+1,3,none⟩ (.slice B1 n2 c2)).cell? ⟨w.heap.size,0,none⟩=some (.int .i64 4)∧((((w4.setCell ⟨w.heap.size+1,0,none⟩ (.int .i64 4)).setCell ⟨w.heap.size+1,1,none⟩ (.string (r i).name)).setCell ⟨w.heap.size+1,2,none⟩ (.int .i64 (r i).var)).setCell ⟨w.heap.size+1,3,none⟩ (.slice B1 n2 c2)).cell? ⟨w.heap.size,1,none⟩=some (.string (r i).name)∧((((w4.setCell ⟨w.heap.size+1,0,none⟩ (.int .i64 4)).setCell ⟨w.heap.size+1,1,none⟩ (.string (r i).name)).setCell ⟨w.heap.size+1,2,none⟩ (.int .i64 (r i).var)).setCell ⟨w.heap.size+1,3,none⟩ (.slice B1 n2 c2)).cell? ⟨w.heap.size,2,none⟩=some (.int .i64 (r i).var)∧((((w4.setCell ⟨w.heap.size+1,0,none⟩ (.int .i64 4)).setCell ⟨w.heap.size+1,1,none⟩ (.string (r i).name)).setCell ⟨w.heap.size+1,2,none⟩ (.int .i64 (r i).var)).setCell ⟨w.heap.size+1,3,none⟩ (.slice B1 n2 c2)).cell? ⟨w.heap.size,3,none⟩=some (.slice B1 n2 c2) from ⟨(cellH hx5 0).trans rfl,(cellH hx5 1).trans rfl,(cellH hx5 2).trans rfl,(cellH hx5 3).trans rfl⟩)
   clear hk2 hx5 HBW4
   generalize ((((w4.setCell ⟨w.heap.size+1,0,none⟩ (.int .i64 4)).setCell ⟨w.heap.size+1,1,none⟩ (.string (r i).name)).setCell ⟨w.heap.size+1,2,none⟩ (.int .i64 (r i).var)).setCell ⟨w.heap.size+1,3,none⟩ (.slice B1 n2 c2))=W5 at HQ5 HBF HVF HS5 ⊢
   refine hK.out _ _ (HS5.out) (fun hHeld=>?_)
   clear hK K
   try simp only [Act.put,List.setIfInBounds_toArray,List.set_cons_zero,List.set_cons_succ]
   refine wpAnyH_ready (rs:=[6]) (by kernel_rfl) (by simp) ?_
   refine AllReadyH.cons (o:=_) rfl (fun K hK=>?_) AllReadyH.nil
   go_simp
   refine hK.out _ _ (HS5.out) (fun hHeld=>?_)
   clear hK K
   try simp only [Act.put,List.setIfInBounds_toArray,List.set_cons_zero,List.set_cons_succ]
   refine wpAnyH_done (by kernel_rfl) ?_ _
   go_wp2_with fail
   have z0:=(cellH HQ5.out 0).trans rfl
   have z1:=(cellH HQ5.out 1).trans rfl
   have z2:=(cellH HQ5.out 2).trans rfl
   have z3:=(cellH HQ5.out 3).trans rfl
   exact bodyPost_ret (v:=.tuple #[.agg #[.int .i64 4,.string (r i).name,.int .i64 (r i).var,.slice B1 n2 c2],.int .i64 (left - (sizeT (r i):Int))]) (by simp [results,Tryd.results42,go_sem,z0,z1,z2,z3]) rfl ⟨r i,_,_,rfl,HVF.out,HBF.out,by
    rw [sub_fr]
    by_cases h:(0:Int)≤left - (sizeT (r i):Int)
    ·exact .inl ⟨h,rfl,rfl⟩
    ·exact .inr ⟨by omega,by omega⟩⟩
 ·have e4:((r i).kind == 4)=false:=by simpa using q4
  have d4:decide ((r i).kind=4)=false:=by simpa using q4
  go_enter Tryd.func42,Tryd.ntmps42
  go_wp2_with fail
  generalize ((w.alloc (.cells #[.int .i64 4,.string ⟨#[]⟩,.int .i64 (i:Int),.slice A1 n1 c1] 32)).alloc (.cells #[.int .i64 0,.string ⟨#[]⟩,.int .i64 0,.slice none 0 0] 32))=X at HB HT HXE HVI HXA HZA a0 a1 a2 a3 t0 hg ⊢
  have x0:=(cellH HXA.out 0).trans rfl
  have x2:=(cellH HXA.out 2).trans rfl
  go_quiet (fail)
  have HBQ:Hid (Below w.heap.size w (X.drewN nq)):=Lib.hid (below_drewN HB.out nq)
  have HXQ:Hid ((X.drewN nq).heap[w.heap.size]?=_):=Lib.hid HXA.out
  have HZQ:Hid ((X.drewN nq).heap[w.heap.size+1]?=_):=Lib.hid HZA.out
  have HXE:Hid (TyE Vol (fr i) _ (X.drewN nq)):=Lib.hid (TyE.step.below HXE.out (below_drewN (Below.refl _ _) nq))
  have HVI:Hid (TyE (fun j=>Vol j ∨ w.heap.size≤j) (r i) _ (X.drewN nq)):=Lib.hid (TyE.step.below HVI.out (below_drewN (Below.refl _ _) nq))
  have t0':(X.drewN nq).cell? ⟨b,0,none⟩=_:=t0
  have a0':(X.drewN nq).cell? ⟨gg,o+i * 4,none⟩=_:=a0
  have a1':(X.drewN nq).cell? ⟨gg,o+i * 4+1,none⟩=_:=a1
  have a2':(X.drewN nq).cell? ⟨gg,o+i * 4+2,none⟩=_:=a2
  have a3':(X.drewN nq).cell? ⟨gg,o+i * 4+3,none⟩=_:=a3
  clear a0 a1 a2 a3 t0 x0 x2
  generalize X.drewN nq=Y at HBQ HXQ HZQ HXE HVI t0' a0' a1' a2' a3' ⊢
  have x0:=(cellH HXQ.out 0).trans rfl
  have x1:=(cellH HXQ.out 1).trans rfl
  have x2:=(cellH HXQ.out 2).trans rfl
  have x3:=(cellH HXQ.out 3).trans rfl
  have r0:=(cellH HZQ.out 0).trans rfl
  have r1:=(cellH HZQ.out 1).trans rfl
  have r2:=(cellH HZQ.out 2).trans rfl
  have r3:=(cellH HZQ.out 3).trans rfl
  have fr0:=frozenH HZQ.out 0
  have fr1:=frozenH HZQ.out 1
  have fr2:=frozenH HZQ.out 2
  have fr3:=frozenH HZQ.out 3
  have en:((r i).kind != 4)=true:=by simpa using q4
  have fx0:=frozenH HXQ.out 0
  have fx1:=frozenH HXQ.out 1
  have fx2:=frozenH HXQ.out 2
  have fx3:=frozenH HXQ.out 3
  go_wp2_with fail
  go_region
  have hk:=kput4 Y w.heap.size (.int .i64 (r i).kind) (.string (r i).name) (.int .i64 (r i).var) (.slice B1 n2 c2)
  have HQ:Hid (((((Y.setCell ⟨w.heap.size,0,none⟩ (.int .i64 (r i).kind)).setCell ⟨w.heap.size,1,none⟩ (.string (r i).name)).setCell ⟨w.heap.size,2,none⟩ (.int .i64 (r i).var)).setCell ⟨w.heap.size,3,none⟩ (.slice B1 n2 c2)).drew.heap[w.heap.size]?=_):=Lib.hid (put4 (.int .i64 (r i).kind) (.string (r i).name) (.int .i64 (r i).var) (.slice B1 n2 c2) HXQ.out)
  have HZH:Hid (((((Y.setCell ⟨w.heap.size,0,none⟩ (.int .i64 (r i).kind)).setCell ⟨w.heap.size,1,none⟩ (.string (r i).name)).setCell ⟨w.heap.size,2,none⟩ (.int .i64 (r i).var)).setCell ⟨w.heap.size,3,none⟩ (.slice B1 n2 c2)).drew.heap[w.heap.size+1]?=_):=Lib.hid ((hk.block (w.heap.size+1) (Array.getElem?_eq_some_iff.1 HZQ.out).1 (by omega)).trans HZQ.out)
  have HBH:Hid (Below w.heap.size w ((((Y.setCell ⟨w.heap.size,0,none⟩ (.int .i64 (r i).kind)).setCell ⟨w.heap.size,1,none⟩ (.string (r i).name)).setCell ⟨w.heap.size,2,none⟩ (.int .i64 (r i).var)).setCell ⟨w.heap.size,3,none⟩ (.slice B1 n2 c2)).drew):=Lib.hid (below_drw (HBQ.out.trans (hk.below HBQ.out.size (fun k e=>by omega))))
  have HVH:Hid (TyE (fun j=>Vol j ∨ w.heap.size≤j) (r i) (.agg #[.int .i64 (r i).kind,.string (r i).name,.int .i64 (r i).var,.slice B1 n2 c2]) ((((Y.setCell ⟨w.heap.size,0,none⟩ (.int .i64 (r i).kind)).setCell ⟨w.heap.size,1,none⟩ (.string (r i).name)).setCell ⟨w.heap.size,2,none⟩ (.int .i64 (r i).var)).setCell ⟨w.heap.size,3,none⟩ (.slice B1 n2 c2)).drew):=Lib.hid (TyE.step.below (TyE.step _ _ _ _ _ _ (HVI.out) (hk.wider (fun k _ (e:k=w.heap.size)=>.inr (by omega))) (fun _ _ e=>e)) (below_drw (Below.refl _ _)))
  clear hk x0 x1 x2 x3 r0 r1 r2 r3 fr0 fr1 fr2 fr3 fx0 fx1 fx2 fx3 a0' a1' a2' a3' t0'
  generalize ((((Y.setCell ⟨w.heap.size,0,none⟩ (.int .i64 (r i).kind)).setCell ⟨w.heap.size,1,none⟩ (.string (r i).name)).setCell ⟨w.heap.size,2,none⟩ (.int .i64 (r i).var)).setCell ⟨w.heap.size,3,none⟩ (.slice B1 n2 c2)).drew=H at HQ HZH HBH HVH ⊢
  go_upto_region 3 with fail
  have HSX:Hid (∀ X:World,Below H.heap.size H X→X.cell? ⟨w.heap.size,0,none⟩=some (.int .i64 (r i).kind)∧X.cell? ⟨w.heap.size,1,none⟩=some (.string (r i).name)∧X.cell? ⟨w.heap.size,2,none⟩=some (.int .i64 (r i).var)∧X.cell? ⟨w.heap.size,3,none⟩=some (.slice B1 n2 c2)):=Lib.hid (fun X hb=>by
   have e1:=(hb.block w.heap.size (Array.getElem?_eq_some_iff.1 HQ.out).1).trans HQ.out
   exact ⟨(cellH e1 0).trans rfl,(cellH e1 1).trans rfl,(cellH e1 2).trans rfl,(cellH e1 3).trans rfl⟩)
  have HBD:Hid (Below H.heap.size H H.drew):=Lib.hid (below_drw (Below.refl _ _))
  obtain ⟨dd,hvd⟩:=HVH.out
  have hnd:=refNodes_any dd _ _ _ _ ((TyW.step dd).below hvd HBD.out)
  have hs200:sizeT (r i)≤200:=(hr0 i him).2
  rw [show IntKind.i64.wrap (nodesZ (r i))=(sizeT (r i):Int) by rw [nodes_good _ (hr0 i him).1];simp only [IntKind.wrap_i64,wrap64];omega] at hnd
  have HND:=Lib.hid hnd
  have hw:IntKind.i64.wrap (left - (sizeT (r i):Int))=left - (sizeT (r i):Int):=by simp only [IntKind.wrap_i64,wrap64];omega
  have hw2:wrap64 (left - (sizeT (r i):Int))=left - (sizeT (r i):Int):=by simp only [wrap64];omega
  clear hvd hnd
  refine wp_region_held_drew (S:=fun W=>W.cell? ⟨w.heap.size,0,none⟩=some (.int .i64 (r i).kind)∧W.cell? ⟨w.heap.size,1,none⟩=some (.string (r i).name)∧W.cell? ⟨w.heap.size,2,none⟩=some (.int .i64 (r i).var)∧W.cell? ⟨w.heap.size,3,none⟩=some (.slice B1 n2 c2)) (by kernel_rfl) (HSX.out H (Below.refl _ _)) (fun hHeld=>?_)
  (refine wpAnyH_take (i:=0) (oi:=_) (v:=?_) rfl (by kernel_rfl) (by kernel_rfl) (by kernel_rfl) (fun _ _ _ h=>h) (Or.inl ⟨by rfl,?_⟩) (by assumption) ?_;rotate_left;(focus (intro w hSw;(try dsimp only at hSw);go_simp;(try with_reducible rfl);done));(try simp only [Act.put,List.setIfInBounds_toArray,List.set_cons_zero,List.set_cons_succ]))
  (refine wpAnyH_take (i:=1) (oi:=_) (v:=?_) rfl (by kernel_rfl) (by kernel_rfl) (by kernel_rfl) (fun _ _ _ h=>h) (Or.inl ⟨by rfl,?_⟩) (by assumption) ?_;rotate_left;(focus (intro w hSw;(try dsimp only at hSw);go_simp;(try with_reducible rfl);done));(try simp only [Act.put,List.setIfInBounds_toArray,List.set_cons_zero,List.set_cons_succ]))
  (refine wpAnyH_take (i:=2) (oi:=_) (v:=?_) rfl (by kernel_rfl) (by kernel_rfl) (by kernel_rfl) (fun _ _ _ h=>h) (Or.inl ⟨by rfl,?_⟩) (by assumption) ?_;rotate_left;(focus (intro w hSw;(try dsimp only at hSw);go_simp;(try with_reducible rfl);done));(try simp only [Act.put,List.setIfInBounds_toArray,List.set_cons_zero,List.set_cons_succ]))
  refine wpAnyH_ready (rs:=[3]) (by kernel_rfl) (by simp) ?_
  refine AllReadyH.cons (o:=_) rfl (fun K hK=>?_) AllReadyH.nil
  go_simp
  refine HND.out.mono ?_
  rintro e w4 ⟨rfl,hb4⟩
  have HB4:=Lib.hid (HBD.out.trans (hb4.mono HBD.out.size))
  clear hb4
  refine hK.out _ _ (HSX.out _ HB4.out) (fun hHeld=>?_)
  clear hK K
  try simp only [Act.put,List.setIfInBounds_toArray,List.set_cons_zero,List.set_cons_succ]
  (refine wpAnyH_take (i:=4) (oi:=_) (v:=?_) rfl (by kernel_rfl) (by kernel_rfl) (by kernel_rfl) (fun _ _ _ h=>h) (Or.inl ⟨by rfl,?_⟩) (by assumption) ?_;rotate_left;(focus (intro w hSw;(try dsimp only at hSw);go_simp;(try simp only [hw,hw2]);(try with_reducible rfl);done));(try simp only [Act.put,List.setIfInBounds_toArray,List.set_cons_zero,List.set_cons_succ]))
  refine wpAnyH_ready (rs:=[5]) (by kernel_rfl) (by simp) ?_
  refine AllReadyH.cons (o:=_) rfl (fun K hK=>?_) AllReadyH.nil
  have HZ4:=Lib.hid ((HB4.out.block (w.heap.size+1) (Array.getElem?_eq_some_iff.1 HZH.out).1).trans HZH.out)
  have r0:=(cellH HZ4.out 0).trans rfl
  have r1:=(cellH HZ4.out 1).trans rfl
  have r2:=(cellH HZ4.out 2).trans rfl
  have r3:=(cellH HZ4.out 3).trans rfl
  have fr0:=frozenH HZ4.out 0
  have fr1:=frozenH HZ4.out 1
  have fr2:=frozenH HZ4.out 2
  have fr3:=frozenH HZ4.out 3
  go_simp
  clear r0 r1 r2 r3 fr0 fr1 fr2 fr3
  have hk2:=kput4 w4 (w.heap.size+1) (.int .i64 (r i).kind) (.string (r i).name) (.int .i64 (r i).var) (.slice B1 n2 c2)
  have HQ5:=Lib.hid (put4 (.int .i64 (r i).kind) (.string (r i).name) (.int .i64 (r i).var) (.slice B1 n2 c2) HZ4.out)
  have hx5:=(hk2.block w.heap.size (Array.getElem?_eq_some_iff.1 ((HB4.out.block w.heap.size (Array.getElem?_eq_some_iff.1 HQ.out).1).trans HQ.out)).1 (by omega)).trans ((HB4.out.block w.heap.size (Array.getElem?_eq_some_iff.1 HQ.out).1).trans HQ.out)
  have HBW4:=HBH.out.trans (HB4.out.mono HBH.out.size)
  have HBF:=Lib.hid (HBW4.trans (hk2.below HBW4.size (fun k e=>by omega)))
  have HVF:Hid (TyE Vol (r i) _ _):=Lib.hid (TyE.step _ _ _ _ _ _ (TyE.step.below HVH.out HB4.out) (hk2.wider (fun k _ (e:k=w.heap.size+1)=>.inr (by omega))) (fun _ _ e=>.inl e))
  have HS5:=Lib.hid (show ((((w4.setCell ⟨w.heap.size+1,0,none⟩ (.int .i64 (r i).kind)).setCell ⟨w.heap.size+1,1,none⟩ (.string (r i).name)).setCell ⟨w.heap.size+1,2,none⟩ (.int .i64 (r i).var)).setCell ⟨w.heap.size+1,3,none⟩ (.slice B1 n2 c2)).cell? ⟨w.heap.size,0,none⟩=some (.int .i64 (r i).kind)∧((((w4.setCell ⟨w.heap.size+1,0,none⟩ (.int .i64 (r i).kind)).setCell ⟨w.heap.size+1,1,none⟩ (.string (r i).name)).setCell ⟨w.heap.size+1,2,none⟩ (.int .i64 (r i).var)).setCell ⟨w.heap.size+1,3,none⟩ (.slice B1 n2 c2)).cell? ⟨w.heap.size,1,none⟩=some (.string (r i).name)∧((((w4.setCell ⟨w.heap.size+1,0,none⟩ (.int .i64 (r i).kind)).setCell ⟨w.heap.size+1,1,none⟩ (.string (r i).name)).setCell ⟨w.heap.size+1,2,none⟩ (.int .i64 (r i).var)).setCell ⟨w.heap.size+1,3,none⟩ (.slice B1 n2 c2)).cell? ⟨w.heap.size,2,none⟩=some (.int .i64 (r i).var)∧((((w4.setCell ⟨w.heap.size+1,0,none⟩ (.int .i64 (r i).kind)).setCell ⟨w.heap.size+1,1,none⟩ (.string (r i).name)).setCell ⟨w.heap.size+1,2,none⟩ (.int .i64 (r i).var)).setCell ⟨w.heap.size+1,3,none⟩ (.slice B1 n2 c2)).cell? ⟨w.heap.size,3,none⟩=some (.slice B1 n2 c2) from ⟨(cellH hx5 0).trans rfl,(cellH hx5 1).trans rfl,(cellH hx5 2).trans rfl,(cellH hx5 3).trans rfl⟩)
  clear hk2 hx5 HBW4
  generalize ((((w4.setCell ⟨w.heap.size+1,0,none⟩ (.int .i64 (r i).kind)).setCell ⟨w.heap.size+1,1,none⟩ (.string (r i).name)).setCell ⟨w.heap.size+1,2,none⟩ (.int .i64 (r i).var)).setCell ⟨w.heap.size+1,3,none⟩ (.slice B1 n2 c2))=W5 at HQ5 HBF HVF HS5 ⊢
  refine hK.out _ _ (HS5.out) (fun hHeld=>?_)
  clear hK K
  try simp only [Act.put,List.setIfInBounds_toArray,List.set_cons_zero,List.set_cons_succ]
  refine wpAnyH_ready (rs:=[6]) (by kernel_rfl) (by simp) ?_
  refine AllReadyH.cons (o:=_) rfl (fun K hK=>?_) AllReadyH.nil
  go_simp
  refine hK.out _ _ (HS5.out) (fun hHeld=>?_)
  clear hK K
  try simp only [Act.put,List.setIfInBounds_toArray,List.set_cons_zero,List.set_cons_succ]
  refine wpAnyH_done (by kernel_rfl) ?_ _
  go_wp2_with fail
  have z0:=(cellH HQ5.out 0).trans rfl
  have z1:=(cellH HQ5.out 1).trans rfl
  have z2:=(cellH HQ5.out 2).trans rfl
  have z3:=(cellH HQ5.out 3).trans rfl
  exact bodyPost_ret (v:=.tuple #[.agg #[.int .i64 (r i).kind,.string (r i).name,.int .i64 (r i).var,.slice B1 n2 c2],.int .i64 (left - (sizeT (r i):Int))]) (by simp [results,Tryd.results42,go_sem,z0,z1,z2,z3]) rfl ⟨r i,_,_,rfl,HVF.out,HBF.out,by
   rw [sub_fr]
   by_cases h:(0:Int)≤left - (sizeT (r i):Int)
   ·exact .inl ⟨h,rfl,rfl⟩
   ·exact .inr ⟨by omega,by omega⟩⟩
end Lx
end Go.Proofs.YtdegmeoapgibiaaDoor
namespace Go.Proofs.YtdegmeoapgibiaaDoor
set_option linter.unusedSimpArgs false
set_option linter.unusedVariables false
namespace Lx
open Go Go.RowKit
theorem leaf_sub {m:Nat} {r:Rho} {k n:Int} {s:ByteArray} {l:List TyT} (gt:goodT m (.mk k s n l)) (h2:k ≠ 2) (h4:k ≠ 4):sub r (.mk k s n l)=.mk k s n l∧sizeT (.mk k s n l)=1:=by
 rw [goodT] at gt
 rcases gt with ⟨rfl,rfl,rfl,rfl⟩ | ⟨rfl,rfl,rfl⟩ | ⟨e,_⟩ | ⟨e,_⟩
 ·simp [sub,subs,sizeT,sizeTs]
 ·simp [sub,subs,sizeT,sizeTs]
 ·exact absurd e h4
 ·exact absurd e h2
set_option maxRecDepth 100000 in
set_option maxHeartbeats 4000000 in
theorem now_leaf (b m:Nat) (r:Rho) (Vol:Nat→Prop) (k n:Int) (s:ByteArray) (l:List TyT) (A1:Option Addr) (n1 c1:Nat) (left:Int) (w:World) (gt:goodT m (.mk k s n l)) (h2:k ≠ 2) (h4:k ≠ 4) (hx:TyE Vol (.mk k s n l) (.agg #[.int .i64 k,.string s,.int .i64 n,.slice A1 n1 c1]) w) (hl0:0≤left) (hl1:left≤2000000000) :
  Calls Tryd.prog 42 #[.pointer (some ⟨b,0,none⟩),.agg #[.int .i64 k,.string s,.int .i64 n,.slice A1 n1 c1],.int .i64 left] w (NowP Vol r (.mk k s n l) left w):=by
 have HB:=Lib.hid (show Below w.heap.size w ((w.alloc (.cells #[.int .i64 k,.string s,.int .i64 n,.slice A1 n1 c1] 32)).alloc (.cells #[.int .i64 0,.string ⟨#[]⟩,.int .i64 0,.slice none 0 0] 32)) from (below_alloc _ _).alloc (by simp) _)
 have HXA:Hid (((w.alloc (.cells #[.int .i64 k,.string s,.int .i64 n,.slice A1 n1 c1] 32)).alloc (.cells #[.int .i64 0,.string ⟨#[]⟩,.int .i64 0,.slice none 0 0] 32)).heap[w.heap.size]?=some (.cells #[.int .i64 k,.string s,.int .i64 n,.slice A1 n1 c1] 32 (0,0))):=Lib.hid ((Below.heap_alloc _ _ _ (by simp)).trans (heap_alloc_new w _))
 have HZA:Hid (((w.alloc (.cells #[.int .i64 k,.string s,.int .i64 n,.slice A1 n1 c1] 32)).alloc (.cells #[.int .i64 0,.string ⟨#[]⟩,.int .i64 0,.slice none 0 0] 32)).heap[w.heap.size+1]?=some (.cells #[.int .i64 0,.string ⟨#[]⟩,.int .i64 0,.slice none 0 0] 32 (0,0))):=Lib.hid (by
  have:=heap_alloc_new (w.alloc (.cells #[.int .i64 k,.string s,.int .i64 n,.slice A1 n1 c1] 32)) (.cells #[.int .i64 0,.string ⟨#[]⟩,.int .i64 0,.slice none 0 0] 32)
  simpa using this)
 have HX0:=Lib.hid hx
 have HLS:=Lib.hid (leaf_sub (r:=r) gt h2 h4)
 have e4:(k == 4)=false:=by simpa using h4
 have d4:decide (k=4)=false:=by simpa using h4
 have e2:(k == 2)=false:=by simpa using h2
 have d2:decide (k=2)=false:=by simpa using h2
 have n2:(k != 2)=true:=by simpa using h2
 clear hx gt h2 h4
 go_enter Tryd.func42,Tryd.ntmps42
 go_wp2_with fail
 generalize ((w.alloc (.cells #[.int .i64 k,.string s,.int .i64 n,.slice A1 n1 c1] 32)).alloc (.cells #[.int .i64 0,.string ⟨#[]⟩,.int .i64 0,.slice none 0 0] 32))=X at HB HXA HZA ⊢
 have x0:=(cellH HXA.out 0).trans rfl
 go_quiet (fail)
 have HBQ:Hid (Below w.heap.size w (X.drewN nq)):=Lib.hid (below_drewN HB.out nq)
 have HXQ:Hid ((X.drewN nq).heap[w.heap.size]?=_):=Lib.hid HXA.out
 have HZQ:Hid ((X.drewN nq).heap[w.heap.size+1]?=_):=Lib.hid HZA.out
 clear x0
 generalize X.drewN nq=Y at HBQ HXQ HZQ ⊢
 have x0:=(cellH HXQ.out 0).trans rfl
 have x1:=(cellH HXQ.out 1).trans rfl
 have x2:=(cellH HXQ.out 2).trans rfl
 have x3:=(cellH HXQ.out 3).trans rfl
 have r0:=(cellH HZQ.out 0).trans rfl
 have r1:=(cellH HZQ.out 1).trans rfl
 have r2:=(cellH HZQ.out 2).trans rfl
 have r3:=(cellH HZQ.out 3).trans rfl
 have fr0:=frozenH HZQ.out 0
 have fr1:=frozenH HZQ.out 1
 have fr2:=frozenH HZQ.out 2
 have fr3:=frozenH HZQ.out 3
 go_wp2_with fail
 clear x0 x1 x2 x3 r0 r1 r2 r3 fr0 fr1 fr2 fr3
 have hk:=kput4 Y (w.heap.size+1) (.int .i64 k) (.string s) (.int .i64 n) (.slice A1 n1 c1)
 have hq:=put4 (.int .i64 k) (.string s) (.int .i64 n) (.slice A1 n1 c1) HZQ.out
 have HBF:=Lib.hid (HBQ.out.trans (hk.below HBQ.out.size (fun k e=>by omega)))
 have HXF:Hid (TyE Vol (.mk k s n l) _ _):=Lib.hid (TyE.step _ _ _ _ _ _ (TyE.step _ (fun j=>Vol j ∨ j=w.heap.size+1) _ _ _ _ HX0.out (Kb.of_below HBQ.out) (fun j hj e=>e.elim id (fun e=>by omega))) (hk.wider (fun k _ e=>.inr e)) (fun k _ e=>.inl e))
 generalize ((((Y.setCell ⟨w.heap.size+1,0,none⟩ (.int .i64 k)).setCell ⟨w.heap.size+1,1,none⟩ (.string s)).setCell ⟨w.heap.size+1,2,none⟩ (.int .i64 n)).setCell ⟨w.heap.size+1,3,none⟩ (.slice A1 n1 c1))=W5 at hq HBF HXF ⊢
 have z0:=(cellH hq 0).trans rfl
 have z1:=(cellH hq 1).trans rfl
 have z2:=(cellH hq 2).trans rfl
 have z3:=(cellH hq 3).trans rfl
 exact bodyPost_ret (v:=.tuple #[.agg #[.int .i64 k,.string s,.int .i64 n,.slice A1 n1 c1],.int .i64 (left - 1)]) (by simp [results,Tryd.results42,go_sem,z0,z1,z2,z3]) rfl ⟨_,_,_,rfl,HXF.out,HBF.out,by
  rw [HLS.out.1,HLS.out.2]
  by_cases h:(0:Int)≤left - 1
  ·exact .inl ⟨h,rfl,rfl⟩
  ·exact .inr ⟨by push_cast;omega,by omega⟩⟩
end Lx
end Go.Proofs.YtdegmeoapgibiaaDoor
namespace Go.Proofs.YtdegmeoapgibiaaDoor
set_option linter.unusedSimpArgs false
set_option linter.unusedVariables false
namespace Lx
open Go Go.RowKit
theorem RTab.step {S Vol Vol':Nat→Prop} {b m:Nat} {r:Rho} {w w':World} (h:RTab Vol b m r w) (hk:Kb S w w') (hS:∀ k,k < w.heap.size→S k→Vol k) (hb:¬ S b) (hv:∀ k,k < w.heap.size→Vol' k→Vol k):RTab Vol' b m r w':=by
 obtain ⟨val,h1,h2⟩:=h.row
 exact ⟨val,(hk.block b (Array.getElem?_eq_some_iff.1 h1).1 hb).trans h1,(RowW.step TyE.step) _ _ _ _ _ _ h2 (hk.wider hS) hv⟩
theorem RTab.lt {Vol:Nat→Prop} {b m:Nat} {r:Rho} {w:World} (h:RTab Vol b m r w):b < w.heap.size:=by
 obtain ⟨val,h1,_⟩:=h.row
 exact (Array.getElem?_eq_some_iff.1 h1).1
theorem sizes_upto (r:Rho) (l:List TyT) (k:Nat):sizeTs (subs r (l.take k))≤sizeTs (subs r l):=by
 have h:subs r l=subs r (l.take k)++subs r (l.drop k):=by
  rw [subs_map,subs_map,subs_map,← List.map_append,List.take_append_drop]
 rw [h]
 generalize subs r (l.take k)=a
 induction a with
 | nil=>simp [sizeTs]
 | cons x a ih=>simp only [List.cons_append,sizeTs];omega
theorem sizes_one1 (r:Rho) {l:List TyT} {k:Nat} (h:k < l.length):sizeTs (subs r (l.take (k+1)))=sizeTs (subs r (l.take k))+sizeT (sub r l[k]):=by
 rw [List.take_succ_eq_append_getElem h,subs_snocV]
 generalize subs r (l.take k)=a
 induction a with
 | nil=>simp [sizeTs]
 | cons x a ih=>simp only [List.cons_append,sizeTs];omega
/-- What the loop has so far. -/
def NowL (r:Rho) (l:List TyT) (left:Int) (k:Nat) (q:Int) (zs:List TyT):Prop :=
 (0≤left - 1 - sizeTs (subs r (l.take k))∧q=left - 1 - sizeTs (subs r (l.take k))∧zs=subs r (l.take k)) ∨ (left - 1 - sizeTs (subs r (l.take k)) < 0∧q < 0)
set_option maxRecDepth 100000 in
set_option maxHeartbeats 4000000 in
theorem now_data (b m d:Nat) (r:Rho) (HC:Hid (NowC b m d r)) (Vol:Nat→Prop) (s:ByteArray) (l:List TyT) (A1:Option Addr) (c1:Nat) (left:Int) (w:World) (gs:goodTs m l) (hfew:fewTs l) (hl56:l.length * 56≤140737488355328) (hr:RowW 4 (TyW d) Vol l (.slice A1 l.length c1) w) (hT:RTab Vol b m r w) (hvl:∀ k,Vol k→k < w.heap.size) (hl0:0≤left) (hl1:left≤2000000000) :
  Calls Tryd.prog 42 #[.pointer (some ⟨b,0,none⟩),.agg #[.int .i64 2,.string s,.int .i64 0,.slice A1 l.length c1],.int .i64 left] w (NowP Vol r (.mk 2 s 0 l) left w):=by
 have HB:=Lib.hid (show Below w.heap.size w ((w.alloc (.cells #[.int .i64 2,.string s,.int .i64 0,.slice A1 l.length c1] 32)).alloc (.cells #[.int .i64 0,.string ⟨#[]⟩,.int .i64 0,.slice none 0 0] 32)) from (below_alloc _ _).alloc (by simp) _)
 have HXA:Hid (((w.alloc (.cells #[.int .i64 2,.string s,.int .i64 0,.slice A1 l.length c1] 32)).alloc (.cells #[.int .i64 0,.string ⟨#[]⟩,.int .i64 0,.slice none 0 0] 32)).heap[w.heap.size]?=some (.cells #[.int .i64 2,.string s,.int .i64 0,.slice A1 l.length c1] 32 (0,0))):=Lib.hid ((Below.heap_alloc _ _ _ (by simp)).trans (heap_alloc_new w _))
 have HZA:Hid (((w.alloc (.cells #[.int .i64 2,.string s,.int .i64 0,.slice A1 l.length c1] 32)).alloc (.cells #[.int .i64 0,.string ⟨#[]⟩,.int .i64 0,.slice none 0 0] 32)).heap[w.heap.size+1]?=some (.cells #[.int .i64 0,.string ⟨#[]⟩,.int .i64 0,.slice none 0 0] 32 (0,0))):=Lib.hid (by
  have:=heap_alloc_new (w.alloc (.cells #[.int .i64 2,.string s,.int .i64 0,.slice A1 l.length c1] 32)) (.cells #[.int .i64 0,.string ⟨#[]⟩,.int .i64 0,.slice none 0 0] 32)
  simpa using this)
 have HSZ0:Hid (((w.alloc (.cells #[.int .i64 2,.string s,.int .i64 0,.slice A1 l.length c1] 32)).alloc (.cells #[.int .i64 0,.string ⟨#[]⟩,.int .i64 0,.slice none 0 0] 32)).heap.size=w.heap.size+2):=Lib.hid (by simp)
 have HG:=Lib.hid gs
 have HFW:=Lib.hid hfew
 have HV:=Lib.hid hr
 have HT:=Lib.hid hT
 have HVL:=Lib.hid hvl
 obtain ⟨i0,hi0,hz0,hz1,hz2⟩:=info_parts infoTy
 have HI0:=Lib.hid hi0
 have HI1:=Lib.hid hz0
 have HI2:=Lib.hid hz1
 have HI3:=Lib.hid hz2
 clear hi0 hz0 hz1 hz2 gs hfew hr hT hvl
 go_enter Tryd.func42,Tryd.ntmps42
 go_wp2_with fail
 generalize ((w.alloc (.cells #[.int .i64 2,.string s,.int .i64 0,.slice A1 l.length c1] 32)).alloc (.cells #[.int .i64 0,.string ⟨#[]⟩,.int .i64 0,.slice none 0 0] 32))=X at HB HXA HZA HSZ0 ⊢
 have x0:=(cellH HXA.out 0).trans rfl
 go_quiet (fail)
 have HBQ:Hid (Below w.heap.size w (X.drewN nq)):=Lib.hid (below_drewN HB.out nq)
 have HXQ:Hid ((X.drewN nq).heap[w.heap.size]?=_):=Lib.hid HXA.out
 have HZQ:Hid ((X.drewN nq).heap[w.heap.size+1]?=_):=Lib.hid HZA.out
 have HSZQ:Hid ((X.drewN nq).heap.size=w.heap.size+2):=Lib.hid HSZ0.out
 clear x0
 generalize X.drewN nq=Y at HBQ HXQ HZQ HSZQ ⊢
 have x0:=(cellH HXQ.out 0).trans rfl
 have x1:=(cellH HXQ.out 1).trans rfl
 have x3:=(cellH HXQ.out 3).trans rfl
 have hxlt:w.heap.size < Y.heap.size:=by have:=HSZQ.out;omega
 go_wp2_with fail
 clear x0 x1 x3 hxlt
 have HBB0:=Lib.hid (HBQ.out.trans ((below_alloc Y (.cells #[.int .i64 2,.string s,.int .i64 0,.slice none 0 0] 32)).mono HBQ.out.size))
 have HOB:=Lib.hid (heap_alloc_new Y (.cells #[.int .i64 2,.string s,.int .i64 0,.slice none 0 0] 32))
 have HRB:=Lib.hid ((Below.heap_alloc Y (.cells #[.int .i64 2,.string s,.int .i64 0,.slice none 0 0] 32) _ (Array.getElem?_eq_some_iff.1 HZQ.out).1).trans HZQ.out)
 have HSZ:Hid ((Y.alloc (.cells #[.int .i64 2,.string s,.int .i64 0,.slice none 0 0] 32)).heap.size=w.heap.size+3):=Lib.hid (by have:=HSZQ.out;simp;omega)
 generalize (Y.alloc (.cells #[.int .i64 2,.string s,.int .i64 0,.slice none 0 0] 32))=WB at HBB0 HOB HRB HSZ ⊢
 have HBN0:Hid (w.heap.size+1+1=Y.heap.size):=Lib.hid (by have:=HSZQ.out;omega)
 generalize Y.heap.size=B at HOB HBN0 ⊢
 have HBN:=HBN0
 have HVB:Hid (RowW 4 (TyW d) (fun j=>(Vol j ∨ j=w.heap.size+1) ∨ j=B) l (.slice A1 l.length c1) WB):=Lib.hid (RowW.step (TyW.step d) Vol (fun j=>(Vol j ∨ j=w.heap.size+1) ∨ j=B) _ _ _ _ HV.out (Kb.of_below HBB0.out) (fun j hj e=>e.elim (fun e=>e.elim id (fun e=>by omega)) (fun e=>by have:=HBN.out;omega)))
 have HVLB:Hid (∀ j,((Vol j ∨ j=w.heap.size+1) ∨ j=B)→j < WB.heap.size):=Lib.hid (fun j e=>by
  have h1:=HSZ.out
  have h2:=HBN.out
  rcases e with (e | e) | e
  ·have:=HVL.out j e;omega
  ·omega
  ·omega)
 have HTB:Hid (RTab (fun j=>(Vol j ∨ j=w.heap.size+1) ∨ j=B) b m r WB):=Lib.hid (HT.out.step (S:=fun _=>False) (Kb.of_below HBB0.out) (fun _ _ e=>e.elim) (fun e=>e) (fun j hj e=>e.elim (fun e=>e.elim id (fun e=>by omega)) (fun e=>by have:=HBN.out;omega)))
 have HBNE:Hid (b ≠ B):=Lib.hid (fun e=>by have:=HT.out.lt;have:=HBN.out;omega)
 go_loopw [2,67] (fun tl t wr=>∃ (k:Nat) (q:Int) (s':Option Addr) (cap':Nat) (vs:List Value) (zs:List TyT),k≤l.length∧t=.int .i64 k∧tl=.int .i64 q∧q≤2000000000∧Hid (zs.length=k)∧Hid (NowL r l left k q zs)∧Hid (RowQ (fun j=>(Vol j ∨ j=w.heap.size+1) ∨ j=B) B WB wr s' cap' zs vs)∧Hid (wr.heap[B]?=some (.cells #[.int .i64 2,.string s,.int .i64 0,.slice s' k cap'] 32 (0,0)))) (fun _ t _=>l.length - (intOf t).toNat)
 case atStart=>exact ⟨0,left - 1,none,0,[],[],Nat.zero_le _,rfl,rfl,by omega,Lib.hid rfl,Lib.hid (by
  unfold NowL
  rw [List.take_zero,subs,sizeTs]
  by_cases h:(0:Int)≤left - 1
  ·exact .inl ⟨by simpa using h,by simp,rfl⟩
  ·exact .inr ⟨by simp;omega,by omega⟩),Lib.hid (RowQ.start _ _ _),HOB⟩
 case round =>
  obtain ⟨k,q,s',cap',vs,zs,hk,rfl,rfl,hq1,HZL,HNL,HR,HBR⟩:=hrel
  by_cases hlt:k < l.length
  ·have hsl:∀ j,j < WB.heap.size→s' ≠ some ⟨j,0,none⟩:=fun j hj e=>by have:=(HR.out.own.lt j (by rw [e];rfl)).1;omega
   obtain ⟨gg,o,vi,rfl,hg,_,hvi,hc⟩:=RowW.at (RowW.step (TyW.step d) (fun j=>(Vol j ∨ j=w.heap.size+1) ∨ j=B) (fun j=>((Vol j ∨ j=w.heap.size+1) ∨ j=B) ∨ s'=some ⟨j,0,none⟩) _ _ _ _ HVB.out (HR.out.keep.wider (fun j _ (e:j=B)=>.inr e)) (fun j hj e=>e.elim id (fun e=>absurd e (hsl j hj)))) k hlt
   obtain ⟨B1,n1,c2,rfl⟩:=hvi.this
   have a0:=(hc 0 (by decide)).trans rfl
   have a1:=(hc 1 (by decide)).trans rfl
   have a2:=(hc 2 (by decide)).trans rfl
   have a3:=(hc 3 (by decide)).trans rfl
   simp only [cellsL,Value.cells,List.getElem?_cons_zero,List.getElem?_cons_succ,Nat.add_zero] at a0 a1 a2 a3
   have hk0:(0:Int)≤(k:Int):=by omega
   have hk1:(k:Int) < (l.length:Int):=by omega
   have hdc:decide (k < l.length)=true:=by simpa using hlt
   clear hc
   by_cases hq0:q < 0
   ·have hqd:decide (q < 0)=true:=by simpa using hq0
    have hz0:=HR.out.held HVLB.out
    rw [HZL.out] at hz0
    have hbz:=below_alloc wr (.cells #[.int .i64 l[k].kind,.string l[k].name,.int .i64 l[k].var,.slice B1 n1 c2] 32)
    have HH:=Lib.hid ((RowW.step TyE.step).below hz0 hbz)
    have e0:wr.heap[w.heap.size+1]?=some (.cells #[.int .i64 0,.string ⟨#[]⟩,.int .i64 0,.slice none 0 0] 32 (0,0)):=(HR.out.keep.block _ (Array.getElem?_eq_some_iff.1 HRB.out).1 (fun e=>by have:=HBN.out;omega)).trans HRB.out
    have HE1:=Lib.hid ((hbz.block _ (Array.getElem?_eq_some_iff.1 e0).1).trans e0)
    have HBX:=Lib.hid ((hbz.block _ (Array.getElem?_eq_some_iff.1 HBR.out).1).trans HBR.out)
    have HKP0:=HBB0.out.trans (HR.out.keep.below HBB0.out.size (fun k e=>by have:=HBN.out;omega))
    have HKP:=Lib.hid (HKP0.trans (hbz.mono HKP0.size))
    clear hz0 hbz e0 HKP0 hvi
    go_upto_region 11 with fail
    clear a0 a1 a2 a3
    generalize (wr.alloc (.cells #[.int .i64 l[k].kind,.string l[k].name,.int .i64 l[k].var,.slice B1 n1 c2] 32))=W10 at HH HE1 HBX HKP ⊢
    have b0:=(cellH HBX.out 0).trans rfl
    have b1:=(cellH HBX.out 1).trans rfl
    have b2:=(cellH HBX.out 2).trans rfl
    have b3:=(cellH HBX.out 3).trans rfl
    have r0:=(cellH HE1.out 0).trans rfl
    have r1:=(cellH HE1.out 1).trans rfl
    have r2:=(cellH HE1.out 2).trans rfl
    have r3:=(cellH HE1.out 3).trans rfl
    have fr0:=frozenH HE1.out 0
    have fr1:=frozenH HE1.out 1
    have fr2:=frozenH HE1.out 2
    have fr3:=frozenH HE1.out 3
    go_wp2_with fail
    clear b0 b1 b2 b3 r0 r1 r2 r3 fr0 fr1 fr2 fr3
    have hk:=kput4 W10 (w.heap.size+1) (.int .i64 2) (.string s) (.int .i64 0) (.slice s' k cap')
    have hq:=put4 (.int .i64 2) (.string s) (.int .i64 0) (.slice s' k cap') HE1.out
    have HBF:=Lib.hid (HKP.out.trans (hk.below HKP.out.size (fun k e=>by omega)))
    have HXF:Hid (TyE Vol (.mk 2 s 0 zs) _ _):=Lib.hid (tyE_row ((RowW.step TyE.step) _ _ _ _ _ _ HH.out (hk.wider (fun k _ e=>.inl (.inr e))) (fun k _ e=>.inl (.inl e))))
    generalize ((((W10.setCell ⟨w.heap.size+1,0,none⟩ (.int .i64 2)).setCell ⟨w.heap.size+1,1,none⟩ (.string s)).setCell ⟨w.heap.size+1,2,none⟩ (.int .i64 0)).setCell ⟨w.heap.size+1,3,none⟩ (.slice s' k cap'))=W5 at hq HBF HXF ⊢
    have z0:=(cellH hq 0).trans rfl
    have z1:=(cellH hq 1).trans rfl
    have z2:=(cellH hq 2).trans rfl
    have z3:=(cellH hq 3).trans rfl
    exact bodyPost_ret (v:=.tuple #[.agg #[.int .i64 2,.string s,.int .i64 0,.slice s' k cap'],.int .i64 q]) (by simp [results,Tryd.results42,go_sem,z0,z1,z2,z3]) rfl ⟨_,_,_,rfl,HXF.out,HBF.out,by
     have h0:=HNL.out
     have h1:=sizes_upto r l k
     have h2:sizeT (sub r (.mk 2 s 0 l))=1+sizeTs (subs r l):=by rw [sub_two,sizeT]
     rw [h2]
     rcases h0 with ⟨h0,h3,_⟩ | ⟨h0,h3⟩
     ·omega
     ·exact .inr ⟨by push_cast;omega,h3⟩⟩
   ·have hqd:decide (q < 0)=false:=by simpa using hq0
    have hb2:Below wr.heap.size wr ((wr.alloc (.cells #[.int .i64 l[k].kind,.string l[k].name,.int .i64 l[k].var,.slice B1 n1 c2] 32)).alloc (.cells #[.int .i64 0,.string ⟨#[]⟩,.int .i64 0,.slice none 0 0] 32)):=(below_alloc _ _).alloc (by simp) _
    have hx10:((wr.alloc (.cells #[.int .i64 l[k].kind,.string l[k].name,.int .i64 l[k].var,.slice B1 n1 c2] 32)).alloc (.cells #[.int .i64 0,.string ⟨#[]⟩,.int .i64 0,.slice none 0 0] 32)).heap[wr.heap.size]?=some (.cells #[.int .i64 l[k].kind,.string l[k].name,.int .i64 l[k].var,.slice B1 n1 c2] 32 (0,0)):=(Below.heap_alloc _ _ _ (by simp)).trans (heap_alloc_new wr _)
    have hz11:((wr.alloc (.cells #[.int .i64 l[k].kind,.string l[k].name,.int .i64 l[k].var,.slice B1 n1 c2] 32)).alloc (.cells #[.int .i64 0,.string ⟨#[]⟩,.int .i64 0,.slice none 0 0] 32)).heap[wr.heap.size+1]?=some (.cells #[.int .i64 0,.string ⟨#[]⟩,.int .i64 0,.slice none 0 0] 32 (0,0)):=by
     have:=heap_alloc_new (wr.alloc (.cells #[.int .i64 l[k].kind,.string l[k].name,.int .i64 l[k].var,.slice B1 n1 c2] 32)) (.cells #[.int .i64 0,.string ⟨#[]⟩,.int .i64 0,.slice none 0 0] 32)
     simpa using this
    have hs11:((wr.alloc (.cells #[.int .i64 l[k].kind,.string l[k].name,.int .i64 l[k].var,.slice B1 n1 c2] 32)).alloc (.cells #[.int .i64 0,.string ⟨#[]⟩,.int .i64 0,.slice none 0 0] 32)).heap.size=wr.heap.size+2:=by simp
    generalize hN11:wr.heap.size+1=N11 at hz11
    have HVI:=Lib.hid (TyW.step d _ (fun j=>(((Vol j ∨ j=w.heap.size+1) ∨ j=B) ∨ s'=some ⟨j,0,none⟩) ∨ j=N11) _ _ _ _ hvi (Kb.of_below hb2) (fun j hj e=>e.elim id (fun e=>by omega)))
    have HTK:=Lib.hid ((HTB.out.step HR.out.keep (fun j _ (e:j=B)=>.inr e) HBNE.out (fun j hj (e:((Vol j ∨ j=w.heap.size+1) ∨ j=B) ∨ s'=some ⟨j,0,none⟩)=>e.elim id (fun e=>absurd e (hsl j hj)))).step (Vol':=(fun j=>(((Vol j ∨ j=w.heap.size+1) ∨ j=B) ∨ s'=some ⟨j,0,none⟩) ∨ j=N11)) (S:=fun _=>False) (Kb.of_below hb2) (fun _ _ e=>e.elim) (fun e=>e) (fun j hj e=>e.elim id (fun e=>by omega)))
    have HMN:=Lib.hid (HR.out.mine HVLB.out)
    have HVL2:Hid (∀ j,((fun j=>(((Vol j ∨ j=w.heap.size+1) ∨ j=B) ∨ s'=some ⟨j,0,none⟩) ∨ j=N11) j)→j < ((wr.alloc (.cells #[.int .i64 l[k].kind,.string l[k].name,.int .i64 l[k].var,.slice B1 n1 c2] 32)).alloc (.cells #[.int .i64 0,.string ⟨#[]⟩,.int .i64 0,.slice none 0 0] 32)).heap.size):=Lib.hid (fun j e=>e.elim (fun e=>Nat.lt_of_lt_of_le (HMN.out j e) hb2.size) (fun e=>by omega))
    have HX:=Lib.hid (HC.out _ l[k] _ q _ HVI.out (goodTs_mem HG.out hlt) (fewTs_mem HFW.out hlt) HTK.out HVL2.out (by omega) hq1)
    have HBZ:=Lib.hid hb2
    have HX10:=Lib.hid hx10
    have HZ11:=Lib.hid hz11
    have HS11:=Lib.hid hs11
    have HN11:=Lib.hid hN11
    have HWS:=Lib.hid HR.out.keep.size
    clear hb2 hx10 hz11 hs11 hN11 hvi hsl HVI HTK HVL2
    go_upto_region 14 with fail
    clear a0 a1 a2 a3
    generalize hxx:l[k]=x at HX HX10 HBZ HS11 HZ11 ⊢
    generalize ((wr.alloc (.cells #[.int .i64 x.kind,.string x.name,.int .i64 x.var,.slice B1 n1 c2] 32)).alloc (.cells #[.int .i64 0,.string ⟨#[]⟩,.int .i64 0,.slice none 0 0] 32))=X11 at HX HX10 HBZ HS11 HZ11 ⊢
    have x0:=(cellH HX10.out 0).trans rfl
    have x1:=(cellH HX10.out 1).trans rfl
    have x2:=(cellH HX10.out 2).trans rfl
    have x3:=(cellH HX10.out 3).trans rfl
    rw [HN11.out]
    go_upto_region 15 with (go_at_call 42;refine HX.out.mono ?_;rintro e w4 ⟨z,v4,q2,rfl,hv4,hb4,hres⟩;obtain ⟨y5,y6,y7,rfl⟩:=hv4.this;have HV4:=Lib.hid hv4;have HRES:=Lib.hid hres;have HZ4:=Lib.hid ((hb4.block _ (Array.getElem?_eq_some_iff.1 HZ11.out).1).trans HZ11.out);have HB4:=Lib.hid (HBZ.out.trans (hb4.mono HBZ.out.size));clear hv4 hb4 hres;have r0:=(cellH HZ4.out 0).trans rfl;have r1:=(cellH HZ4.out 1).trans rfl;have r2:=(cellH HZ4.out 2).trans rfl;have r3:=(cellH HZ4.out 3).trans rfl;have fr0:=frozenH HZ4.out 0;have fr1:=frozenH HZ4.out 1;have fr2:=frozenH HZ4.out 2;have fr3:=frozenH HZ4.out 3)
    clear r0 r1 r2 r3 fr0 fr1 fr2 fr3 x0 x1 x2 x3
    have hk12:=kput4 w4 N11 (.int .i64 z.kind) (.string z.name) (.int .i64 z.var) (.slice y5 y6 y7)
    have HQ12:=Lib.hid (put4 (.int .i64 z.kind) (.string z.name) (.int .i64 z.var) (.slice y5 y6 y7) HZ4.out)
    have HV12:Hid (TyE (fun j=>((Vol j ∨ j=w.heap.size+1) ∨ j=B) ∨ s'=some ⟨j,0,none⟩) z _ _):=Lib.hid (TyE.step _ _ _ _ _ _ HV4.out (hk12.wider (fun k _ e=>.inr e)) (fun k _ e=>.inl e))
    have HB12:=Lib.hid (HB4.out.trans (hk12.below HB4.out.size (fun k e=>by have:=HN11.out;omega)))
    clear hk12
    generalize ((((w4.setCell ⟨N11,0,none⟩ (.int .i64 z.kind)).setCell ⟨N11,1,none⟩ (.string z.name)).setCell ⟨N11,2,none⟩ (.int .i64 z.var)).setCell ⟨N11,3,none⟩ (.slice y5 y6 y7))=X12 at HQ12 HV12 HB12 ⊢
    have HBB:=Lib.hid ((HB12.out.block B (Array.getElem?_eq_some_iff.1 HBR.out).1).trans HBR.out)
    have ho12:=own_kb HR.out.own (Kb.of_below (S:=fun _=>False) HB12.out) (fun _ _ e=>e)
    rw [HZL.out] at ho12
    have HO12:=Lib.hid ho12
    clear ho12
    have hs12:WB.heap.size≤X12.heap.size:=Nat.le_trans HWS.out HB12.out.size
    have b3:=(cellH HBB.out 3).trans rfl
    have x0:=(cellH HQ12.out 0).trans rfl
    have x1:=(cellH HQ12.out 1).trans rfl
    have x2:=(cellH HQ12.out 2).trans rfl
    have x3:=(cellH HQ12.out 3).trans rfl
    have HSB:Hid ((Value.slice s' k cap').ownBlock ≠ some B):=Lib.hid (fun e=>by have:=(HR.out.own.lt _ (by rw [HZL.out];exact e)).1;have:=HBN.out;have:=HSZ.out;omega)
    go_wp2_with (at_builtin;refine wpList_append_lies _ rfl _ _ 27 rfl WB.heap.size 32 i0 (.agg #[.int .i64 0,.string ⟨#[]⟩,.int .i64 0,.slice none 0 0]) 4 56 Tryd.underlying27 HI0.out HI1.out HI2.out HI3.out rfl (by decide) _ _ _ rfl (HO12.out.alloc _) ⟨X12.heap.size,0,none⟩ 1 1 [.int .i64 z.kind,.string z.name,.int .i64 z.var,.slice y5 y6 y7] rfl rfl (cells_new _ #[.int .i64 z.kind,.string z.name,.int .i64 z.var,.slice y5 y6 y7] _ _ rfl) (by simp [Value.oneCell']) (by decide) (by unfold maxLen;omega) (by omega) (by simp;omega) _ rfl ?_;intro g2 cap2 w6 hown6 hg6 hat6 _;have HQ6:=Lib.hid (HR.out.snoc (.inr rfl) (Kb.of_below (S:=fun j=>j=B) HB12.out) HV12.out (by rw [HZL.out];exact hown6) (by rw [HZL.out];exact hg6) (by rw [HZL.out];exact hat6));have HB6:=Lib.hid ((hg6.block B (Nat.lt_of_lt_of_le (Array.getElem?_eq_some_iff.1 HBB.out).1 (by simp)) (fun e=>HSB.out e.symm)).trans ((Below.heap_alloc X12 _ B (Array.getElem?_eq_some_iff.1 HBB.out).1).trans HBB.out));clear hown6 hg6 hat6;have fb3:=frozenH HB6.out 3;have cb3:=(cellH HB6.out 3).trans rfl)
    have HB7:Hid ((w6.setCell ⟨B,3,none⟩ (.slice (some ⟨g2,0,none⟩) (k+1) cap2)).heap[B]?=some (.cells #[.int .i64 2,.string s,.int .i64 0,.slice (some ⟨g2,0,none⟩) (k+1) cap2] 32 (0,0))):=Lib.hid (blk_put w6 B 3 _ HB6.out (by simp))
    have HBW:Hid (B < WB.heap.size):=Lib.hid (Array.getElem?_eq_some_iff.1 HOB.out).1
    have HQ7:=Lib.hid (HQ6.out.put (.inr rfl) HBW.out 3 (.slice (some ⟨g2,0,none⟩) (k+1) cap2))
    have HN1:Hid (q2≤2000000000∧NowL r l left (k+1) q2 (zs++[z])):=Lib.hid (by
     have h0:=HNL.out
     have h1:=HRES.out
     have h2:=sizes_one1 r hlt
     rw [hxx] at h2
     unfold NowL at h0 ⊢
     rw [h2]
     push_cast
     rcases h0 with ⟨h0,h3,h4⟩ | ⟨h0,h3⟩
     ·rcases h1 with ⟨g1,g3,g4⟩ | ⟨g1,g3⟩
      ·refine ⟨by omega,.inl ⟨by omega,by omega,?_⟩⟩
       rw [List.take_succ_eq_append_getElem hlt,subs_snocV,hxx,h4,g3]
      ·exact ⟨by omega,.inr ⟨by omega,g3⟩⟩
     ·exact absurd h3 (by omega))
    go_roundw
    case rel=>exact ⟨k+1,q2,some ⟨g2,0,none⟩,cap2,_,zs++[z],by omega,by go_num,rfl,HN1.out.1,Lib.hid (by simp [HZL.out]),Lib.hid HN1.out.2,HQ7,HB7⟩
    case measure=>simp [intOf];omega
  ·obtain rfl:k=l.length:=by omega
   have hdc:decide (l.length < l.length)=false:=by simp
   have hq0:=HR.out.held HVLB.out
   rw [HZL.out] at hq0
   have HH:=Lib.hid hq0
   have e1:wr.heap[w.heap.size+1]?=some (.cells #[.int .i64 0,.string ⟨#[]⟩,.int .i64 0,.slice none 0 0] 32 (0,0)):=(HR.out.keep.block _ (Array.getElem?_eq_some_iff.1 HRB.out).1 (fun e=>by have:=HBN.out;omega)).trans HRB.out
   have b0:=(cellH HBR.out 0).trans rfl
   have b1:=(cellH HBR.out 1).trans rfl
   have b2:=(cellH HBR.out 2).trans rfl
   have b3:=(cellH HBR.out 3).trans rfl
   have r0:=(cellH e1 0).trans rfl
   have r1:=(cellH e1 1).trans rfl
   have r2:=(cellH e1 2).trans rfl
   have r3:=(cellH e1 3).trans rfl
   have fr0:=frozenH e1 0
   have fr1:=frozenH e1 1
   have fr2:=frozenH e1 2
   have fr3:=frozenH e1 3
   have HE1:=Lib.hid e1
   have HKP:=Lib.hid (HBB0.out.trans (HR.out.keep.below HBB0.out.size (fun k e=>by have:=HBN.out;omega)))
   clear hq0 e1
   go_wp2_with fail
   clear b0 b1 b2 b3 r0 r1 r2 r3 fr0 fr1 fr2 fr3
   have hk:=kput4 wr (w.heap.size+1) (.int .i64 2) (.string s) (.int .i64 0) (.slice s' l.length cap')
   have hq:=put4 (.int .i64 2) (.string s) (.int .i64 0) (.slice s' l.length cap') HE1.out
   have HBF:=Lib.hid (HKP.out.trans (hk.below HKP.out.size (fun k e=>by omega)))
   have HXF:Hid (TyE Vol (.mk 2 s 0 zs) _ _):=Lib.hid (tyE_row ((RowW.step TyE.step) _ _ _ _ _ _ HH.out (hk.wider (fun k _ e=>.inl (.inr e))) (fun k _ e=>.inl (.inl e))))
   generalize ((((wr.setCell ⟨w.heap.size+1,0,none⟩ (.int .i64 2)).setCell ⟨w.heap.size+1,1,none⟩ (.string s)).setCell ⟨w.heap.size+1,2,none⟩ (.int .i64 0)).setCell ⟨w.heap.size+1,3,none⟩ (.slice s' l.length cap'))=W5 at hq HBF HXF ⊢
   have z0:=(cellH hq 0).trans rfl
   have z1:=(cellH hq 1).trans rfl
   have z2:=(cellH hq 2).trans rfl
   have z3:=(cellH hq 3).trans rfl
   exact bodyPost_ret (v:=.tuple #[.agg #[.int .i64 2,.string s,.int .i64 0,.slice s' l.length cap'],.int .i64 q]) (by simp [results,Tryd.results42,go_sem,z0,z1,z2,z3]) rfl ⟨_,_,_,rfl,HXF.out,HBF.out,by
    have h0:=HNL.out
    have h1:=sizes_upto r l l.length
    have h2:sizeT (sub r (.mk 2 s 0 l))=1+sizeTs (subs r l):=by rw [sub_two,sizeT]
    rw [h2]
    unfold NowL at h0
    rw [List.take_length] at h0
    rcases h0 with ⟨h0,h3,h4⟩ | ⟨h0,h3⟩
    ·exact .inl ⟨by push_cast;omega,by rw [sub_two,h4],by rw [h3];push_cast;omega⟩
    ·exact .inr ⟨by push_cast;omega,h3⟩⟩
theorem now_any (b m:Nat) (r:Rho) (hr0:∀ i,i < m→goodT m (r i)∧sizeT (r i)≤200):∀ d,NowC b m d r
 | 0=>fun _ _ _ _ _ h=>h.elim
 | d+1=>by
  rintro Vol ⟨k,s,n,l⟩ v left w ⟨va,rfl,hr⟩ gt hfew hT hvl hl0 hl1
  obtain ⟨A1,c1,rfl⟩:=hr.slice
  by_cases k4:k=4
  ·obtain ⟨i,hi,e⟩:=good_free gt k4
   have hx:TyE Vol (.mk k s n l) (.agg #[.int .i64 k,.string s,.int .i64 n,.slice A1 l.length c1]) w:=⟨d+1,_,rfl,hr⟩
   rw [e] at hx ⊢
   rw [fr] at e
   injection e with e1 e2 e3 e4
   subst e1 e2 e3 e4
   exact now_free b m r hr0 Vol ⟨#[]⟩ i A1 0 c1 left w hi hx hT hvl hl0 hl1
  ·by_cases k2:k=2
   ·subst k2
    obtain ⟨rfl,hg⟩:=good_two gt rfl
    exact now_data b m d r (Lib.hid (now_any b m r hr0 d)) Vol s l A1 c1 left w hg (fewT_args hfew) (fewT_here hfew) hr hT hvl hl0 hl1
   ·exact now_leaf b m r Vol k n s l A1 l.length c1 left w gt k2 k4 ⟨d+1,_,rfl,hr⟩ hl0 hl1
end Lx
end Go.Proofs.YtdegmeoapgibiaaDoor
