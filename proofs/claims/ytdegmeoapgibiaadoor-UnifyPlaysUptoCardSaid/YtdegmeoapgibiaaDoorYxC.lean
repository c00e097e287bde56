/- The reference's table: head, an unknown that is bound is its type. Conditions: as each states. -/
/- The reference's table: take, the error's number of types that are handed in. Conditions: as each states. -/
/- The reference's table: what unify's ways leave, said without a program; a row in the making that is empty. Conditions: as each states. -/
/- The reference's table: bind. Conditions: the table's types are clean, each of at most 200 nodes. -/
/- The reference's table: head in general; the memory of unify behind both heads; what each of unify's ways leaves. Conditions: as each states. -/
/- The reference's table: unify in general. Conditions: the table's types are clean, resolved, each of at most 200 nodes. -/
/- The reference's table: Unify and Resolve in general. Conditions: as each states. -/
import Derived.Test.YtdegmeoapgibiaaDoorYxB
import Derived.Deep.RegionWith
import Derived.Deep.Cut
import Derived.Deep.CutRange
import Derived.StillTailTactics
namespace Go.Proofs.YtdegmeoapgibiaaDoor
set_option linter.unusedSimpArgs false
set_option linter.unusedVariables false
namespace Lx
open Go Go.RowKit
set_option maxRecDepth 100000 in
set_option maxHeartbeats 4000000 in
theorem rhead_other (b:Nat) (Vol:Nat→Prop) (k n:Int) (s:ByteArray) (l:List TyT) (A1:Option Addr) (n1 c1:Nat) (w:World) (h4:k ≠ 4) (hx:TyE Vol (.mk k s n l) (.agg #[.int .i64 k,.string s,.int .i64 n,.slice A1 n1 c1]) w) :
  Calls Tryd.prog 61 #[.pointer (some ⟨b,0,none⟩),.agg #[.int .i64 k,.string s,.int .i64 n,.slice A1 n1 c1]] w fun e w'=>e=.returned (.agg #[.int .i64 k,.string s,.int .i64 n,.slice A1 n1 c1])∧TyE Vol (.mk k s n l) (.agg #[.int .i64 k,.string s,.int .i64 n,.slice A1 n1 c1]) w'∧Below w.heap.size w w':=by
 have hs2:((w.alloc (.cells #[.int .i64 k,.string s,.int .i64 n,.slice A1 n1 c1] 32)).alloc (.cells #[.int .i64 0,.string ⟨#[]⟩,.int .i64 0,.slice none 0 0] 32)).heap[w.heap.size+1]?=some (.cells #[.int .i64 0,.string ⟨#[]⟩,.int .i64 0,.slice none 0 0] 32 (0,0)):=by
  have:=heap_alloc_new (w.alloc (.cells #[.int .i64 k,.string s,.int .i64 n,.slice A1 n1 c1] 32)) (.cells #[.int .i64 0,.string ⟨#[]⟩,.int .i64 0,.slice none 0 0] 32)
  simpa using this
 have HX:Hid (((w.alloc (.cells #[.int .i64 k,.string s,.int .i64 n,.slice A1 n1 c1] 32)).alloc (.cells #[.int .i64 0,.string ⟨#[]⟩,.int .i64 0,.slice none 0 0] 32)).heap[w.heap.size]?=some (.cells #[.int .i64 k,.string s,.int .i64 n,.slice A1 n1 c1] 32 (0,0))):=Lib.hid ((Below.heap_alloc _ _ _ (by simp)).trans (heap_alloc_new w _))
 have HZ:=Lib.hid hs2
 have hb:=(show Below w.heap.size w ((w.alloc (.cells #[.int .i64 k,.string s,.int .i64 n,.slice A1 n1 c1] 32)).alloc (.cells #[.int .i64 0,.string ⟨#[]⟩,.int .i64 0,.slice none 0 0] 32)) from (below_alloc _ _).alloc (by simp) _)
 have HB:=Lib.hid hb
 have HX0:=Lib.hid hx
 have HV:=Lib.hid (TyE.step _ (fun j=>Vol j ∨ w.heap.size≤j) _ _ _ _ hx (Kb.of_below hb) (fun j hj e=>e.elim id (fun e=>by omega)))
 have d4:decide (k=4)=false:=by simpa using h4
 clear hx hs2 hb
 go_enter Tryd.func61,Tryd.ntmps61
 go_upto_region 1 with fail
 generalize ((w.alloc (.cells #[.int .i64 k,.string s,.int .i64 n,.slice A1 n1 c1] 32)).alloc (.cells #[.int .i64 0,.string ⟨#[]⟩,.int .i64 0,.slice none 0 0] 32))=Y at HB HX HZ HV ⊢
 have x0:=(cellH HX.out 0).trans rfl
 have x1:=(cellH HX.out 1).trans rfl
 have x2:=(cellH HX.out 2).trans rfl
 have x3:=(cellH HX.out 3).trans rfl
 have r0:=(cellH HZ.out 0).trans rfl
 have r1:=(cellH HZ.out 1).trans rfl
 have r2:=(cellH HZ.out 2).trans rfl
 have r3:=(cellH HZ.out 3).trans rfl
 have fr0:=frozenH HZ.out 0
 have fr1:=frozenH HZ.out 1
 have fr2:=frozenH HZ.out 2
 have fr3:=frozenH HZ.out 3
 go_wp2_with fail
 clear x0 x1 x2 x3 r0 r1 r2 r3 fr0 fr1 fr2 fr3
 have hk:=kput4 Y (w.heap.size+1) (.int .i64 k) (.string s) (.int .i64 n) (.slice A1 n1 c1)
 have hq:=put4 (.int .i64 k) (.string s) (.int .i64 n) (.slice A1 n1 c1) HZ.out
 have HBF:=Lib.hid (HB.out.trans (hk.below HB.out.size (fun k e=>by omega)))
 have HXF:Hid (TyE Vol (.mk k s n l) _ _):=Lib.hid (TyE.step _ _ _ _ _ _ HV.out (hk.wider (fun k _ (e:k=w.heap.size+1)=>.inr (by omega))) (fun k _ e=>.inl e))
 have HQ:=Lib.hid hq
 clear hk hq
 generalize ((((Y.setCell ⟨w.heap.size+1,0,none⟩ (.int .i64 k)).setCell ⟨w.heap.size+1,1,none⟩ (.string s)).setCell ⟨w.heap.size+1,2,none⟩ (.int .i64 n)).setCell ⟨w.heap.size+1,3,none⟩ (.slice A1 n1 c1))=W5 at HBF HXF HQ ⊢
 have z0:=(cellH HQ.out 0).trans rfl
 have z1:=(cellH HQ.out 1).trans rfl
 have z2:=(cellH HQ.out 2).trans rfl
 have z3:=(cellH HQ.out 3).trans rfl
 exact bodyPost_ret (v:=.agg #[.int .i64 k,.string s,.int .i64 n,.slice A1 n1 c1]) (by simp [results,Tryd.results61,go_sem,z0,z1,z2,z3]) rfl ⟨rfl,HXF.out,HBF.out⟩
set_option maxRecDepth 100000 in
set_option maxHeartbeats 4000000 in
theorem rhead_free (b m:Nat) (r:Rho) (Vol:Nat→Prop) (i:Nat) (A1:Option Addr) (n1 c1:Nat) (w:World) (him:i < m) (hT:RTab Vol b m r w) :
  Calls Tryd.prog 61 #[.pointer (some ⟨b,0,none⟩),.agg #[.int .i64 4,.string ⟨#[]⟩,.int .i64 (i:Int),.slice A1 n1 c1]] w fun e w'=>∃ v',e=.returned v'∧TyE Vol (r i) v' w'∧Below w.heap.size w w':=by
 have hs2:((w.alloc (.cells #[.int .i64 4,.string ⟨#[]⟩,.int .i64 (i:Int),.slice A1 n1 c1] 32)).alloc (.cells #[.int .i64 0,.string ⟨#[]⟩,.int .i64 0,.slice none 0 0] 32)).heap[w.heap.size+1]?=some (.cells #[.int .i64 0,.string ⟨#[]⟩,.int .i64 0,.slice none 0 0] 32 (0,0)):=by
  have:=heap_alloc_new (w.alloc (.cells #[.int .i64 4,.string ⟨#[]⟩,.int .i64 (i:Int),.slice A1 n1 c1] 32)) (.cells #[.int .i64 0,.string ⟨#[]⟩,.int .i64 0,.slice none 0 0] 32)
  simpa using this
 have HX:Hid (((w.alloc (.cells #[.int .i64 4,.string ⟨#[]⟩,.int .i64 (i:Int),.slice A1 n1 c1] 32)).alloc (.cells #[.int .i64 0,.string ⟨#[]⟩,.int .i64 0,.slice none 0 0] 32)).heap[w.heap.size]?=some (.cells #[.int .i64 4,.string ⟨#[]⟩,.int .i64 (i:Int),.slice A1 n1 c1] 32 (0,0))):=Lib.hid ((Below.heap_alloc _ _ _ (by simp)).trans (heap_alloc_new w _))
 have HZ:=Lib.hid hs2
 have hb:=(show Below w.heap.size w ((w.alloc (.cells #[.int .i64 4,.string ⟨#[]⟩,.int .i64 (i:Int),.slice A1 n1 c1] 32)).alloc (.cells #[.int .i64 0,.string ⟨#[]⟩,.int .i64 0,.slice none 0 0] 32)) from (below_alloc _ _).alloc (by simp) _)
 have HB:=Lib.hid hb
 obtain ⟨val,hb0,hrow⟩:=(hT.past hb).row
 obtain ⟨Ar,cr,rfl⟩:=hrow.slice
 obtain ⟨gg,o,vi,rfl,hg,_,hvi,hc⟩:=RowW.at hrow i (by simpa using him)
 obtain ⟨B1,n2,c2,rfl⟩:=hvi.this
 have a0:=(hc 0 (by decide)).trans rfl
 have a1:=(hc 1 (by decide)).trans rfl
 have a2:=(hc 2 (by decide)).trans rfl
 have a3:=(hc 3 (by decide)).trans rfl
 simp only [cellsL,Value.cells,List.getElem?_cons_zero,List.getElem?_cons_succ,Nat.add_zero,List.getElem_map,List.getElem_range,List.length_map,List.length_range] at a0 a1 a2 a3 hb0 hvi
 have t0:=(cellH hb0 0).trans rfl
 have hk0:(0:Int)≤(i:Int):=by omega
 have hk1:(i:Int) < (m:Int):=by omega
 have HV:=Lib.hid hvi
 clear hc hrow hb0 hvi hs2 hb
 go_enter Tryd.func61,Tryd.ntmps61
 go_upto_region 1 with fail
 generalize ((w.alloc (.cells #[.int .i64 4,.string ⟨#[]⟩,.int .i64 (i:Int),.slice A1 n1 c1] 32)).alloc (.cells #[.int .i64 0,.string ⟨#[]⟩,.int .i64 0,.slice none 0 0] 32))=Y at HB HX HZ HV a0 a1 a2 a3 t0 hg ⊢
 have x0:=(cellH HX.out 0).trans rfl
 have x1:=(cellH HX.out 1).trans rfl
 have x2:=(cellH HX.out 2).trans rfl
 have x3:=(cellH HX.out 3).trans rfl
 have r0:=(cellH HZ.out 0).trans rfl
 have r1:=(cellH HZ.out 1).trans rfl
 have r2:=(cellH HZ.out 2).trans rfl
 have r3:=(cellH HZ.out 3).trans rfl
 have fr0:=frozenH HZ.out 0
 have fr1:=frozenH HZ.out 1
 have fr2:=frozenH HZ.out 2
 have fr3:=frozenH HZ.out 3
 go_wp2_with fail
 go_region
 clear x0 x1 x2 x3 r0 r1 r2 r3 fr0 fr1 fr2 fr3 a0 a1 a2 a3 t0
 have hk:=kput4 Y (w.heap.size+1) (.int .i64 (r i).kind) (.string (r i).name) (.int .i64 (r i).var) (.slice B1 n2 c2)
 have hq:=put4 (.int .i64 (r i).kind) (.string (r i).name) (.int .i64 (r i).var) (.slice B1 n2 c2) HZ.out
 have HBF:Hid (Below w.heap.size w ((((Y.setCell ⟨w.heap.size+1,0,none⟩ (.int .i64 (r i).kind)).setCell ⟨w.heap.size+1,1,none⟩ (.string (r i).name)).setCell ⟨w.heap.size+1,2,none⟩ (.int .i64 (r i).var)).setCell ⟨w.heap.size+1,3,none⟩ (.slice B1 n2 c2)).drew):=Lib.hid (below_drw (HB.out.trans (hk.below HB.out.size (fun k e=>by omega))))
 have HXF:Hid (TyE Vol (r i) _ ((((Y.setCell ⟨w.heap.size+1,0,none⟩ (.int .i64 (r i).kind)).setCell ⟨w.heap.size+1,1,none⟩ (.string (r i).name)).setCell ⟨w.heap.size+1,2,none⟩ (.int .i64 (r i).var)).setCell ⟨w.heap.size+1,3,none⟩ (.slice B1 n2 c2)).drew):=Lib.hid (TyE.step.below (TyE.step _ _ _ _ _ _ HV.out (hk.wider (fun k _ (e:k=w.heap.size+1)=>.inr (by omega))) (fun k _ e=>.inl e)) (below_drw (Below.refl _ _)))
 have HQ:Hid (((((Y.setCell ⟨w.heap.size+1,0,none⟩ (.int .i64 (r i).kind)).setCell ⟨w.heap.size+1,1,none⟩ (.string (r i).name)).setCell ⟨w.heap.size+1,2,none⟩ (.int .i64 (r i).var)).setCell ⟨w.heap.size+1,3,none⟩ (.slice B1 n2 c2)).drew.heap[w.heap.size+1]?=_):=Lib.hid hq
 clear hk hq
 generalize ((((Y.setCell ⟨w.heap.size+1,0,none⟩ (.int .i64 (r i).kind)).setCell ⟨w.heap.size+1,1,none⟩ (.string (r i).name)).setCell ⟨w.heap.size+1,2,none⟩ (.int .i64 (r i).var)).setCell ⟨w.heap.size+1,3,none⟩ (.slice B1 n2 c2)).drew=W5 at HBF HXF HQ ⊢
 have z0:=(cellH HQ.out 0).trans rfl
 have z1:=(cellH HQ.out 1).trans rfl
 have z2:=(cellH HQ.out 2).trans rfl
 have z3:=(cellH HQ.out 3).trans rfl
 go_wp2_with fail
 exact bodyPost_ret (v:=.agg #[.int .i64 (r i).kind,.string (r i).name,.int .i64 (r i).var,.slice B1 n2 c2]) (by simp [results,Tryd.results61,go_sem,z0,z1,z2,z3]) rfl ⟨_,rfl,HXF.out,HBF.out⟩
end Lx
end Go.Proofs.YtdegmeoapgibiaaDoor
namespace Go.Proofs.YtdegmeoapgibiaaDoor
set_option linter.unusedSimpArgs false
set_option linter.unusedVariables false
namespace Lx
open Go Go.RowKit
theorem RTab.tabC {Vol:Nat→Prop} {b m:Nat} {r:Rho} {w:World} (h:RTab Vol b m r w):TabC b m w:=by
 obtain ⟨val,h1,h2⟩:=h.row
 obtain ⟨A,c,rfl⟩:=h2.slice
 have h3:=(cellH h1 0).trans rfl
 simp only [List.length_map,List.length_range] at h3
 exact ⟨(Array.getElem?_eq_some_iff.1 h1).1,A,c,h3⟩
/-- The error's number of types that are handed in. -/
def takeN (m:Int) (l:List TyT):Int:=if l.any (strange m)=true then 16 else if l.any largeT=true then 4 else 0
set_option maxRecDepth 100000 in
set_option maxHeartbeats 4000000 in
theorem take_any (b m d:Nat) (Vol:Nat→Prop) (l:List TyT) (v:Value) (w:World) (hr:RowW 4 (TyW d) Vol l v w) (ht:TabC b m w) :
  Calls Tryd.prog 36 #[.pointer (some ⟨b,0,none⟩),v] w fun e w'=>e=.returned (.int .i64 (takeN m l))∧Below w.heap.size w w':=by
 obtain ⟨A1,c1,rfl⟩:=hr.slice
 have hfew:=hr.few
 unfold maxLen at hfew
 have HR:=Lib.hid hr
 have HT:=Lib.hid ht
 clear hr ht
 go_enter Tryd.func36,Tryd.ntmps36
 go_wp2_with fail
 go_loopw [11] (fun t wr=>∃ k:Nat,k≤l.length∧t=.int .i64 k∧Hid (Below w.heap.size w wr)∧Hid (∀ (j:Nat) (h:j < l.length),j < k→strange (m:Int) l[j]=false)) (fun t _=>l.length - (intOf t).toNat)
 case atStart=>exact ⟨0,Nat.zero_le _,rfl,Lib.hid (Below.refl _ _),Lib.hid (fun j _ h=>by omega)⟩
 case round =>
  obtain ⟨k,hk,rfl,HBW,HN⟩:=hrel
  by_cases hlt:k < l.length
  ·obtain ⟨g,o,vi,rfl,hg,_,hvi,hc⟩:=RowW.at ((RowW.step (TyW.step d)).below HR.out HBW.out) k hlt
   obtain ⟨B1,n1,c2,rfl⟩:=hvi.this
   have a0:=(hc 0 (by decide)).trans rfl
   have a1:=(hc 1 (by decide)).trans rfl
   have a2:=(hc 2 (by decide)).trans rfl
   have a3:=(hc 3 (by decide)).trans rfl
   simp only [cellsL,Value.cells,List.getElem?_cons_zero,List.getElem?_cons_succ,Nat.add_zero] at a0 a1 a2 a3
   have hb1:=below_alloc wr (.cells #[.int .i64 l[k].kind,.string l[k].name,.int .i64 l[k].var,.slice B1 n1 c2] 32)
   have hk0:(0:Int)≤(k:Int):=by omega
   have hk1:(k:Int) < (l.length:Int):=by omega
   have hdc:decide (k < l.length)=true:=by simpa using hlt
   have HX:=Lib.hid (known_any b m d Vol l[k] _ _ ((TyW.step d).below hvi hb1) (TabC.stay b m _ _ (TabC.stay b m _ _ HT.out HBW.out) hb1))
   have HB1:=Lib.hid hb1
   clear hc hvi hb1
   cases hp:strange (m:Int) l[k]
   all_goals
    rw [hp] at HX
    go_wp2_with (go_at_call 30;refine HX.out.mono ?_;rintro e w3 ⟨rfl,hb3⟩;have HB3:=Lib.hid (HB1.out.trans (hb3.mono HB1.out.size));clear hb3)
   ·go_roundw
    case rel=>exact ⟨k+1,by omega,by go_num,Lib.hid (HBW.out.trans (HB3.out.mono HBW.out.size)),Lib.hid (fun j h hj=>by
     by_cases e:j=k
     ·subst e;exact hp
     ·exact HN.out j h (by omega))⟩
    case measure=>simp [intOf];omega
   ·go_ret
    exact ⟨by
     have:l.any (strange (m:Int))=true:=List.any_eq_true.2 ⟨l[k],List.getElem_mem _,hp⟩
     simp [takeN,this],HBW.out.trans (HB3.out.mono HBW.out.size)⟩
  ·obtain rfl:k=l.length:=by omega
   have hdc:decide (l.length < l.length)=false:=by simp
   have HNS:Hid (l.any (strange (m:Int))=false):=Lib.hid (by
    rw [List.any_eq_false]
    intro x hx
    obtain ⟨j,hj,rfl⟩:=List.getElem_of_mem hx
    rw [HN.out j hj hj];simp)
   have HBW1:=HBW
   clear HN HBW
   go_wp2_with fail
   go_loopw [22] (fun t wr2=>∃ k:Nat,k≤l.length∧t=.int .i64 k∧Hid (Below w.heap.size w wr2)∧Hid (∀ (j:Nat) (h:j < l.length),j < k→largeT l[j]=false)) (fun t _=>l.length - (intOf t).toNat)
   case atStart=>exact ⟨0,Nat.zero_le _,rfl,HBW1,Lib.hid (fun j _ h=>by omega)⟩
   case round =>
    obtain ⟨k,hk,rfl,HBW,HN⟩:=hrel
    by_cases hlt:k < l.length
    ·obtain ⟨g,o,vi,rfl,hg,_,hvi,hc⟩:=RowW.at ((RowW.step (TyW.step d)).below HR.out HBW.out) k hlt
     obtain ⟨B1,n1,c2,rfl⟩:=hvi.this
     have a0:=(hc 0 (by decide)).trans rfl
     have a1:=(hc 1 (by decide)).trans rfl
     have a2:=(hc 2 (by decide)).trans rfl
     have a3:=(hc 3 (by decide)).trans rfl
     simp only [cellsL,Value.cells,List.getElem?_cons_zero,List.getElem?_cons_succ,Nat.add_zero] at a0 a1 a2 a3
     have hb1:=below_alloc wr (.cells #[.int .i64 l[k].kind,.string l[k].name,.int .i64 l[k].var,.slice B1 n1 c2] 32)
     have hk0:(0:Int)≤(k:Int):=by omega
     have hk1:(k:Int) < (l.length:Int):=by omega
     have hdc:decide (k < l.length)=true:=by simpa using hlt
     have HX:=Lib.hid (refNodes_any d Vol l[k] _ _ ((TyW.step d).below hvi hb1))
     have HB1:=Lib.hid hb1
     have hp0:largeT l[k]=decide (IntKind.i64.wrap (nodesZ l[k]) > 200):=rfl
     clear hc hvi hb1
     generalize IntKind.i64.wrap (nodesZ l[k])=nz at HX hp0
     have HP0:=Lib.hid hp0
     clear hp0
     by_cases hp:nz > 200
     all_goals
      go_wp2_with (go_at_call 31;refine HX.out.mono ?_;rintro e w3 ⟨rfl,hb3⟩;have HB3:=Lib.hid (HB1.out.trans (hb3.mono HB1.out.size));clear hb3)
     ·go_ret
      exact ⟨by
       have hq:largeT l[k]=true:=by rw [HP0.out];simpa using hp
       have:l.any largeT=true:=List.any_eq_true.2 ⟨l[k],List.getElem_mem _,hq⟩
       simp [takeN,this,HNS.out],HBW.out.trans (HB3.out.mono HBW.out.size)⟩
     ·go_roundw
      case rel=>exact ⟨k+1,by omega,by go_num,Lib.hid (HBW.out.trans (HB3.out.mono HBW.out.size)),Lib.hid (fun j h hj=>by
       by_cases e:j=k
       ·subst e;rw [HP0.out];simpa using hp
       ·exact HN.out j h (by omega))⟩
      case measure=>simp [intOf];omega
    ·obtain rfl:k=l.length:=by omega
     have hdc:decide (l.length < l.length)=false:=by simp
     go_wp2_with fail
     go_ret
     exact ⟨by
      have:l.any largeT=false:=by
       rw [List.any_eq_false]
       intro x hx
       obtain ⟨j,hj,rfl⟩:=List.getElem_of_mem hx
       rw [HN.out j hj hj];simp
      simp [takeN,this,HNS.out],HBW.out⟩
end Lx
end Go.Proofs.YtdegmeoapgibiaaDoor
namespace Go.Proofs.YtdegmeoapgibiaaDoor
set_option linter.unusedSimpArgs false
set_option linter.unusedVariables false
namespace Lx
open Go Go.RowKit
/-- The error's number of a code. -/
def numC (c:Nat):Int:=if c=0 then 0 else if c=1 then 6 else 4
mutual
theorem occ_nodes {v:Nat}:∀ t:TyT,occT v t≤sizeT t
 | .mk k s n l=>by
  have:=occs_nodes (v:=v) l
  rw [occT,sizeT]
  split
  ·split <;> omega
  ·omega
theorem occs_nodes {v:Nat}:∀ l:List TyT,occTs v l≤sizeTs l
 | []=>by simp [occTs]
 | x :: l=>by
  have:=occ_nodes (v:=v) x
  have:=occs_nodes (v:=v) l
  rw [occTs,sizeTs]
  omega
end
section
variable {m:Nat} {r r':Rho} {v:Nat} {A B:TyT} {e:Nat}
theorem one_size (gt:goodT m B) (h1:sizeT B≤200) (h2:sizeT A≤1000000000):sizeT (sub (one v A) B)≤300000000000:=by
 rw [size_one B gt]
 have h3:=occ_nodes (v:=v) B
 have h4:occT v B * (sizeT A - 1)≤200 * 1000000000:=Nat.mul_le_mul (by omega) (by omega)
 omega
theorem Bind.inv_inside (h:Bind m r v A e r') (ho:0 < occT v A):e=1∧r'=r:=by
 cases h with
 | inside _=>exact ⟨rfl,rfl⟩
 | large h0 _=>omega
 | done h0 _=>omega
theorem Bind.inv_large (h:Bind m r v A e r') (ho:¬ 0 < occT v A) {x:Nat} (hx:x < m) (hl:200 < sizeT (sub (one v A) (r x))):e=2∧r'=r:=by
 cases h with
 | inside h0=>omega
 | large _ _=>exact ⟨rfl,rfl⟩
 | done _ hs=>have:=hs x hx;omega
theorem Bind.inv_done (h:Bind m r v A e r') (ho:¬ 0 < occT v A) (hs:∀ x,x < m→sizeT (sub (one v A) (r x))≤200):e=0∧r'=fun x=>sub (one v A) (r x):=by
 cases h with
 | inside h0=>omega
 | large _ hl =>
  obtain ⟨x,hx,hl⟩:=hl
  have:=hs x hx
  omega
 | done _ _=>exact ⟨rfl,rfl⟩
end
theorem Unif.inv_left {m v:Nat}:∀ {r:Rho} {A B:TyT} {e:Nat} {r':Rho},Unif m r A B e r'→A=fr v→B ≠ fr v→Bind m r v B e r'
 | _,_,_,_,_,.same _ u,hA,hne=>absurd hA hne
 | _,_,_,_,_,.left _ u _ _ _ hn hb,hA,hne=>by
  have:(u:Int)=v:=congrArg TyT.var hA
  obtain rfl:u=v:=by omega
  exact hb
 | _,_,_,_,_,.right _ u _ _ _ hk _,hA,_=>absurd (congrArg TyT.kind hA) hk
 | _,_,_,_,_,.clash _ _ _ hk _ _,hA,_=>absurd (congrArg TyT.kind hA) hk
 | _,_,_,_,_,.args _ _ _ _ _ hk _ _ _ _,hA,_=>absurd (congrArg TyT.kind hA) hk
theorem Unif.inv_right {m v:Nat}:∀ {r:Rho} {A B:TyT} {e:Nat} {r':Rho},Unif m r A B e r'→B=fr v→A.kind ≠ 4→Bind m r v A e r'
 | _,_,_,_,_,.same _ u,_,hk=>absurd rfl hk
 | _,_,_,_,_,.left _ u _ _ _ hn hb,_,hk=>absurd rfl hk
 | _,_,_,_,_,.right _ u _ _ _ _ hb,hB,_=>by
  have:(u:Int)=v:=congrArg TyT.var hB
  obtain rfl:u=v:=by omega
  exact hb
 | _,_,_,_,_,.clash _ _ _ _ hk2 _,hB,_=>absurd (congrArg TyT.kind hB) hk2
 | _,_,_,_,_,.args _ _ _ _ _ _ hk2 _ _ _,hB,hk=>absurd (hk2.trans (congrArg TyT.kind hB)) hk
theorem Unif.inv_clash {m:Nat}:∀ {r:Rho} {A B:TyT} {e:Nat} {r':Rho},Unif m r A B e r'→A.kind ≠ 4→B.kind ≠ 4→(A.kind ≠ B.kind ∨ A.name ≠ B.name ∨ A.args.length ≠ B.args.length)→e=1∧r'=r
 | _,_,_,_,_,.same _ u,h1,_,_=>absurd rfl h1
 | _,_,_,_,_,.left _ u _ _ _ hn hb,h1,_,_=>absurd rfl h1
 | _,_,_,_,_,.right _ u _ _ _ _ hb,_,h2,_=>absurd rfl h2
 | _,_,_,_,_,.clash _ _ _ _ _ _,_,_,_=>⟨rfl,rfl⟩
 | _,_,_,_,_,.args _ _ _ _ _ _ k1 k2 k3 _,_,_,hc=>by
  rcases hc with hc | hc | hc
  ·exact absurd k1 hc
  ·exact absurd k2 hc
  ·exact absurd k3 hc
/-- A row of types, empty as it is made, in a block of its own. -/
theorem RowQ.startE (Vol:Nat→Prop) (g:Nat) (w:World):RowQ Vol g w (w.alloc (.cells #[] 32)) (some ⟨w.heap.size,0,none⟩) 0 [] [] :=
 ⟨.inr ⟨_,rfl⟩,⟨rfl,.inr ⟨w.heap.size,0,#[],rfl,Nat.le_refl _,heap_alloc_new _ _,Nat.le_refl _,Nat.zero_le _,rfl,rfl⟩⟩,rfl,fun i h=>by simp at h,Kb.of_below (below_alloc _ _)⟩
end Lx
end Go.Proofs.YtdegmeoapgibiaaDoor
namespace Go.Proofs.YtdegmeoapgibiaaDoor
set_option linter.unusedSimpArgs false
set_option linter.unusedVariables false
namespace Lx
open Go Go.RowKit
theorem range_snoc {f:Nat→TyT} {k:Nat}:(List.range (k+1)).map f=(List.range k).map f++[f k]:=by rw [List.range_succ,List.map_append];rfl
/-- A row of types, empty as it is made, in a block of its own. -/
theorem RowG.startE (Vol:Nat→Prop) (w:World):RowG 32 4 TyE Vol w (w.alloc (.cells #[] 32)) (some ⟨w.heap.size,0,none⟩) 0 [] [] :=
 ⟨.inr ⟨_,rfl⟩,⟨rfl,.inr ⟨w.heap.size,0,#[],rfl,Nat.le_refl _,heap_alloc_new _ _,Nat.le_refl _,Nat.zero_le _,rfl,rfl⟩⟩,rfl,fun i h=>by simp at h,below_alloc _ _⟩
set_option maxRecDepth 100000 in
set_option maxHeartbeats 4000000 in
theorem rbind_any (b m v:Nat) (r:Rho) (hm:m≤1000000) (hr0:∀ i,i < m→goodT m (r i)∧sizeT (r i)≤200) (Vol:Nat→Prop) (a:TyT) (av:Value) (w:World) (hx:TyE Vol a av w) (ga:goodT m a) (hza:sizeT a≤200) (hT:RTab Vol b m r w) (hvb:Vol b) (hvl:∀ k,Vol k→k < w.heap.size) {code:Nat} {r':Rho} (hB:Bind m r v (sub r a) code r') :
  Calls Tryd.prog 62 #[.pointer (some ⟨b,0,none⟩),.int .i64 (v:Int),av] w fun e w'=>e=.returned (.int .i64 (numC code))∧RTab Vol b m r' w'∧Kb (fun k=>k=b) w w':=by
 obtain ⟨Aa,na,ca,rfl⟩:=hx.this
 have hf:∀ i,i < m→sizeT (r i)≤200:=fun i hi=>(hr0 i hi).2
 have hzs:sizeT (sub r a)≤1000000:=by have:=size_sub_few r hf a ga;omega
 have gs:goodT m (sub r a):=good_sub (fun i hi=>(hr0 i hi).1) a ga
 have hba:=below_alloc w (.cells #[.int .i64 a.kind,.string a.name,.int .i64 a.var,.slice Aa na ca] 32)
 obtain ⟨d,hxd⟩:=hx
 have HNOW:=Lib.hid (now_any b m r hr0 d Vol a _ 1073741824 _ ((TyW.step d).below hxd hba) ga (few_small a (by omega)) (hT.below hba) (fun k e=>Nat.lt_of_lt_of_le (hvl k e) hba.size) (by omega) (by omega))
 have HT:=Lib.hid (hT.below hba)
 have HBA:=Lib.hid hba
 have HVL:=Lib.hid hvl
 have HB:=Lib.hid hB
 have HR0:=Lib.hid hr0
 have HGS:=Lib.hid gs
 have HVB:=Lib.hid hvb
 have HBL:=Lib.hid hT.lt
 obtain ⟨i0,hi0,hz0,hz1,hz2⟩:=info_parts infoTy
 have HI0:=Lib.hid hi0
 have HI1:=Lib.hid hz0
 have HI2:=Lib.hid hz1
 have HI3:=Lib.hid hz2
 clear hi0 hz0 hz1 hz2 hT hvl hB hxd hr0 hf gs hza ga hvb hba
 unfold NowP at HNOW
 generalize sub r a=A at HGS HB HNOW hzs
 go_enter Tryd.func62,Tryd.ntmps62
 go_upto_region 2 with (go_at_call 42;refine HNOW.out.mono ?_;rintro e w1 ⟨z,v1,q1,rfl,hv1,hb1,hor⟩;obtain rfl:z=A:=(by rcases hor with ⟨_,e,_⟩ | ⟨h,_⟩;(· exact e);(· omega));obtain ⟨y5,y6,y7,rfl⟩:=hv1.this;have HV1:=Lib.hid hv1;have HT1:=Lib.hid (HT.out.below hb1);have HB1:=Lib.hid (HBA.out.trans (hb1.mono HBA.out.size));clear hv1 hb1 hor)
 have hb7:=below_alloc w1 (.cells #[.int .i64 z.kind,.string z.name,.int .i64 z.var,.slice y5 y6 y7] 32)
 have HX7:=Lib.hid (heap_alloc_new w1 (.cells #[.int .i64 z.kind,.string z.name,.int .i64 z.var,.slice y5 y6 y7] 32))
 have HVA:=Lib.hid (TyE.step.below HV1.out hb7)
 have HTW:=Lib.hid (HT1.out.below hb7)
 have HBW:=Lib.hid (HB1.out.trans (hb7.mono HB1.out.size))
 clear hb7 HV1 HT1 HB1 HT HBA HNOW
 generalize (w1.alloc (.cells #[.int .i64 z.kind,.string z.name,.int .i64 z.var,.slice y5 y6 y7] 32))=W1 at HX7 HVA HTW HBW ⊢
 generalize w1.heap.size=N7 at HX7 ⊢
 have x0:=(cellH HX7.out 0).trans rfl
 have x1:=(cellH HX7.out 1).trans rfl
 have x2:=(cellH HX7.out 2).trans rfl
 have x3:=(cellH HX7.out 3).trans rfl
 obtain ⟨dz,hdz⟩:=HVA.out
 have HHAS:=Lib.hid (has_any m v dz Vol z _ W1 hdz HGS.out)
 clear hdz
 by_cases ho:0 < occT v z
 ·have HO:=Lib.hid ho
  rw [show decide (0 < occT v z)=true by simpa using ho] at HHAS
  clear ho
  go_wp2_with (go_at_call 72;refine HHAS.out.mono ?_;rintro e w3 ⟨rfl,hb3⟩;have HB3:=Lib.hid hb3;clear hb3)
  go_ret
  obtain ⟨rfl,rfl⟩:=HB.out.inv_inside HO.out
  exact ⟨rfl,HTW.out.below HB3.out,Kb.of_below (HBW.out.trans (HB3.out.mono HBW.out.size))⟩
 ·have HO:=Lib.hid ho
  rw [show decide (0 < occT v z)=false by simpa using ho] at HHAS
  clear ho
  go_upto_region 4 with (go_at_call 72;refine HHAS.out.mono ?_;rintro e w3 ⟨rfl,hb3⟩;have HB3:=Lib.hid hb3;clear hb3)
  have HT3:=Lib.hid (HTW.out.below HB3.out)
  have HV3:=Lib.hid (TyE.step.below HVA.out HB3.out)
  have HX3:=Lib.hid ((HB3.out.block N7 (Array.getElem?_eq_some_iff.1 HX7.out).1).trans HX7.out)
  have HBW3:=Lib.hid (HBW.out.trans (HB3.out.mono HBW.out.size))
  clear x0 x1 x2 x3 HX7 HVA HTW HBW HB3 HHAS
  obtain ⟨val,hb0,hrow⟩:=HT3.out.row
  obtain ⟨Ar,cr,rfl⟩:=hrow.slice
  have hlen:((List.range m).map r).length=m:=by simp
  rw [hlen] at hb0 hrow
  have hbE:=below_alloc w3 (.cells #[] 32)
  have t0:=(cellH ((hbE.block b (Array.getElem?_eq_some_iff.1 hb0).1).trans hb0) 0).trans rfl
  have HB0:=Lib.hid hb0
  have HROW:=Lib.hid hrow
  have HST:=Lib.hid (RowG.startE Vol w3)
  have HVL3:Hid (∀ k,Vol k→k < w3.heap.size):=Lib.hid (fun k e=>Nat.lt_of_lt_of_le (HVL.out k e) HBW3.out.size)
  clear hb0 hrow hlen hbE
  go_wp2_with fail
  clear t0
  go_loopw [9,28] (fun u t wr=>∃ (k:Nat) (s':Option Addr) (cap':Nat) (vs:List Value),k≤m∧u=.slice s' k cap'∧t=.int .i64 k∧Hid (RowG 32 4 TyE Vol w3 wr s' cap' ((List.range k).map (fun x=>sub (pr v z) (r x))) vs)∧Hid (∀ j,j < k→sizeT (sub (one v z) (r j))≤200)) (fun _ t _=>m - (intOf t).toNat)
  case atStart=>exact ⟨0,_,0,[],Nat.zero_le _,rfl,rfl,HST,Lib.hid (fun j h=>by omega)⟩
  case round =>
   obtain ⟨k,s',cap',vs,hk,rfl,rfl,HR,HN⟩:=hrel
   have hlk:((List.range k).map (fun x=>sub (pr v z) (r x))).length=k:=by simp
   have HLK:=Lib.hid hlk
   by_cases hlt:k < m
   ·have hsl:∀ j,j < w3.heap.size→s' ≠ some ⟨j,0,none⟩:=fun j hj e=>by have:=(HR.out.own.lt j (by rw [e];rfl)).1;omega
    obtain ⟨gg,o,vi,rfl,hg,_,hvi,hc⟩:=RowW.at (RowW.step TyE.step Vol (fun j=>Vol j ∨ s'=some ⟨j,0,none⟩) _ _ _ _ HROW.out (Kb.of_below HR.out.below) (fun j hj e=>e.elim id (fun e=>absurd e (hsl j hj)))) k (by simpa using hlt)
    have hva:=TyE.step Vol (fun j=>Vol j ∨ s'=some ⟨j,0,none⟩) _ _ _ _ HV3.out (Kb.of_below HR.out.below) (fun j hj e=>e.elim id (fun e=>absurd e (hsl j hj)))
    simp only [List.getElem_map,List.getElem_range] at hvi hc
    obtain ⟨B1,n1,c1,rfl⟩:=hvi.this
    have a0:=(hc 0 (by decide)).trans rfl
    have a1:=(hc 1 (by decide)).trans rfl
    have a2:=(hc 2 (by decide)).trans rfl
    have a3:=(hc 3 (by decide)).trans rfl
    simp only [cellsL,Value.cells,List.getElem?_cons_zero,List.getElem?_cons_succ,Nat.add_zero] at a0 a1 a2 a3
    have hk0:(0:Int)≤(k:Int):=by omega
    have hk1:(k:Int) < (m:Int):=by omega
    have hdc:decide (k < m)=true:=by simpa using hlt
    have HGX:=Lib.hid (HR0.out k hlt)
    have HMN:=Lib.hid (HR.out.mine HVL3.out)
    have HSN:=Lib.hid (range_snoc (f:=fun x=>sub (pr v z) (r x)) (k:=k))
    have HLT:=Lib.hid hlt
    generalize hxx:r k=x at hvi a0 a1 a2 HGX HSN
    have HXX:=Lib.hid hxx
    have hbz:=below_alloc wr (.cells #[.int .i64 x.kind,.string x.name,.int .i64 x.var,.slice B1 n1 c1] 32)
    obtain ⟨dx,hdx⟩:=hvi
    have HPUT:=Lib.hid (put_any m v z dx (fun j=>Vol j ∨ s'=some ⟨j,0,none⟩) x _ _ _ ((TyW.step dx).below hdx hbz) (TyE.step.below hva hbz) HGX.out.1 (few_small x (by have:=HGX.out.2;omega)) (fun j e=>Nat.lt_of_lt_of_le (HMN.out j e) hbz.size))
    have HGY:Hid (goodT m (sub (pr v z) x)):=Lib.hid (good_sub (good_one HGS.out) x HGX.out.1)
    have HZY:Hid (sizeT (sub (pr v z) x)≤300000000000):=Lib.hid (one_size (v:=v) HGX.out.1 HGX.out.2 (by omega))
    have hbx3:=(hbz.block N7 (Nat.lt_of_lt_of_le (Array.getElem?_eq_some_iff.1 HX3.out).1 HR.out.below.size)).trans ((HR.out.below.block N7 (Array.getElem?_eq_some_iff.1 HX3.out).1).trans HX3.out)
    have e0:=(cellH hbx3 0).trans rfl
    have e1:=(cellH hbx3 1).trans rfl
    have e2:=(cellH hbx3 2).trans rfl
    have e3:=(cellH hbx3 3).trans rfl
    have HBZ:=Lib.hid hbz
    have hs5:=HR.out.below.size
    clear hc hdx hva hsl hbz hbx3 hlk hxx
    generalize hyy:sub (pr v z) x=y at HPUT HSN HGY HZY
    have HYY:=Lib.hid hyy
    clear hyy
    obtain ⟨ny,hny⟩:∃ ny:Int,(sizeT y:Int)=ny:=⟨_,rfl⟩
    have HNY:=Lib.hid hny
    have hwr:IntKind.i64.wrap (nodesZ y)=ny:=by rw [nodes_good _ HGY.out,← hny];have:=HZY.out;simp only [IntKind.wrap_i64,wrap64];omega
    have HWR:=Lib.hid hwr
    clear hny hwr
    by_cases hp:ny > 200
    ·go_wp2_with (first
      | (go_at_call 73;refine HPUT.out.mono ?_;rintro e w4 ⟨v4,rfl,hv4,hb4⟩;obtain ⟨y5,y6,y7,rfl⟩:=hv4.this;have hb5:=below_alloc w4 (.cells #[.int .i64 y.kind,.string y.name,.int .i64 y.var,.slice y5 y6 y7] 32);have HB4:=Lib.hid ((HBZ.out.trans (hb4.mono HBZ.out.size)).trans (hb5.mono (HBZ.out.trans (hb4.mono HBZ.out.size)).size));have HV4:=Lib.hid (TyE.step.below hv4 hb5);have HX4:=Lib.hid (heap_alloc_new w4 (.cells #[.int .i64 y.kind,.string y.name,.int .i64 y.var,.slice y5 y6 y7] 32));clear hv4 hb4 hb5)
      | (go_at_call 31;refine (refNodes_any HV4.out.choose _ y _ _ HV4.out.choose_spec).mono ?_;rintro e w5 ⟨rfl,hb5⟩;rw [HWR.out];have HB5:=Lib.hid (HB4.out.trans (hb5.mono HB4.out.size));have HV5:=Lib.hid (TyE.step.below HV4.out hb5);have hx5:=(hb5.block _ (Array.getElem?_eq_some_iff.1 HX4.out).1).trans HX4.out;have z0:=(cellH hx5 0).trans rfl;have z1:=(cellH hx5 1).trans rfl;have z2:=(cellH hx5 2).trans rfl;have z3:=(cellH hx5 3).trans rfl;have HO5:=Lib.hid (own_belowN HR.out.own HB5.out);rw [HLK.out] at HO5;have hs6:=HB5.out.size;clear hb5 hx5))
     go_ret
     obtain ⟨rfl,rfl⟩:=HB.out.inv_large HO.out HLT.out (by rw [HXX.out];have h1:=HYY.out;have h2:=HNY.out;show 200 < sizeT (sub (pr v z) x);rw [h1];omega)
     exact ⟨rfl,HT3.out.below (HR.out.below.trans (HB5.out.mono HR.out.below.size)),Kb.of_below (HBW3.out.trans ((HR.out.below.trans (HB5.out.mono HR.out.below.size)).mono HBW3.out.size))⟩
    ·go_wp2_with (first
      | (go_at_call 73;refine HPUT.out.mono ?_;rintro e w4 ⟨v4,rfl,hv4,hb4⟩;obtain ⟨y5,y6,y7,rfl⟩:=hv4.this;have hb5:=below_alloc w4 (.cells #[.int .i64 y.kind,.string y.name,.int .i64 y.var,.slice y5 y6 y7] 32);have HB4:=Lib.hid ((HBZ.out.trans (hb4.mono HBZ.out.size)).trans (hb5.mono (HBZ.out.trans (hb4.mono HBZ.out.size)).size));have HV4:=Lib.hid (TyE.step.below hv4 hb5);have HX4:=Lib.hid (heap_alloc_new w4 (.cells #[.int .i64 y.kind,.string y.name,.int .i64 y.var,.slice y5 y6 y7] 32));clear hv4 hb4 hb5)
      | (go_at_call 31;refine (refNodes_any HV4.out.choose _ y _ _ HV4.out.choose_spec).mono ?_;rintro e w5 ⟨rfl,hb5⟩;rw [HWR.out];have HB5:=Lib.hid (HB4.out.trans (hb5.mono HB4.out.size));have HV5:=Lib.hid (TyE.step.below HV4.out hb5);have hx5:=(hb5.block _ (Array.getElem?_eq_some_iff.1 HX4.out).1).trans HX4.out;have z0:=(cellH hx5 0).trans rfl;have z1:=(cellH hx5 1).trans rfl;have z2:=(cellH hx5 2).trans rfl;have z3:=(cellH hx5 3).trans rfl;have HO5:=Lib.hid (own_belowN HR.out.own HB5.out);rw [HLK.out] at HO5;have hs6:=HB5.out.size;clear hb5 hx5)
      | (at_builtin;refine wpList_append_lies _ rfl _ _ 27 rfl w3.heap.size 32 i0 (.agg #[.int .i64 0,.string ⟨#[]⟩,.int .i64 0,.slice none 0 0]) 4 56 Tryd.underlying27 HI0.out HI1.out HI2.out HI3.out rfl (by decide) _ _ _ rfl (HO5.out.alloc _) ⟨w5.heap.size,0,none⟩ 1 1 [.int .i64 y.kind,.string y.name,.int .i64 y.var,.slice y5 y6 y7] rfl rfl (cells_new _ #[.int .i64 y.kind,.string y.name,.int .i64 y.var,.slice y5 y6 y7] _ _ rfl) (by simp [Value.oneCell']) (by decide) (by unfold maxLen;omega) (by omega) (by simp;omega) _ rfl ?_;intro g2 cap2 w6 hown6 hg6 hat6 _;have HO6:=Lib.hid hown6;have HG6:=Lib.hid hg6;have HA6:=Lib.hid hat6;clear hown6 hg6 hat6))
     have HNX:Hid (RowG 32 4 TyE Vol w3 w6 (some ⟨g2,0,none⟩) cap2 ((List.range (k+1)).map (fun x=>sub (pr v z) (r x))) (vs++[Value.agg #[.int .i64 y.kind,.string y.name,.int .i64 y.var,.slice y5 y6 y7]])):=Lib.hid (by
      rw [HSN.out]
      exact HR.out.snoc TyE.step HVL3.out HB5.out HV5.out (by rw [HLK.out];exact HO6.out) (by rw [HLK.out];exact HG6.out) (by rw [HLK.out];exact HA6.out))
     go_roundw
     case rel=>exact ⟨k+1,some ⟨g2,0,none⟩,cap2,_,by omega,rfl,by go_num,HNX,Lib.hid (fun j hj=>by
      by_cases e:j=k
      ·subst e
       rw [HXX.out]
       have h1:=HYY.out
       have h2:=HNY.out
       show sizeT (sub (pr v z) x)≤200
       rw [h1];omega
      ·exact HN.out j (by omega))⟩
     case measure=>simp [intOf];omega
   ·obtain rfl:k=m:=by omega
    have hdc:decide (k < k)=false:=by simp
    have hb0:=(HR.out.below.block b (Array.getElem?_eq_some_iff.1 HB0.out).1).trans HB0.out
    have t0:=(cellH hb0 0).trans rfl
    have f0:=frozenH hb0 0
    have HBB:=Lib.hid hb0
    clear hb0 hlk
    go_wp2_with fail
    clear t0 f0
    go_ret
    obtain ⟨rfl,rfl⟩:=HB.out.inv_done HO.out HN.out
    have hrow:=HR.out.held TyE.step tyECells HVL3.out
    rw [HLK.out] at hrow
    have hk:Kb (fun j=>j=b) wr (wr.setCell ⟨b,0,none⟩ (.slice s' k cap')):=(Kb.refl (fun j=>j=b) wr).put (p:=⟨b,0,none⟩) rfl _
    exact ⟨rfl,⟨_,blk_put wr b 0 _ HBB.out (by show 0 < 1;decide),RowW.step TyE.step _ _ _ _ _ _ hrow (hk.wider (fun j _ (e:j=b)=>e ▸ HVB.out)) (fun _ _ e=>e)⟩,(Kb.of_below (HBW3.out.trans (HR.out.below.mono HBW3.out.size))).trans hk⟩
end Lx
end Go.Proofs.YtdegmeoapgibiaaDoor
namespace Go.Proofs.YtdegmeoapgibiaaDoor
set_option linter.unusedSimpArgs false
set_option linter.unusedVariables false
namespace Lx
open Go Go.RowKit
/-- What is kept of the reference's table: all unknowns' types are clean, resolved, of at most 200 nodes. -/
structure RFine (m:Nat) (r:Rho):Prop where
 res:Res m r
 few:∀ x,x < m→sizeT (r x)≤200
 ms:m≤1000000
theorem RFine.each {m:Nat} {r:Rho} (h:RFine m r):∀ i,i < m→goodT m (r i)∧sizeT (r i)≤200:=fun i hi=>⟨h.res.good i hi,h.few i hi⟩
theorem RFine.next {m:Nat} {r r':Rho} (h:RFine m r) (hn:Next m r r'):RFine m r':=⟨hn.res,hn.few h.few,h.ms⟩
theorem rhead_any (b m:Nat) (r:Rho) (hr:RFine m r) (Vol:Nat→Prop) (t:TyT) (v:Value) (w:World) (hx:TyE Vol t v w) (gt:goodT m t) (hz:sizeT t≤200) (hT:RTab Vol b m r w) :
  Calls Tryd.prog 61 #[.pointer (some ⟨b,0,none⟩),v] w fun e w'=>∃ x v',e=.returned v'∧goodT m x∧sub r x=sub r t∧(x.kind=4→sub r x=x)∧sizeT x≤200∧TyE Vol x v' w'∧Below w.heap.size w w':=by
 obtain ⟨A1,n1,c1,rfl⟩:=hx.this
 by_cases k4:t.kind=4
 ·obtain ⟨i,hi,rfl⟩:=good_free gt k4
  refine (rhead_free b m r Vol i A1 n1 c1 w hi hT).mono ?_
  rintro e w' ⟨v',rfl,h1,h2⟩
  exact ⟨r i,v',rfl,hr.res.good i hi,by rw [hr.res.idem i hi,sub_fr],fun _=>hr.res.idem i hi,hr.few i hi,h1,h2⟩
 ·obtain ⟨k,s,n,l⟩:=t
  refine (rhead_other b Vol k n s l A1 n1 c1 w k4 hx).mono ?_
  rintro e w' ⟨rfl,h1,h2⟩
  exact ⟨_,_,rfl,gt,rfl,fun e=>absurd e k4,hz,h1,h2⟩
/-- What the reference's unify leaves. -/
def RUniC (b m:Nat) (r:Rho) (A B:TyT) (code:Nat) (r':Rho):Prop:=∀ (Vol:Nat→Prop) (t1 t2:TyT) (v1 v2:Value) (w:World),RFine m r→TyE Vol t1 v1 w→TyE Vol t2 v2 w→goodT m t1→goodT m t2→sub r t1=A→sub r t2=B→sizeT t1≤200→sizeT t2≤200→RTab Vol b m r w→Vol b→(∀ k,Vol k→k < w.heap.size) →
 Calls Tryd.prog 37 #[.pointer (some ⟨b,0,none⟩),v1,v2] w fun e w'=>e=.returned (.int .i64 (numC code))∧RTab Vol b m r' w'∧Kb (fun k=>k=b) w w'
def UnisR (b m:Nat):Rho→List TyT→List TyT→Nat→Rho→Prop
 | r,[],[],e,r'=>e=0∧r'=r
 | r,x :: la,y :: lb,e,r'=>∃ e1 r1,Unif m r (sub r x) (sub r y) e1 r1∧RUniC b m r (sub r x) (sub r y) e1 r1∧((e1 ≠ 0∧e=e1∧r'=r1) ∨ (e1=0∧UnisR b m r1 la lb e r'))
 | _,_,_,_,_=>False
/-- Behind both heads: the two boxes, what they hold, the table. -/
structure RHd (Vol:Nat→Prop) (b m:Nat) (r:Rho) (A B:TyT) (w W:World) (x1 x2:TyT) (P1 P2:Option Addr) (n1 n2 m1 m2:Nat):Prop where
 g1:goodT m x1
 g2:goodT m x2
 s1:sub r x1=A
 s2:sub r x2=B
 f1:x1.kind=4→sub r x1=x1
 f2:x2.kind=4→sub r x2=x2
 z1:sizeT x1≤200
 z2:sizeT x2≤200
 b1:W.heap[w.heap.size]?=some (.cells #[.int .i64 x1.kind,.string x1.name,.int .i64 x1.var,.slice P1 n1 m1] 32 (0,0))
 b2:W.heap[w.heap.size+1]?=some (.cells #[.int .i64 x2.kind,.string x2.name,.int .i64 x2.var,.slice P2 n2 m2] 32 (0,0))
 h1:TyE Vol x1 (.agg #[.int .i64 x1.kind,.string x1.name,.int .i64 x1.var,.slice P1 n1 m1]) W
 h2:TyE Vol x2 (.agg #[.int .i64 x2.kind,.string x2.name,.int .i64 x2.var,.slice P2 n2 m2]) W
 st:RTab Vol b m r W
 kb:Below w.heap.size w W
section
variable {Vol:Nat→Prop} {b m code:Nat} {r r':Rho} {A B x1 x2:TyT} {P1 P2:Option Addr} {n1 n2 m1 m2:Nat} {w W wB w':World}
theorem rh_of {z0 z1 z2 z3 y0 y1 y2 y3:Value} (q1:goodT m x1) (q2:goodT m x2) (q3:sub r x1=A) (q4:sub r x2=B) (q5:x1.kind=4→sub r x1=x1) (q6:x2.kind=4→sub r x2=x2) (q7:sizeT x1≤200) (q8:sizeT x2≤200) (hbl:b < w.heap.size)
  (hA:TyE (fun k=>Vol k ∨ k=w.heap.size ∨ k=w.heap.size+1) x1 (.agg #[.int .i64 x1.kind,.string x1.name,.int .i64 x1.var,.slice P1 n1 m1]) wB)
  (hB:TyE (fun k=>Vol k ∨ k=w.heap.size ∨ k=w.heap.size+1) x2 (.agg #[.int .i64 x2.kind,.string x2.name,.int .i64 x2.var,.slice P2 n2 m2]) wB)
  (hS:RTab (fun k=>Vol k ∨ k=w.heap.size ∨ k=w.heap.size+1) b m r wB) (hK:Below w.heap.size w wB)
  (h0:wB.heap[w.heap.size]?=some (.cells #[z0,z1,z2,z3] 32 (0,0))) (h1:wB.heap[w.heap.size+1]?=some (.cells #[y0,y1,y2,y3] 32 (0,0))) :
  RHd Vol b m r A B w ((((((((wB.setCell ⟨w.heap.size,0,none⟩ (.int .i64 x1.kind)).setCell ⟨w.heap.size,1,none⟩ (.string x1.name)).setCell ⟨w.heap.size,2,none⟩ (.int .i64 x1.var)).setCell ⟨w.heap.size,3,none⟩ (.slice P1 n1 m1)).setCell ⟨w.heap.size+1,0,none⟩ (.int .i64 x2.kind)).setCell ⟨w.heap.size+1,1,none⟩ (.string x2.name)).setCell ⟨w.heap.size+1,2,none⟩ (.int .i64 x2.var)).setCell ⟨w.heap.size+1,3,none⟩ (.slice P2 n2 m2)) x1 x2 P1 P2 n1 n2 m1 m2:=by
 have l0:w.heap.size < wB.heap.size:=(Array.getElem?_eq_some_iff.1 h0).1
 have l1:w.heap.size+1 < wB.heap.size:=(Array.getElem?_eq_some_iff.1 h1).1
 have hk1:=kput4 wB w.heap.size (.int .i64 x1.kind) (.string x1.name) (.int .i64 x1.var) (.slice P1 n1 m1)
 have hq1:=put4 (.int .i64 x1.kind) (.string x1.name) (.int .i64 x1.var) (.slice P1 n1 m1) h0
 have hr1:=(hk1.block (w.heap.size+1) l1 (by omega)).trans h1
 generalize ((((wB.setCell ⟨w.heap.size,0,none⟩ (.int .i64 x1.kind)).setCell ⟨w.heap.size,1,none⟩ (.string x1.name)).setCell ⟨w.heap.size,2,none⟩ (.int .i64 x1.var)).setCell ⟨w.heap.size,3,none⟩ (.slice P1 n1 m1))=W1 at hk1 hq1 hr1 ⊢
 have hk2:=kput4 W1 (w.heap.size+1) (.int .i64 x2.kind) (.string x2.name) (.int .i64 x2.var) (.slice P2 n2 m2)
 have hr2:=put4 (.int .i64 x2.kind) (.string x2.name) (.int .i64 x2.var) (.slice P2 n2 m2) hr1
 have hq2:=(hk2.block w.heap.size (Nat.lt_of_lt_of_le l0 hk1.size) (by omega)).trans hq1
 generalize ((((W1.setCell ⟨w.heap.size+1,0,none⟩ (.int .i64 x2.kind)).setCell ⟨w.heap.size+1,1,none⟩ (.string x2.name)).setCell ⟨w.heap.size+1,2,none⟩ (.int .i64 x2.var)).setCell ⟨w.heap.size+1,3,none⟩ (.slice P2 n2 m2))=W2 at hk2 hr2 hq2 ⊢
 have hkB:Kb (fun k=>k=w.heap.size ∨ k=w.heap.size+1) wB W2:=(hk1.wider (fun k _ e=>.inl e)).trans (hk2.wider (fun k _ e=>.inr e))
 refine ⟨q1,q2,q3,q4,q5,q6,q7,q8,hq2,hr2,TyE.step _ _ _ _ _ _ hA (hkB.wider (fun k _ e=>.inr e)) (fun k _ e=>.inl e),TyE.step _ _ _ _ _ _ hB (hkB.wider (fun k _ e=>.inr e)) (fun k _ e=>.inl e),hS.step hkB (fun k _ e=>.inr e) (fun e=>by omega) (fun k _ e=>.inl e),hK.trans (hkB.below hK.size (fun k e=>by omega))⟩
theorem RHd.same (h:RHd Vol b m r A B w W x1 x2 P1 P2 n1 n2 m1 m2) (hu:Unif m r A B code r') (k1:x1.kind=4) (k2:x2.kind=4) (kv:x1.var=x2.var):code=0∧r'=r:=by
 obtain ⟨u1,_,e1⟩:=good_free h.g1 k1
 obtain ⟨u2,_,e2⟩:=good_free h.g2 k2
 rw [e1,e2] at kv
 have:(u1:Int)=(u2:Int):=kv
 obtain rfl:u1=u2:=by omega
 refine hu.self ?_
 rw [← h.s1,← h.s2,h.f1 k1,h.f2 k2,e1,e2]
theorem RHd.clash (h:RHd Vol b m r A B w W x1 x2 P1 P2 n1 n2 m1 m2) (hu:Unif m r A B code r') (k1:x1.kind ≠ 4) (k2:x2.kind ≠ 4) (hc:x1.kind ≠ x2.kind ∨ x1.name ≠ x2.name ∨ x1.args.length ≠ x2.args.length):code=1∧r'=r:=by
 rw [← h.s1,← h.s2,sub_args k1,sub_args k2] at hu
 refine hu.inv_clash k1 k2 ?_
 rcases hc with hc | hc | hc
 ·exact .inl hc
 ·exact .inr (.inl hc)
 ·refine .inr (.inr ?_)
  show (subs r x1.args).length ≠ (subs r x2.args).length
  rw [subs_length,subs_length]
  exact hc
theorem RHd.done (h:RHd Vol b m r A B w W x1 x2 P1 P2 n1 n2 m1 m2) (hb:Below W.heap.size W w'):RTab Vol b m r w'∧Kb (fun k=>k=b) w w':=⟨h.st.below hb,Kb.of_below (h.kb.trans (hb.mono h.kb.size))⟩
/-- What bind is given, at the left. -/
theorem RHd.left (h:RHd Vol b m r A B w W x1 x2 P1 P2 n1 n2 m1 m2) (hr:RFine m r) (hvb:Vol b) (hvl:∀ k,Vol k→k < w.heap.size) (hu:Unif m r A B code r') (k1:x1.kind=4) (kv:¬ (x2.kind=4∧x1.var=x2.var)) :
  Calls Tryd.prog 62 #[.pointer (some ⟨b,0,none⟩),.int .i64 x1.var,.agg #[.int .i64 x2.kind,.string x2.name,.int .i64 x2.var,.slice P2 n2 m2]] W fun e w'=>e=.returned (.int .i64 (numC code))∧RTab Vol b m r' w'∧Kb (fun k=>k=b) w w':=by
 obtain ⟨u,hum,e1⟩:=good_free h.g1 k1
 have hx2:x2 ≠ fr u:=fun e=>kv (by rw [e,e1];exact ⟨rfl,rfl⟩)
 have hne:sub r x2 ≠ fr u:=by
  by_cases k2:x2.kind=4
  ·rw [h.f2 k2];exact hx2
  ·intro e
   have:=congrArg TyT.kind e
   rw [kind_sub k2] at this
   exact k2 this
 have hv:x1.var=(u:Int):=by rw [e1];rfl
 rw [hv]
 rw [← h.s1,← h.s2] at hu
 refine (rbind_any b m u r hr.ms hr.each Vol x2 _ W h.h2 h.g2 h.z2 h.st hvb (fun k e=>Nat.lt_of_lt_of_le (hvl k e) h.kb.size) (hu.inv_left (v:=u) (by rw [h.f1 k1,e1]) hne)).mono ?_
 rintro e w' ⟨rfl,p1,p2⟩
 exact ⟨rfl,p1,(Kb.of_below h.kb).trans p2⟩
theorem RHd.right (h:RHd Vol b m r A B w W x1 x2 P1 P2 n1 n2 m1 m2) (hr:RFine m r) (hvb:Vol b) (hvl:∀ k,Vol k→k < w.heap.size) (hu:Unif m r A B code r') (k1:x1.kind ≠ 4) (k2:x2.kind=4) :
  Calls Tryd.prog 62 #[.pointer (some ⟨b,0,none⟩),.int .i64 x2.var,.agg #[.int .i64 x1.kind,.string x1.name,.int .i64 x1.var,.slice P1 n1 m1]] W fun e w'=>e=.returned (.int .i64 (numC code))∧RTab Vol b m r' w'∧Kb (fun k=>k=b) w w':=by
 obtain ⟨u,hum,e2⟩:=good_free h.g2 k2
 have hv:x2.var=(u:Int):=by rw [e2];rfl
 rw [hv]
 rw [← h.s1,← h.s2] at hu
 refine (rbind_any b m u r hr.ms hr.each Vol x1 _ W h.h1 h.g1 h.z1 h.st hvb (fun k e=>Nat.lt_of_lt_of_le (hvl k e) h.kb.size) (hu.inv_right (v:=u) (by rw [h.f2 k2,e2]) (by rw [kind_sub k1];exact k1))).mono ?_
 rintro e w' ⟨rfl,p1,p2⟩
 exact ⟨rfl,p1,(Kb.of_below h.kb).trans p2⟩
/-- The call for one pair of arguments. -/
theorem uq_call {q:Nat} {rq:Rho} {X:World} {v1 v2:Value} {y1 y2:TyT} (hr:RFine m r) (hn:Next m r rq) (hU:UnisR b m rq (subs r (x1.args.drop q)) (subs r (x2.args.drop q)) code r') (l1:q < x1.args.length) (l2:q < x2.args.length) (e1:x1.args[q]=y1) (e2:x2.args[q]=y2) (g1:goodT m x1) (g2:goodT m x2) (z1:sizeT x1≤200) (z2:sizeT x2≤200) (k1:x1.kind ≠ 4) (k2:x2.kind ≠ 4) (hT:RTab Vol b m rq X) (hvb:Vol b) (hvl:∀ k,Vol k→k < X.heap.size) (h1:TyE Vol y1 v1 X) (h2:TyE Vol y2 v2 X) :
  Calls Tryd.prog 37 #[.pointer (some ⟨b,0,none⟩),v1,v2] X fun e w'=>∃ z:Int,e=.returned (.int .i64 z)∧Kb (fun k=>k=b) X w'∧((z=0∧∃ r1,RTab Vol b m r1 w'∧Next m r r1∧UnisR b m r1 (subs r (x1.args.drop (q+1))) (subs r (x2.args.drop (q+1))) code r') ∨ ((z == 0)=false∧z=numC code∧RTab Vol b m r' w')):=by
 rw [List.drop_eq_getElem_cons l1,List.drop_eq_getElem_cons l2,subs,subs,e1,e2] at hU
 obtain ⟨c1,r1,hu,hc,hor⟩:=hU
 have gy1:goodT m y1:=e1 ▸ goodTs_mem (good_args g1 k1) l1
 have gy2:goodT m y2:=e2 ▸ goodTs_mem (good_args g2 k2) l2
 have hrq:=hr.next hn
 have s1:sub rq y1=sub rq (sub r y1):=(hn.ext.sub gy1).symm
 have s2:sub rq y2=sub rq (sub r y2):=(hn.ext.sub gy2).symm
 refine (hc Vol y1 y2 v1 v2 X hrq h1 h2 gy1 gy2 s1 s2 (e1 ▸ size_argU l1 z1) (e2 ▸ size_argU l2 z2) hT hvb hvl).mono ?_
 rintro e w' ⟨rfl,p1,p2⟩
 refine ⟨numC c1,rfl,p2,?_⟩
 rcases hor with ⟨h0,rfl,rfl⟩ | ⟨rfl,hU⟩
 ·right
  refine ⟨?_,rfl,p1⟩
  rcases hu.code with hc | hc | hc
  ·exact absurd hc h0
  ·subst hc;rfl
  ·subst hc;rfl
 ·left
  have gg1:=good_sub hr.res.good _ gy1
  have gg2:=good_sub hr.res.good _ gy2
  rw [← s1,← s2] at hu
  obtain ⟨hn2,_⟩:=hu.next hn.res (good_sub hn.res.good _ gy1) (good_sub hn.res.good _ gy2) ((Ext.refl hn.res).sub gy1) ((Ext.refl hn.res).sub gy2)
  exact ⟨rfl,r1,p1,hn.trans hr.res hn2,hU⟩
end
end Lx
end Go.Proofs.YtdegmeoapgibiaaDoor
namespace Go.Proofs.YtdegmeoapgibiaaDoor
set_option linter.unusedSimpArgs false
set_option linter.unusedVariables false
namespace Lx
open Go Go.RowKit
set_option maxRecDepth 100000 in
set_option maxHeartbeats 8000000 in
theorem runi_walk (b m:Nat) (r:Rho) (A B:TyT) (code:Nat) (r':Rho) (hu:Unif m r A B code r') (ha:A.kind ≠ 4→A.kind=B.kind→A.name=B.name→A.args.length=B.args.length→UnisR b m r A.args B.args code r'):RUniC b m r A B code r':=by
 intro Vol t1 t2 v1 v2 w hr hv1 hv2 gt1 gt2 hs1 hs2 hz1 hz2 hT hvb hvl
 obtain ⟨A1,l1,c1,rfl⟩:=hv1.this
 obtain ⟨A2,l2,c2,rfl⟩:=hv2.this
 have hbl:=hT.lt
 have hB:Below w.heap.size w ((w.alloc (.cells #[.int .i64 t1.kind,.string t1.name,.int .i64 t1.var,.slice A1 l1 c1] 32)).alloc (.cells #[.int .i64 t2.kind,.string t2.name,.int .i64 t2.var,.slice A2 l2 c2] 32)):=(below_alloc _ _).alloc (by simp) _
 have hback:∀ k,k < w.heap.size→(Vol k ∨ k=w.heap.size ∨ k=w.heap.size+1)→Vol k:=fun k hk e=>by
  rcases e with e | e | e
  ·exact e
  ·omega
  ·omega
 have HA:=Lib.hid ((Below.heap_alloc (w.alloc (.cells #[.int .i64 t1.kind,.string t1.name,.int .i64 t1.var,.slice A1 l1 c1] 32)) (.cells #[.int .i64 t2.kind,.string t2.name,.int .i64 t2.var,.slice A2 l2 c2] 32) w.heap.size (by simp)).trans (heap_alloc_new w (.cells #[.int .i64 t1.kind,.string t1.name,.int .i64 t1.var,.slice A1 l1 c1] 32)))
 have hz:(w.alloc (.cells #[.int .i64 t1.kind,.string t1.name,.int .i64 t1.var,.slice A1 l1 c1] 32)).heap.size=w.heap.size+1:=by simp
 have HR:=Lib.hid (heap_alloc_new (w.alloc (.cells #[.int .i64 t1.kind,.string t1.name,.int .i64 t1.var,.slice A1 l1 c1] 32)) (.cells #[.int .i64 t2.kind,.string t2.name,.int .i64 t2.var,.slice A2 l2 c2] 32))
 rw [hz] at HR
 have HV1:=Lib.hid (TyE.step _ (fun k=>Vol k ∨ k=w.heap.size ∨ k=w.heap.size+1) _ _ _ _ hv1 (Kb.of_below hB) hback)
 have HV2:=Lib.hid (TyE.step _ (fun k=>Vol k ∨ k=w.heap.size ∨ k=w.heap.size+1) _ _ _ _ hv2 (Kb.of_below hB) hback)
 have HST:Hid (RTab (fun k=>Vol k ∨ k=w.heap.size ∨ k=w.heap.size+1) b m r _):=Lib.hid ((hT.wider hback).below hB)
 have HB:=Lib.hid hB
 have HVL:=Lib.hid hvl
 have HVB:=Lib.hid hvb
 have HBL:=Lib.hid hbl
 have HFN:=Lib.hid hr
 have HG1:=Lib.hid gt1
 have HG2:=Lib.hid gt2
 have HZ1:=Lib.hid hz1
 have HZ2:=Lib.hid hz2
 have HS1:=Lib.hid hs1
 have HS2:=Lib.hid hs2
 have HU:=Lib.hid hu
 have HARG:=Lib.hid ha
 clear hv1 hv2 hbl hB hback hz hT hvl hvb hr gt1 gt2 hz1 hz2 hs1 hs2 hu ha
 go_enter Tryd.func37,Tryd.ntmps37
 go_upto_region 1 with fail
 generalize ((w.alloc (.cells #[.int .i64 t1.kind,.string t1.name,.int .i64 t1.var,.slice A1 l1 c1] 32)).alloc (.cells #[.int .i64 t2.kind,.string t2.name,.int .i64 t2.var,.slice A2 l2 c2] 32))=Z at HA HR HV1 HV2 HST HB ⊢
 go_cut [] from 9 (fun wc=>∃ (x1 x2:TyT) (P1 P2:Option Addr) (n1 n2 m1 m2:Nat),Hid (RHd Vol b m r A B w wc x1 x2 P1 P2 n1 n2 m1 m2))
 case first =>
  have hdr:=below_drw (Below.refl Z.heap.size Z)
  have HST:=Lib.hid (HST.out.below hdr)
  have HV1:=Lib.hid (TyE.step.below HV1.out hdr)
  have HV2:=Lib.hid (TyE.step.below HV2.out hdr)
  have HB:=Lib.hid (below_drw HB.out)
  have HA:Hid (Z.drew.heap[w.heap.size]?=_):=HA
  have HR:Hid (Z.drew.heap[w.heap.size+1]?=_):=HR
  clear hdr
  have H1:=Lib.hid (rhead_any b m r HFN.out _ t1 _ _ HV1.out HG1.out HZ1.out HST.out)
  have H2:Hid (∀ W,RTab (fun k=>Vol k ∨ k=w.heap.size ∨ k=w.heap.size+1) b m r W→TyE (fun k=>Vol k ∨ k=w.heap.size ∨ k=w.heap.size+1) t2 (.agg #[.int .i64 t2.kind,.string t2.name,.int .i64 t2.var,.slice A2 l2 c2]) W→_):=Lib.hid (fun W a1 a2=>rhead_any b m r HFN.out _ t2 _ W a2 HG2.out HZ2.out a1)
  have a0:=(cellH HA.out 0).trans rfl
  have a1:=(cellH HA.out 1).trans rfl
  have a2:=(cellH HA.out 2).trans rfl
  have a3:=(cellH HA.out 3).trans rfl
  have b0:=(cellH HR.out 0).trans rfl
  have b1:=(cellH HR.out 1).trans rfl
  have b2:=(cellH HR.out 2).trans rfl
  have b3:=(cellH HR.out 3).trans rfl
  go_region_with (first
   | (go_at_call 61;have h1q:=H1.out;with_reducible refine h1q.mono ?_;rintro e wA ⟨x1,u1,rfl,gA,sA,fA,zA,hvA,hbA⟩;obtain ⟨P1,n1,m1,rfl⟩:=hvA.this;have HGA:=Lib.hid gA;have HSA:=Lib.hid sA;have HFA:=Lib.hid fA;have HZA:=Lib.hid zA;have HVA:=Lib.hid hvA;have HTA:=Lib.hid (HST.out.below hbA);have HKA:=Lib.hid (HB.out.trans (hbA.mono HB.out.size));have HV2A:=Lib.hid (TyE.step.below HV2.out hbA);have HRA:=Lib.hid ((hbA.block (w.heap.size+1) (Array.getElem?_eq_some_iff.1 HR.out).1).trans HR.out);have HAA:=Lib.hid ((hbA.block w.heap.size (Array.getElem?_eq_some_iff.1 HA.out).1).trans HA.out);have y0:=(cellH HRA.out 0).trans rfl;have y1:=(cellH HRA.out 1).trans rfl;have y2:=(cellH HRA.out 2).trans rfl;have y3:=(cellH HRA.out 3).trans rfl;clear gA sA fA zA hvA hbA)
   | (go_at_call 61;with_reducible refine (H2.out _ HTA.out HV2A.out).mono ?_;rintro e wB ⟨x2,u2,rfl,gB,sB,fB,zB,hvB,hbB⟩;obtain ⟨P2,n2,m2,rfl⟩:=hvB.this;have HGB:=Lib.hid gB;have HSB:=Lib.hid sB;have HFB:=Lib.hid fB;have HZB:=Lib.hid zB;have HVB2:=Lib.hid hvB;have HTB:=Lib.hid (HTA.out.below hbB);have HVAB:=Lib.hid (TyE.step.below HVA.out hbB);have HKB:=Lib.hid (HKA.out.trans (hbB.mono HKA.out.size));have HAB:=Lib.hid ((hbB.block w.heap.size (Array.getElem?_eq_some_iff.1 HAA.out).1).trans HAA.out);have HRB:=Lib.hid ((hbB.block (w.heap.size+1) (Array.getElem?_eq_some_iff.1 HRA.out).1).trans HRA.out);have x0:=(cellH HAB.out 0).trans rfl;have x1':=(cellH HAB.out 1).trans rfl;have x2':=(cellH HAB.out 2).trans rfl;have x3:=(cellH HAB.out 3).trans rfl;have y0:=(cellH HRB.out 0).trans rfl;have y1:=(cellH HRB.out 1).trans rfl;have y2:=(cellH HRB.out 2).trans rfl;have y3:=(cellH HRB.out 3).trans rfl;have f0:=frozenH HAB.out 0;have f1:=frozenH HAB.out 1;have f2:=frozenH HAB.out 2;have f3:=frozenH HAB.out 3;have g0:=frozenH HRB.out 0;have g1:=frozenH HRB.out 1;have g2:=frozenH HRB.out 2;have g3:=frozenH HRB.out 3;clear gB sB fB zB hvB hbB))
  all_goals
   have HUH:=Lib.hid (rh_of (A:=A) (B:=B) HGA.out HGB.out (HSA.out.trans HS1.out) (HSB.out.trans HS2.out) HFA.out HFB.out HZA.out HZB.out HBL.out HVAB.out HVB2.out HTB.out HKB.out HAB.out HRB.out)
   clear a0 a1 a2 a3 b0 b1 b2 b3 x0 x1' x2' x3 y0 y1 y2 y3 f0 f1 f2 f3 g0 g1 g2 g3
   go_wp2_with fail
   go_meet
   exact ⟨x1,x2,P1,P2,n1,n2,m1,m2,HUH⟩
 case rest =>
  obtain ⟨x1,x2,P1,P2,n1,n2,m1,m2,HH⟩:=hcut
  clear HA HR HV1 HV2 HST HB
  have b10:=(cellH HH.out.b1 0).trans rfl
  have b11:=(cellH HH.out.b1 1).trans rfl
  have b12:=(cellH HH.out.b1 2).trans rfl
  have b13:=(cellH HH.out.b1 3).trans rfl
  have b20:=(cellH HH.out.b2 0).trans rfl
  have b21:=(cellH HH.out.b2 1).trans rfl
  have b22:=(cellH HH.out.b2 2).trans rfl
  have b23:=(cellH HH.out.b2 3).trans rfl
  by_cases k1:x1.kind=4
  ·have e1:(x1.kind == 4)=true:=by simpa using k1
   have HK1:=Lib.hid k1
   by_cases kv:x2.kind=4∧x1.var=x2.var
   ·have e2:(x1.kind == x2.kind)=true:=by rw [k1,kv.1];rfl
    have e3:(x1.var == x2.var)=true:=by simpa using kv.2
    have HKV:=Lib.hid kv
    clear kv k1
    go_wp2_with fail
    go_ret
    obtain ⟨rfl,rfl⟩:=HH.out.same HU.out HK1.out HKV.out.1 HKV.out.2
    exact ⟨rfl,HH.out.done (Below.refl _ _)⟩
   ·have HL:=Lib.hid (HH.out.left HFN.out HVB.out HVL.out HU.out HK1.out kv)
    by_cases k2:x2.kind=4
    ·have e2:(x1.kind == x2.kind)=true:=by rw [k1,k2];rfl
     have e3:(x1.var == x2.var)=false:=by simpa using fun e=>kv ⟨k2,e⟩
     clear kv k1 k2
     go_wp2_with (go_at_call 62;refine HL.out.mono ?_;rintro e w3 ⟨rfl,p1⟩;have HP:=Lib.hid p1;clear p1)
     go_ret
     exact ⟨rfl,HP.out⟩
    ·have e2:(x1.kind == x2.kind)=false:=by simpa [k1] using fun e=>k2 e.symm
     clear kv k1 k2
     go_wp2_with (go_at_call 62;refine HL.out.mono ?_;rintro e w3 ⟨rfl,p1⟩;have HP:=Lib.hid p1;clear p1)
     go_ret
     exact ⟨rfl,HP.out⟩
  ·have e1:(x1.kind == 4)=false:=by simpa using k1
   have HK1:=Lib.hid k1
   by_cases k2:x2.kind=4
   ·have HL:=Lib.hid (HH.out.right HFN.out HVB.out HVL.out HU.out HK1.out k2)
    have e2:(x2.kind == 4)=true:=by simpa using k2
    have e3:(x1.kind == x2.kind)=false:=by simpa [k2] using k1
    clear k1 k2
    go_wp2_with (go_at_call 62;refine HL.out.mono ?_;rintro e w3 ⟨rfl,p1⟩;have HP:=Lib.hid p1;clear p1)
    go_ret
    exact ⟨rfl,HP.out⟩
   ·have e2:(x2.kind == 4)=false:=by simpa using k2
    have HK2:=Lib.hid k2
    clear k1 k2
    obtain ⟨q1,hr1⟩:=HH.out.h1.choose_spec.rowE
    obtain ⟨q2,hr2⟩:=HH.out.h2.choose_spec.rowE
    obtain rfl:=hr1.len
    obtain rfl:=hr2.len
    have HR1:=Lib.hid hr1
    have HR2:=Lib.hid hr2
    clear hr1 hr2
    by_cases hc:x1.kind ≠ x2.kind ∨ x1.name ≠ x2.name ∨ x1.args.length ≠ x2.args.length
    ·have HX:=Lib.hid hc
     by_cases c1:x1.kind=x2.kind
     ·have e5:(x1.kind != x2.kind)=false:=by simpa using c1
      by_cases c2:x1.name=x2.name
      ·have c3:x1.args.length ≠ x2.args.length:=by
        rcases hc with h | h | h
        ·exact absurd c1 h
        ·exact absurd c2 h
        ·exact h
       have e7:((x1.args.length:Int) != (x2.args.length:Int))=true:=by
        have:¬ (x1.args.length:Int)=(x2.args.length:Int):=by omega
        simpa using this
       rw [← c2] at b21
       clear hc c1 c2 c3
       go_wp2_with fail
       go_ret
       obtain ⟨rfl,rfl⟩:=HH.out.clash HU.out HK1.out HK2.out HX.out
       exact ⟨rfl,HH.out.done (Below.refl _ _)⟩
      ·have e6:¬ x1.name.toList=x2.name.toList:=fun e=>c2 (bytes_eq e)
       clear hc c1 c2
       go_wp2_with fail
       go_ret
       obtain ⟨rfl,rfl⟩:=HH.out.clash HU.out HK1.out HK2.out HX.out
       exact ⟨rfl,HH.out.done (Below.refl _ _)⟩
     ·have e5:(x1.kind != x2.kind)=true:=by simpa using c1
      clear hc c1
      go_wp2_with fail
      go_ret
      obtain ⟨rfl,rfl⟩:=HH.out.clash HU.out HK1.out HK2.out HX.out
      exact ⟨rfl,HH.out.done (Below.refl _ _)⟩
    ·have k1:x1.kind=x2.kind:=Classical.byContradiction fun e=>hc (.inl e)
     have k2:x1.name=x2.name:=Classical.byContradiction fun e=>hc (.inr (.inl e))
     have k3:x1.args.length=x2.args.length:=Classical.byContradiction fun e=>hc (.inr (.inr e))
     have HLL:=Lib.hid k3
     have e5:(x1.kind != x2.kind)=false:=by simpa using k1
     have e7:((x1.args.length:Int) != (x2.args.length:Int))=false:=by
      have:(x1.args.length:Int)=(x2.args.length:Int):=by omega
      simpa using this
     rw [← k2] at b21
     have hU:=HARG.out
     rw [← HH.out.s1,← HH.out.s2,sub_args HK1.out,sub_args HK2.out] at hU
     have HUN:Hid (UnisR b m r (subs r x1.args) (subs r x2.args) code r'):=Lib.hid (hU HK1.out k1 k2 (by show (subs r x1.args).length=(subs r x2.args).length;rw [subs_length,subs_length];exact k3))
     have hfew:=HR1.out.few
     unfold maxLen at hfew
     clear hc k1 k2 k3 hU
     go_wp2_with fail
     clear b10 b11 b12 b13 b20 b21 b22 b23 e1 e2 e5 e7
     go_loopw [72] (fun t wr=>∃ q:Nat,q≤x1.args.length∧t=.int .i64 q∧∃ rq,Hid (Kb (fun k=>k=b) wc wr)∧Hid (RTab Vol b m rq wr)∧Hid (Next m r rq)∧Hid (UnisR b m rq (subs r (x1.args.drop q)) (subs r (x2.args.drop q)) code r')) (fun t _=>x1.args.length - (intOf t).toNat)
     case atStart=>exact ⟨0,Nat.zero_le _,rfl,r,Lib.hid (Kb.refl _ _),Lib.hid HH.out.st,Lib.hid (Next.refl HFN.out.res),by simpa using HUN⟩
     case round =>
      obtain ⟨q,hq,rfl,rq,HKW,HTW,HNX,HUQ⟩:=hrel
      by_cases hlt:q < x1.args.length
      ·have hlt2:q < x2.args.length:=by have:=HLL.out;omega
       have hkv:Kb Vol wc wr:=HKW.out.wider (fun k _ (e:k=b)=>e ▸ HVB.out)
       obtain ⟨g1,o1,u1,rfl,hg1,_,hv1,cc1⟩:=RowW.at (RowW.step (TyW.step q1) _ Vol _ _ _ _ HR1.out hkv (fun _ _ e=>e)) q hlt
       obtain ⟨B1,l1,c1,rfl⟩:=hv1.this
       obtain ⟨g2,o2,u2,rfl,hg2,_,hv2,cc2⟩:=RowW.at (RowW.step (TyW.step q2) _ Vol _ _ _ _ HR2.out hkv (fun _ _ e=>e)) q hlt2
       obtain ⟨B2,l2,c2,rfl⟩:=hv2.this
       have a0:=(cc1 0 (by decide)).trans rfl
       have a1:=(cc1 1 (by decide)).trans rfl
       have a2:=(cc1 2 (by decide)).trans rfl
       have a3:=(cc1 3 (by decide)).trans rfl
       simp only [cellsL,Value.cells,List.getElem?_cons_zero,List.getElem?_cons_succ,Nat.add_zero] at a0 a1 a2 a3
       have d0:=(cc2 0 (by decide)).trans rfl
       have d1:=(cc2 1 (by decide)).trans rfl
       have d2:=(cc2 2 (by decide)).trans rfl
       have d3:=(cc2 3 (by decide)).trans rfl
       simp only [cellsL,Value.cells,List.getElem?_cons_zero,List.getElem?_cons_succ,Nat.add_zero] at d0 d1 d2 d3
       have hk0:(0:Int)≤(q:Int):=by omega
       have hk1:(q:Int) < (x1.args.length:Int):=by omega
       have hk2:(q:Int) < (x2.args.length:Int):=by omega
       have hdc:decide (q < x1.args.length)=true:=by simpa using hlt
       have hbox:∀ k,k=w.heap.size ∨ k=w.heap.size+1→wr.heap[k]?=wc.heap[k]?:=fun k e=>HKW.out.block k (by rcases e with rfl | rfl;exact (Array.getElem?_eq_some_iff.1 HH.out.b1).1;exact (Array.getElem?_eq_some_iff.1 HH.out.b2).1) (fun e2=>by have:=HBL.out;omega)
       have e3:=(cellH ((hbox _ (.inl rfl)).trans HH.out.b1) 3).trans rfl
       have b3:=(cellH ((hbox _ (.inr rfl)).trans HH.out.b2) 3).trans rfl
       have HV1:=Lib.hid hv1
       have HV2:=Lib.hid hv2
       have HLT1:=Lib.hid hlt
       have HLT2:=Lib.hid hlt2
       have HSZ:=Lib.hid (Nat.le_trans HH.out.kb.size HKW.out.size)
       generalize hy1:x1.args[q]=y1 at HV1 a0 a1 a2 ⊢
       generalize hy2:x2.args[q]=y2 at HV2 d0 d1 d2 ⊢
       have HX1:=Lib.hid hy1
       have HX2:=Lib.hid hy2
       clear cc1 cc2 hv1 hv2 hkv hg1 hg2 hlt hlt2 hy1 hy2 hbox
       go_upto_region 13 with fail
       go_still_tail 11,(by kernel_rfl)
       have hdr:=below_drw (Below.refl wr.heap.size wr)
       have HCALL:=Lib.hid (uq_call HFN.out HNX.out HUQ.out HLT1.out HLT2.out HX1.out HX2.out HH.out.g1 HH.out.g2 HH.out.z1 HH.out.z2 HK1.out HK2.out (HTW.out.below hdr) HVB.out (fun k e=>Nat.lt_of_lt_of_le (Nat.lt_of_lt_of_le (HVL.out k e) HSZ.out) hdr.size) (TyE.held ((TyW.step q1).below HV1.out hdr)) (TyE.held ((TyW.step q2).below HV2.out hdr)))
       have HKD:=Lib.hid (HKW.out.trans (Kb.of_below (S:=fun k=>k=b) hdr))
       have e3:wr.drew.cell? _=_:=e3
       have b3:wr.drew.cell? _=_:=b3
       have a0:wr.drew.cell? _=_:=a0
       have a1:wr.drew.cell? _=_:=a1
       have a2:wr.drew.cell? _=_:=a2
       have a3:wr.drew.cell? _=_:=a3
       have d0:wr.drew.cell? _=_:=d0
       have d1:wr.drew.cell? _=_:=d1
       have d2:wr.drew.cell? _=_:=d2
       have d3:wr.drew.cell? _=_:=d3
       clear hdr
       change wpList _ _ _ _ _ wr.drew
       generalize wr.drew=X at e3 b3 a0 a1 a2 a3 d0 d1 d2 d3 HCALL HKD ⊢
       go_wp2_with (go_at_call 37;refine HCALL.out.mono ?_;rintro e w3 ⟨z,rfl,hkz,hz⟩;have HKZ:=Lib.hid (HKD.out.trans hkz);clear hkz;rcases hz with ⟨rfl,r1,p1,p2,p3⟩ | ⟨hz0,rfl,p1⟩)
       ·have HP1:=Lib.hid p1
        have HP2:=Lib.hid p2
        have HP3:=Lib.hid p3
        clear p1 p2 p3
        go_wp2_with fail
        go_roundw
        case rel=>exact ⟨q+1,by omega,by go_num,r1,HKZ,HP1,HP2,HP3⟩
        case measure=>simp [intOf];omega
       ·have HP1:=Lib.hid p1
        clear p1
        go_wp2_with fail
        go_ret
        exact ⟨rfl,HP1.out,(Kb.of_below HH.out.kb).trans HKZ.out⟩
      ·obtain rfl:q=x1.args.length:=by omega
       have hdc:decide (x1.args.length < x1.args.length)=false:=by simp
       have hU:=HUQ.out
       rw [List.drop_length,show x2.args.drop x1.args.length=[] by rw [HLL.out,List.drop_length],subs] at hU
       have HUE:=Lib.hid (show code=0∧r'=rq from hU)
       clear hU
       go_wp2_with fail
       go_ret
       obtain ⟨rfl,rfl⟩:=HUE.out
       exact ⟨rfl,HTW.out,(Kb.of_below HH.out.kb).trans HKW.out⟩
mutual
theorem runi {b m:Nat}:∀ {r:Rho} {A B:TyT} {e:Nat} {r':Rho},Unif m r A B e r'→RUniC b m r A B e r'
 | _,_,_,_,_,.same r v=>runi_walk b m _ _ _ _ _ (.same r v) (fun h=>absurd rfl h)
 | _,_,_,_,_,.left r v B e r' hne hb=>runi_walk b m _ _ _ _ _ (.left r v B e r' hne hb) (fun h=>absurd rfl h)
 | _,_,_,_,_,.right r v A e r' hk hb=>runi_walk b m _ _ _ _ _ (.right r v A e r' hk hb) (fun h h2=>absurd h2 h)
 | _,_,_,_,_,.clash r A B h1 h2 hc=>runi_walk b m _ _ _ _ _ (.clash r A B h1 h2 hc) (fun _ q1 q2 q3=>by
  rcases hc with hc | hc | hc
  ·exact absurd q1 hc
  ·exact absurd q2 hc
  ·exact absurd q3 hc)
 | _,_,_,_,_,.args r A B e r' k4 hk hn hl hu=>runi_walk b m _ _ _ _ _ (.args r A B e r' k4 hk hn hl hu) (fun _ _ _ _=>runis hu)
theorem runis {b m:Nat}:∀ {r:Rho} {la lb:List TyT} {e:Nat} {r':Rho},Unifs m r la lb e r'→UnisR b m r la lb e r'
 | _,_,_,_,_,.nil r=>⟨rfl,rfl⟩
 | _,_,_,_,_,.stop r a c la lb e r' hu he=>⟨e,r',hu,runi hu,.inl ⟨he,rfl,rfl⟩⟩
 | _,_,_,_,_,.step r r1 a c la lb e r' hu hs=>⟨0,r1,hu,runi hu,.inr ⟨rfl,runis hs⟩⟩
end
end Lx
end Go.Proofs.YtdegmeoapgibiaaDoor
namespace Go.Proofs.YtdegmeoapgibiaaDoor
set_option linter.unusedSimpArgs false
set_option linter.unusedVariables false
namespace Lx
open Go Go.RowKit
/-- What Resolve answers, by the error's number. -/
def ResN (m:Nat) (r:Rho) (x:TyT) (n:Int) (z:TyT):Prop :=
 (n=0∧strange (m:Int) x=false∧sizeT (sub r (cleanT x))≤200∧z=sub r (cleanT x)) ∨
 (n=4∧strange (m:Int) x=false∧200 < sizeT (sub r (cleanT x))∧z=.mk 0 ⟨#[]⟩ 0 []) ∨
 (n=16∧strange (m:Int) x=true∧z=.mk 0 ⟨#[]⟩ 0 [])
/-- What Unify answers, by the error's number, and what all unknowns are then. -/
def UniN (m:Nat) (r:Rho) (x y:TyT) (n:Int) (r':Rho):Prop :=
 (n=16∧(strange (m:Int) x=true ∨ strange (m:Int) y=true)∧r'=r) ∨
 (n=4∧strange (m:Int) x=false∧strange (m:Int) y=false∧(200 < sizeT (cleanT x) ∨ 200 < sizeT (cleanT y))∧r'=r) ∨
 (strange (m:Int) x=false∧strange (m:Int) y=false∧sizeT (cleanT x)≤200∧sizeT (cleanT y)≤200∧∃ code,Unif m r (sub r (cleanT x)) (sub r (cleanT y)) code r'∧n=numC code)
theorem take_two {m:Int} {x y:TyT}:takeN m [x,y]=if strange m x=true ∨ strange m y=true then 16 else if largeT x=true ∨ largeT y=true then 4 else 0:=by
 simp [takeN]
theorem take_one {m:Int} {x:TyT}:takeN m [x]=if strange m x=true then 16 else if largeT x=true then 4 else 0:=by
 simp [takeN]
set_option maxRecDepth 100000 in
set_option maxHeartbeats 4000000 in
theorem rUnify_ref (b m d:Nat) (Vol:Nat→Prop) (x y:TyT) (v1 v2:Value) (nn:Int) (w:World) (hx:TyW d Vol x v1 w) (hy:TyW d Vol y v2 w) (hvl:∀ k,Vol k→k < w.heap.size) (ht:TabC b m w) (hnn:takeN (m:Int) [x,y]=nn) (h0:(nn != 0)=true) :
  Calls Tryd.prog 15 #[.pointer (some ⟨b,0,none⟩),v1,v2] w fun e w'=>e=.returned (.int .i64 nn)∧Below w.heap.size w w':=by
 obtain ⟨A1,n1,c1,rfl⟩:=hx.this
 obtain ⟨A2,n2,c2,rfl⟩:=hy.this
 have hb2:Below w.heap.size w ((w.alloc (.cells #[.int .i64 x.kind,.string x.name,.int .i64 x.var,.slice A1 n1 c1] 32)).alloc (.cells #[.int .i64 y.kind,.string y.name,.int .i64 y.var,.slice A2 n2 c2] 32)):=(below_alloc _ _).alloc (by simp) _
 have hvl2:∀ k,Vol k→k < ((w.alloc (.cells #[.int .i64 x.kind,.string x.name,.int .i64 x.var,.slice A1 n1 c1] 32)).alloc (.cells #[.int .i64 y.kind,.string y.name,.int .i64 y.var,.slice A2 n2 c2] 32)).heap.size:=fun k e=>Nat.lt_of_lt_of_le (hvl k e) hb2.size
 have hrow:=row2 ((TyW.step d).below hx hb2) ((TyW.step d).below hy hb2) hvl2
 have hsz:((w.alloc (.cells #[.int .i64 x.kind,.string x.name,.int .i64 x.var,.slice A1 n1 c1] 32)).alloc (.cells #[.int .i64 y.kind,.string y.name,.int .i64 y.var,.slice A2 n2 c2] 32)).heap.size=w.heap.size+2:=by simp
 rw [hsz] at hrow
 have hb3:=hb2.alloc (by rw [hsz];omega) (.cells #[.int .i64 x.kind,.string x.name,.int .i64 x.var,.slice A1 n1 c1,.int .i64 y.kind,.string y.name,.int .i64 y.var,.slice A2 n2 c2] 32)
 have HR:=Lib.hid (take_any b m d Vol [x,y] _ _ hrow (TabC.stay b m _ _ ht hb3))
 rw [hnn] at HR
 have HB3:=Lib.hid hb3
 clear hb2 hvl2 hrow hsz hb3 hx hy hvl ht hnn
 go_enter Tryd.func15,Tryd.ntmps15
 go_wp2_with fail
 refine HR.out.mono ?_
 rintro e w1 ⟨rfl,hb1⟩
 have HB1:=Lib.hid (HB3.out.trans (hb1.mono HB3.out.size))
 clear hb1 HR HB3
 go_wp2_with fail
 go_ret
 exact ⟨rfl,HB1.out⟩
set_option maxRecDepth 100000 in
set_option maxHeartbeats 4000000 in
theorem rUnify_go (b m d:Nat) (Vol:Nat→Prop) (x y:TyT) (v1 v2:Value) (Q:Value→World→Prop) (w:World) (hx:TyW d Vol x v1 w) (hy:TyW d Vol y v2 w) (hfx:fewT x) (hfy:fewT y) (s1:strange (m:Int) x=false) (s2:strange (m:Int) y=false) (hvl:∀ k,Vol k→k < w.heap.size) (ht:TabC b m w) (hnn:takeN (m:Int) [x,y]=0)
  (HU:Hid (∀ W vA vB,Below w.heap.size w W→TyE Vol (cleanT x) vA W→TyE Vol (cleanT y) vB W→Calls Tryd.prog 37 #[.pointer (some ⟨b,0,none⟩),vA,vB] W fun e w'=>∃ z,e=.returned z∧Q z w')) :
  Calls Tryd.prog 15 #[.pointer (some ⟨b,0,none⟩),v1,v2] w fun e w'=>∃ z,e=.returned z∧Q z w':=by
 obtain ⟨A1,n1,c1,rfl⟩:=hx.this
 obtain ⟨A2,n2,c2,rfl⟩:=hy.this
 have hb2:Below w.heap.size w ((w.alloc (.cells #[.int .i64 x.kind,.string x.name,.int .i64 x.var,.slice A1 n1 c1] 32)).alloc (.cells #[.int .i64 y.kind,.string y.name,.int .i64 y.var,.slice A2 n2 c2] 32)):=(below_alloc _ _).alloc (by simp) _
 have hvl2:∀ k,Vol k→k < ((w.alloc (.cells #[.int .i64 x.kind,.string x.name,.int .i64 x.var,.slice A1 n1 c1] 32)).alloc (.cells #[.int .i64 y.kind,.string y.name,.int .i64 y.var,.slice A2 n2 c2] 32)).heap.size:=fun k e=>Nat.lt_of_lt_of_le (hvl k e) hb2.size
 have hrow:=row2 ((TyW.step d).below hx hb2) ((TyW.step d).below hy hb2) hvl2
 have hsz:((w.alloc (.cells #[.int .i64 x.kind,.string x.name,.int .i64 x.var,.slice A1 n1 c1] 32)).alloc (.cells #[.int .i64 y.kind,.string y.name,.int .i64 y.var,.slice A2 n2 c2] 32)).heap.size=w.heap.size+2:=by simp
 rw [hsz] at hrow
 have hb3:=hb2.alloc (by rw [hsz];omega) (.cells #[.int .i64 x.kind,.string x.name,.int .i64 x.var,.slice A1 n1 c1,.int .i64 y.kind,.string y.name,.int .i64 y.var,.slice A2 n2 c2] 32)
 have HR:=Lib.hid (take_any b m d Vol [x,y] _ _ hrow (TabC.stay b m _ _ ht hb3))
 rw [hnn] at HR
 have HO1:Hid (∀ W,Below w.heap.size w W→Calls Tryd.prog 38 #[.agg #[.int .i64 x.kind,.string x.name,.int .i64 x.var,.slice A1 n1 c1]] W fun e w'=>∃ v',e=.returned v'∧TyE Vol (cleanT x) v' w'∧Below W.heap.size W w'):=Lib.hid (fun W hb=>clean_any m d Vol x _ W ((TyW.step d).below hx hb) s1 hfx (fun k e=>Nat.lt_of_lt_of_le (hvl k e) hb.size))
 have HO2:Hid (∀ W,Below w.heap.size w W→Calls Tryd.prog 38 #[.agg #[.int .i64 y.kind,.string y.name,.int .i64 y.var,.slice A2 n2 c2]] W fun e w'=>∃ v',e=.returned v'∧TyE Vol (cleanT y) v' w'∧Below W.heap.size W w'):=Lib.hid (fun W hb=>clean_any m d Vol y _ W ((TyW.step d).below hy hb) s2 hfy (fun k e=>Nat.lt_of_lt_of_le (hvl k e) hb.size))
 have HN0:=Lib.hid ((Below.heap_alloc _ (.cells #[.int .i64 x.kind,.string x.name,.int .i64 x.var,.slice A1 n1 c1,.int .i64 y.kind,.string y.name,.int .i64 y.var,.slice A2 n2 c2] 32) w.heap.size (by simp;omega)).trans ((Below.heap_alloc (w.alloc (.cells #[.int .i64 x.kind,.string x.name,.int .i64 x.var,.slice A1 n1 c1] 32)) (.cells #[.int .i64 y.kind,.string y.name,.int .i64 y.var,.slice A2 n2 c2] 32) w.heap.size (by simp)).trans (heap_alloc_new w (.cells #[.int .i64 x.kind,.string x.name,.int .i64 x.var,.slice A1 n1 c1] 32))))
 have hn2:=heap_alloc_new (w.alloc (.cells #[.int .i64 x.kind,.string x.name,.int .i64 x.var,.slice A1 n1 c1] 32)) (.cells #[.int .i64 y.kind,.string y.name,.int .i64 y.var,.slice A2 n2 c2] 32)
 rw [show (w.alloc (.cells #[.int .i64 x.kind,.string x.name,.int .i64 x.var,.slice A1 n1 c1] 32)).heap.size=w.heap.size+1 by simp] at hn2
 have HN1:=Lib.hid ((Below.heap_alloc _ (.cells #[.int .i64 x.kind,.string x.name,.int .i64 x.var,.slice A1 n1 c1,.int .i64 y.kind,.string y.name,.int .i64 y.var,.slice A2 n2 c2] 32) (w.heap.size+1) (by rw [hsz];omega)).trans hn2)
 have HB3:=Lib.hid hb3
 have HS3:=Lib.hid (show (((w.alloc (.cells #[.int .i64 x.kind,.string x.name,.int .i64 x.var,.slice A1 n1 c1] 32)).alloc (.cells #[.int .i64 y.kind,.string y.name,.int .i64 y.var,.slice A2 n2 c2] 32)).alloc (.cells #[.int .i64 x.kind,.string x.name,.int .i64 x.var,.slice A1 n1 c1,.int .i64 y.kind,.string y.name,.int .i64 y.var,.slice A2 n2 c2] 32)).heap.size=w.heap.size+3 by simp)
 clear hb2 hvl2 hrow hsz hb3 hn2 hx hy hfx hfy s1 s2 hvl ht hnn
 go_enter Tryd.func15,Tryd.ntmps15
 go_wp2_with fail
 refine HR.out.mono ?_
 rintro e w1 ⟨rfl,hb1⟩
 have HB1:=Lib.hid (HB3.out.trans (hb1.mono HB3.out.size))
 have HA:=Lib.hid ((hb1.block w.heap.size (by have:=HS3.out;omega)).trans HN0.out)
 have HC:=Lib.hid ((hb1.block (w.heap.size+1) (by have:=HS3.out;omega)).trans HN1.out)
 have HSA:=Lib.hid (show w.heap.size+3≤w1.heap.size by have:=HS3.out;have:=hb1.size;omega)
 clear hb1 HR HN0 HN1 HB3 HS3
 go_upto_region 4 with fail
 have HA:Hid (w1.drew.heap[w.heap.size]?=_):=HA
 have HC:Hid (w1.drew.heap[w.heap.size+1]?=_):=HC
 have HSA:Hid (w.heap.size+3≤w1.drew.heap.size):=HSA
 have HB1:=Lib.hid (below_drw HB1.out)
 have a0:=(cellH HA.out 0).trans rfl
 have a1:=(cellH HA.out 1).trans rfl
 have a2:=(cellH HA.out 2).trans rfl
 have a3:=(cellH HA.out 3).trans rfl
 have b0:=(cellH HC.out 0).trans rfl
 have b1:=(cellH HC.out 1).trans rfl
 have b2:=(cellH HC.out 2).trans rfl
 have b3:=(cellH HC.out 3).trans rfl
 go_region_with (first
  | (go_at_call 38;with_reducible refine (HO1.out _ HB1.out).mono ?_;rintro e wA ⟨vA,rfl,hvA,hbA⟩;have HVA:=Lib.hid hvA;have HBA:=Lib.hid (HB1.out.trans (hbA.mono HB1.out.size));have HCA:=Lib.hid ((hbA.block (w.heap.size+1) (by have:=HSA.out;omega)).trans HC.out);have d0:=(cellH HCA.out 0).trans rfl;have d1:=(cellH HCA.out 1).trans rfl;have d2:=(cellH HCA.out 2).trans rfl;have d3:=(cellH HCA.out 3).trans rfl;clear hvA hbA)
  | (go_at_call 38;with_reducible refine (HO2.out _ HBA.out).mono ?_;rintro e wB ⟨vB,rfl,hvB,hbB⟩;have HVB:=Lib.hid hvB;have HVA2:=Lib.hid (TyE.step.below HVA.out hbB);have HBB:=Lib.hid (HBA.out.trans (hbB.mono HBA.out.size));clear hvB hbB)
  | (go_at_call 37;refine (HU.out _ _ _ HBB.out HVA2.out HVB.out).mono ?_;rintro e wC ⟨z,rfl,hQC⟩;have HQC:=Lib.hid hQC;clear hQC))
 all_goals
  go_wp2_with fail
  go_ret
  exact ⟨_,rfl,HQC.out⟩
theorem rUnify_any (b m d:Nat) (r:Rho) (hr:RFine m r) (Vol:Nat→Prop) (x y:TyT) (v1 v2:Value) (w:World) (hx:TyW d Vol x v1 w) (hy:TyW d Vol y v2 w) (hfx:fewT x) (hfy:fewT y) (hsx:smallT x) (hsy:smallT y) (hT:RTab Vol b m r w) (hvb:Vol b) (hvl:∀ k,Vol k→k < w.heap.size) {n:Int} {r':Rho} (hN:UniN m r x y n r') :
  Calls Tryd.prog 15 #[.pointer (some ⟨b,0,none⟩),v1,v2] w fun e w'=>e=.returned (.int .i64 n)∧RTab Vol b m r' w'∧Kb (fun k=>k=b) w w':=by
 have lx:=large_small hsx
 have ly:=large_small hsy
 have htake:=take_two (m:=(m:Int)) (x:=x) (y:=y)
 rcases hN with ⟨rfl,hs,rfl⟩ | ⟨rfl,s1,s2,hz,rfl⟩ | ⟨s1,s2,z1,z2,code,hu,rfl⟩
 ·rw [if_pos hs] at htake
  refine (rUnify_ref b m d Vol x y v1 v2 16 w hx hy hvl hT.tabC htake rfl).mono ?_
  rintro e w' ⟨rfl,hb⟩
  exact ⟨rfl,hT.below hb,Kb.of_below hb⟩
 ·rw [if_neg (by simp [s1,s2]),lx,ly,if_pos (by simpa using hz)] at htake
  refine (rUnify_ref b m d Vol x y v1 v2 4 w hx hy hvl hT.tabC htake rfl).mono ?_
  rintro e w' ⟨rfl,hb⟩
  exact ⟨rfl,hT.below hb,Kb.of_below hb⟩
 ·rw [if_neg (by simp [s1,s2]),lx,ly,if_neg (by simp;omega)] at htake
  refine (rUnify_go b m d Vol x y v1 v2 (fun z w'=>z=.int .i64 (numC code)∧RTab Vol b m r' w'∧Kb (fun k=>k=b) w w') w hx hy hfx hfy s1 s2 hvl hT.tabC htake (Lib.hid (fun W vA vB hb hA hB=>?_))).mono ?_
  ·refine (runi hu Vol _ _ vA vB W hr hA hB (good_clean m x s1) (good_clean m y s2) rfl rfl z1 z2 (hT.below hb) hvb (fun k e=>Nat.lt_of_lt_of_le (hvl k e) hb.size)).mono ?_
   rintro e w' ⟨rfl,p1,p2⟩
   exact ⟨_,rfl,rfl,p1,(Kb.of_below hb).trans p2⟩
  ·rintro e w' ⟨z,rfl,rfl,p1,p2⟩
   exact ⟨rfl,p1,p2⟩
set_option maxRecDepth 100000 in
set_option maxHeartbeats 4000000 in
theorem rResolve_any (b m d:Nat) (r:Rho) (hr:RFine m r) (Vol:Nat→Prop) (x:TyT) (v:Value) (w:World) (hx:TyW d Vol x v w) (hfx:fewT x) (hsx:smallT x) (hT:RTab Vol b m r w) (hvl:∀ k,Vol k→k < w.heap.size) {n:Int} {z:TyT} (hN:ResN m r x n z) :
  Calls Tryd.prog 18 #[.pointer (some ⟨b,0,none⟩),v] w fun e w'=>∃ v',e=.returned (.tuple #[v',.int .i64 n])∧TyE Vol z v' w'∧Below w.heap.size w w':=by
 obtain ⟨A1,n1,c1,rfl⟩:=hx.this
 have hb2:Below w.heap.size w ((w.alloc (.cells #[.int .i64 x.kind,.string x.name,.int .i64 x.var,.slice A1 n1 c1] 32)).alloc (.cells #[.int .i64 0,.string ⟨#[]⟩,.int .i64 0,.slice none 0 0] 32)):=(below_alloc _ _).alloc (by simp) _
 have hback:∀ k,k < w.heap.size→(Vol k ∨ k=w.heap.size+1)→Vol k:=fun k hk e=>by
  rcases e with e | e
  ·exact e
  ·omega
 have hsz:((w.alloc (.cells #[.int .i64 x.kind,.string x.name,.int .i64 x.var,.slice A1 n1 c1] 32)).alloc (.cells #[.int .i64 0,.string ⟨#[]⟩,.int .i64 0,.slice none 0 0] 32)).heap.size=w.heap.size+2:=by simp
 have hvlB:∀ W:World,w.heap.size+2≤W.heap.size→∀ k,(Vol k ∨ k=w.heap.size+1)→k < W.heap.size:=fun W h k e=>by
  rcases e with e | e
  ·have:=hvl k e;omega
  ·omega
 have hrow:=row1 (TyW.step d _ (fun k=>Vol k ∨ k=w.heap.size+1) _ _ _ _ hx (Kb.of_below hb2) hback) (hvlB _ (by rw [hsz];omega))
 rw [hsz] at hrow
 have hb3:=hb2.alloc (by rw [hsz];omega) (.cells #[.int .i64 x.kind,.string x.name,.int .i64 x.var,.slice A1 n1 c1] 32)
 have HR:=Lib.hid (take_any b m d _ [x] _ _ hrow (TabC.stay b m _ _ hT.tabC hb3))
 have HST:Hid (RTab (fun k=>Vol k ∨ k=w.heap.size+1) b m r _):=Lib.hid ((hT.wider hback).below hb3)
 have HV:=Lib.hid (TyW.step d _ (fun k=>Vol k ∨ k=w.heap.size+1) _ _ _ _ hx (Kb.of_below hb3) hback)
 have HB3:=Lib.hid hb3
 have HN0:=Lib.hid ((Below.heap_alloc _ (.cells #[.int .i64 x.kind,.string x.name,.int .i64 x.var,.slice A1 n1 c1] 32) w.heap.size (by simp;omega)).trans ((Below.heap_alloc (w.alloc (.cells #[.int .i64 x.kind,.string x.name,.int .i64 x.var,.slice A1 n1 c1] 32)) (.cells #[.int .i64 0,.string ⟨#[]⟩,.int .i64 0,.slice none 0 0] 32) w.heap.size (by simp)).trans (heap_alloc_new w (.cells #[.int .i64 x.kind,.string x.name,.int .i64 x.var,.slice A1 n1 c1] 32))))
 have hnn:=heap_alloc_new (w.alloc (.cells #[.int .i64 x.kind,.string x.name,.int .i64 x.var,.slice A1 n1 c1] 32)) (.cells #[.int .i64 0,.string ⟨#[]⟩,.int .i64 0,.slice none 0 0] 32)
 rw [show (w.alloc (.cells #[.int .i64 x.kind,.string x.name,.int .i64 x.var,.slice A1 n1 c1] 32)).heap.size=w.heap.size+1 by simp] at hnn
 have HN1:=Lib.hid ((Below.heap_alloc _ (.cells #[.int .i64 x.kind,.string x.name,.int .i64 x.var,.slice A1 n1 c1] 32) (w.heap.size+1) (by rw [hsz];omega)).trans hnn)
 have HS3:=Lib.hid (show (((w.alloc (.cells #[.int .i64 x.kind,.string x.name,.int .i64 x.var,.slice A1 n1 c1] 32)).alloc (.cells #[.int .i64 0,.string ⟨#[]⟩,.int .i64 0,.slice none 0 0] 32)).alloc (.cells #[.int .i64 x.kind,.string x.name,.int .i64 x.var,.slice A1 n1 c1] 32)).heap.size=w.heap.size+3 by simp)
 have HVLB:=Lib.hid hvlB
 have HFN:=Lib.hid hr
 have HFX:=Lib.hid hfx
 have HSM:Hid (sizeT (cleanT x)≤1000000000):=Lib.hid hsx
 have hlx:=large_small hsx
 rw [take_one] at HR
 clear hb2 hrow hsz hb3 hnn hx hfx hT hr hvl hback hvlB hsx
 have hway:(∃ nn:Int,(nn != 0)=true∧n=nn∧z=.mk 0 ⟨#[]⟩ 0 []∧(if strange (m:Int) x=true then 16 else if largeT x=true then 4 else 0:Int)=nn) ∨ (strange (m:Int) x=false∧(if strange (m:Int) x=true then 16 else if largeT x=true then 4 else 0:Int)=0):=by
  rcases hN with ⟨rfl,s1,hz,rfl⟩ | ⟨rfl,s1,hz,rfl⟩ | ⟨rfl,s1,rfl⟩
  ·right
   have h1:=size_sub_le _ _ (Nat.le_refl _) (good_clean m x s1) r
   refine ⟨s1,?_⟩
   rw [if_neg (by simp [s1]),hlx,if_neg (by simp;omega)]
  ·by_cases hl:200 < sizeT (cleanT x)
   ·left
    refine ⟨4,rfl,rfl,rfl,?_⟩
    rw [if_neg (by simp [s1]),hlx,if_pos (by simpa using hl)]
   ·right
    refine ⟨s1,?_⟩
    rw [if_neg (by simp [s1]),hlx,if_neg (by simpa using hl)]
  ·left
   exact ⟨16,rfl,rfl,rfl,by rw [if_pos s1]⟩
 rcases hway with ⟨nn,h0,rfl,rfl,hq⟩ | ⟨s1,hq⟩
 ·rw [hq] at HR
  clear hN hlx hq
  go_enter Tryd.func18,Tryd.ntmps18
  go_wp2_with fail
  refine HR.out.mono ?_
  rintro e w1 ⟨rfl,hb1⟩
  have HC:=Lib.hid ((hb1.block (w.heap.size+1) (by have:=HS3.out;omega)).trans HN1.out)
  have HK1:=Lib.hid (HB3.out.trans (hb1.mono HB3.out.size))
  clear hb1 HR HN0 HN1 HB3 HS3 HST HV
  have r0:=(cellH HC.out 0).trans rfl
  have r1:=(cellH HC.out 1).trans rfl
  have r2:=(cellH HC.out 2).trans rfl
  have r3:=(cellH HC.out 3).trans rfl
  have fr0:=frozenH HC.out 0
  have fr1:=frozenH HC.out 1
  have fr2:=frozenH HC.out 2
  have fr3:=frozenH HC.out 3
  go_wp2_with fail
  clear r0 r1 r2 r3 fr0 fr1 fr2 fr3
  have hk:=kput4 w1 (w.heap.size+1) (.int .i64 0) (.string ⟨#[]⟩) (.int .i64 0) (.slice none 0 0)
  have q4:=put4 (.int .i64 0) (.string ⟨#[]⟩) (.int .i64 0) (.slice none 0 0) HC.out
  generalize ((((w1.setCell ⟨w.heap.size+1,0,none⟩ (.int .i64 0)).setCell ⟨w.heap.size+1,1,none⟩ (.string ⟨#[]⟩)).setCell ⟨w.heap.size+1,2,none⟩ (.int .i64 0)).setCell ⟨w.heap.size+1,3,none⟩ (.slice none 0 0))=W at hk q4 ⊢
  have c0:=(cellH q4 0).trans rfl
  have c1:=(cellH q4 1).trans rfl
  have c2:=(cellH q4 2).trans rfl
  have c3:=(cellH q4 3).trans rfl
  exact bodyPost_ret (v:=.tuple #[.agg #[.int .i64 0,.string ⟨#[]⟩,.int .i64 0,.slice none 0 0],.int .i64 n]) (by simp [results,Tryd.results18,go_sem,c0,c1,c2,c3]) rfl ⟨_,rfl,leafE,HK1.out.trans (hk.below HK1.out.size (fun k e=>by omega))⟩
 ·rw [hq] at HR
  have HSX:=Lib.hid s1
  have HNN:=Lib.hid hN
  have HLX:=Lib.hid hlx
  clear hN hlx hq s1
  go_enter Tryd.func18,Tryd.ntmps18
  go_wp2_with fail
  refine HR.out.mono ?_
  rintro e w1 ⟨rfl,hb1⟩
  have HA:=Lib.hid ((hb1.block w.heap.size (by have:=HS3.out;omega)).trans HN0.out)
  have HC:=Lib.hid ((hb1.block (w.heap.size+1) (by have:=HS3.out;omega)).trans HN1.out)
  have HK1:=Lib.hid (HB3.out.trans (hb1.mono HB3.out.size))
  have HSA:=Lib.hid (show w.heap.size+3≤w1.heap.size by have:=HS3.out;have:=hb1.size;omega)
  have HCL:=Lib.hid (clean_any m d _ x _ w1 ((TyW.step d).below HV.out hb1) HSX.out HFX.out (HVLB.out _ (by have:=HS3.out;have:=hb1.size;omega)))
  have HST1:=Lib.hid (HST.out.below hb1)
  clear hb1 HR HN0 HN1 HB3 HS3 HST HV
  have a0:=(cellH HA.out 0).trans rfl
  have a1:=(cellH HA.out 1).trans rfl
  have a2:=(cellH HA.out 2).trans rfl
  have a3:=(cellH HA.out 3).trans rfl
  go_upto_region 5 with (first
   | (go_at_call 38;refine HCL.out.mono ?_;rintro e w2 ⟨v2,rfl,hv2,hb2⟩;have hnw:=now_any b m r HFN.out.each hv2.choose _ (cleanT x) v2 200 w2 hv2.choose_spec (good_clean m x HSX.out) (few_small _ HSM.out) (HST1.out.below hb2) (HVLB.out _ (by have:=HSA.out;have:=hb2.size;omega)) (by decide) (by decide);unfold NowP at hnw;have HNW:=Lib.hid hnw;have HC2:=Lib.hid ((hb2.block (w.heap.size+1) (Array.getElem?_eq_some_iff.1 HC.out).1).trans HC.out);have HK2:=Lib.hid (HK1.out.trans (hb2.mono HK1.out.size));clear hv2 hb2 hnw)
   | (go_at_call 42;refine HNW.out.mono ?_;rintro e w3 ⟨z',v3,q3,rfl,hv3,hb3,hor⟩;obtain ⟨y5,y6,y7,rfl⟩:=hv3.this;have HV3:=Lib.hid hv3;have HC3:=Lib.hid ((hb3.block (w.heap.size+1) (Array.getElem?_eq_some_iff.1 HC2.out).1).trans HC2.out);have HK3:=Lib.hid (HK2.out.trans (hb3.mono HK2.out.size));have HOR:=Lib.hid hor;clear hv3 hb3 hor))
  clear a0 a1 a2 a3
  have hbx:=below_alloc w3 (.cells #[.int .i64 z'.kind,.string z'.name,.int .i64 z'.var,.slice y5 y6 y7] 32)
  have HX3:=Lib.hid (heap_alloc_new w3 (.cells #[.int .i64 z'.kind,.string z'.name,.int .i64 z'.var,.slice y5 y6 y7] 32))
  have HCX:=Lib.hid ((hbx.block (w.heap.size+1) (Array.getElem?_eq_some_iff.1 HC3.out).1).trans HC3.out)
  have HKX:=Lib.hid (HK3.out.trans (hbx.mono HK3.out.size))
  have HVX:=Lib.hid (TyE.step.below HV3.out hbx)
  clear hbx HC HC2 HC3 HK1 HK2 HK3 HV3 HA HCL HST1 HNW
  generalize (w3.alloc (.cells #[.int .i64 z'.kind,.string z'.name,.int .i64 z'.var,.slice y5 y6 y7] 32))=WX at HX3 HCX HKX HVX ⊢
  generalize w3.heap.size=N3 at HX3 ⊢
  have x0:=(cellH HX3.out 0).trans rfl
  have x1:=(cellH HX3.out 1).trans rfl
  have x2:=(cellH HX3.out 2).trans rfl
  have x3:=(cellH HX3.out 3).trans rfl
  have r0:=(cellH HCX.out 0).trans rfl
  have r1:=(cellH HCX.out 1).trans rfl
  have r2:=(cellH HCX.out 2).trans rfl
  have r3:=(cellH HCX.out 3).trans rfl
  have fr0:=frozenH HCX.out 0
  have fr1:=frozenH HCX.out 1
  have fr2:=frozenH HCX.out 2
  have fr3:=frozenH HCX.out 3
  by_cases hq:q3 < 0
  ·have hw:n=4∧z=.mk 0 ⟨#[]⟩ 0 []:=by
    rcases HNN.out with ⟨_,_,hz,_⟩ | ⟨e1,_,_,e2⟩ | ⟨_,e,_⟩
    ·rcases HOR.out with ⟨_,_,e⟩ | ⟨e,_⟩
     ·omega
     ·omega
    ·exact ⟨e1,e2⟩
    ·rw [HSX.out] at e;cases e
   obtain ⟨rfl,rfl⟩:=hw
   go_wp2_with fail
   clear x0 x1 x2 x3 r0 r1 r2 r3 fr0 fr1 fr2 fr3
   have hk:=kput4 WX (w.heap.size+1) (.int .i64 0) (.string ⟨#[]⟩) (.int .i64 0) (.slice none 0 0)
   have q4:=put4 (.int .i64 0) (.string ⟨#[]⟩) (.int .i64 0) (.slice none 0 0) HCX.out
   generalize ((((WX.setCell ⟨w.heap.size+1,0,none⟩ (.int .i64 0)).setCell ⟨w.heap.size+1,1,none⟩ (.string ⟨#[]⟩)).setCell ⟨w.heap.size+1,2,none⟩ (.int .i64 0)).setCell ⟨w.heap.size+1,3,none⟩ (.slice none 0 0))=W at hk q4 ⊢
   have c0:=(cellH q4 0).trans rfl
   have c1:=(cellH q4 1).trans rfl
   have c2:=(cellH q4 2).trans rfl
   have c3:=(cellH q4 3).trans rfl
   exact bodyPost_ret (v:=.tuple #[.agg #[.int .i64 0,.string ⟨#[]⟩,.int .i64 0,.slice none 0 0],.int .i64 4]) (by simp [results,Tryd.results18,go_sem,c0,c1,c2,c3]) rfl ⟨_,rfl,leafE,HKX.out.trans (hk.below HKX.out.size (fun k e=>by omega))⟩
  ·have hw:n=0∧z=z':=by
    rcases HOR.out with ⟨h1,e,_⟩ | ⟨_,e⟩
    ·rcases HNN.out with ⟨e1,_,_,e2⟩ | ⟨_,_,hz,_⟩ | ⟨_,e3,_⟩
     ·exact ⟨e1,e2.trans e.symm⟩
     ·omega
     ·rw [HSX.out] at e3;cases e3
    ·exact absurd e hq
   obtain ⟨rfl,rfl⟩:=hw
   go_wp2_with fail
   clear x0 x1 x2 x3 r0 r1 r2 r3 fr0 fr1 fr2 fr3
   have hk:=kput4 WX (w.heap.size+1) (.int .i64 z.kind) (.string z.name) (.int .i64 z.var) (.slice y5 y6 y7)
   have q4:=put4 (.int .i64 z.kind) (.string z.name) (.int .i64 z.var) (.slice y5 y6 y7) HCX.out
   generalize ((((WX.setCell ⟨w.heap.size+1,0,none⟩ (.int .i64 z.kind)).setCell ⟨w.heap.size+1,1,none⟩ (.string z.name)).setCell ⟨w.heap.size+1,2,none⟩ (.int .i64 z.var)).setCell ⟨w.heap.size+1,3,none⟩ (.slice y5 y6 y7))=W at hk q4 ⊢
   have c0:=(cellH q4 0).trans rfl
   have c1:=(cellH q4 1).trans rfl
   have c2:=(cellH q4 2).trans rfl
   have c3:=(cellH q4 3).trans rfl
   exact bodyPost_ret (v:=.tuple #[.agg #[.int .i64 z.kind,.string z.name,.int .i64 z.var,.slice y5 y6 y7],.int .i64 0]) (by simp [results,Tryd.results18,go_sem,c0,c1,c2,c3]) rfl ⟨_,rfl,TyE.step _ _ _ _ _ _ HVX.out (hk.wider (fun k _ e=>.inr e)) (fun k _ e=>.inl e),HKX.out.trans (hk.below HKX.out.size (fun k e=>by omega))⟩
end Lx
end Go.Proofs.YtdegmeoapgibiaaDoor
