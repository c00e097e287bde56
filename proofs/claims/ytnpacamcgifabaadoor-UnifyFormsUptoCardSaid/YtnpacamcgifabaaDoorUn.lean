/- Package unify: occurs, by what its calls give. Conditions: as each states. -/
import Derived.Test.YtnpacamcgifabaaDoorUm
namespace Go.Proofs.YtnpacamcgifabaaDoor
set_option linter.unusedSimpArgs false
set_option linter.unusedVariables false
namespace Lx
open Go Go.RowKit
/-- What the two boxed arguments of occurs are, in a later world. -/
def OccB (b:Nat) (v:Int) (w W:World):Prop:=Below w.heap.size w W∧W.heap[w.heap.size]?=some (.cells #[.pointer (some ⟨b,0,none⟩)] 24 (0,0))∧W.heap[w.heap.size+1]?=some (.cells #[.int .i64 v] 3 (0,0))
theorem OccB.later {b:Nat} {v:Int} {w W X:World} (h:OccB b v w W) (hb:Below W.heap.size W X):OccB b v w X:=by
 have h1:=(Array.getElem?_eq_some_iff.1 h.2.1).1
 have h2:=(Array.getElem?_eq_some_iff.1 h.2.2).1
 exact ⟨h.1.trans (hb.mono h.1.size),(hb.block _ h1).trans h.2.1,(hb.block _ h2).trans h.2.2⟩
set_option maxRecDepth 100000 in
set_option maxHeartbeats 2000000 in
theorem occurs_top (b:Nat) (v k n k' n':Int) (s s':ByteArray) (A A':Option Addr) (l c l' c':Nat) (r:Bool) (w:World)
  (HH:Hid (∀ W,Below w.heap.size w W→Calls Tryd.prog 85 #[.pointer (some ⟨b,0,none⟩),.agg #[.int .i64 k,.string s,.int .i64 n,.slice A l c]] W fun e w'=>e=.returned (.agg #[.int .i64 k',.string s',.int .i64 n',.slice A' l' c'])∧Below W.heap.size W w'))
  (h4:k'=4→r=(n' == v))
  (HC:Hid (k' ≠ 4→∀ W,OccB b v w W→Calls Tryd.prog 82 #[.slice A' l' c',.func (.func 116) #[] #[.pointer (some ⟨w.heap.size,0,none⟩),.pointer (some ⟨w.heap.size+1,0,none⟩)]] W fun e w'=>e=.returned (.bool r)∧Below W.heap.size W w')) :
  Calls Tryd.prog 106 #[.pointer (some ⟨b,0,none⟩),.int .i64 v,.agg #[.int .i64 k,.string s,.int .i64 n,.slice A l c]] w fun e w'=>e=.returned (.bool r)∧Below w.heap.size w w':=by
 have hB:Below w.heap.size w (((w.alloc (.cells #[.pointer (some ⟨b,0,none⟩)] 24)).alloc (.cells #[.int .i64 v] 3)).alloc (.cells #[.int .i64 k,.string s,.int .i64 n,.slice A l c] 32)):=((below_alloc _ _).alloc (by simp) _).alloc (by simp;omega) _
 have h0:(((w.alloc (.cells #[.pointer (some ⟨b,0,none⟩)] 24)).alloc (.cells #[.int .i64 v] 3)).alloc (.cells #[.int .i64 k,.string s,.int .i64 n,.slice A l c] 32)).heap[w.heap.size]?=some (.cells #[.pointer (some ⟨b,0,none⟩)] 24 (0,0)):=(Below.heap_alloc _ _ w.heap.size (by simp;omega)).trans ((Below.heap_alloc _ _ w.heap.size (by simp)).trans (heap_alloc_new _ _))
 have h1:(((w.alloc (.cells #[.pointer (some ⟨b,0,none⟩)] 24)).alloc (.cells #[.int .i64 v] 3)).alloc (.cells #[.int .i64 k,.string s,.int .i64 n,.slice A l c] 32)).heap[w.heap.size+1]?=some (.cells #[.int .i64 v] 3 (0,0)):=by
  refine (Below.heap_alloc _ _ (w.heap.size+1) (by simp)).trans ?_
  have:=heap_alloc_new (w.alloc (.cells #[.pointer (some ⟨b,0,none⟩)] 24)) (.cells #[.int .i64 v] 3)
  simpa using this
 have h2:(((w.alloc (.cells #[.pointer (some ⟨b,0,none⟩)] 24)).alloc (.cells #[.int .i64 v] 3)).alloc (.cells #[.int .i64 k,.string s,.int .i64 n,.slice A l c] 32)).heap[w.heap.size+1+1]?=some (.cells #[.int .i64 k,.string s,.int .i64 n,.slice A l c] 32 (0,0)):=by
  have:=heap_alloc_new ((w.alloc (.cells #[.pointer (some ⟨b,0,none⟩)] 24)).alloc (.cells #[.int .i64 v] 3)) (.cells #[.int .i64 k,.string s,.int .i64 n,.slice A l c] 32)
  simpa using this
 have HO:Hid (OccB b v w _):=Lib.hid ⟨hB,h0,h1⟩
 have H2:=Lib.hid h2
 clear hB h0 h1 h2
 go_enter Tryd.func106,Tryd.ntmps106
 go_wp2_with fail
 generalize (((w.alloc (.cells #[.pointer (some ⟨b,0,none⟩)] 24)).alloc (.cells #[.int .i64 v] 3)).alloc (.cells #[.int .i64 k,.string s,.int .i64 n,.slice A l c] 32))=Z at HO H2 ⊢
 refine (HH.out Z HO.out.1).mono ?_
 rintro e w1 ⟨rfl,hb1⟩
 have hz:=(Array.getElem?_eq_some_iff.1 H2.out).1
 have HO1:=Lib.hid (HO.out.later hb1)
 have H21:=Lib.hid ((hb1.block _ hz).trans H2.out)
 have x0:=(cellH H21.out 0).trans rfl
 have x1:=(cellH H21.out 1).trans rfl
 have x2:=(cellH H21.out 2).trans rfl
 have x3:=(cellH H21.out 3).trans rfl
 have f0:=frozenH H21.out 0
 have f1:=frozenH H21.out 1
 have f2:=frozenH H21.out 2
 have f3:=frozenH H21.out 3
 clear hb1 hz HO H2
 -- the store,by cases on what the head is
 have hk:=kput4 w1 (w.heap.size+1+1) (.int .i64 k') (.string s') (.int .i64 n') (.slice A' l' c')
 have hq:=put4 (.int .i64 k') (.string s') (.int .i64 n') (.slice A' l' c') H21.out
 have hz1:=(Array.getElem?_eq_some_iff.1 H21.out).1
 have ho:OccB b v w ((((w1.setCell ⟨w.heap.size+1+1,0,none⟩ (.int .i64 k')).setCell ⟨w.heap.size+1+1,1,none⟩ (.string s')).setCell ⟨w.heap.size+1+1,2,none⟩ (.int .i64 n')).setCell ⟨w.heap.size+1+1,3,none⟩ (.slice A' l' c')):=⟨HO1.out.1.trans (hk.below (by omega) (fun j e=>by omega)),(hk.block _ (by omega) (by omega)).trans HO1.out.2.1,(hk.block _ (by omega) (by omega)).trans HO1.out.2.2⟩
 have HK:=Lib.hid hk
 have HQ:=Lib.hid hq
 have HP:=Lib.hid ho
 clear hk hq ho hz1
 by_cases k4:k'=4
 ·have hr:=h4 k4
  subst k4
  subst hr
  clear h4
  have y0:=(cellH HQ.out 0).trans rfl
  have y2:=(cellH HQ.out 2).trans rfl
  have p0:=(cellH HP.out.2.2 0).trans rfl
  go_wp2_with fail
  go_ret
  exact ⟨rfl,HP.out.1⟩
 ·have e4:(k' == 4)=false:=by simpa using k4
  have y0:=(cellH HQ.out 0).trans rfl
  have y3:=(cellH HQ.out 3).trans rfl
  go_wp2_with fail
  refine (HC.out k4 _ HP.out).mono ?_
  rintro e w3 ⟨rfl,hb3⟩
  have HB3:=Lib.hid (HP.out.1.trans (hb3.mono HP.out.1.size))
  clear hb3
  go_wp2_with fail
  go_ret
  exact ⟨rfl,HB3.out⟩
theorem occurs_int (A:Option Addr) (c:Nat) (b:Nat) (v:Int) (w:World) :
  Calls Tryd.prog 106 #[.pointer (some ⟨b,0,none⟩),.int .i64 v,.agg #[.int .i64 1,.string ⟨#[]⟩,.int .i64 0,.slice A 0 c]] w fun e w'=>e=.returned (.bool false)∧Below w.heap.size w w' :=
 occurs_top b v 1 0 1 0 _ _ _ _ _ _ _ _ false w (Lib.hid (fun W _=>head_other b 1 0 ⟨#[]⟩ A 0 c W (by decide))) (fun e=>by cases e) (Lib.hid (fun _ W _=>(contains_nil _ _ _ W).mono (fun e w' ⟨h1,h2⟩=>⟨h1,h2 ▸ Below.refl _ _⟩)))
theorem occurs_free (b m i:Nat) (v:Int) (s:ByteArray) (A:Option Addr) (l c:Nat) (w:World) (h:CellT b m i 0 (.int .i64 0) w) (hi:i < m) :
  Calls Tryd.prog 106 #[.pointer (some ⟨b,0,none⟩),.int .i64 v,.agg #[.int .i64 4,.string s,.int .i64 i,.slice A l c]] w fun e w'=>e=.returned (.bool ((i:Int) == v))∧Below w.heap.size w w' :=
 occurs_top b v 4 i 4 i s s A A l c l c _ w (Lib.hid (fun W hb=>head_free b m i s A l c W (CellT.stay b m i 0 _ _ _ h hb) hi)) (fun _=>rfl) (Lib.hid (fun e=>absurd rfl e))
/-- The test that occurs makes of an argument: occurs itself. -/
theorem occursIn (b m i:Nat) (v:Int) (s:ByteArray) (A:Option Addr) (l c:Nat) (w W:World) (ho:OccB b v w W) (h:CellT b m i 0 (.int .i64 0) W) (hi:i < m) :
  Calls Tryd.prog 116 #[.agg #[.int .i64 4,.string s,.int .i64 i,.slice A l c],.pointer (some ⟨w.heap.size,0,none⟩),.pointer (some ⟨w.heap.size+1,0,none⟩)] W fun e w'=>e=.returned (.bool ((i:Int) == v))∧Below W.heap.size W w':=by
 have hb0:=below_alloc W (.cells #[.int .i64 4,.string s,.int .i64 i,.slice A l c] 32)
 have HO:=Lib.hid (ho.later hb0)
 have HX:=Lib.hid (occurs_free b m i v s A l c _ (CellT.stay b m i 0 _ _ _ h hb0) hi)
 have HB:=Lib.hid hb0
 have p0:=(cellH HO.out.2.1 0).trans rfl
 have p1:=(cellH HO.out.2.2 0).trans rfl
 clear hb0 ho h
 go_enter Tryd.func116,Tryd.ntmps116
 go_wp2_with fail
 refine HX.out.mono ?_
 rintro e w3 ⟨rfl,hb3⟩
 have HB3:=Lib.hid (HB.out.trans (hb3.mono HB.out.size))
 clear hb3 p0 p1
 go_wp2_with fail
 go_ret
 exact ⟨rfl,HB3.out⟩
set_option maxRecDepth 100000 in
theorem occursRow1 (b m i:Nat) (v:Int) (s:ByteArray) (A:Option Addr) (l c:Nat) (w W:World) (ho:OccB b v w W) (h:CellT b m i 0 (.int .i64 0) W) (hi:i < m) (hv:(i:Int)=v) (g o cap:Nat)
  (a0:W.cell? ⟨g,o,none⟩=some (.int .i64 4)) (a1:W.cell? ⟨g,o+1,none⟩=some (.string s)) (a2:W.cell? ⟨g,o+2,none⟩=some (.int .i64 i)) (a3:W.cell? ⟨g,o+3,none⟩=some (.slice A l c)) :
  Calls Tryd.prog 82 #[.slice (some ⟨g,o,none⟩) 1 cap,.func (.func 116) #[] #[.pointer (some ⟨w.heap.size,0,none⟩),.pointer (some ⟨w.heap.size+1,0,none⟩)]] W fun e w'=>e=.returned (.bool true)∧Below W.heap.size W w':=by
 subst hv
 have HX:=Lib.hid (occursIn b m i i s A l c w W ho h hi)
 rw [show ((i:Int) == (i:Int))=true by simp] at HX
 clear ho h
 have HI:Hid (Calls Tryd.prog 104 #[.slice (some ⟨g,o,none⟩) 1 cap,.func (.func 116) #[] #[.pointer (some ⟨w.heap.size,0,none⟩),.pointer (some ⟨w.heap.size+1,0,none⟩)]] W fun e w'=>e=.returned (.int .i64 0)∧Below W.heap.size W w'):=Lib.hid (by
  go_enter Tryd.func104,Tryd.ntmps104
  go_wp2_with fail
  go_loopw [8] (fun t wr=>t=.int .i64 0∧wr=W) (fun _ _=>0)
  case atStart=>exact ⟨rfl,rfl⟩
  case round =>
   obtain ⟨rfl,rfl⟩:=hrel
   go_wp2_with (go_at_call 116;refine HX.out.mono ?_;rintro e w3 ⟨rfl,hb3⟩;have HB3:=Lib.hid hb3;clear hb3)
   go_ret
   exact ⟨rfl,HB3.out⟩)
 clear HX a0 a1 a2 a3
 go_enter Tryd.func82,Tryd.ntmps82
 go_wp2_with fail
 refine HI.out.mono ?_
 rintro e w3 ⟨rfl,hb3⟩
 have HB3:=Lib.hid hb3
 clear hb3
 go_wp2_with fail
 go_ret
 exact ⟨rfl,HB3.out⟩
end Lx
end Go.Proofs.YtnpacamcgifabaaDoor
