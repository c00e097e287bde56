/- Package unify: small cases: rows without elements, leaves, unknowns that are not bound; grow by nothing. Conditions: as each states. -/
import Derived.Test.YtnpacamcgifabaaDoorUl
namespace Go.Proofs.YtnpacamcgifabaaDoor
set_option linter.unusedSimpArgs false
set_option linter.unusedVariables false
namespace Lx
open Go Go.RowKit
theorem each_nil (A:Option Addr) (c:Nat) (fv:Value) (w:World):Calls Tryd.prog 67 #[.slice A 0 c,fv] w fun e w'=>e=.returned (.slice none 0 0)∧w=w':=by
 go_enter Tryd.func67,Tryd.ntmps67
 go_wp2_with fail
 go_loopw [5,10] (fun u t wr=>u=.slice none 0 0∧t=.int .i64 0∧wr=w) (fun _ _ _=>0)
 case atStart=>exact ⟨rfl,rfl,rfl⟩
 case round =>
  obtain ⟨rfl,rfl,rfl⟩:=hrel
  go_wp2_with fail
  go_ret
  exact ⟨rfl,rfl⟩
theorem contains_nil (A:Option Addr) (c:Nat) (fv:Value) (w:World):Calls Tryd.prog 82 #[.slice A 0 c,fv] w fun e w'=>e=.returned (.bool false)∧w=w':=by
 have HX:Hid (Calls Tryd.prog 104 #[.slice A 0 c,fv] w fun e w'=>e=.returned (.int .i64 (-1))∧w=w'):=Lib.hid (by
  go_enter Tryd.func104,Tryd.ntmps104
  go_wp2_with fail
  go_loopw [8] (fun t wr=>t=.int .i64 0∧wr=w) (fun _ _=>0)
  case atStart=>exact ⟨rfl,rfl⟩
  case round =>
   obtain ⟨rfl,rfl⟩:=hrel
   go_wp2_with fail
   go_ret
   exact ⟨rfl,rfl⟩)
 go_enter Tryd.func82,Tryd.ntmps82
 go_wp2_with (go_at_call 104;refine HX.out.mono ?_;rintro e w3 ⟨rfl,rfl⟩)
 go_ret
 exact ⟨rfl,rfl⟩
theorem nodesOf_any (b m i:Nat) (z:Int) (w:World) (h:CellT b m i 4 (.int .i64 z) w) (hi:i < m):Calls Tryd.prog 56 #[.pointer (some ⟨b,0,none⟩),.int .i64 i] w fun e w'=>e=.returned (.int .i64 z)∧w=w':=by
 obtain ⟨h0,g,c,h1,h2,h3⟩:=h
 have hi0:(0:Int)≤(i:Int):=by omega
 have hi1:(i:Int) < (m:Int):=by omega
 go_enter Tryd.func56,Tryd.ntmps56
 go_wp2_with fail
 go_ret
 exact ⟨rfl,rfl⟩
theorem nodesT_free (b m i:Nat) (z:Int) (s:ByteArray) (A:Option Addr) (l c:Nat) (w:World) (h:CellT b m i 4 (.int .i64 z) w) (hi:i < m):Calls Tryd.prog 55 #[.agg #[.int .i64 4,.string s,.int .i64 i,.slice A l c],.func (.func 56) #[.pointer (some ⟨b,0,none⟩)] #[]] w fun e w'=>e=.returned (.int .i64 z)∧Below w.heap.size w w':=by
 have HB:=Lib.hid (below_alloc w (.cells #[.int .i64 4,.string s,.int .i64 i,.slice A l c] 32))
 have HX:=Lib.hid (nodesOf_any b m i z _ (CellT.stay b m i 4 _ _ _ h HB.out) hi)
 clear h
 go_enter Tryd.func55,Tryd.ntmps55
 go_wp2_with (go_at_call 56;refine HX.out.mono ?_;rintro e w3 ⟨rfl,rfl⟩)
 go_ret
 exact ⟨rfl,HB.out⟩
theorem nodesT_int (A:Option Addr) (c:Nat) (fv:Value) (w:World):Calls Tryd.prog 55 #[.agg #[.int .i64 1,.string ⟨#[]⟩,.int .i64 0,.slice A 0 c],fv] w fun e w'=>e=.returned (.int .i64 1)∧Below w.heap.size w w':=by
 have HB:=Lib.hid (below_alloc w (.cells #[.int .i64 1,.string ⟨#[]⟩,.int .i64 0,.slice A 0 c] 32))
 go_enter Tryd.func55,Tryd.ntmps55
 go_wp2_with fail
 go_ret
 exact ⟨rfl,HB.out⟩
theorem grow_zero (p v:Value) (w:World):Calls Tryd.prog 107 #[p,v,.int .i64 0] w fun e w'=>e=.returned (.bool true)∧w=w':=by
 go_enter Tryd.func107,Tryd.ntmps107
 go_wp2_with fail
 go_ret
 exact ⟨rfl,rfl⟩
theorem use_int (A:Option Addr) (c:Nat) (p v:Value) (w:World):Calls Tryd.prog 108 #[p,v,.agg #[.int .i64 1,.string ⟨#[]⟩,.int .i64 0,.slice A 0 c]] w fun e w'=>e=.returned (.tuple #[])∧Below w.heap.size w w':=by
 have HB:=Lib.hid (below_alloc w (.cells #[.int .i64 1,.string ⟨#[]⟩,.int .i64 0,.slice A 0 c] 32))
 go_enter Tryd.func108,Tryd.ntmps108
 go_wp2_with fail
 generalize (w.alloc (.cells #[.int .i64 1,.string ⟨#[]⟩,.int .i64 0,.slice A 0 c] 32))=W at HB ⊢
 go_loopw [34] (fun t wr=>t=.int .i64 0∧wr=W) (fun _ _=>0)
 case atStart=>exact ⟨rfl,rfl⟩
 case round =>
  obtain ⟨rfl,rfl⟩:=hrel
  go_wp2_with fail
  go_end0
  exact ⟨rfl,HB.out⟩
set_option maxRecDepth 100000 in
set_option maxHeartbeats 4000000 in
/-- An unknown that is bound to what is no unknown. -/
theorem head_bound (b m i:Nat) (s:ByteArray) (A:Option Addr) (l c:Nat) (k' n':Int) (s':ByteArray) (A':Option Addr) (l' c':Nat) (w:World) (hk0:k' ≠ 0) (hk4:k' ≠ 4) (hi:i < m)
  (h0:CellT b m i 0 (.int .i64 k') w) (h1:CellT b m i 1 (.string s') w) (h2:CellT b m i 2 (.int .i64 n') w) (h3:CellT b m i 3 (.slice A' l' c') w) :
  Calls Tryd.prog 85 #[.pointer (some ⟨b,0,none⟩),.agg #[.int .i64 4,.string s,.int .i64 i,.slice A l c]] w fun e w'=>e=.returned (.agg #[.int .i64 k',.string s',.int .i64 n',.slice A' l' c'])∧Below w.heap.size w w':=by
 have e0:(k' == 0)=false:=by simpa using hk0
 have e4:(k' == 4)=false:=by simpa using hk4
 have en0:(k' != 0)=true:=by simpa using hk0
 have H0:=Lib.hid h0
 have H1:=Lib.hid h1
 have H2:=Lib.hid h2
 have H3:=Lib.hid h3
 clear h0 h1 h2 h3
 go_enter Tryd.func85,Tryd.ntmps85
 go_wp2_with fail
 generalize hw:((w.alloc (.cells #[.int .i64 4,.string s,.int .i64 i,.slice A l c] 32)).alloc (.cells #[.int .i64 0,.string ⟨#[]⟩,.int .i64 0,.slice none 0 0] 32))=w0
 have HB:Hid (Below w.heap.size w w0):=Lib.hid (by rw [← hw];exact (below_alloc _ _).alloc (by simp) _)
 have hA:w0.heap[w.heap.size]?=some (.cells #[.int .i64 4,.string s,.int .i64 i,.slice A l c] 32 (0,0)):=by rw [← hw];exact (Below.heap_alloc _ _ w.heap.size (by simp)).trans (heap_alloc_new _ _)
 have hR:w0.heap[w.heap.size+1]?=some (.cells #[.int .i64 0,.string ⟨#[]⟩,.int .i64 0,.slice none 0 0] 32 (0,0)):=by
  rw [← hw]
  have:=heap_alloc_new (w.alloc (.cells #[.int .i64 4,.string s,.int .i64 i,.slice A l c] 32)) (.cells #[.int .i64 0,.string ⟨#[]⟩,.int .i64 0,.slice none 0 0] 32)
  simpa using this
 have hs:w.heap.size+2≤w0.heap.size:=by rw [← hw];simp
 have HA:=Lib.hid hA
 have HR:=Lib.hid hR
 have HS:=Lib.hid hs
 clear hw hA hR hs
 go_loopw [5] (fun t wr=>(wr=w0) ∨ (Hid (Below w.heap.size w wr)∧Hid (wr.heap[w.heap.size]?=some (.cells #[.int .i64 k',.string s',.int .i64 n',.slice A' l' c'] 32 (0,0)))∧Hid (wr.heap[w.heap.size+1]?=some (.cells #[.int .i64 0,.string ⟨#[]⟩,.int .i64 0,.slice none 0 0] 32 (0,0)))∧Hid (w.heap.size+2≤wr.heap.size))) (fun _ wr=>if intOf ((wr.cell? ⟨w.heap.size,0,none⟩).getD undef)=4 then 1 else 0)
 case atStart=>exact .inl rfl
 case round =>
  rcases hrel with rfl | ⟨HB',HA',HR',HS'⟩
  ·obtain ⟨_,g,c0,ht,hg,d0⟩:=CellT.stay b m i 0 _ _ _ H0.out HB.out
   obtain ⟨_,g1,c1,ht1,_,d1⟩:=CellT.stay b m i 1 _ _ _ H1.out HB.out
   obtain ⟨_,g2,c2,ht2,_,d2⟩:=CellT.stay b m i 2 _ _ _ H2.out HB.out
   obtain ⟨_,g3,c3,ht3,_,d3⟩:=CellT.stay b m i 3 _ _ _ H3.out HB.out
   rw [ht] at ht1 ht2 ht3
   injection ht1 with q;injection q with q _ _;injection q with q;injection q with q;subst q
   injection ht2 with q;injection q with q _ _;injection q with q;injection q with q;subst q
   injection ht3 with q;injection q with q _ _;injection q with q;injection q with q;subst q
   rw [Nat.add_zero] at d0
   have HG:=Lib.hid hg
   have hi0:(0:Int)≤(i:Int):=by omega
   have hi1:(i:Int) < (m:Int):=by omega
   have a0:=(cellH HA.out 0).trans rfl
   have a2:=(cellH HA.out 2).trans rfl
   clear hg
   go_wp2_with fail
   go_quiet (fail)
   have HBX:Hid (Below w.heap.size w (wr.drewN nq)):=Lib.hid (below_drewN HB.out nq)
   have HAX:Hid ((wr.drewN nq).heap[w.heap.size]?=some (.cells #[.int .i64 4,.string s,.int .i64 i,.slice A l c] 32 (0,0))):=Lib.hid (HA.out)
   have HRX:Hid ((wr.drewN nq).heap[w.heap.size+1]?=some (.cells #[.int .i64 0,.string ⟨#[]⟩,.int .i64 0,.slice none 0 0] 32 (0,0))):=Lib.hid (HR.out)
   have HSX:Hid (w.heap.size+2≤(wr.drewN nq).heap.size):=Lib.hid (HS.out)
   have ht':(wr.drewN nq).cell? ⟨b,0,none⟩=_:=ht
   have d0':(wr.drewN nq).cell? ⟨g,i * 6,none⟩=_:=d0
   have d1':(wr.drewN nq).cell? ⟨g,i * 6+1,none⟩=_:=d1
   have d2':(wr.drewN nq).cell? ⟨g,i * 6+2,none⟩=_:=d2
   have d3':(wr.drewN nq).cell? ⟨g,i * 6+3,none⟩=_:=d3
   generalize wr.drewN nq=X at HBX HAX HRX HSX ht' d0' d1' d2' d3' ⊢
   clear ht d0 d1 d2 d3 a0 a2
   have a0:=(cellH HAX.out 0).trans rfl
   have a1:=(cellH HAX.out 1).trans rfl
   have a2:=(cellH HAX.out 2).trans rfl
   have a3:=(cellH HAX.out 3).trans rfl
   go_wp2_with fail
   go_quiet (fail)
   have HBY:Hid (Below w.heap.size w (X.drewN nq)):=Lib.hid (below_drewN HBX.out nq)
   have HAY:Hid ((X.drewN nq).heap[w.heap.size]?=some (.cells #[.int .i64 4,.string s,.int .i64 i,.slice A l c] 32 (0,0))):=Lib.hid (HAX.out)
   have HRY:Hid ((X.drewN nq).heap[w.heap.size+1]?=some (.cells #[.int .i64 0,.string ⟨#[]⟩,.int .i64 0,.slice none 0 0] 32 (0,0))):=Lib.hid (HRX.out)
   have HSY:Hid (w.heap.size+2≤(X.drewN nq).heap.size):=Lib.hid (HSX.out)
   have d0:(X.drewN nq).cell? ⟨g,i * 6,none⟩=_:=d0'
   have d1:(X.drewN nq).cell? ⟨g,i * 6+1,none⟩=_:=d1'
   have d2:(X.drewN nq).cell? ⟨g,i * 6+2,none⟩=_:=d2'
   have d3:(X.drewN nq).cell? ⟨g,i * 6+3,none⟩=_:=d3'
   generalize X.drewN nq=Y at HBY HAY HRY HSY d0 d1 d2 d3 ⊢
   clear ht' d0' d1' d2' d3' a0 a1 a2 a3
   go_wp2_with fail
   go_quiet (fail)
   have HBX:Hid (Below w.heap.size w (Y.drewN nq)):=Lib.hid (below_drewN HBY.out nq)
   have HAX:Hid ((Y.drewN nq).heap[w.heap.size]?=some (.cells #[.int .i64 4,.string s,.int .i64 i,.slice A l c] 32 (0,0))):=Lib.hid (HAY.out)
   have HRX:Hid ((Y.drewN nq).heap[w.heap.size+1]?=some (.cells #[.int .i64 0,.string ⟨#[]⟩,.int .i64 0,.slice none 0 0] 32 (0,0))):=Lib.hid (HRY.out)
   have HSX:Hid (w.heap.size+2≤(Y.drewN nq).heap.size):=Lib.hid (HSY.out)
   have d0':(Y.drewN nq).cell? ⟨g,i * 6,none⟩=_:=d0
   have d1':(Y.drewN nq).cell? ⟨g,i * 6+1,none⟩=_:=d1
   have d2':(Y.drewN nq).cell? ⟨g,i * 6+2,none⟩=_:=d2
   have d3':(Y.drewN nq).cell? ⟨g,i * 6+3,none⟩=_:=d3
   generalize Y.drewN nq=X at HBX HAX HRX HSX d0' d1' d2' d3' ⊢
   clear d0 d1 d2 d3
   have a0:=(cellH HAX.out 0).trans rfl
   have a1:=(cellH HAX.out 1).trans rfl
   have a2:=(cellH HAX.out 2).trans rfl
   have a3:=(cellH HAX.out 3).trans rfl
   have f0:=frozenH HAX.out 0
   have f1:=frozenH HAX.out 1
   have f2:=frozenH HAX.out 2
   have f3:=frozenH HAX.out 3
   have hcd:X.cell? ⟨w.heap.size,0,none⟩=some (.int .i64 4):=a0
   go_wp2_with fail
   clear a0 a1 a2 a3 f0 f1 f2 f3
   have hk:=kput4 X w.heap.size (.int .i64 k') (.string s') (.int .i64 n') (.slice A' l' c')
   have hq:=put4 (.int .i64 k') (.string s') (.int .i64 n') (.slice A' l' c') HAX.out
   generalize ((((X.setCell ⟨w.heap.size,0,none⟩ (.int .i64 k')).setCell ⟨w.heap.size,1,none⟩ (.string s')).setCell ⟨w.heap.size,2,none⟩ (.int .i64 n')).setCell ⟨w.heap.size,3,none⟩ (.slice A' l' c'))=W at hk hq ⊢
   go_roundw
   case rel=>exact .inr ⟨Lib.hid (HBX.out.trans (hk.below (by have:=HSX.out;omega) (fun j e=>by omega))),Lib.hid hq,Lib.hid ((hk.block (w.heap.size+1) (by have:=HSX.out;omega) (by omega)).trans HRX.out),Lib.hid (Nat.le_trans HSX.out hk.size)⟩
   case measure =>
    have hw0:=(cellH HA.out 0).trans rfl
    have hw1:=(cellH hq 0).trans rfl
    rw [hw0,hw1]
    simp [intOf,hk4]
  ·have a0:=(cellH HA'.out 0).trans rfl
   have a1:=(cellH HA'.out 1).trans rfl
   have a2:=(cellH HA'.out 2).trans rfl
   have a3:=(cellH HA'.out 3).trans rfl
   go_wp2_with fail
   go_quiet (fail)
   clear a0 a1 a2 a3
   have HB:Hid (Below w.heap.size w (wr.drewN nq)):=Lib.hid (below_drewN HB'.out nq)
   have hA:(wr.drewN nq).heap[w.heap.size]?=_:=HA'.out
   have hR:(wr.drewN nq).heap[w.heap.size+1]?=_:=HR'.out
   have hs:w.heap.size+2≤(wr.drewN nq).heap.size:=HS'.out
   generalize wr.drewN nq=X at HB hA hR hs ⊢
   have a0:=(cellH hA 0).trans rfl
   have a1:=(cellH hA 1).trans rfl
   have a2:=(cellH hA 2).trans rfl
   have a3:=(cellH hA 3).trans rfl
   have r0:=(cellH hR 0).trans rfl
   have r1:=(cellH hR 1).trans rfl
   have r2:=(cellH hR 2).trans rfl
   have r3:=(cellH hR 3).trans rfl
   have f0:=frozenH hR 0
   have f1:=frozenH hR 1
   have f2:=frozenH hR 2
   have f3:=frozenH hR 3
   go_wp2_with fail
   clear r0 r1 r2 r3 f0 f1 f2 f3
   have hk:=kput4 X (w.heap.size+1) (.int .i64 k') (.string s') (.int .i64 n') (.slice A' l' c')
   have hq:=put4 (.int .i64 k') (.string s') (.int .i64 n') (.slice A' l' c') hR
   generalize ((((X.setCell ⟨w.heap.size+1,0,none⟩ (.int .i64 k')).setCell ⟨w.heap.size+1,1,none⟩ (.string s')).setCell ⟨w.heap.size+1,2,none⟩ (.int .i64 n')).setCell ⟨w.heap.size+1,3,none⟩ (.slice A' l' c'))=W at hk hq ⊢
   have c0:=(cellH hq 0).trans rfl
   have c1:=(cellH hq 1).trans rfl
   have c2:=(cellH hq 2).trans rfl
   have c3:=(cellH hq 3).trans rfl
   exact bodyPost_ret (v:=.agg #[.int .i64 k',.string s',.int .i64 n',.slice A' l' c']) (by simp [results,Tryd.results85,go_sem,c0,c1,c2,c3]) rfl ⟨rfl,HB.out.trans (hk.below (by omega) (fun j e=>by omega))⟩
end Lx
end Go.Proofs.YtnpacamcgifabaaDoor
