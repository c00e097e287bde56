/- Package unify: a table whose unknowns are not bound: head, Len, nodesOf; refuse. Conditions: as each states. -/
import Derived.Test.YtnpacamcgifabaaDoorUh
import Derived.StillTailTactics
namespace Go.Proofs.YtnpacamcgifabaaDoor
set_option linter.unusedSimpArgs false
set_option linter.unusedVariables false
namespace Lx
open Go Go.RowKit
def bind0:List Value:=[.int .i64 0,.string ⟨#[]⟩,.int .i64 0,.slice none 0 0,.int .i64 1,.slice none 0 0]
theorem freeCells_len:∀ n,(freeCells n).length=n * 6
 | 0=>rfl
 | n+1=>by rw [freeCells,List.length_append,freeCells_len n];simp;omega
theorem freeCells_at:∀ (n i j:Nat),i < n→j < 6→(freeCells n)[i * 6+j]?=bind0[j]?
 | 0,_,_,h,_=>by omega
 | n+1,i,j,h,hj=>by
  rw [freeCells]
  by_cases e:i=n
  ·subst e
   rw [List.getElem?_append_right (by rw [freeCells_len];omega),freeCells_len,show i * 6+j - i * 6=j by omega]
   rfl
  ·rw [List.getElem?_append_left (by rw [freeCells_len];omega)]
   exact freeCells_at n i j (by omega) hj
/-- A table none of whose unknowns is bound. -/
def TabR (b n:Nat) (w:World):Prop:=b < w.heap.size∧n≤1000000∧∃ A c,w.cell? ⟨b,0,none⟩=some (.slice A n c)∧∀ i,i < n→∃ g,A=some ⟨g,0,none⟩∧g < w.heap.size∧∀ j,j < 6→w.cell? ⟨g,i * 6+j,none⟩=bind0[j]?
theorem TabR.stay (b n:Nat):StayI (TabR b n):=by
 rintro w w' ⟨h0,h1,A,c,h2,h3⟩ hb
 refine ⟨Nat.lt_of_lt_of_le h0 hb.size,h1,A,c,by rw [World.cell?_of_block (hb.block b h0)];exact h2,fun i hi=>?_⟩
 obtain ⟨g,e,hg,hc⟩:=h3 i hi
 exact ⟨g,e,Nat.lt_of_lt_of_le hg hb.size,fun j hj=>by rw [World.cell?_of_block (hb.block g hg)];exact hc j hj⟩
theorem TabR.tab {b n:Nat} {w:World} (h:TabR b n w):TabC b n w:=by
 obtain ⟨h0,_,A,c,h2,_⟩:=h
 exact ⟨h0,A,c,h2⟩
theorem TabF.free {B b n:Nat} {A:Option Addr} {c:Nat} {w:World} (h:TabF B b n A c w) (hn:n≤1000000):TabR b n w:=by
 refine ⟨(Array.getElem?_eq_some_iff.1 h.blk).1,hn,A,c,(cellH h.blk 0).trans rfl,fun i hi=>?_⟩
 have ho:=h.own
 rcases ho.2 with ⟨_,e⟩ | ⟨g,cap',cur,e,_,hb,_⟩
 ·omega
 ·injection e with e1 _ _
  subst e1
  exact ⟨g,rfl,(Array.getElem?_eq_some_iff.1 hb).1,fun j hj=>by
   rw [ho.cellAt _ (by omega)]
   exact freeCells_at n i j hi hj⟩
/-- A table's cell at an unknown. -/
def CellT (b m i j:Nat) (v:Value) (w:World):Prop:=b < w.heap.size∧∃ g c,w.cell? ⟨b,0,none⟩=some (.slice (some ⟨g,0,none⟩) m c)∧g < w.heap.size∧w.cell? ⟨g,i * 6+j,none⟩=some v
theorem CellT.stay (b m i j:Nat) (v:Value):StayI (CellT b m i j v):=by
 rintro w w' ⟨h0,g,c,h1,h2,h3⟩ hb
 exact ⟨Nat.lt_of_lt_of_le h0 hb.size,g,c,by rw [World.cell?_of_block (hb.block b h0)];exact h1,Nat.lt_of_lt_of_le h2 hb.size,by rw [World.cell?_of_block (hb.block g h2)];exact h3⟩
theorem TabR.cell {b m:Nat} {w:World} (h:TabR b m w) {i:Nat} (hi:i < m) (j:Nat) (hj:j < 6):CellT b m i j (bind0[j]'hj) w:=by
 obtain ⟨h0,_,A,c,h2,h3⟩:=h
 obtain ⟨g,rfl,hg,hc⟩:=h3 i hi
 exact ⟨h0,g,c,h2,hg,by rw [hc j hj];exact List.getElem?_eq_getElem (by show j < 6;exact hj)⟩
theorem len_any (b n:Nat) (w:World) (h:TabC b n w):Calls Tryd.prog 23 #[.pointer (some ⟨b,0,none⟩)] w fun e w'=>e=.returned (.int .i64 n)∧w=w':=by
 obtain ⟨_,A,c,h1⟩:=h
 go_enter Tryd.func23,Tryd.ntmps23
 go_wp2_with fail
 go_ret
 exact ⟨rfl,rfl⟩
set_option maxRecDepth 100000 in
set_option maxHeartbeats 4000000 in
theorem head_other (b:Nat) (k n:Int) (s:ByteArray) (A:Option Addr) (l c:Nat) (w:World) (hk:k ≠ 4) :
  Calls Tryd.prog 85 #[.pointer (some ⟨b,0,none⟩),.agg #[.int .i64 k,.string s,.int .i64 n,.slice A l c]] w fun e w'=>e=.returned (.agg #[.int .i64 k,.string s,.int .i64 n,.slice A l c])∧Below w.heap.size w w':=by
 have e4:(k == 4)=false:=by simpa using hk
 go_enter Tryd.func85,Tryd.ntmps85
 go_wp2_with fail
 generalize hw:((w.alloc (.cells #[.int .i64 k,.string s,.int .i64 n,.slice A l c] 32)).alloc (.cells #[.int .i64 0,.string ⟨#[]⟩,.int .i64 0,.slice none 0 0] 32))=w0
 go_loopw [5] (fun t wr=>wr=w0) (fun _ _=>0)
 case atStart=>rfl
 case round =>
  obtain rfl:=hrel
  have HB:Hid (Below w.heap.size w wr):=Lib.hid (by rw [← hw];exact (below_alloc _ _).alloc (by simp) _)
  have hA:wr.heap[w.heap.size]?=some (.cells #[.int .i64 k,.string s,.int .i64 n,.slice A l c] 32 (0,0)):=by rw [← hw];exact (Below.heap_alloc _ _ w.heap.size (by simp)).trans (heap_alloc_new _ _)
  have hR:wr.heap[w.heap.size+1]?=some (.cells #[.int .i64 0,.string ⟨#[]⟩,.int .i64 0,.slice none 0 0] 32 (0,0)):=by
   rw [← hw]
   have:=heap_alloc_new (w.alloc (.cells #[.int .i64 k,.string s,.int .i64 n,.slice A l c] 32)) (.cells #[.int .i64 0,.string ⟨#[]⟩,.int .i64 0,.slice none 0 0] 32)
   simpa using this
  have hs:w.heap.size+2≤wr.heap.size:=by rw [← hw];simp
  clear hw
  have a0:=(cellH hA 0).trans rfl
  have a1:=(cellH hA 1).trans rfl
  have a2:=(cellH hA 2).trans rfl
  have a3:=(cellH hA 3).trans rfl
  go_wp2_with fail
  go_quiet (fail)
  clear a0 a1 a2 a3 
  have HB:Hid (Below w.heap.size w (wr.drewN nq)):=Lib.hid (below_drewN HB.out nq)
  have hA:(wr.drewN nq).heap[w.heap.size]?=_:=hA
  have hR:(wr.drewN nq).heap[w.heap.size+1]?=_:=hR
  have hs:w.heap.size+2≤(wr.drewN nq).heap.size:=hs
  generalize wr.drewN nq=X at *
  have a0:=(cellH hA 0).trans rfl
  have a1:=(cellH hA 1).trans rfl
  have a2:=(cellH hA 2).trans rfl
  have a3:=(cellH hA 3).trans rfl
  have r0:=(cellH hR 0).trans rfl
  have r1:=(cellH hR 1).trans rfl
  have r2:=(cellH hR 2).trans rfl
  have r3:=(cellH hR 3).trans rfl
  have f0:=frozenH hR 0
  have f1:=frozenH hR 1
  have f2:=frozenH hR 2
  have f3:=frozenH hR 3
  go_wp2_with fail
  clear r0 r1 r2 r3 f0 f1 f2 f3
  have hk:=kput4 X (w.heap.size+1) (.int .i64 k) (.string s) (.int .i64 n) (.slice A l c)
  have hq:=put4 (.int .i64 k) (.string s) (.int .i64 n) (.slice A l c) hR
  generalize ((((X.setCell ⟨w.heap.size+1,0,none⟩ (.int .i64 k)).setCell ⟨w.heap.size+1,1,none⟩ (.string s)).setCell ⟨w.heap.size+1,2,none⟩ (.int .i64 n)).setCell ⟨w.heap.size+1,3,none⟩ (.slice A l c))=W at hk hq ⊢
  have c0:=(cellH hq 0).trans rfl
  have c1:=(cellH hq 1).trans rfl
  have c2:=(cellH hq 2).trans rfl
  have c3:=(cellH hq 3).trans rfl
  exact bodyPost_ret (v:=.agg #[.int .i64 k,.string s,.int .i64 n,.slice A l c]) (by simp [results,Tryd.results85,go_sem,c0,c1,c2,c3]) rfl ⟨rfl,HB.out.trans (hk.below (by omega) (fun j e=>by omega))⟩
set_option maxRecDepth 100000 in
set_option maxHeartbeats 4000000 in
theorem head_free (b m i:Nat) (s:ByteArray) (A:Option Addr) (l c:Nat) (w:World) (h:CellT b m i 0 (.int .i64 0) w) (hi:i < m) :
  Calls Tryd.prog 85 #[.pointer (some ⟨b,0,none⟩),.agg #[.int .i64 4,.string s,.int .i64 i,.slice A l c]] w fun e w'=>e=.returned (.agg #[.int .i64 4,.string s,.int .i64 i,.slice A l c])∧Below w.heap.size w w':=by
 have HT:=Lib.hid h
 clear h
 go_enter Tryd.func85,Tryd.ntmps85
 go_wp2_with fail
 generalize hw:((w.alloc (.cells #[.int .i64 4,.string s,.int .i64 i,.slice A l c] 32)).alloc (.cells #[.int .i64 0,.string ⟨#[]⟩,.int .i64 0,.slice none 0 0] 32))=w0
 go_loopw [5] (fun t wr=>wr=w0) (fun _ _=>0)
 case atStart=>rfl
 case round =>
  obtain rfl:=hrel
  have HB:Hid (Below w.heap.size w wr):=Lib.hid (by rw [← hw];exact (below_alloc _ _).alloc (by simp) _)
  have hA:wr.heap[w.heap.size]?=some (.cells #[.int .i64 4,.string s,.int .i64 i,.slice A l c] 32 (0,0)):=by rw [← hw];exact (Below.heap_alloc _ _ w.heap.size (by simp)).trans (heap_alloc_new _ _)
  have hR:wr.heap[w.heap.size+1]?=some (.cells #[.int .i64 0,.string ⟨#[]⟩,.int .i64 0,.slice none 0 0] 32 (0,0)):=by
   rw [← hw]
   have:=heap_alloc_new (w.alloc (.cells #[.int .i64 4,.string s,.int .i64 i,.slice A l c] 32)) (.cells #[.int .i64 0,.string ⟨#[]⟩,.int .i64 0,.slice none 0 0] 32)
   simpa using this
  have hs:w.heap.size+2≤wr.heap.size:=by rw [← hw];simp
  clear hw
  obtain ⟨_,g,c0,ht,_,d0⟩:=CellT.stay b m i 0 _ _ _ HT.out HB.out
  rw [Nat.add_zero] at d0
  have hi0:(0:Int)≤(i:Int):=by omega
  have hi1:(i:Int) < (m:Int):=by omega
  have a0:=(cellH hA 0).trans rfl
  have a1:=(cellH hA 1).trans rfl
  have a2:=(cellH hA 2).trans rfl
  have a3:=(cellH hA 3).trans rfl
  go_wp2_with fail
  go_quiet (fail)
  clear a0 a1 a2 a3 ht d0
  have HB:Hid (Below w.heap.size w (wr.drewN nq)):=Lib.hid (below_drewN HB.out nq)
  have hA:(wr.drewN nq).heap[w.heap.size]?=_:=hA
  have hR:(wr.drewN nq).heap[w.heap.size+1]?=_:=hR
  have hs:w.heap.size+2≤(wr.drewN nq).heap.size:=hs
  generalize wr.drewN nq=X at *
  have a0:=(cellH hA 0).trans rfl
  have a1:=(cellH hA 1).trans rfl
  have a2:=(cellH hA 2).trans rfl
  have a3:=(cellH hA 3).trans rfl
  have r0:=(cellH hR 0).trans rfl
  have r1:=(cellH hR 1).trans rfl
  have r2:=(cellH hR 2).trans rfl
  have r3:=(cellH hR 3).trans rfl
  have f0:=frozenH hR 0
  have f1:=frozenH hR 1
  have f2:=frozenH hR 2
  have f3:=frozenH hR 3
  go_wp2_with fail
  clear r0 r1 r2 r3 f0 f1 f2 f3
  have hk:=kput4 X (w.heap.size+1) (.int .i64 4) (.string s) (.int .i64 i) (.slice A l c)
  have hq:=put4 (.int .i64 4) (.string s) (.int .i64 i) (.slice A l c) hR
  generalize ((((X.setCell ⟨w.heap.size+1,0,none⟩ (.int .i64 4)).setCell ⟨w.heap.size+1,1,none⟩ (.string s)).setCell ⟨w.heap.size+1,2,none⟩ (.int .i64 i)).setCell ⟨w.heap.size+1,3,none⟩ (.slice A l c))=W at hk hq ⊢
  have c0:=(cellH hq 0).trans rfl
  have c1:=(cellH hq 1).trans rfl
  have c2:=(cellH hq 2).trans rfl
  have c3:=(cellH hq 3).trans rfl
  exact bodyPost_ret (v:=.agg #[.int .i64 4,.string s,.int .i64 i,.slice A l c]) (by simp [results,Tryd.results85,go_sem,c0,c1,c2,c3]) rfl ⟨rfl,HB.out.trans (hk.below (by omega) (fun j e=>by omega))⟩
end Lx
end Go.Proofs.YtnpacamcgifabaaDoor
