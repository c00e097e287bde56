/- The cells of goals that are set into goals, a level at a time. Conditions: where the blocks stand. -/
import Derived.Test.YtajomoclbpobhaaGreatDoorPNs
import Derived.Test.YtajomoclbpobhaaGreatDoorSameA
import Derived.Test.YtajomoclbpobhaaGreatDoorPrN
namespace Go.Proofs.YtajomoclbpobhaaGreatDoor
set_option linter.unusedSimpArgs false
set_option linter.unusedVariables false
namespace Lx
open Go Go.RowKit
theorem GoalV.wide' {d:Nat} {x:GoalT} {v:Value} {lo hi hi':Nat} {w:World} (h:GoalV d x v lo hi w) (hh:hi≤hi'):GoalV d x v lo hi' w:=GoalV.wide _ _ _ _ _ _ _ _ h (Nat.le_refl _) hh
theorem below_sets {w0 x:World} {nb:Nat} (h:w0.heap.size≤nb) (hb:Below w0.heap.size w0 x) (l:List Value):Below w0.heap.size w0 (x.setCells nb 0 l) :=
 ⟨(sets_os _ _ _ _).1.trans hb.os,(sets_os _ _ _ _).2.1.trans hb.tape,(sets_os _ _ _ _).2.2.trans hb.output,by rw [sets_size];exact hb.size,fun k hk=>(sets_else _ _ _ _ k (by omega)).trans (hb.block k hk)⟩
theorem infoGoal12:(Tryz.prog.info? 31).map (·.size)=some 12:=by kernel_rfl
abbrev failC:Array Value:=#[.int .i64 2,.int .i64 0,.string ⟨#[]⟩,.int .i64 0,.slice none 0 0,.int .i64 0,.string ⟨#[]⟩,.int .i64 0,.slice none 0 0,.string ⟨#[]⟩,.slice none 0 0,.slice none 0 0]
abbrev callC:Array Value:=#[.int .i64 4,.int .i64 0,.string ⟨#[]⟩,.int .i64 0,.slice none 0 0,.int .i64 0,.string ⟨#[]⟩,.int .i64 0,.slice none 0 0,.string ⟨#[113]⟩,.slice none 0 0,.slice none 0 0]
def nestVs (m:Int) (v f:Value):List Value:=if m=1 ∨ m=6 then [f,v] else if m=3 then [f,v,f] else if m=4 then [v] else [v,f]
theorem fail_holds (d lo hi:Nat) (w:World):GoalV (d+1) failG (.agg failC) lo hi w :=
 ⟨_,_,_,_,_,_,_,_,_,_,rfl,zeroT_holds _ _ _,zeroT_holds _ _ _,.inl ⟨rfl,rfl⟩,.inl ⟨rfl,rfl⟩⟩
theorem call_holds (d lo hi:Nat) (w:World):GoalV (d+1) callG (.agg callC) lo hi w :=
 ⟨_,_,_,_,_,_,_,_,_,_,rfl,zeroT_holds _ _ _,zeroT_holds _ _ _,.inl ⟨rfl,rfl⟩,.inl ⟨rfl,rfl⟩⟩
theorem nest_items {d:Nat} {m:Int} {g:GoalT} {v:Value} {lo n0:Nat} {w:World} (hlo:lo≤n0) (hv:GoalV (d+1) g v lo n0 w):Items (GoalV (d+1)) lo n0 n0 w (nestL m g) (nestVs m v (.agg failC)):=by
 have h1:∃ p q,lo≤p∧q≤n0∧¬ (p≤n0∧n0 < q)∧GoalV (d+1) g v p q w:=⟨lo,n0,Nat.le_refl _,Nat.le_refl _,by omega,hv⟩
 have h2:∃ p q,lo≤p∧q≤n0∧¬ (p≤n0∧n0 < q)∧GoalV (d+1) failG (.agg failC) p q w:=⟨lo,n0,Nat.le_refl _,Nat.le_refl _,by omega,fail_holds _ _ _ _⟩
 unfold nestL nestVs
 split
 ·exact ⟨h2,h1,trivial⟩
 ·split
  ·exact ⟨h2,h1,h2,trivial⟩
  ·split
   ·exact ⟨h1,trivial⟩
   ·exact ⟨h1,h2,trivial⟩
/-- What the row of the goals and the new goal's own cells come to. -/
theorem nest_holds {d:Nat} {m:Int} {g:GoalT} {v:Value} {lo:Nat} {w X:World} {cs:Array Value} (hlo:lo≤w.heap.size) (hv:GoalV (d+1) g v lo w.heap.size w) (hcs:(nestVs m v (.agg failC)).flatMap cellsL=cs.toList) (hsz:cs.size=(nestL m g).length * 12) (hX:∀ k,lo≤k→k < w.heap.size+1→X.heap[k]?=(w.alloc (.cells cs 31)).heap[k]?) :
  GoalV (d+2) (nestG m g) (.agg #[.int .i64 (nestK m),.int .i64 0,.string ⟨#[]⟩,.int .i64 0,.slice none 0 0,.int .i64 0,.string ⟨#[]⟩,.int .i64 0,.slice none 0 0,.string (bs (nestS m)),.slice none 0 0,.slice (some ⟨w.heap.size,0,none⟩) (nestL m g).length (nestL m g).length]) lo (w.heap.size+1) X:=by
 have hv':GoalV (d+1) g v lo w.heap.size (w.alloc (.cells cs 31)):=GoalV.stable _ _ _ _ _ _ _ hv (fun k _ k2=>Below.heap_alloc w _ k k2)
 have hr:=rowLit (V:=GoalV (d+1)) (t:=31) (sz:=12) (X:=w) rfl (l:=nestL m g) (vs:=nestVs m v (.agg failC)) hlo hsz hcs (by unfold nestL maxLen;split <;> (try split) <;> (try split) <;> simp) (nest_items hlo hv')
 refine ⟨_,_,_,_,_,_,_,_,_,_,rfl,zeroT_holds _ _ _,zeroT_holds _ _ _,.inl ⟨rfl,rfl⟩,.inr ?_⟩
 exact RowV.stable _ _ (GoalV.stable (d+1)) _ _ _ _ _ _ hr hX
/-- The law's own goal as it stands behind so many levels. -/
structure NestI (w0:World) (nb k:Nat) (wr:World):Prop where
 below:Below w0.heap.size w0 wr
 old:w0.heap.size≤nb
 lt:nb < wr.heap.size
 is:∃ g C,wr.heap[nb]?=some (.cells C 31 (0,0))∧GoalV (k+1) g (.agg C) (nb+1) wr.heap.size wr∧QB k g∧goalW' g∧goalOk g∧(goalF g).length≤1+60 * k
theorem NestI.start {w0 wr:World} {nb:Nat} (h:Below w0.heap.size w0 wr) (ho:w0.heap.size≤nb) (hl:nb < wr.heap.size) (hc:wr.heap[nb]?=some (.cells callC 31 (0,0))):NestI w0 nb 0 wr :=
 ⟨h,ho,hl,callG,callC,hc,call_holds _ _ _ _,call_QB,call_W,call_ok,by rw [call_len];omega⟩
theorem NestI.skip {w0 wr X:World} {nb k:Nat} (h:NestI w0 nb k wr) (hb:Below wr.heap.size wr X):NestI w0 nb (k+1) X:=by
 obtain ⟨h1,h2,h3,g,C,h4,h5,h6,h7,h8,h9⟩:=h
 exact ⟨h1.trans (hb.mono h1.size),h2,Nat.lt_of_lt_of_le h3 hb.size,g,C,(hb.block nb h3).trans h4,GoalV.succ _ _ _ _ _ _ ((stays (GoalV.stable _) h5 hb (Nat.le_refl _)).wide' hb.size),h6.succ,h7,h8,by omega⟩
/-- A level more: in the world of the row's block the goal's own block is written anew. -/
theorem NestI.nest {w0 wr wo:World} {nb k:Nat} {g:GoalT} {C cs:Array Value} {m:Int} (h:NestI w0 nb k wr) (hb:Below wr.heap.size wr wo) (hc:wr.heap[nb]?=some (.cells C 31 (0,0))) (hC:C.size=12) (hv:GoalV (k+1) g (.agg C) (nb+1) wr.heap.size wr) (hq:QB k g) (hw:goalW' g) (hok:goalOk g) (hl:(goalF g).length≤1+60 * k) (hm:inNest m)
  (hcs:(nestVs m (.agg C) (.agg failC)).flatMap cellsL=cs.toList) (hsz:cs.size=(nestL m g).length * 12) {N:Array Value} (hN:N=#[.int .i64 (nestK m),.int .i64 0,.string ⟨#[]⟩,.int .i64 0,.slice none 0 0,.int .i64 0,.string ⟨#[]⟩,.int .i64 0,.slice none 0 0,.string (bs (nestS m)),.slice none 0 0,.slice (some ⟨wo.heap.size,0,none⟩) (nestL m g).length (nestL m g).length]) :
  NestI w0 nb (k+1) ((wo.alloc (.cells cs 31)).setCells nb 0 N.toList):=by
 obtain ⟨h1,h2,h3,_⟩:=h
 have hba:Below wr.heap.size wr (wo.alloc (.cells cs 31)):=hb.alloc hb.size _
 have hza:(wo.alloc (.cells cs 31)).heap.size=wo.heap.size+1:=by simp
 have hz:=hb.size
 refine ⟨?_,h2,?_,nestG m g,N,?_,?_,hq.nest hm,nest_W hw hm,nest_ok hok m,?_⟩
 ·exact below_sets h2 (h1.trans (hba.mono h1.size)) N.toList
 ·rw [sets_size,hza];omega
 ·exact sets_all N ((hba.block nb h3).trans hc) (by rw [hN,hC];rfl)
 ·rw [sets_size,hza,hN]
  refine nest_holds (by omega) ((stays (GoalV.stable _) hv hb (Nat.le_refl _)).wide' hz) hcs hsz (fun j j1 j2=>sets_else _ _ _ _ j (by omega))
 ·have:=nest_len g hm
  omega
end Lx
end Go.Proofs.YtajomoclbpobhaaGreatDoor
