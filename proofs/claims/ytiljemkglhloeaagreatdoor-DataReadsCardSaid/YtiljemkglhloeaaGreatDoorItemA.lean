/- What an item is, in plain words, and how it is held in cells; prim at whatever nest, and a whole goal. Conditions: the parser's block is its own; at most 16384 tokens. -/
/- A struct stored as a whole into a block of its own, and read as a whole: what the block holds, and that all else stands. No conditions. -/
import Derived.Test.YtiljemkglhloeaaGreatDoorParPrim
import Derived.Test.YtiljemkglhloeaaGreatDoorRowB
import Derived.Deep.MidRow
import Derived.Deep.Cut
import Derived.Laws.Rows
namespace Go.Proofs.YtiljemkglhloeaaGreatDoor
set_option linter.unusedSimpArgs false
set_option linter.unusedVariables false
namespace Lx
open Go Go.RowKit
/-- A prim, at whatever nest: the nests left bound how deep it goes. -/
theorem prim_any (b:Nat) (A:Option Addr) (c:Nat) (ts:List Tok) (f:Nat→Addr):∀ (m:Nat) (ne:Int),65≤ne+m→0≤ne→ne≤60000→∀ (w:World) (k:Nat),Par w b A c ts k ne→PErrs w b f→k≤ts.length →
  Calls Tryz.prog 184 #[.pointer (some ⟨b,0,none⟩)] w fun e w'=>EndsV b A c ts ne f (GoalV (2 * (m+1))) w (primO ts (m+1) ne k) e w'
 | 0,ne,hm,h0,h1,w,k,h,hE,hk=>prim_step b A c ts f 0 ne h0 h1 (Lib.hid (fun hn=>by omega)) w k h hE hk
 | m+1,ne,hm,h0,h1,w,k,h,hE,hk =>
  prim_step b A c ts f (m+1) ne h0 h1 (Lib.hid (fun hn=>prim_any b A c ts f m (ne+1) (by omega) (by omega) (by omega))) w k h hE hk
theorem topgoal_any (b:Nat) (A:Option Addr) (c:Nat) (ts:List Tok) (f:Nat→Addr) (ne:Int) (h0:0≤ne) (h1:ne≤60000) (w:World) (k:Nat) (h:Par w b A c ts k ne) (hE:PErrs w b f) (hk:k≤ts.length) :
  Calls Tryz.prog 149 #[.pointer (some ⟨b,0,none⟩)] w fun e w'=>EndsV b A c ts ne f (GoalV 134) w (goalO (primO ts 66 ne) ts k) e w' :=
 goal_any b A c ts ne f 133 (joinO (primO ts 66 ne) ts [44] 5) (joinO_fwd (primO_fwd ts 66 ne) [44] 5)
  (Lib.hid (fun w k h hE hk=>conj_any b A c ts ne f 132 (primO ts 66 ne) (primO_fwd ts 66 ne) (Lib.hid (fun w k h hE hk=>prim_any b A c ts f 65 ne (by omega) h0 h1 w k h hE hk)) w k h hE hk)) w k h hE hk
def strH:Holds (List UInt8):=fun x v _ _ _=>v=.string (bs x)
theorem strH.stable:Stable strH:=fun _ _ _ _ _ _ h _=>h
theorem strH.this:ThisSt strH:=fun _ _ _ _ _ h=>⟨_,h⟩
theorem boolV.this:ThisBo boolV:=fun _ _ _ _ _ h=>⟨_,h⟩
theorem Ends.toH {b:Nat} {A:Option Addr} {c:Nat} {ts:List Tok} {ne:Int} {f:Nat→Addr} {w:World} {o:Out (List UInt8)} {e:Ending} {w':World} (h:Ends b A c ts ne f strV w o e w'):EndsV b A c ts ne f strH w o e w':=by
 cases o with
 | no i=>exact h
 | ok x k'=>exact h
theorem nameV_any (w:World) (b:Nat) (A:Option Addr) (c:Nat) (ts:List Tok) (k:Nat) (ne:Int) (f:Nat→Addr) (h:Par w b A c ts k ne) (hk:k < 20000) (hE:PErrs w b f) :
  Calls Tryz.prog 113 #[.pointer (some ⟨b,0,none⟩)] w fun e w'=>EndsV b A c ts ne f strH w (nameO ts k) e w':=(name_any w b A c ts k ne f h hk hE).mono (fun _ _ h=>Ends.toH h)
theorem varV_any (w:World) (b:Nat) (A:Option Addr) (c:Nat) (ts:List Tok) (k:Nat) (ne:Int) (f:Nat→Addr) (h:Par w b A c ts k ne) (hk:k < 20000) (hE:PErrs w b f) :
  Calls Tryz.prog 142 #[.pointer (some ⟨b,0,none⟩)] w fun e w'=>EndsV b A c ts ne f strH w (varO ts k) e w':=(variable_any w b A c ts k ne f h hk hE).mono (fun _ _ h=>Ends.toH h)
theorem RowV.slice {α:Type} {t:TypeId} {sz:Nat} {V:Holds α} {l:List α} {v:Value} {lo hi:Nat} {w:World} (h:RowV t sz V l v lo hi w):∃ s n c,v=.slice s n c:=by
 obtain ⟨g,cap,vs,rfl,_⟩:=h
 exact ⟨_,_,_,rfl⟩
structure ItemT where
 kind:Int
 name:List UInt8
 vars:List (List UInt8)
 ctors:List CtorT
 types:List TypeT
 ins:List Bool
 det:Int
 args:List TermT
 body:GoalT
def zeroG:GoalT:=.mk 0 zeroT zeroT [] [] []
def trueG:GoalT:=.mk 1 zeroT zeroT [] [] []
/-- An item's cells. -/
def ItemV:Holds ItemT:=fun x v lo hi w=>∃ vv vc vt vi va b0 b1 b2 b3 b4 b5 b6 b7 b8 b9 b10 b11,v=.agg #[.int .i64 x.kind,.string (bs x.name),vv,vc,vt,vi,.int .i64 x.det,va,b0,b1,b2,b3,b4,b5,b6,b7,b8,b9,b10,b11] ∧
 ArgsV 9 1 strH x.vars vv lo hi w∧ArgsV 79 2 CtorV x.ctors vc lo hi w∧ArgsV 35 3 (TypeV 66) x.types vt lo hi w∧ArgsV 4 1 boolV x.ins vi lo hi w∧ArgsV 28 4 (TermV 66) x.args va lo hi w∧GoalV 134 x.body (.agg #[b0,b1,b2,b3,b4,b5,b6,b7,b8,b9,b10,b11]) lo hi w
theorem ItemV.wide (x:ItemT) (v:Value) (lo hi lo' hi':Nat) (w:World) (h:ItemV x v lo hi w) (e1:lo'≤lo) (e2:hi≤hi'):ItemV x v lo' hi' w:=by
 obtain ⟨vv,vc,vt,vi,va,b0,b1,b2,b3,b4,b5,b6,b7,b8,b9,b10,b11,hv,h1,h2,h3,h4,h5,h6⟩:=h
 exact ⟨vv,vc,vt,vi,va,b0,b1,b2,b3,b4,b5,b6,b7,b8,b9,b10,b11,hv,h1.wide e1 e2,h2.wide e1 e2,h3.wide e1 e2,h4.wide e1 e2,h5.wide e1 e2,GoalV.wide _ _ _ _ _ _ _ _ h6 e1 e2⟩
theorem ItemV.stable:Stable ItemV:=by
 rintro x v lo hi w w' ⟨vv,vc,vt,vi,va,b0,b1,b2,b3,b4,b5,b6,b7,b8,b9,b10,b11,hv,h1,h2,h3,h4,h5,h6⟩ h
 exact ⟨vv,vc,vt,vi,va,b0,b1,b2,b3,b4,b5,b6,b7,b8,b9,b10,b11,hv,ArgsV.stable _ _ strH.stable _ _ _ _ _ _ h1 h,ArgsV.stable _ _ CtorV.stable _ _ _ _ _ _ h2 h,ArgsV.stable _ _ (TypeV.stable 66) _ _ _ _ _ _ h3 h,ArgsV.stable _ _ boolV.stable _ _ _ _ _ _ h4 h,ArgsV.stable _ _ (TermV.stable 66) _ _ _ _ _ _ h5 h,GoalV.stable 134 _ _ _ _ _ _ h6 h⟩
theorem zeroG_holds (lo hi:Nat) (w:World):GoalV 134 zeroG (.agg #[.int .i64 0,.int .i64 0,.string ⟨#[]⟩,.int .i64 0,.slice none 0 0,.int .i64 0,.string ⟨#[]⟩,.int .i64 0,.slice none 0 0,.string ⟨#[]⟩,.slice none 0 0,.slice none 0 0]) lo hi w :=
 ⟨_,_,_,_,_,_,_,_,_,_,rfl,zeroT_holds _ _ _,zeroT_holds _ _ _,.inl ⟨rfl,rfl⟩,.inl ⟨rfl,rfl⟩⟩
theorem trueG_holds (lo hi:Nat) (w:World):GoalV 134 trueG (.agg #[.int .i64 1,.int .i64 0,.string ⟨#[]⟩,.int .i64 0,.slice none 0 0,.int .i64 0,.string ⟨#[]⟩,.int .i64 0,.slice none 0 0,.string ⟨#[]⟩,.slice none 0 0,.slice none 0 0]) lo hi w :=
 ⟨_,_,_,_,_,_,_,_,_,_,rfl,zeroT_holds _ _ _,zeroT_holds _ _ _,.inl ⟨rfl,rfl⟩,.inl ⟨rfl,rfl⟩⟩
def typeItemO (ts:List Tok) (ne:Int) (k:Nat):Out ItemT:=match nameO ts k with
 | .no i=>.no i
 | .ok s k1=>match argsO (varO ts) ts k1 with
  | .no i=>.no i
  | .ok vs k2=>match expO ts k2 [61] with
   | .no i=>.no i
   | .ok _ k3=>match rowO (ctorO ts ne) ts [124] 16384 k3 with
    | .no i=>.no i
    | .ok cs k4=>.ok ⟨1,s,vs,cs,[],[],0,[],zeroG⟩ k4
def predO (ts:List Tok) (ne:Int) (k:Nat):Out ItemT:=match nameO ts k with
 | .no i=>.no i
 | .ok s k1=>match argsO (typeO ts 66 ne) ts k1 with
  | .no i=>.no i
  | .ok l k2=>.ok ⟨2,s,[],[],l,[],0,[],zeroG⟩ k2
def modeItemO (ts:List Tok) (k:Nat):Out ItemT:=match nameO ts k with
 | .no i=>.no i
 | .ok s k1=>match argsO (wayO ts) ts k1 with
  | .no i=>.no i
  | .ok ws k2=>match expO ts k2 [105,115] with
   | .no i=>.no i
   | .ok _ k3=>match detO ts k3 with
    | .no i=>.no i
    | .ok d k4=>.ok ⟨3,s,[],[],[],ws,d,[],zeroG⟩ k4
def clauseO (ts:List Tok) (ne:Int) (k:Nat):Out ItemT:=match nameO ts k with
 | .no i=>.no i
 | .ok s k1=>match argsO (termO ts 66 ne) ts k1 with
  | .no i=>.no i
  | .ok l k2=>if hasT ts k2 [58,45]=true then match goalO (primO ts 66 ne) ts (k2+1) with
    | .no i=>.no i
    | .ok g k3=>.ok ⟨4,s,[],[],[],[],0,l,g⟩ k3
   else .ok ⟨4,s,[],[],[],[],0,l,trueG⟩ k2
def itemO (ts:List Tok) (ne:Int) (k:Nat):Out ItemT :=
 if hasT ts k [116,121,112,101]=true then typeItemO ts ne (k+1)
 else if hasT ts k [112,114,101,100]=true then predO ts ne (k+1)
 else if hasT ts k [109,111,100,101]=true then modeItemO ts (k+1)
 else clauseO ts ne k
theorem typeItemO_fwd (ts:List Tok) (ne:Int):Fwd ts (typeItemO ts ne):=by
 intro k x k' h
 unfold typeItemO at h
 split at h
 ·cases h
 ·rename_i s k1 e1
  have h1:=nameO_fwd ts _ _ _ e1
  split at h
  ·cases h
  ·rename_i vs k2 e2
   have h2:=argsO_fwd (varO_fwd ts) e2 h1.2
   split at h
   ·cases h
   ·rename_i u k3 e3
    have h3:=expO_fwd (ts:=ts) (s:=[61]) (by decide) _ _ _ e3
    split at h
    ·cases h
    ·rename_i cs k4 e4
     have h4:=rowO_fwd (ctorO_fwd ts ne) _ _ _ _ _ e4
     injection h with _ h5
     omega
theorem predO_fwd (ts:List Tok) (ne:Int):Fwd ts (predO ts ne):=by
 intro k x k' h
 unfold predO at h
 split at h
 ·cases h
 ·rename_i s k1 e1
  have h1:=nameO_fwd ts _ _ _ e1
  split at h
  ·cases h
  ·rename_i vs k2 e2
   have h2:=argsO_fwd (typeO_fwd ts 66 ne) e2 h1.2
   injection h with _ h5
   omega
theorem modeItemO_fwd (ts:List Tok):Fwd ts (modeItemO ts):=by
 intro k x k' h
 unfold modeItemO at h
 split at h
 ·cases h
 ·rename_i s k1 e1
  have h1:=nameO_fwd ts _ _ _ e1
  split at h
  ·cases h
  ·rename_i vs k2 e2
   have h2:=argsO_fwd (wayO_fwd ts) e2 h1.2
   split at h
   ·cases h
   ·rename_i u k3 e3
    have h3:=expO_fwd (ts:=ts) (s:=[105,115]) (by decide) _ _ _ e3
    split at h
    ·cases h
    ·rename_i cs k4 e4
     have h4:=detO_fwd ts _ _ _ e4
     injection h with _ h5
     omega
theorem clauseO_fwd (ts:List Tok) (ne:Int):Fwd ts (clauseO ts ne):=by
 intro k x k' h
 unfold clauseO at h
 split at h
 ·cases h
 ·rename_i s k1 e1
  have h1:=nameO_fwd ts _ _ _ e1
  split at h
  ·cases h
  ·rename_i vs k2 e2
   have h2:=argsO_fwd (termO_fwd ts 66 ne) e2 h1.2
   split at h
   ·split at h
    ·cases h
    ·rename_i g k3 e3
     have h3:=joinO_fwd (joinO_fwd (primO_fwd ts 66 ne) [44] 5) [59] 6 _ _ _ e3
     injection h with _ h5
     omega
   ·injection h with _ h5
    omega
theorem itemO_fwd (ts:List Tok) (ne:Int):Fwd ts (itemO ts ne):=by
 intro k x k' h
 unfold itemO at h
 split at h
 ·have:=typeItemO_fwd ts ne _ _ _ h;omega
 ·split at h
  ·have:=predO_fwd ts ne _ _ _ h;omega
  ·split at h
   ·have:=modeItemO_fwd ts _ _ _ h;omega
   ·exact clauseO_fwd ts ne _ _ _ h
end Lx
end Go.Proofs.YtiljemkglhloeaaGreatDoor
namespace Go.Proofs.YtiljemkglhloeaaGreatDoor
set_option linter.unusedSimpArgs false
set_option linter.unusedVariables false
namespace Lx
open Go Go.RowKit
theorem sets_size (N:Nat):∀ (l:List Value) (i:Nat) (w:World),(w.setCells N i l).heap.size=w.heap.size
 | [],_,_=>rfl
 | v :: l,i,w=>by rw [World.setCells,sets_size N l];simp [World.setCell]
theorem sets_else (N:Nat):∀ (l:List Value) (i:Nat) (w:World) (j:Nat),j ≠ N→(w.setCells N i l).heap[j]?=w.heap[j]?
 | [],_,_,_,_=>rfl
 | v :: l,i,w,j,hj=>by rw [World.setCells,sets_else N l _ _ j hj,Below.heap_setCell _ _ _ j hj]
theorem sets_os (N:Nat):∀ (l:List Value) (i:Nat) (w:World),(w.setCells N i l).os=w.os∧(w.setCells N i l).tape=w.tape∧(w.setCells N i l).output=w.output
 | [],_,_=>⟨rfl,rfl,rfl⟩
 | v :: l,i,w=>by rw [World.setCells];exact sets_os N l _ _
theorem sets_blk (N:Nat) {T:TypeId}:∀ (l:List Value) (i:Nat) (w:World) (C:Array Value),w.heap[N]?=some (.cells C T (0,0))→i+l.length≤C.size →
  ∃ C',(w.setCells N i l).heap[N]?=some (.cells C' T (0,0))∧C'.size=C.size∧∀ q:Nat,C'[q]?=if i≤q∧q < i+l.length then l[q - i]? else C[q]?
 | [],i,w,C,h,_=>⟨C,h,rfl,fun q=>by rw [if_neg (by simp <;> omega)]⟩
 | v :: l,i,w,C,h,hl=>by
  have hi:i < C.size:=by simp at hl;omega
  obtain ⟨C',h1,h2,h3⟩:=sets_blk N l (i+1) (w.setCell ⟨N,i,none⟩ v) (C.set i v hi) (blk_put w N i v h hi) (by simp at hl ⊢;omega)
  refine ⟨C',by rw [World.setCells];exact h1,by rw [h2];simp,fun q=>?_⟩
  rw [h3 q]
  by_cases e:q=i
  ·subst e
   rw [if_neg (by omega),if_pos (by simp)]
   simp
  ·by_cases e2:i+1≤q∧q < i+1+l.length
   ·rw [if_pos e2,if_pos (by simp;omega)]
    have:q - i=(q - (i+1))+1:=by omega
    rw [this]
    rfl
   ·rw [if_neg e2,if_neg (by simp;omega)]
    rw [Array.getElem?_set_ne hi (by omega)]
theorem sets_all {N:Nat} {T:TypeId} {w:World} {C:Array Value} (cs:Array Value) (h:w.heap[N]?=some (.cells C T (0,0))) (hs:cs.size=C.size):(w.setCells N 0 cs.toList).heap[N]?=some (.cells cs T (0,0)):=by
 obtain ⟨C',h1,h2,h3⟩:=sets_blk N cs.toList 0 w C h (by simp;omega)
 rw [h1]
 congr 2
 apply Array.ext_getElem?
 intro q
 rw [h3 q]
 by_cases hq:q < cs.size
 ·rw [if_pos (by simp;exact hq)]
  simp
 ·rw [if_neg (by simp;omega),Array.getElem?_eq_none (by omega),Array.getElem?_eq_none (by omega)]
theorem putAll {w w3:World} {o:Obj} {b:Nat} {A:Option Addr} {c:Nat} {ts:List Tok} {k k':Nat} {ne ne':Int} {T:TypeId} {C:Array Value} (h:Par w b A c ts k ne) (hf:PFr b (w.alloc o) w3) (hp:Par w3 b A c ts k' ne')
  (hb:w3.heap[w.heap.size]?=some (.cells C T (0,0))) (cs:Array Value) (hs:cs.size=C.size) :
  (w3.setCells w.heap.size 0 cs.toList).heap[w.heap.size]?=some (.cells cs T (0,0))∧Par (w3.setCells w.heap.size 0 cs.toList) b A c ts k' ne' ∧
  PFr b w (w3.setCells w.heap.size 0 cs.toList)∧(∀ j,j ≠ w.heap.size→(w3.setCells w.heap.size 0 cs.toList).heap[j]?=w3.heap[j]?)∧(w3.setCells w.heap.size 0 cs.toList).heap.size=w3.heap.size:=by
 have h1:=((PFr.refl b w).alloc o).trans hf
 have hfr:PFr b w (w3.setCells w.heap.size 0 cs.toList) :=
  ⟨(sets_os _ _ _ _).1.trans h1.os,(sets_os _ _ _ _).2.1.trans h1.tape,(sets_os _ _ _ _).2.2.trans h1.output,by rw [sets_size];exact h1.size,fun j hj hn=>(sets_else _ _ _ _ j (Nat.ne_of_lt hj)).trans (h1.block j hj hn)⟩
 refine ⟨sets_all cs hb hs,h.move hfr ?_ hp.near hp.nest0 hp.nest1,hfr,fun j hj=>sets_else _ _ _ _ j hj,sets_size _ _ _ _⟩
 rw [sets_else _ _ _ _ b (Nat.ne_of_lt h.lt)]
 exact hp.blk
/-- A new block, stored into as a whole. -/
theorem newAll {w2:World} {b:Nat} {A:Option Addr} {c:Nat} {ts:List Tok} {k:Nat} {ne:Int} {T:TypeId} (hp:Par w2 b A c ts k ne) (Z cs:Array Value) (hs:cs.size=Z.size) :
  ((w2.alloc (.cells Z T)).setCells w2.heap.size 0 cs.toList).heap[w2.heap.size]?=some (.cells cs T (0,0))∧Par ((w2.alloc (.cells Z T)).setCells w2.heap.size 0 cs.toList) b A c ts k ne ∧
  PFr b w2 ((w2.alloc (.cells Z T)).setCells w2.heap.size 0 cs.toList)∧((w2.alloc (.cells Z T)).setCells w2.heap.size 0 cs.toList).heap.size=w2.heap.size+1:=by
 obtain ⟨t1,t2,t3,_,t5⟩:=putAll (o:=.cells Z T) hp (PFr.refl b _) (hp.alloc _) (heap_alloc_new w2 _) cs hs
 exact ⟨t1,t2,t3,t5.trans (by simp)⟩
theorem Par.putBeside {w2 X:World} {b:Nat} {A:Option Addr} {c:Nat} {ts:List Tok} {k k':Nat} {ne ne':Int} (h0:Par w2 b A c ts k ne) (hf:PFr b w2 X) (hp:Par X b A c ts k' ne') {N:Nat} (hN:w2.heap.size≤N) (i:Nat) (v:Value):Par (X.setCell ⟨N,i,none⟩ v) b A c ts k' ne' :=
 h0.move (hf.putNew hN i v) ((Below.heap_setCell X ⟨N,i,none⟩ v b (by have:=h0.lt;show b ≠ N;omega)).trans hp.blk) hp.near hp.nest0 hp.nest1
theorem range_all {w:World} {b:Nat} {C:Array Value} {t:TypeId} {fr:Nat × Nat} (hb:w.heap[b]?=some (.cells C t fr)):w.rangeAt b 0 C.toList:=fun j v hv=>by
 rw [Nat.zero_add,cell_of_row w b j C t fr hb]
 simpa using hv
theorem there_all {w:World} {b:Nat} {C:Array Value} {t:TypeId} (hb:w.heap[b]?=some (.cells C t (0,0))):w.there b 0 C.size:=fun j hj=>by
 rw [Nat.zero_add]
 exact ⟨by rw [cell_of_row w b j C t (0,0) hb];simp [hj],Lib.frozen_of_heap hb j⟩
theorem infoItem:(Tryz.prog.info? 33).map (·.size)=some 20:=by kernel_rfl
theorem boxI {w w':World} {o:Obj} {b:Nat} {cs:Array Value} (hf:PFr b (w.alloc o) w') (hb:b < w.heap.size) (h:(w.alloc o).heap[w.heap.size]?=some (.cells cs 33 (0,0))):w'.heap[w.heap.size]?=some (.cells cs 33 (0,0)) :=
 (hf.block w.heap.size (by simp) (Nat.ne_of_gt hb)).trans h
theorem Par.fromFr {w w3 w4:World} {b:Nat} {A:Option Addr} {c:Nat} {ts:List Tok} {k k':Nat} {ne ne':Int} (h:Par w b A c ts k ne) (hf:PFr b w w3) (hp:Par w4 b A c ts k' ne') (hb:w3.heap[b]?=w4.heap[b]?):Par w3 b A c ts k' ne' :=
 h.move hf (hb.trans hp.blk) hp.near hp.nest0 hp.nest1
end Lx
end Go.Proofs.YtiljemkglhloeaaGreatDoor
