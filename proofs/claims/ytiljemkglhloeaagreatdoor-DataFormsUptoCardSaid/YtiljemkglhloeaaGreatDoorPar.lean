/- The contracts of package parse's small methods at a parser whose tokens lie in a row: more, peek, next, accept, expect, name, variable, enter, leave. Conditions: the parser's block is its own; at most 16384 tokens; the error variables hold what they should. -/
import Derived.Test.YtiljemkglhloeaaGreatDoorLexA
import Derived.Test.YtiljemkglhloeaaGreatDoorResv
import Derived.Recover
import Derived.Lib.Builder
namespace Go.Proofs.YtiljemkglhloeaaGreatDoor
set_option linter.unusedSimpArgs false
set_option linter.unusedVariables false
namespace Lx
open Go Go.RowKit
theorem cellsP_at:∀ (ts:List Tok) (k:Nat) (h:k < ts.length),(cellsT ts)[3 * k]?=some (.int .i64 (ts[k]).kind)∧(cellsT ts)[3 * k+1]?=some (.string (bs (ts[k]).text))∧(cellsT ts)[3 * k+2]?=some (.int .i64 (ts[k]).num)
 | t :: ts,0,_=>⟨rfl,rfl,rfl⟩
 | t :: ts,k+1,h=>by
  have ih:=cellsP_at ts k (by simpa using h)
  have e:∀ j,(cellsT (t :: ts))[3 * (k+1)+j]?=(cellsT ts)[3 * k+j]?:=by
   intro j
   show ([Value.int .i64 t.kind,.string (bs t.text),.int .i64 t.num]++cellsT ts)[3 * (k+1)+j]?=_
   rw [List.getElem?_append_right (by simp;omega)]
   congr 1
   simp
   omega
  exact ⟨(e 0).trans ih.1,(e 1).trans ih.2.1,(e 2).trans ih.2.2⟩
/-- The parser in block b: its row of tokens, the next one's place, the nest. -/
def parC (A:Option Addr) (n c:Nat) (k:Nat) (ne:Int):Obj:=.cells #[.slice A n c,.int .i64 k,.int .i64 ne] 111 (0,0)
/-- All that lay in w, but for block b, stands as it stood. -/
structure PFr (b:Nat) (w w':World):Prop where
 os:w'.os=w.os
 tape:w'.tape=w.tape
 output:w'.output=w.output
 size:w.heap.size≤w'.heap.size
 block:∀ k,k < w.heap.size→k ≠ b→w'.heap[k]?=w.heap[k]?
theorem PFr.refl (b:Nat) (w:World):PFr b w w:=⟨rfl,rfl,rfl,Nat.le_refl _,fun _ _ _=>rfl⟩
theorem PFr.trans {b:Nat} {x y z:World} (h:PFr b x y) (k:PFr b y z):PFr b x z :=
 ⟨k.os.trans h.os,k.tape.trans h.tape,k.output.trans h.output,Nat.le_trans h.size k.size,fun i hi hn=>(k.block i (Nat.lt_of_lt_of_le hi h.size) hn).trans (h.block i hi hn)⟩
theorem PFr.drewN {b:Nat} {x y:World} (h:PFr b x y) (n:Nat):PFr b x (y.drewN n):=⟨h.os,h.tape,h.output,h.size,h.block⟩
theorem PFr.put {b:Nat} {x y:World} (h:PFr b x y) (i:Nat) (v:Value):PFr b x (y.setCell ⟨b,i,none⟩ v) :=
 ⟨h.os,h.tape,h.output,by simpa [World.setCell] using h.size,fun k hk hn=>(Below.heap_setCell y ⟨b,i,none⟩ v k hn).trans (h.block k hk hn)⟩
theorem PFr.putNew {b:Nat} {x y:World} (h:PFr b x y) {N:Nat} (hN:x.heap.size≤N) (i:Nat) (v:Value):PFr b x (y.setCell ⟨N,i,none⟩ v) :=
 ⟨h.os,h.tape,h.output,by simpa [World.setCell] using h.size,fun k hk hn=>(Below.heap_setCell y ⟨N,i,none⟩ v k (by show k ≠ N;omega)).trans (h.block k hk hn)⟩
theorem PFr.alloc {b:Nat} {x y:World} (h:PFr b x y) (o:Obj):PFr b x (y.alloc o) :=
 ⟨h.os,h.tape,h.output,by have:=h.size;simp;omega,fun k hk hn=>(Below.heap_alloc y o k (Nat.lt_of_lt_of_le hk h.size)).trans (h.block k hk hn)⟩
theorem PFr.cell {b:Nat} {x y:World} (h:PFr b x y) {p:Addr} (hp:p.block < x.heap.size) (hn:p.block ≠ b):y.cell? p=x.cell? p:=World.cell?_of_block (w:=x) (h.block p.block hp hn)
structure Par (w:World) (b:Nat) (A:Option Addr) (c:Nat) (ts:List Tok) (k:Nat) (ne:Int):Prop where
 blk:w.heap[b]?=some (parC A ts.length c k ne)
 row:ts ≠ []→∃ g,A=some ⟨g,0,none⟩∧g ≠ b∧g < w.heap.size∧∀ j,j < 3 * ts.length→w.cell? ⟨g,j,none⟩=(cellsT ts)[j]?
 few:ts.length≤16384
 near:k≤20000
 nest0:-100000≤ne
 nest1:ne≤100000
section
variable {w w':World} {b:Nat} {A:Option Addr} {c:Nat} {ts:List Tok} {k:Nat} {ne:Int}
theorem Par.c0 (h:Par w b A c ts k ne):w.cell? ⟨b,0,none⟩=some (.slice A ts.length c):=(Lib.cell_of_heap h.blk 0).trans rfl
theorem Par.c1 (h:Par w b A c ts k ne):w.cell? ⟨b,1,none⟩=some (.int .i64 k):=(Lib.cell_of_heap h.blk 1).trans rfl
theorem Par.c2 (h:Par w b A c ts k ne):w.cell? ⟨b,2,none⟩=some (.int .i64 ne):=(Lib.cell_of_heap h.blk 2).trans rfl
theorem Par.f1 (h:Par w b A c ts k ne):w.frozen? ⟨b,1,none⟩=false:=Lib.frozen_of_heap h.blk 1
theorem Par.f2 (h:Par w b A c ts k ne):w.frozen? ⟨b,2,none⟩=false:=Lib.frozen_of_heap h.blk 2
theorem Par.lt (h:Par w b A c ts k ne):b < w.heap.size:=(Array.getElem?_eq_some_iff.1 h.blk).1
theorem Par.drewN (h:Par w b A c ts k ne) (n:Nat):Par (w.drewN n) b A c ts k ne:=⟨h.blk,h.row,h.few,h.near,h.nest0,h.nest1⟩
/-- A world in which the parser's block holds other numbers. -/
theorem Par.move (h:Par w b A c ts k ne) (hf:PFr b w w') {k':Nat} {ne':Int} (hb:w'.heap[b]?=some (parC A ts.length c k' ne')) (hk:k'≤20000) (h0:-100000≤ne') (h1:ne'≤100000):Par w' b A c ts k' ne' :=
 ⟨hb,fun hne=>by
  obtain ⟨g,e,hg,hl,hc⟩:=h.row hne
  exact ⟨g,e,hg,Nat.lt_of_lt_of_le hl hf.size,fun j hj=>(hf.cell (p:=⟨g,j,none⟩) hl hg).trans (hc j hj)⟩,h.few,hk,h0,h1⟩
theorem blk_put (w:World) (b i:Nat) (v:Value) {cs:Array Value} {t:TypeId} (h:w.heap[b]?=some (.cells cs t (0,0))) (hi:i < cs.size):(w.setCell ⟨b,i,none⟩ v).heap[b]?=some (.cells (cs.set i v hi) t (0,0)):=by
 simp [World.setCell,Array.getElem?_modify,h,Array.setIfInBounds,hi]
theorem Par.setAt (h:Par w b A c ts k ne) (k':Nat) (hk:k'≤20000):Par (w.setCell ⟨b,1,none⟩ (.int .i64 k')) b A c ts k' ne :=
 h.move ((PFr.refl b w).put 1 _) (blk_put w b 1 _ h.blk (by show 1 < 3;decide)) hk h.nest0 h.nest1
theorem Par.setNest (h:Par w b A c ts k ne) (ne':Int) (h0:-100000≤ne') (h1:ne'≤100000):Par (w.setCell ⟨b,2,none⟩ (.int .i64 ne')) b A c ts k ne' :=
 h.move ((PFr.refl b w).put 2 _) (blk_put w b 2 _ h.blk (by show 2 < 3;decide)) h.near h0 h1
theorem Par.at_tok (h:Par w b A c ts k ne) (hk:k < ts.length):∃ g,A=some ⟨g,0,none⟩∧g ≠ b∧w.cell? ⟨g,k * 3,none⟩=some (.int .i64 (ts[k]).kind)∧w.cell? ⟨g,k * 3+1,none⟩=some (.string (bs (ts[k]).text))∧w.cell? ⟨g,k * 3+2,none⟩=some (.int .i64 (ts[k]).num):=by
 obtain ⟨g,e,hg,_,hc⟩:=h.row (by intro e;subst e;simp at hk)
 have h1:=cellsP_at ts k hk
 rw [Nat.mul_comm 3 k] at h1
 exact ⟨g,e,hg,(hc _ (by omega)).trans h1.1,(hc (k * 3+1) (by omega)).trans h1.2.1,(hc (k * 3+2) (by omega)).trans h1.2.2⟩
end
theorem Par.alloc {w:World} {b:Nat} {A:Option Addr} {c:Nat} {ts:List Tok} {k:Nat} {ne:Int} (h:Par w b A c ts k ne) (o:Obj):Par (w.alloc o) b A c ts k ne :=
 h.move ((PFr.refl b w).alloc o) ((Below.heap_alloc w o b h.lt).trans h.blk) h.near h.nest0 h.nest1
theorem Par.keep {w w':World} {b:Nat} {A:Option Addr} {c:Nat} {ts:List Tok} {k:Nat} {ne:Int} (h:Par w b A c ts k ne) (hf:PFr w.heap.size w w'):Par w' b A c ts k ne∧PFr b w w':=by
 have hb:=(hf.block b h.lt (Nat.ne_of_lt h.lt)).trans h.blk
 have hf2:PFr b w w':=⟨hf.os,hf.tape,hf.output,hf.size,fun k hk _=>hf.block k hk (Nat.ne_of_lt hk)⟩
 exact ⟨h.move hf2 hb h.near h.nest0 h.nest1,hf2⟩
theorem more_any (w:World) (b:Nat) (A:Option Addr) (c:Nat) (ts:List Tok) (k:Nat) (ne:Int) (h:Par w b A c ts k ne) :
  Calls Tryz.prog 94 #[.pointer (some ⟨b,0,none⟩)] w fun e w'=>e=.returned (.bool (decide (k < ts.length)))∧∃ q,w'=w.drewN q:=by
 have h0:=h.c0
 have h1:=h.c1
 clear h
 go_enter Tryz.func94,Tryz.ntmps94
 go_wp2
 go_quiet (fail)
 go_wp2
 go_ret
 exact ⟨by simp,_,rfl⟩
def peekT (ts:List Tok) (k:Nat):Tok:=(ts[k]?).getD ⟨0,[],0⟩
theorem peekT_in {ts:List Tok} {k:Nat} (h:k < ts.length):peekT ts k=ts[k]:=by simp [peekT,h]
theorem peekT_out {ts:List Tok} {k:Nat} (h:ts.length≤k):peekT ts k=⟨0,[],0⟩:=by simp [peekT,h]
theorem peek_any (w:World) (b:Nat) (A:Option Addr) (c:Nat) (ts:List Tok) (k:Nat) (ne:Int) (h:Par w b A c ts k ne) :
  Calls Tryz.prog 111 #[.pointer (some ⟨b,0,none⟩)] w fun e w'=>e=.returned (.agg #[.int .i64 (peekT ts k).kind,.string (bs (peekT ts k).text),.int .i64 (peekT ts k).num])∧Par w' b A c ts k ne∧PFr b w w':=by
 have HP:=Lib.hid h
 have HM:=Lib.hid (more_any _ b A c ts k ne (h.alloc (.cells #[.int .i64 0,.string ⟨#[]⟩,.int .i64 0] 162)))
 have hk0:(0:Int)≤(k:Int):=by omega
 have h2:=h.alloc (.cells #[.int .i64 0,.string ⟨#[]⟩,.int .i64 0] 162)
 have h0:=h2.c0
 have h1:=h2.c1
 rcases Nat.lt_or_ge k ts.length with hlt | hge
 ·obtain ⟨g,rfl,hgb,a0,a1,a2⟩:=h2.at_tok hlt
  rw [peekT_in hlt]
  have hk1:(k:Int) < (ts.length:Int):=by omega
  have hd:decide (k < ts.length)=true:=by simpa using hlt
  rw [hd] at HM
  clear h h2 hd
  go_enter Tryz.func111,Tryz.ntmps111
  go_wp2_with (go_at_call 94;refine HM.out.mono ?_;rintro e w' ⟨rfl,q,rfl⟩)
  go_region
  go_wp2_with (fail)
  refine bodyPost_ret (v:=.agg #[.int .i64 (ts[k]).kind,.string (bs (ts[k]).text),.int .i64 (ts[k]).num]) (by simp [results,Tryz.results111,go_sem]) rfl ⟨rfl,?_⟩
  exact HP.out.keep (((((PFr.refl _ w).alloc _).drewN (q+1)).put 0 _).put 1 _ |>.put 2 _)
 ·rw [peekT_out hge]
  have hd:decide (k < ts.length)=false:=by simpa using hge
  rw [hd] at HM
  clear h h2 hd
  go_enter Tryz.func111,Tryz.ntmps111
  go_wp2_with (go_at_call 94;refine HM.out.mono ?_;rintro e w' ⟨rfl,q,rfl⟩)
  refine bodyPost_ret (v:=.agg #[.int .i64 0,.string ⟨#[]⟩,.int .i64 0]) (by simp [results,Tryz.results111,go_sem]) rfl ⟨rfl,?_⟩
  exact HP.out.keep (((((PFr.refl _ w).alloc _).drewN q).put 0 _).put 1 _ |>.put 2 _)
theorem tokF0 (x z:Int) (y:ByteArray):∀ w:World,(Instr.field 162 (.agg #[.int .i64 x,.string y,.int .i64 z]) 0).run Tryz.prog w=.ok (.int .i64 x) w:=fun _=>by kernel_rfl
theorem tokF1 (x z:Int) (y:ByteArray):∀ w:World,(Instr.field 162 (.agg #[.int .i64 x,.string y,.int .i64 z]) 1).run Tryz.prog w=.ok (.string y) w:=fun _=>by kernel_rfl
theorem tokF2 (x z:Int) (y:ByteArray):∀ w:World,(Instr.field 162 (.agg #[.int .i64 x,.string y,.int .i64 z]) 2).run Tryz.prog w=.ok (.int .i64 z) w:=fun _=>by kernel_rfl
theorem tok_box {w w':World} {o:Obj} {b:Nat} {x y z:Value} (hf:PFr b (w.alloc o) w') (hb:b < w.heap.size) (h:(w.alloc o).heap[w.heap.size]?=some (.cells #[x,y,z] 162 (0,0))):w'.heap[w.heap.size]?=some (.cells #[x,y,z] 162 (0,0)) :=
 (hf.block w.heap.size (by simp) (Nat.ne_of_gt hb)).trans h
theorem next_any (w:World) (b:Nat) (A:Option Addr) (c:Nat) (ts:List Tok) (k:Nat) (ne:Int) (h:Par w b A c ts k ne) (hk:k < 20000) :
  Calls Tryz.prog 112 #[.pointer (some ⟨b,0,none⟩)] w fun e w'=>e=.returned (.agg #[.int .i64 (peekT ts k).kind,.string (bs (peekT ts k).text),.int .i64 (peekT ts k).num])∧Par w' b A c ts (k+1) ne∧PFr b w w':=by
 have HP:=Lib.hid h
 have HM:=Lib.hid (fun w h=>peek_any w b A c ts k ne h)
 generalize (peekT ts k).kind=x at *
 generalize bs (peekT ts k).text=y at *
 generalize (peekT ts k).num=z at *
 clear h
 go_enter Tryz.func112,Tryz.ntmps112
 go_wp2_with (go_at_call 111;refine (HM.out _ (HP.out.alloc _)).mono ?_;rintro e w' ⟨rfl,hp,hf⟩;have hb:=tok_box hf HP.out.lt (heap_alloc_new w _);have d0:=(tok_cells hb).1;have d1:=(tok_cells hb).2.1;have d2:=(tok_cells hb).2.2;have g0:=Lib.frozen_of_heap hb 0;have g1:=Lib.frozen_of_heap hb 1;have g2:=Lib.frozen_of_heap hb 2;have c1:=hp.c1;have f1:=hp.f1;have hl:=hp.lt;have hl2:w.heap.size < w'.heap.size:=(Array.getElem?_eq_some_iff.1 hb).1;have hn1:¬ b=w.heap.size:=Nat.ne_of_lt HP.out.lt;have hn2:¬ w.heap.size=b:=Nat.ne_of_gt HP.out.lt)
 refine bodyPost_ret (v:=.agg #[.int .i64 x,.string y,.int .i64 z]) (by simp [results,Tryz.results112,go_sem,d0,d1,d2,hl2]) rfl ⟨rfl,?_⟩
 have hfin:=((((((((PFr.refl b w).alloc _).trans hf).put 1 (.int .i64 ((k:Int)+1))).putNew (Nat.le_refl _) 0 (.int .i64 x)).putNew (Nat.le_refl _) 1 (.string y)).putNew (Nat.le_refl _) 2 (.int .i64 z)).alloc (.cells #[.int .i64 x,.string y,.int .i64 z] 162))
 refine ⟨HP.out.move hfin ?_ (by omega) HP.out.nest0 HP.out.nest1,hfin⟩
 rw [Below.heap_alloc _ _ b (by simp [World.setCell];exact hl),Below.heap_setCell _ _ _ b hn1,Below.heap_setCell _ _ _ b hn1,Below.heap_setCell _ _ _ b hn1]
 exact blk_put w' b 1 _ hp.blk (by show 1 < 3;decide)
theorem accept_any (w:World) (b:Nat) (A:Option Addr) (c:Nat) (ts:List Tok) (k:Nat) (ne:Int) (s:ByteArray) (h:Par w b A c ts k ne) (hk:k < 20000) :
  Calls Tryz.prog 123 #[.pointer (some ⟨b,0,none⟩),.string s] w fun e w'=>e=.returned (.bool ((bs (peekT ts k).text).toList == s.toList))∧Par w' b A c ts (if ((bs (peekT ts k).text).toList == s.toList)=true then k+1 else k) ne∧PFr b w w':=by
 have HP:=Lib.hid h
 have HM:=Lib.hid (fun w h=>peek_any w b A c ts k ne h)
 generalize (peekT ts k).kind=x at *
 generalize bs (peekT ts k).text=y at *
 generalize (peekT ts k).num=z at *
 clear h
 have q1:=tokF1 x z y
 cases hy:(y.toList == s.toList)
 ·go_enter Tryz.func123,Tryz.ntmps123
  go_wp2_with (go_at_call 111;refine (HM.out _ HP.out).mono ?_;rintro e w' ⟨rfl,hp,hf⟩)
  go_ret
  exact ⟨rfl,by simpa using hp,hf⟩
 ·go_enter Tryz.func123,Tryz.ntmps123
  go_wp2_with (go_at_call 111;refine (HM.out _ HP.out).mono ?_;rintro e w' ⟨rfl,hp,hf⟩;have c1:=hp.c1;have f1:=hp.f1)
  go_ret
  exact ⟨rfl,by simpa using hp.setAt (k+1) (by omega),hf.put 1 _⟩
/-- A panic with a refusal: the parser stands wherever it stands. -/
def Refused (b:Nat) (A:Option Addr) (c:Nat) (ts:List Tok) (ne:Int) (w:World) (er:Value) (e:Ending) (w':World):Prop :=
 e=.panicked [{ v:=.iface 151 (.agg #[er]),recovered:=false }]∧(∃ k' ne',Par w' b A c ts k' ne'∧ne≤ne')∧PFr b w w'
abbrev errP (a:Addr):Value:=.iface 231 (.pointer (some a))
/-- The three errors with which a parser gives up: too deep, too large, no such syntax. -/
structure PErrs (w:World) (b:Nat) (f:Nat→Addr):Prop where
 nest:w.cell? ⟨4,0,none⟩=some (errP (f 0))
 large:w.cell? ⟨0,0,none⟩=some (errP (f 1))
 syn:w.cell? ⟨3,0,none⟩=some (errP (f 2))
 nest_ne:4 ≠ b
 large_ne:0 ≠ b
 syn_ne:3 ≠ b
theorem PErrs.move {w w':World} {b:Nat} {f:Nat→Addr} (h:PErrs w b f) (hf:PFr b w w'):PErrs w' b f :=
 ⟨(hf.cell (p:=⟨4,0,none⟩) (World.block_lt_of_cell? w _ h.nest) h.nest_ne).trans h.nest,
  (hf.cell (p:=⟨0,0,none⟩) (World.block_lt_of_cell? w _ h.large) h.large_ne).trans h.large,
  (hf.cell (p:=⟨3,0,none⟩) (World.block_lt_of_cell? w _ h.syn) h.syn_ne).trans h.syn,h.nest_ne,h.large_ne,h.syn_ne⟩
/-- What a reading comes to: a thing and the place behind it, or one of the three errors. -/
inductive Out (α:Type) where
 | ok:α→Nat→Out α
 | no:Nat→Out α
/-- The ending of a reading: what it returns is V of the thing; or the panic. -/
def Ends {α:Type} (b:Nat) (A:Option Addr) (c:Nat) (ts:List Tok) (ne:Int) (f:Nat→Addr) (V:α→Value→World→Prop) (w:World):Out α→Ending→World→Prop
 | .ok x k',e,w'=>∃ v,e=.returned v∧V x v w'∧Par w' b A c ts k' ne∧PFr b w w'
 | .no i,e,w'=>Refused b A c ts ne w (errP (f i)) e w'
def expectO (ts:List Tok) (k:Nat) (s:ByteArray):Out Unit:=if ((bs (peekT ts k).text).toList == s.toList)=true then .ok () (k+1) else .no 2
theorem expect_any (w:World) (b:Nat) (A:Option Addr) (c:Nat) (ts:List Tok) (k:Nat) (ne:Int) (f:Nat→Addr) (s:ByteArray) (h:Par w b A c ts k ne) (hk:k < 20000) (hE:PErrs w b f) :
  Calls Tryz.prog 96 #[.pointer (some ⟨b,0,none⟩),.string s] w fun e w'=>Ends b A c ts ne f (fun _ v _=>v=.tuple #[]) w (expectO ts k s) e w':=by
 have HP:=Lib.hid h
 have HE:=Lib.hid hE
 have HM:=Lib.hid (accept_any w b A c ts k ne s h hk)
 unfold expectO
 generalize ((bs (peekT ts k).text).toList == s.toList)=ok at *
 clear h hE
 cases ok
 ·go_enter Tryz.func96,Tryz.ntmps96
  go_wp2_with (go_at_call 123;refine HM.out.mono ?_;rintro e w' ⟨rfl,hp,hf⟩;have c1:=(HE.out.move hf).syn)
  exact ⟨rfl,rfl,⟨_,_,hp,Int.le_refl _⟩,hf⟩
 ·go_enter Tryz.func96,Tryz.ntmps96
  go_wp2_with (go_at_call 123;refine HM.out.mono ?_;rintro e w' ⟨rfl,hp,hf⟩)
  go_end0
  exact ⟨_,rfl,rfl,by simpa using hp,hf⟩
/-- A name that is no word of the language; a variable. -/
def nameO (ts:List Tok) (k:Nat):Out (List UInt8):=if (peekT ts k).kind=1∧resv (bs (peekT ts k).text).toList=false then .ok (peekT ts k).text (k+1) else .no 2
def varO (ts:List Tok) (k:Nat):Out (List UInt8):=if (peekT ts k).kind=2 then .ok (peekT ts k).text (k+1) else .no 2
def strV (l:List UInt8) (v:Value) (_:World):Prop:=v=.string (bs l)
theorem name_any (w:World) (b:Nat) (A:Option Addr) (c:Nat) (ts:List Tok) (k:Nat) (ne:Int) (f:Nat→Addr) (h:Par w b A c ts k ne) (hk:k < 20000) (hE:PErrs w b f) :
  Calls Tryz.prog 113 #[.pointer (some ⟨b,0,none⟩)] w fun e w'=>Ends b A c ts ne f strV w (nameO ts k) e w':=by
 have HP:=Lib.hid h
 have HE:=Lib.hid hE
 have HM:=Lib.hid (next_any w b A c ts k ne h hk)
 unfold nameO
 generalize (peekT ts k).kind=x at *
 generalize (peekT ts k).num=z at *
 generalize (peekT ts k).text=y at *
 clear h hE
 have q0:=tokF0 x z (bs y)
 have q1:=tokF1 x z (bs y)
 have HR:=Lib.hid (fun w=>reserved_any (bs y) w)
 generalize resv (bs y).toList=r at *
 by_cases hx:x=1
 ·subst hx
  cases r
  ·simp only [and_self,if_true]
   go_enter Tryz.func113,Tryz.ntmps113
   go_wp2_with (first | (go_at_call 112;refine HM.out.mono ?_;rintro e w' ⟨rfl,hp,hf⟩) | (go_at_call 132;refine (HR.out _).mono ?_;rintro e w2 ⟨rfl,rfl⟩))
   go_ret
   exact ⟨_,rfl,rfl,hp.alloc _,hf.alloc _⟩
  ·simp only [Bool.true_eq_false,and_false,if_false]
   go_enter Tryz.func113,Tryz.ntmps113
   go_wp2_with (first | (go_at_call 112;refine HM.out.mono ?_;rintro e w' ⟨rfl,hp,hf⟩;have c1:=(HE.out.move hf).syn;have hg:=World.block_lt_of_cell? _ _ c1) | (go_at_call 132;refine (HR.out _).mono ?_;rintro e w2 ⟨rfl,rfl⟩))
   exact ⟨rfl,rfl,⟨_,_,hp.alloc _,Int.le_refl _⟩,hf.alloc _⟩
 ·simp only [hx,false_and,if_false]
  have hx1:(x != 1)=true:=by simpa using hx
  go_enter Tryz.func113,Tryz.ntmps113
  go_wp2_with (first | (go_at_call 112;refine HM.out.mono ?_;rintro e w' ⟨rfl,hp,hf⟩;have c1:=(HE.out.move hf).syn;have hg:=World.block_lt_of_cell? _ _ c1))
  exact ⟨rfl,rfl,⟨_,_,hp.alloc _,Int.le_refl _⟩,hf.alloc _⟩
theorem leave_any (w:World) (b:Nat) (A:Option Addr) (c:Nat) (ts:List Tok) (k:Nat) (ne:Int) (h:Par w b A c ts k ne) (u:FrameMode) (hn:-90000≤ne) :
  CallsD Tryz.prog 110 #[.pointer (some ⟨b,0,none⟩)] u w fun e u' w'=>u'=u∧(e=.returned (.tuple #[])∧Par w' b A c ts k (ne - 1)∧PFr b w w'):=by
 have HP:=Lib.hid h
 have c2:=h.c2
 have f2:=h.f2
 have hn1:=h.nest1
 clear h
 go_enter_d Tryz.func110,Tryz.ntmps110
 go_wp2
 go_end0
 exact ⟨rfl,HP.out.setNest (ne - 1) (by omega) (by omega),(PFr.refl b w).put 2 _⟩
def enterO (ts:List Tok) (k:Nat) (ne:Int):Out Unit:=if 64 < ne+1∧k < ts.length then .no 0 else .ok () k
theorem enter_any (w:World) (b:Nat) (A:Option Addr) (c:Nat) (ts:List Tok) (k:Nat) (ne:Int) (f:Nat→Addr) (h:Par w b A c ts k ne) (hn1:ne≤90000) (hE:PErrs w b f) :
  Calls Tryz.prog 109 #[.pointer (some ⟨b,0,none⟩)] w fun e w'=>Ends b A c ts (ne+1) f (fun _ v _=>v=.tuple #[]) w (enterO ts k ne) e w':=by
 have HP:=Lib.hid h
 have c2:=h.c2
 have f2:=h.f2
 have hn0:=h.nest0
 have HN:=Lib.hid (h.setNest (ne+1) (by omega) (by omega))
 have HM:=Lib.hid (more_any _ b A c ts k (ne+1) (h.setNest (ne+1) (by omega) (by omega)))
 have he2:=(hE.move ((PFr.refl b w).put 2 (.int .i64 (ne+1)))).nest
 unfold enterO
 clear h hE
 by_cases hd:64 < ne+1
 ·by_cases hl:k < ts.length
  ·simp only [hd,hl,and_self,if_true]
   have hdec:decide (k < ts.length)=true:=by simpa using hl
   rw [hdec] at HM
   clear hdec hl
   go_enter Tryz.func109,Tryz.ntmps109
   go_wp2_with (go_at_call 94;refine HM.out.mono ?_;rintro e w' ⟨rfl,q,rfl⟩)
   exact ⟨rfl,rfl,⟨_,_,HN.out.drewN q,Int.le_refl _⟩,((PFr.refl b w).put 2 _).drewN q⟩
  ·simp only [hl,and_false,if_false]
   have hdec:decide (k < ts.length)=false:=by simpa using hl
   rw [hdec] at HM
   clear hdec hl
   go_enter Tryz.func109,Tryz.ntmps109
   go_wp2_with (go_at_call 94;refine HM.out.mono ?_;rintro e w' ⟨rfl,q,rfl⟩)
   go_end0
   exact ⟨_,rfl,rfl,HN.out.drewN q,((PFr.refl b w).put 2 _).drewN q⟩
 ·simp only [hd,false_and,if_false]
  go_enter Tryz.func109,Tryz.ntmps109
  go_wp2_with fail
  go_end0
  exact ⟨_,rfl,rfl,HN.out,(PFr.refl b w).put 2 _⟩
end Lx
end Go.Proofs.YtiljemkglhloeaaGreatDoor
