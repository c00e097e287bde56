/- What a text comes to by a reading of its tokens; a frame but for two blocks. No conditions. -/
import Derived.Test.YtiljemkglhloeaaGreatDoorItemC
import Derived.Test.YtiljemkglhloeaaGreatDoorPlainA
import Derived.Recover
namespace Go.Proofs.YtiljemkglhloeaaGreatDoor
set_option linter.unusedSimpArgs false
set_option linter.unusedVariables false
namespace Lx
open Go Go.RowKit
/-- All that lay in w, but for blocks R and E, stands as it stood. -/
structure Fr2 (R E:Nat) (w w':World):Prop where
 os:w'.os=w.os
 tape:w'.tape=w.tape
 output:w'.output=w.output
 size:w.heap.size≤w'.heap.size
 block:∀ k,k < w.heap.size→k ≠ R→k ≠ E→w'.heap[k]?=w.heap[k]?
theorem Fr2.drew {R E:Nat} {w w':World} (h:Fr2 R E w w'):Fr2 R E w w'.drew:=⟨h.os,h.tape,h.output,h.size,h.block⟩
theorem fin2 {w:World} {R E:Nat} {T TE:TypeId} {C zc:Array Value} {y er:Value} (hR:w.heap[R]?=some (.cells C T (0,0))) (hs:zc.size=C.size) (hE:w.heap[E]?=some (.cells #[y] TE (0,0))) (hne:¬ R=E) (o:Obj) :
  (((w.setCells R 0 zc.toList).setCell ⟨E,0,none⟩ er).alloc o).heap[R]?=some (.cells zc T (0,0))∧(((w.setCells R 0 zc.toList).setCell ⟨E,0,none⟩ er).alloc o).heap[E]?=some (.cells #[er] TE (0,0))∧Fr2 R E w (((w.setCells R 0 zc.toList).setCell ⟨E,0,none⟩ er).alloc o):=by
 have hRl:R < w.heap.size:=(Array.getElem?_eq_some_iff.1 hR).1
 have hEl:E < w.heap.size:=(Array.getElem?_eq_some_iff.1 hE).1
 have hz:((w.setCells R 0 zc.toList).setCell ⟨E,0,none⟩ er).heap.size=w.heap.size:=by
  rw [show ((w.setCells R 0 zc.toList).setCell ⟨E,0,none⟩ er).heap.size=(w.setCells R 0 zc.toList).heap.size by simp [World.setCell],sets_size]
 refine ⟨(Below.heap_alloc _ o R (by rw [hz];exact hRl)).trans ((Below.heap_setCell _ ⟨E,0,none⟩ er R hne).trans (sets_all zc hR hs)),?_,?_⟩
 ·refine (Below.heap_alloc _ o E (by rw [hz];exact hEl)).trans ?_
  exact blk_put _ E 0 er ((sets_else R _ 0 w E (fun e=>hne e.symm)).trans hE) (by show 0 < 1;decide)
 ·refine ⟨(sets_os _ _ _ _).1,(sets_os _ _ _ _).2.1,(sets_os _ _ _ _).2.2,by simp [hz],fun k hk h1 h2=>?_⟩
  exact (Below.heap_alloc _ o k (by rw [hz];exact hk)).trans ((Below.heap_setCell _ ⟨E,0,none⟩ er k h2).trans (sets_else R _ 0 w k h1))
theorem results_two {P:Program} {fn:Func} {p q:Tmp} {tr te:TypeId} (h:fn.results=#[.cell p tr,.cell q te]) (tmps:Array Value) (w:World) (R E:Addr) (v er:Value) (hp:tmps.getD p undef=.pointer (some R)) (hq:tmps.getD q undef=.pointer (some E))
  (hR:(loadVar tr R).run P w=.ok v w) (hE:(loadVar te E).run P w=.ok er w):(results fn tmps).run P w=.ok (.tuple #[v,er]) w:=by
 have hp':tmps[p]?.getD undef=.pointer (some R):=by simpa using hp
 have hq':tmps[q]?.getD undef=.pointer (some E):=by simpa using hq
 simp [results,h,hp',hq',asAddr,hR,hE]
theorem load_err {w:World} {E:Nat} {er:Value} {T:TypeId} (h:w.heap[E]?=some (.cells #[er] T (0,0))):(loadVar 49 ⟨E,0,none⟩).run Tryz.prog w=.ok er w:=by
 have h0:w.cell? ⟨E,0,none⟩=some er:=(Lib.cell_of_heap h 0).trans rfl
 simp [loadVar,go_sem,h0]
/-- What a text comes to. -/
def textO {α:Type} (rd:List Tok→Out α) (s:ByteArray):Out α :=
 if 16384 < s.size then .no 1
 else if whole s.data.toList=false then .no 3
 else match rd (toks s.data.toList) with
  | .no i=>.no i
  | .ok x k=>if k < (toks s.data.toList).length then .no 2 else .ok x k
/-- The two results by what the text comes to. -/
def TextR {α:Type} (f:Nat→Addr) (V:Holds α) (zero:Value) (w w':World) (v er:Value):Out α→Prop
 | .no i=>v=zero∧er=errP (f i)
 | .ok x _=>er=.nilIface∧V x v w.heap.size w'.heap.size w'
theorem par_made {w1:World} {b E base:Nat} {A:Option Addr} {c:Nat} {ts:List Tok} (hpb:w1.heap[b]?=some (.cells #[.slice none 0 0,.int .i64 0,.int .i64 0] 111 (0,0))) (ho:w1.ownsRow base 162 3 (.slice A ts.length c) ts.length (cellsT ts))
  (hbb:b < base) (hEb:E < base) (hne:¬ b=E) (hts:ts.length≤16384) (v:Value) :
  Par ((w1.setCell ⟨b,0,none⟩ (.slice A ts.length c)).setCell ⟨E,0,none⟩ v) b A c ts 0 0∧(ts ≠ []→∀ g,A=some ⟨g,0,none⟩→base≤g):=by
 have ho':=ho
 refine ⟨⟨(Below.heap_setCell _ ⟨E,0,none⟩ _ b hne).trans (blk_put w1 b 0 _ hpb (by show 0 < 3;decide)),fun hn=>?_,hts,by decide,by decide,by decide⟩,fun hn g hg=>?_⟩
 ·rcases ho.2 with ⟨_,h0⟩ | ⟨g,cap,cur,hv,_⟩
  ·exact absurd (List.eq_nil_of_length_eq_zero h0) hn
  ·injection hv with hA _ hc
   subst hA
   subst hc
   have hl:=ho'.lt g rfl
   refine ⟨g,rfl,by omega,by simpa [World.setCell] using hl.2,fun j hj=>?_⟩
   have hbl:((w1.setCell ⟨b,0,none⟩ (.slice (some ⟨g,0,none⟩) ts.length c)).setCell ⟨E,0,none⟩ v).heap[g]?=w1.heap[g]?:=(Below.heap_setCell _ ⟨E,0,none⟩ _ g (by show g ≠ E;omega)).trans (Below.heap_setCell _ ⟨b,0,none⟩ _ g (by show g ≠ b;omega))
   exact (World.cell?_of_block (a:=⟨g,j,none⟩) hbl).trans (ho'.cellAt j (by omega))
 ·subst hg
  exact (ho'.lt g rfl).1
theorem Par.beside {X Y:World} {b:Nat} {A:Option Addr} {c:Nat} {ts:List Tok} {k:Nat} {ne:Int} {N:Nat} (hp:Par X b A c ts k ne) (hs:Y.heap.size=X.heap.size) (hY:∀ j,j ≠ N→Y.heap[j]?=X.heap[j]?) (hb:¬ b=N) (hg:ts ≠ []→∀ g,A=some ⟨g,0,none⟩→¬ g=N):Par Y b A c ts k ne :=
 ⟨(hY b hb).trans hp.blk,fun hn=>by
  obtain ⟨g,e,h1,h2,h3⟩:=hp.row hn
  exact ⟨g,e,h1,by rw [hs];exact h2,fun j hj=>(World.cell?_of_block (a:=⟨g,j,none⟩) (hY g (hg hn g e))).trans (h3 j hj)⟩,hp.few,hp.near,hp.nest0,hp.nest1⟩
theorem PFr.fr2 {b R E:Nat} {w x y:World} (h:PFr b w x) (h2:Fr2 R E x y) (hR:w.heap.size≤R) (hE:w.heap.size≤E):PFr b w y :=
 ⟨h2.os.trans h.os,h2.tape.trans h.tape,h2.output.trans h.output,Nat.le_trans h.size h2.size,fun k hk hn=>(h2.block k (Nat.lt_of_lt_of_le hk h.size) (by omega) (by omega)).trans (h.block k hk hn)⟩
theorem PFr.sets {b:Nat} {w x:World} (h:PFr b w x) {N:Nat} (hN:w.heap.size≤N) (l:List Value):PFr b w (x.setCells N 0 l) :=
 ⟨(sets_os _ _ _ _).1.trans h.os,(sets_os _ _ _ _).2.1.trans h.tape,(sets_os _ _ _ _).2.2.trans h.output,by rw [sets_size];exact h.size,fun j hj hn=>(sets_else _ _ _ _ j (by omega)).trans (h.block j hj hn)⟩
theorem fin3 {w:World} {R E:Nat} {T TE:TypeId} {C zc:Array Value} {y er:Value} (hR:w.heap[R]?=some (.cells C T (0,0))) (hs:zc.size=C.size) (hE:w.heap[E]?=some (.cells #[y] TE (0,0))) (hne:¬ R=E) (o o2:Obj) :
  ((((w.setCells R 0 zc.toList).setCell ⟨E,0,none⟩ er).alloc o).alloc o2).heap[R]?=some (.cells zc T (0,0))∧((((w.setCells R 0 zc.toList).setCell ⟨E,0,none⟩ er).alloc o).alloc o2).heap[E]?=some (.cells #[er] TE (0,0))∧Fr2 R E w ((((w.setCells R 0 zc.toList).setCell ⟨E,0,none⟩ er).alloc o).alloc o2):=by
 obtain ⟨h1,h2,h3⟩:=fin2 (er:=er) hR hs hE hne o
 have hRl:=(Array.getElem?_eq_some_iff.1 h1).1
 have hEl:=(Array.getElem?_eq_some_iff.1 h2).1
 refine ⟨(Below.heap_alloc _ o2 R hRl).trans h1,(Below.heap_alloc _ o2 E hEl).trans h2,h3.os,h3.tape,h3.output,Nat.le_trans h3.size (by simp),fun k hk a b=>(Below.heap_alloc _ o2 k (Nat.lt_of_lt_of_le hk h3.size)).trans (h3.block k hk a b)⟩
theorem sizeTerm:(Tryz.prog.info? 28).map (·.size)=some 4:=by kernel_rfl
theorem load_term {w:World} {R:Nat} {C:Array Value} (h:w.heap[R]?=some (.cells C 28 (0,0))) (hC:C.size=4:=by rfl):(loadVar 28 ⟨R,0,none⟩).run Tryz.prog w=.ok (.agg C) w:=by
 have:=run_loadVar_mid (P:=Tryz.prog) w R 0 28 C.toList _ (range_all h) Tryz.underlying28 rfl (by rw [sizeTerm];simp [hC])
 simpa using this
/-- What a reading of all tokens comes to: nothing may be left. -/
def endO {α:Type} (n:Nat):Out α→Out α
 | .no i=>.no i
 | .ok x k=>if k < n then .no 2 else .ok x k
theorem Errs.below {w w':World} {el et:Value} (h:Errs w el et) (hs:20 < w.heap.size) (hb:Below w.heap.size w w'):Errs w' el et :=
 ⟨(hb.cell (p:=⟨0,0,none⟩) (by simp;omega)).trans h.large,(hb.cell (p:=⟨2,0,none⟩) (by simp;omega)).trans h.text,h.islarge,h.istext⟩
/-- The four errors of package api that a reading gives. -/
structure Errs4 (w:World) (f:Nat→Addr):Prop where
 nest:w.cell? ⟨4,0,none⟩=some (errP (f 0))
 large:w.cell? ⟨0,0,none⟩=some (errP (f 1))
 syn:w.cell? ⟨3,0,none⟩=some (errP (f 2))
 text:w.cell? ⟨2,0,none⟩=some (errP (f 3))
theorem Errs4.below {w w':World} {f:Nat→Addr} (h:Errs4 w f) (hb:Below w.heap.size w w'):Errs4 w' f :=
 ⟨(hb.cell (World.block_lt_of_cell? w _ h.nest)).trans h.nest,(hb.cell (World.block_lt_of_cell? w _ h.large)).trans h.large,(hb.cell (World.block_lt_of_cell? w _ h.syn)).trans h.syn,(hb.cell (World.block_lt_of_cell? w _ h.text)).trans h.text⟩
theorem Errs4.errs {w:World} {f:Nat→Addr} (h:Errs4 w f):Errs w (errP (f 1)) (errP (f 3)):=⟨h.large,h.text,⟨_,_,rfl⟩,⟨_,_,rfl⟩⟩
theorem Errs4.perrs {w:World} {f:Nat→Addr} (h:Errs4 w f) (o:Obj):PErrs (w.alloc o) w.heap.size f:=by
 have hb:Below w.heap.size w (w.alloc o):=(Below.refl _ w).alloc (Nat.le_refl _) o
 have h':=h.below hb
 exact ⟨h'.nest,h'.large,h'.syn,Nat.ne_of_lt (World.block_lt_of_cell? w _ h.nest),Nat.ne_of_lt (World.block_lt_of_cell? w _ h.large),Nat.ne_of_lt (World.block_lt_of_cell? w _ h.syn)⟩
end Lx
end Go.Proofs.YtiljemkglhloeaaGreatDoor
