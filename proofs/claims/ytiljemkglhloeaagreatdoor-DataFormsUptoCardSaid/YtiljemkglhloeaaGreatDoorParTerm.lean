/- The contracts of package parse's arguments and term: what a term is, held in cells; or the panic. Conditions: the parser's block is its own; at most 16384 tokens. -/
import Derived.Test.YtiljemkglhloeaaGreatDoorParRow
import Derived.Defers
namespace Go.Proofs.YtiljemkglhloeaaGreatDoor
set_option linter.unusedSimpArgs false
set_option linter.unusedVariables false
namespace Lx
open Go Go.RowKit
def ArgsV {α:Type} (t:TypeId) (sz:Nat) (V:Holds α):Holds (List α):=fun l v lo hi w=>(l=[]∧v=.slice none 0 0) ∨ RowV t sz V l v lo hi w
theorem Items.same {α:Type} {V:Holds α} (hV:Stable V) {lo hi own:Nat} {w w':World} (h:∀ k,lo≤k→k < hi→w'.heap[k]?=w.heap[k]?) {l:List α} {vs:List Value} (hi':Items V lo hi own w l vs):Items V lo hi own w' l vs :=
 Items.step hV (fun k k1 k2 _=>h k k1 k2) (Nat.le_refl _) (.inl rfl) hi'
theorem RowV.stable {α:Type} (t:TypeId) (sz:Nat) {V:Holds α} (hV:Stable V):Stable (RowV t sz V):=by
 rintro l v lo hi w w' ⟨g,cap,vs,rfl,hg,hown,hit⟩ h
 have hlo:=(hown.lt g rfl).1
 refine ⟨g,cap,vs,rfl,hg,⟨hown.1,?_⟩,hit.same hV h⟩
 rcases hown.2 with h1 | ⟨g1,c1,cur,h1,h2,h3,h4⟩
 ·exact .inl h1
 ·refine .inr ⟨g1,c1,cur,h1,h2,?_,h4⟩
  simp only [Value.slice.injEq,Option.some.injEq,Addr.mk.injEq] at h1
  obtain ⟨⟨rfl,_⟩,_⟩:=h1
  rw [h g hlo hg]
  exact h3
theorem Items.wide {α:Type} {V:Holds α} {lo hi lo' hi' own:Nat} {w:World} (h1:lo'≤lo) (h2:hi≤hi'):∀ {l:List α} {vs:List Value},Items V lo hi own w l vs→Items V lo' hi' own w l vs
 | [],[],_=>trivial
 | _ :: _,_ :: _,⟨⟨p,q,a1,a2,a3,a4⟩,a5⟩=>⟨⟨p,q,by omega,by omega,a3,a4⟩,Items.wide h1 h2 a5⟩
 | [],_ :: _,h=>h.elim
 | _ :: _,[],h=>h.elim
theorem own_wide {w:World} {lo lo' sz n:Nat} {e:TypeId} {v:Value} {xs:List Value} (h:w.ownsRow lo e sz v n xs) (h1:lo'≤lo):w.ownsRow lo' e sz v n xs:=by
 refine ⟨h.1,?_⟩
 rcases h.2 with h2 | ⟨g1,c1,cur,a1,a2,a3⟩
 ·exact .inl h2
 ·exact .inr ⟨g1,c1,cur,a1,by omega,a3⟩
theorem RowV.wide {α:Type} {t:TypeId} {sz:Nat} {V:Holds α} {l:List α} {v:Value} {lo hi lo' hi':Nat} {w:World} (h:RowV t sz V l v lo hi w) (h1:lo'≤lo) (h2:hi≤hi'):RowV t sz V l v lo' hi' w:=by
 obtain ⟨g,cap,vs,rfl,hg,hown,hit⟩:=h
 exact ⟨g,cap,vs,rfl,by omega,own_wide hown h1,hit.wide h1 h2⟩
theorem ArgsV.wide {α:Type} {t:TypeId} {sz:Nat} {V:Holds α} {l:List α} {v:Value} {lo hi lo' hi':Nat} {w:World} (h:ArgsV t sz V l v lo hi w) (h1:lo'≤lo) (h2:hi≤hi'):ArgsV t sz V l v lo' hi' w:=by
 rcases h with h | h
 ·exact .inl h
 ·exact .inr (h.wide h1 h2)
theorem ArgsV.stable {α:Type} (t:TypeId) (sz:Nat) {V:Holds α} (hV:Stable V):Stable (ArgsV t sz V):=by
 rintro l v lo hi w w' (h1 | h1) h
 ·exact .inl h1
 ·exact .inr (RowV.stable t sz hV _ _ _ _ _ _ h1 h)
theorem ArgsV.slice {α:Type} {t:TypeId} {sz:Nat} {V:Holds α} {l:List α} {v:Value} {lo hi:Nat} {w:World} (h:ArgsV t sz V l v lo hi w):∃ s n c,v=.slice s n c:=by
 rcases h with ⟨_,rfl⟩ | ⟨g,cap,vs,rfl,_⟩
 ·exact ⟨_,_,_,rfl⟩
 ·exact ⟨_,_,_,rfl⟩
/-- A term's cells, its arguments so many rows deep. -/
def TermV:Nat→Holds TermT
 | 0=>fun _ _ _ _ _=>False
 | d+1=>fun x v lo hi w=>match x with
  | .mk k s z l=>∃ va,v=.agg #[.int .i64 k,.string (bs s),.int .i64 z,va]∧ArgsV 28 4 (TermV d) l va lo hi w
theorem TermV.wide:∀ (d:Nat) (x:TermT) (v:Value) (lo hi lo' hi':Nat) (w:World),TermV d x v lo hi w→lo'≤lo→hi≤hi'→TermV d x v lo' hi' w
 | 0,_,_,_,_,_,_,_,h,_,_=>h.elim
 | _+1,⟨_,_,_,_⟩,_,_,_,_,_,_,⟨va,hv,ha⟩,h1,h2=>⟨va,hv,ha.wide h1 h2⟩
theorem TermV.stable:∀ d,Stable (TermV d)
 | 0=>fun _ _ _ _ _ _ h _=>h.elim
 | d+1=>by
  rintro ⟨k,s,z,l⟩ v lo hi w w' ⟨va,hv,ha⟩ h
  exact ⟨va,hv,ArgsV.stable _ _ (TermV.stable d) _ _ _ _ _ _ ha h⟩
theorem TermV.this:∀ d,ThisTerm (TermV d)
 | 0=>fun _ _ _ _ _ h=>h.elim
 | d+1=>by
  rintro ⟨k,s,z,l⟩ v lo hi w ⟨va,rfl,ha⟩
  rcases ha with ⟨_,rfl⟩ | ⟨g,cap,vs,rfl,_⟩
  ·exact ⟨_,_,_,_,_,_,rfl⟩
  ·exact ⟨_,_,_,_,_,_,rfl⟩
set_option maxRecDepth 100000 in
set_option maxHeartbeats 2000000 in
theorem argsTerm_any (b:Nat) (A:Option Addr) (c:Nat) (ts:List Tok) (ne:Int) (f:Nat→Addr) (V:Holds TermT) (hV:Stable V) (hT:ThisTerm V) (rd:Nat→Out TermT) (hrd:Fwd ts rd)
  (HR:Hid (∀ w k,Par w b A c ts k ne→PErrs w b f→k≤ts.length→Calls Tryz.prog 86 #[.pointer (some ⟨b,0,none⟩)] w fun e w'=>EndsV b A c ts ne f V w (rd k) e w'))
  (w:World) (k:Nat) (h:Par w b A c ts k ne) (hE:PErrs w b f) (hk:k≤ts.length) :
  Calls Tryz.prog 114 #[.pointer (some ⟨b,0,none⟩),.func (.func 86) #[.pointer (some ⟨b,0,none⟩)] #[]] w fun e w'=>EndsV b A c ts ne f (ArgsV 28 4 V) w (argsO rd ts k) e w':=by
 have HP:=Lib.hid h
 have HE:=Lib.hid hE
 have hfw:=h.few
 have HA:=Lib.hid (accept_any w b A c ts k ne ⟨#[40]⟩ h (by omega))
 rw [hasT_eq] at HA
 unfold argsO
 have e40:(ByteArray.mk #[40]).data.toList=[40]:=rfl
 rw [e40] at HA
 clear h hE e40
 cases hh:hasT ts k [40] with
 | false =>
  rw [hh] at HA
  simp only [Bool.false_eq_true,if_false] at HA ⊢
  go_enter Tryz.func114,Tryz.ntmps114
  go_wp2_with (go_at_call 123;refine HA.out.mono ?_;rintro e w2 ⟨rfl,hp2,hf2⟩)
  go_ret
  exact ⟨_,rfl,.inl ⟨rfl,rfl⟩,hp2,hf2⟩
 | true =>
  rw [hh] at HA
  simp only [if_true] at HA ⊢
  have hin:k < ts.length:=hasT_in hh (by decide)
  have HRow:=Lib.hid (fun w h hE=>rowTerm_any b A c ts ne f V hV hT rd hrd ⟨#[44]⟩ 8 (by decide) HR w (k+1) h hE (by omega))
  have e44:(ByteArray.mk #[44]).data.toList=[44]:=rfl
  rw [e44] at HRow
  clear e44
  cases hr:rowO rd ts [44] 8 (k+1) with
  | no i =>
   rw [hr] at HRow
   go_enter Tryz.func114,Tryz.ntmps114
   go_wp2_with (first | (go_at_call 123;refine HA.out.mono ?_;rintro e w2 ⟨rfl,hp2,hf2⟩) | (go_at_call 133;refine (HRow.out _ hp2 (HE.out.move hf2)).mono ?_;rintro e w3 ⟨rfl,h2,h3⟩))
   exact ⟨rfl,rfl,h2,hf2.trans h3⟩
  | ok l k2 =>
   rw [hr] at HRow
   obtain ⟨hk1,hk2⟩:=rowO_fwd hrd _ _ _ _ _ hr
   have HX:=Lib.hid (fun w h hE=>expect_any w b A c ts k2 ne f ⟨#[41]⟩ h (by omega) hE)
   rw [expO_eq] at HX
   have e41:(ByteArray.mk #[41]).data.toList=[41]:=rfl
   rw [e41] at HX
   clear e41
   show Calls _ _ _ _ fun e w'=>EndsV b A c ts ne f (ArgsV 28 4 V) w (match expO ts k2 [41] with | .no i=>.no i | .ok _ k2=>.ok l k2) e w'
   cases hx:expO ts k2 [41] with
   | no i =>
    rw [hx] at HX
    go_enter Tryz.func114,Tryz.ntmps114
    go_wp2_with (first | (go_at_call 123;refine HA.out.mono ?_;rintro e w2 ⟨rfl,hp2,hf2⟩) | (go_at_call 133;refine (HRow.out _ hp2 (HE.out.move hf2)).mono ?_;rintro e w3 ⟨v3,rfl,hv3,hp3,hf3⟩;obtain ⟨g,cap,vs,rfl,hg3⟩:=hv3;have HG:=Lib.hid hg3;clear hg3) | (go_at_call 96;refine (HX.out _ hp3 (HE.out.move (hf2.trans hf3))).mono ?_;rintro e w4 ⟨rfl,h2,h3⟩))
    exact ⟨rfl,rfl,h2,(hf2.trans hf3).trans h3⟩
   | ok u k3 =>
    rw [hx] at HX
    go_enter Tryz.func114,Tryz.ntmps114
    go_wp2_with (first | (go_at_call 123;refine HA.out.mono ?_;rintro e w2 ⟨rfl,hp2,hf2⟩) | (go_at_call 133;refine (HRow.out _ hp2 (HE.out.move hf2)).mono ?_;rintro e w3 ⟨v3,rfl,hv3,hp3,hf3⟩;obtain ⟨g,cap,vs,rfl,hg3⟩:=hv3;have HG:=Lib.hid hg3;clear hg3) | (go_at_call 96;refine (HX.out _ hp3 (HE.out.move (hf2.trans hf3))).mono ?_;rintro e w4 ⟨v4,rfl,rfl,hp4,hf4⟩))
    go_ret
    refine ⟨_,rfl,.inr ?_,hp4,(hf2.trans hf3).trans hf4⟩
    have hrow:RowV 28 4 V l (.slice (some ⟨g,0,none⟩) l.length cap) w2.heap.size w3.heap.size w3:=⟨g,cap,vs,rfl,HG.out⟩
    have h4:=RowV.stable 28 4 hV _ _ _ _ _ w4 hrow (fun j j1 j2=>hf4.block j j2 (by have:=hp2.lt;omega))
    exact RowV.wide h4 hf2.size hf4.size
/-- The variable of a term's result, behind the readings. -/
theorem box4 {w w':World} {o:Obj} {b:Nat} {cs:Array Value} (hf:PFr b (w.alloc o) w') (hb:b < w.heap.size) (h:(w.alloc o).heap[w.heap.size]?=some (.cells cs 28 (0,0))):w'.heap[w.heap.size]?=some (.cells cs 28 (0,0)) :=
 (hf.block w.heap.size (by simp) (Nat.ne_of_gt hb)).trans h
theorem put4 {w w3:World} {o:Obj} {b:Nat} {A:Option Addr} {c:Nat} {ts:List Tok} {k k':Nat} {ne ne':Int} {y0 y1 y2 y3:Value} (h:Par w b A c ts k ne) (hf:PFr b (w.alloc o) w3) (hp:Par w3 b A c ts k' ne')
  (hb:w3.heap[w.heap.size]?=some (.cells #[y0,y1,y2,y3] 28 (0,0))) (x0 x1 x2 x3:Value) :
  ((((w3.setCell ⟨w.heap.size,0,none⟩ x0).setCell ⟨w.heap.size,1,none⟩ x1).setCell ⟨w.heap.size,2,none⟩ x2).setCell ⟨w.heap.size,3,none⟩ x3).heap[w.heap.size]?=some (.cells #[x0,x1,x2,x3] 28 (0,0)) ∧
  Par ((((w3.setCell ⟨w.heap.size,0,none⟩ x0).setCell ⟨w.heap.size,1,none⟩ x1).setCell ⟨w.heap.size,2,none⟩ x2).setCell ⟨w.heap.size,3,none⟩ x3) b A c ts k' ne' ∧
  PFr b w ((((w3.setCell ⟨w.heap.size,0,none⟩ x0).setCell ⟨w.heap.size,1,none⟩ x1).setCell ⟨w.heap.size,2,none⟩ x2).setCell ⟨w.heap.size,3,none⟩ x3):=by
 have hfr:=(((((((PFr.refl b w).alloc o).trans hf).putNew (Nat.le_refl _) 0 x0).putNew (Nat.le_refl _) 1 x1).putNew (Nat.le_refl _) 2 x2).putNew (Nat.le_refl _) 3 x3)
 have hn:b ≠ w.heap.size:=Nat.ne_of_lt h.lt
 refine ⟨blk_put _ _ 3 x3 (blk_put _ _ 2 x2 (blk_put _ _ 1 x1 (blk_put w3 _ 0 x0 hb (by show 0 < 4;decide)) (by show 1 < 4;decide)) (by show 2 < 4;decide)) (by show 3 < 4;decide),h.move hfr ?_ hp.near hp.nest0 hp.nest1,hfr⟩
 rw [Below.heap_setCell _ _ _ b hn,Below.heap_setCell _ _ _ b hn,Below.heap_setCell _ _ _ b hn,Below.heap_setCell _ _ _ b hn]
 exact hp.blk
/-- The end of a term's reading: the deferred leave, then the result. -/
theorem term_door {b:Nat} {A:Option Addr} {c:Nat} {ts:List Tok} {ne:Int} {f:Nat→Addr} {m:Nat} {w X:World} {k':Nat} {x:TermT} {x0 x1 x2 x3:Value} {tmps:Array Value} (h0:0≤ne) (hb:b < w.heap.size)
  (ht:tmps[2]?.getD undef=.pointer (some ⟨w.heap.size,0,none⟩)) (hX:X.heap[w.heap.size]?=some (.cells #[x0,x1,x2,x3] 28 (0,0))) (hp:Par X b A c ts k' (ne+1)) (hf:PFr b w X) (hV:TermV (m+1) x (.agg #[x0,x1,x2,x3]) w.heap.size X.heap.size X) :
  bodyPostD Tryz.prog Tryz.f86 (fun e w'=>EndsV b A c ts ne f (TermV (m+1)) w (.ok x k') e w') Exit.ret { tmps:=tmps,defers:=[{ target:=Target.fn (Fn.func 110) #[],args:=#[.pointer (some ⟨b,0,none⟩)] }] } X:=by
 refine leaves_cons (f:=110) (args:=#[.pointer (some ⟨b,0,none⟩)]) (by simp) (by simp [go_sem]) ?_
 refine (leave_any X b A c ts k' (ne+1) hp .returning (by omega)).mono ?_
 rintro e u' w' ⟨rfl,rfl,hp',hf'⟩
 have hbx:=(hf'.block w.heap.size (Array.getElem?_eq_some_iff.1 hX).1 (Nat.ne_of_gt hb)).trans hX
 have d0:=(Lib.cell_of_heap hbx 0).trans rfl
 have d1:=(Lib.cell_of_heap hbx 1).trans rfl
 have d2:=(Lib.cell_of_heap hbx 2).trans rfl
 have d3:=(Lib.cell_of_heap hbx 3).trans rfl
 have e1:ne+1 - 1=ne:=by omega
 rw [e1] at hp'
 refine ⟨.agg #[x0,x1,x2,x3],by simp [results,Tryz.results86,go_sem,ht,d0,d1,d2,d3],_,rfl,?_,hp',hf.trans hf'⟩
 exact TermV.wide _ _ _ _ _ _ _ _ (TermV.stable _ _ _ _ _ _ w' hV (fun j j1 j2=>hf'.block j j2 (by omega))) (Nat.le_refl _) hf'.size
theorem term_fall {b:Nat} {A:Option Addr} {c:Nat} {ts:List Tok} {ne:Int} {f:Nat→Addr} {m i:Nat} {w X:World} {tmps:Array Value} (h0:0≤ne) (hp:∃ k' ne',Par X b A c ts k' ne'∧ne+1≤ne') (hf:PFr b w X) :
  bodyPostD Tryz.prog Tryz.f86 (fun e w'=>EndsV b A c ts ne f (TermV (m+1)) w (.no i) e w') (Exit.panic [{ v:=.iface 151 (.agg #[errP (f i)]),recovered:=false }]) { tmps:=tmps,defers:=[{ target:=Target.fn (Fn.func 110) #[],args:=#[.pointer (some ⟨b,0,none⟩)] }] } X:=by
 obtain ⟨k',ne',hp,hn⟩:=hp
 refine leaves_cons (f:=110) (args:=#[.pointer (some ⟨b,0,none⟩)]) (by simp) (by simp [go_sem]) ?_
 refine (leave_any X b A c ts k' ne' hp (.panicking _) (by omega)).mono ?_
 rintro e u' w' ⟨rfl,rfl,hp',hf'⟩
 exact ⟨rfl,⟨_,_,hp',by omega⟩,hf.trans hf'⟩
set_option maxRecDepth 100000 in
set_option maxHeartbeats 4000000 in
theorem term_step (b:Nat) (A:Option Addr) (c:Nat) (ts:List Tok) (f:Nat→Addr) (m:Nat) (ne:Int) (h0:0≤ne) (h1:ne≤70000)
  (HR:Hid (ne < 64→∀ w k,Par w b A c ts k (ne+1)→PErrs w b f→k≤ts.length→Calls Tryz.prog 86 #[.pointer (some ⟨b,0,none⟩)] w fun e w'=>EndsV b A c ts (ne+1) f (TermV m) w (termO ts m (ne+1) k) e w'))
  (w:World) (k:Nat) (h:Par w b A c ts k ne) (hE:PErrs w b f) (hk:k≤ts.length) :
  Calls Tryz.prog 86 #[.pointer (some ⟨b,0,none⟩)] w fun e w'=>EndsV b A c ts ne f (TermV (m+1)) w (termO ts (m+1) ne k) e w':=by
 have HP:=Lib.hid h
 have HE:=Lib.hid hE
 have hfw:=h.few
 have H1:=Lib.hid (fun w h hE=>enter_any w b A c ts k ne f h (by omega) hE)
 have H2:=Lib.hid (fun w h=>peek_any w b A c ts k (ne+1) h)
 have H3:=Lib.hid (fun w h hE=>name_any w b A c ts k (ne+1) f h (by omega) hE)
 have H4:=Lib.hid (fun w h=>next_any w b A c ts k (ne+1) h (by omega))
 have HLV:=Lib.hid (fun w k h u=>leave_any w b A c ts k (ne+1) h u (by omega))
 have HEO:=Lib.hid (show 64 < ne+1∧k < ts.length→enterO ts k ne=.no 0 from fun h=>by simp [enterO,h])
 rw [termO]
 clear h hE
 cases he:enterO ts k ne with
 | no i =>
  rw [he] at H1
  go_enter_defers Tryz.func86,Tryz.ntmps86
  go_wp2_with (go_at_call 109;refine (H1.out _ (HP.out.alloc _) (HE.out.move ((PFr.refl b w).alloc _))).mono ?_;rintro e w1 ⟨rfl,h2,h3⟩)
  obtain ⟨kq,nq,hpq,hnq⟩:=h2
  exact ⟨rfl,⟨kq,nq,hpq,by omega⟩,((PFr.refl b w).alloc _).trans h3⟩
 | ok u ku =>
  obtain rfl:ku=k:=by
   unfold enterO at he
   split at he
   ·cases he
   ·injection he with _ h2;exact h2.symm
  rw [he] at H1
  by_cases hx2:(peekT ts ku).kind=2
  ·simp only [hx2,if_true]
   rw [hx2] at H2 H4
   generalize (peekT ts ku).text=y at *
   generalize (peekT ts ku).num=z at *
   have q0:=tokF0 2 z (bs y)
   have q1:=tokF1 2 z (bs y)
   go_enter_defers Tryz.func86,Tryz.ntmps86
   go_wp2_with (first | (go_at_call 109;refine (H1.out _ (HP.out.alloc _) (HE.out.move ((PFr.refl b w).alloc _))).mono ?_;rintro e w1 ⟨v,rfl,rfl,hp1,hf1⟩) | (go_at_call 111;refine (H2.out _ hp1).mono ?_;rintro e w2 ⟨rfl,hp2,hf2⟩) | (go_at_call 112;refine (H4.out _ hp2).mono ?_;rintro e w3 ⟨rfl,hp3,hf3⟩;have hb:=box4 (hf1.trans (hf2.trans hf3)) HP.out.lt (heap_alloc_new w _);have d0:=(Lib.cell_of_heap hb 0).trans rfl;have d1:=(Lib.cell_of_heap hb 1).trans rfl;have d2:=(Lib.cell_of_heap hb 2).trans rfl;have d3:=(Lib.cell_of_heap hb 3).trans rfl;have g0:=Lib.frozen_of_heap hb 0;have g1:=Lib.frozen_of_heap hb 1;have g2:=Lib.frozen_of_heap hb 2;have g3:=Lib.frozen_of_heap hb 3;have HB:=Lib.hid hb;clear hb))
   obtain ⟨t1,t2,t3⟩:=put4 HP.out (hf1.trans (hf2.trans hf3)) hp3 HB.out (.int .i64 1) (.string (bs y)) (.int .i64 0) (.slice none 0 0)
   exact term_door (x0:=.int .i64 1) (x1:=.string (bs y)) (x2:=.int .i64 0) (x3:=.slice none 0 0) h0 HP.out.lt rfl t1 t2 t3 ⟨_,rfl,.inl ⟨rfl,rfl⟩⟩
  ·by_cases hx3:(peekT ts ku).kind=3
   ·simp only [hx3,show (3:Int) ≠ 2 from by decide,if_true,if_false]
    rw [hx3] at H2 H4
    generalize bs (peekT ts ku).text=y at *
    generalize (peekT ts ku).num=z at *
    clear hx2 hx3
    have q0:=tokF0 3 z y
    have q2:=tokF2 3 z y
    go_enter_defers Tryz.func86,Tryz.ntmps86
    go_wp2_with (first | (go_at_call 109;refine (H1.out _ (HP.out.alloc _) (HE.out.move ((PFr.refl b w).alloc _))).mono ?_;rintro e w1 ⟨v,rfl,rfl,hp1,hf1⟩) | (go_at_call 111;refine (H2.out _ hp1).mono ?_;rintro e w2 ⟨rfl,hp2,hf2⟩) | (go_at_call 112;refine (H4.out _ hp2).mono ?_;rintro e w3 ⟨rfl,hp3,hf3⟩;have hb:=box4 (hf1.trans (hf2.trans hf3)) HP.out.lt (heap_alloc_new w _);have d0:=(Lib.cell_of_heap hb 0).trans rfl;have d1:=(Lib.cell_of_heap hb 1).trans rfl;have d2:=(Lib.cell_of_heap hb 2).trans rfl;have d3:=(Lib.cell_of_heap hb 3).trans rfl;have g0:=Lib.frozen_of_heap hb 0;have g1:=Lib.frozen_of_heap hb 1;have g2:=Lib.frozen_of_heap hb 2;have g3:=Lib.frozen_of_heap hb 3;have HB:=Lib.hid hb;clear hb))
    obtain ⟨t1,t2,t3⟩:=put4 HP.out (hf1.trans (hf2.trans hf3)) hp3 HB.out (.int .i64 2) (.string ⟨#[]⟩) (.int .i64 z) (.slice none 0 0)
    exact term_door (x0:=.int .i64 2) (x1:=.string ⟨#[]⟩) (x2:=.int .i64 z) (x3:=.slice none 0 0) h0 HP.out.lt rfl t1 t2 t3 ⟨_,rfl,.inl ⟨rfl,rfl⟩⟩
   ·simp only [hx2,hx3,if_false]
    have hs2:((peekT ts ku).kind == 2)=false:=by simpa using hx2
    have hs3:((peekT ts ku).kind == 3)=false:=by simpa using hx3
    have hlt:nameO ts ku ≠ .no 2→ku < ts.length:=fun hne=>by
     rcases hq:nameO ts ku with ⟨s,k1⟩ | i
     ·have:=nameO_fwd ts _ _ _ hq;omega
     ·unfold nameO at hq hne
      split at hq
      ·cases hq
      ·rename_i hc;rw [if_neg hc] at hne;exact absurd rfl hne
    have q0:=tokF0 (peekT ts ku).kind (peekT ts ku).num (bs (peekT ts ku).text)
    generalize (peekT ts ku).kind=x at *
    generalize bs (peekT ts ku).text=y at *
    generalize (peekT ts ku).num=z at *
    cases hno:nameO ts ku with
    | no i =>
     rw [hno] at H3
     clear hx2 hx3 hlt hno
     go_enter_defers Tryz.func86,Tryz.ntmps86
     go_wp2_with (first | (go_at_call 109;refine (H1.out _ (HP.out.alloc _) (HE.out.move ((PFr.refl b w).alloc _))).mono ?_;rintro e w1 ⟨v,rfl,rfl,hp1,hf1⟩) | (go_at_call 111;refine (H2.out _ hp1).mono ?_;rintro e w2 ⟨rfl,hp2,hf2⟩) | (go_at_call 113;refine (H3.out _ hp2 ((HE.out.move ((PFr.refl b w).alloc _)).move (hf1.trans hf2))).mono ?_;rintro e w3 ⟨rfl,h2,h3⟩))
     exact term_fall h0 h2 (((PFr.refl b w).alloc _).trans (hf1.trans (hf2.trans h3)))
    | ok s k1 =>
     have hf:=nameO_fwd ts _ _ _ hno
     have hne64:ne < 64:=by
      rcases Int.lt_or_le ne 64 with h | h
      ·exact h
      ·have:=HEO.out ⟨by omega,by omega⟩
       rw [he] at this
       cases this
     rw [hno] at H3
     have HARG:=Lib.hid (fun w h hE=>argsTerm_any b A c ts (ne+1) f (TermV m) (TermV.stable m) (TermV.this m) (termO ts m (ne+1)) (termO_fwd ts m (ne+1)) (Lib.hid (HR.out hne64)) w k1 h hE hf.2)
     show Calls _ _ _ _ fun e w'=>EndsV b A c ts ne f (TermV (m+1)) w (match argsO (termO ts m (ne+1)) ts k1 with | .no i=>.no i | .ok l k2=>.ok (.mk 3 s 0 l) k2) e w'
     clear hx2 hx3 hlt hno hne64 hf
     cases ha:argsO (termO ts m (ne+1)) ts k1 with
     | no i =>
      rw [ha] at HARG
      go_enter_defers Tryz.func86,Tryz.ntmps86
      go_wp2_with (first | (go_at_call 109;refine (H1.out _ (HP.out.alloc _) (HE.out.move ((PFr.refl b w).alloc _))).mono ?_;rintro e w1 ⟨v,rfl,rfl,hp1,hf1⟩) | (go_at_call 111;refine (H2.out _ hp1).mono ?_;rintro e w2 ⟨rfl,hp2,hf2⟩) | (go_at_call 113;refine (H3.out _ hp2 ((HE.out.move ((PFr.refl b w).alloc _)).move (hf1.trans hf2))).mono ?_;rintro e w3 ⟨v,rfl,rfl,hp3,hf3⟩) | (go_at_call 114;refine (HARG.out _ hp3 ((HE.out.move ((PFr.refl b w).alloc _)).move (hf1.trans (hf2.trans hf3)))).mono ?_;rintro e w4 ⟨rfl,h2,h3⟩))
      exact term_fall h0 h2 (((PFr.refl b w).alloc _).trans (hf1.trans (hf2.trans (hf3.trans h3))))
     | ok l k2 =>
      rw [ha] at HARG
      go_enter_defers Tryz.func86,Tryz.ntmps86
      go_wp2_with (first | (go_at_call 109;refine (H1.out _ (HP.out.alloc _) (HE.out.move ((PFr.refl b w).alloc _))).mono ?_;rintro e w1 ⟨v,rfl,rfl,hp1,hf1⟩) | (go_at_call 111;refine (H2.out _ hp1).mono ?_;rintro e w2 ⟨rfl,hp2,hf2⟩) | (go_at_call 113;refine (H3.out _ hp2 ((HE.out.move ((PFr.refl b w).alloc _)).move (hf1.trans hf2))).mono ?_;rintro e w3 ⟨v,rfl,rfl,hp3,hf3⟩) | (go_at_call 114;refine (HARG.out _ hp3 ((HE.out.move ((PFr.refl b w).alloc _)).move (hf1.trans (hf2.trans hf3)))).mono ?_;rintro e w4 ⟨v4,rfl,hv4,hp4,hf4⟩;obtain ⟨s1,s2,s3,rfl⟩:=hv4.slice;have HV4:=Lib.hid hv4;clear hv4;have hb:=box4 (hf1.trans (hf2.trans (hf3.trans hf4))) HP.out.lt (heap_alloc_new w _);have d0:=(Lib.cell_of_heap hb 0).trans rfl;have d1:=(Lib.cell_of_heap hb 1).trans rfl;have d2:=(Lib.cell_of_heap hb 2).trans rfl;have d3:=(Lib.cell_of_heap hb 3).trans rfl;have g0:=Lib.frozen_of_heap hb 0;have g1:=Lib.frozen_of_heap hb 1;have g2:=Lib.frozen_of_heap hb 2;have g3:=Lib.frozen_of_heap hb 3;have HB:=Lib.hid hb;clear hb))
      obtain ⟨t1,t2,t3⟩:=put4 HP.out (hf1.trans (hf2.trans (hf3.trans hf4))) hp4 HB.out (.int .i64 3) (.string (bs s)) (.int .i64 0) (.slice s1 s2 s3)
      refine term_door (x0:=.int .i64 3) (x1:=.string (bs s)) (x2:=.int .i64 0) (x3:=.slice s1 s2 s3) h0 HP.out.lt rfl t1 t2 t3 ⟨_,rfl,?_⟩
      have hsz:w.heap.size < w3.heap.size:=by have:=(hf1.trans (hf2.trans hf3)).size;simp at this;omega
      refine ArgsV.wide (ArgsV.stable _ _ (TermV.stable m) _ _ _ _ _ _ HV4.out (fun j j1 _=>?_)) (Nat.le_of_lt hsz) (by simp [World.setCell])
      have hj:j ≠ w.heap.size:=by omega
      rw [Below.heap_setCell _ _ _ j hj,Below.heap_setCell _ _ _ j hj,Below.heap_setCell _ _ _ j hj,Below.heap_setCell _ _ _ j hj]
/-- A term, at whatever nest: the nests left bound how deep it goes. -/
theorem term_any (b:Nat) (A:Option Addr) (c:Nat) (ts:List Tok) (f:Nat→Addr):∀ (m:Nat) (ne:Int),65≤ne+m→0≤ne→ne≤70000→∀ (w:World) (k:Nat),Par w b A c ts k ne→PErrs w b f→k≤ts.length →
  Calls Tryz.prog 86 #[.pointer (some ⟨b,0,none⟩)] w fun e w'=>EndsV b A c ts ne f (TermV (m+1)) w (termO ts (m+1) ne k) e w'
 | 0,ne,hm,h0,h1,w,k,h,hE,hk=>term_step b A c ts f 0 ne h0 h1 (Lib.hid (fun hn=>by omega)) w k h hE hk
 | m+1,ne,hm,h0,h1,w,k,h,hE,hk =>
  term_step b A c ts f (m+1) ne h0 h1 (Lib.hid (fun hn=>term_any b A c ts f m (ne+1) (by omega) (by omega) (by omega))) w k h hE hk
end Lx
end Go.Proofs.YtiljemkglhloeaaGreatDoor
