/- Package unify: head: where an unknown leads; the ways that it halves change nothing of what unknowns are. Conditions: as each states. -/
import Derived.Test.YtnpacamcgifabaaDoorVd
namespace Go.Proofs.YtnpacamcgifabaaDoor
set_option linter.unusedSimpArgs false
set_option linter.unusedVariables false
namespace Lx
open Go Go.RowKit
section
variable {Vol Vol':Nat→Prop} {b g m cap:Nat} {Bd:Nat→Option TyT} {w w':World}
theorem TabT.kb {S:Nat→Prop} (h:TabT Vol b g m cap Bd w) (hk:Kb S w w') (hS:∀ k,S k→Vol k) (hg:¬ S g):TabT Vol b g m cap Bd w':=by
 obtain ⟨cs,h1,h2⟩:=h.row
 have eg:=hk.block g h.glt hg
 exact ⟨(hk.block b h.blt (fun e=>h.volb (hS b e))).trans h.blk,⟨cs,eg.trans h1,h2⟩,fun i hi=>(h.ent i hi).step h.glt (hk.wider (fun k _ e=>hS k e)) (fun _ _ e=>e) eg,h.volg,h.volb⟩
theorem TabT.vol (h:TabT Vol b g m cap Bd w) (hv:∀ k,k < w.heap.size→Vol' k→Vol k) (hg:Vol' g):TabT Vol' b g m cap Bd w :=
 ⟨h.blk,h.row,fun i hi=>(h.ent i hi).step h.glt (Kb.refl _ _) hv rfl,hg,fun e=>h.volb (hv b h.blt e)⟩
end
/-- The memory in a head's loop: the type so far in a box, the result's box behind it. -/
structure HI (Vol:Nat→Prop) (b g m cap N:Nat) (Bd:Nat→Option TyT) (w:World) (t:TyT) (A:Option Addr) (l c:Nat) (X:World):Prop where
 tab:TabT (fun k=>Vol k ∨ k=N ∨ k=N+1) b g m cap Bd X
 box:X.heap[N]?=some (.cells #[.int .i64 t.kind,.string t.name,.int .i64 t.var,.slice A l c] 32 (0,0))
 out:X.heap[N+1]?=some (.cells #[.int .i64 0,.string ⟨#[]⟩,.int .i64 0,.slice none 0 0] 32 (0,0))
 size:N+2≤X.heap.size
 hold:∃ d,TyW d (fun k=>Vol k ∨ k=N ∨ k=N+1) t (.agg #[.int .i64 t.kind,.string t.name,.int .i64 t.var,.slice A l c]) X
 keep:HeadK g w X
theorem HI.later {Vol:Nat→Prop} {b g m cap N:Nat} {Bd:Nat→Option TyT} {w:World} {t:TyT} {A:Option Addr} {l c:Nat} {X Y:World} (h:HI Vol b g m cap N Bd w t A l c X) (hb:Below X.heap.size X Y):HI Vol b g m cap N Bd w t A l c Y:=by
 obtain ⟨d,hd⟩:=h.hold
 exact ⟨h.tab.below hb,(hb.block _ (by have:=h.size;omega)).trans h.box,(hb.block _ (by have:=h.size;omega)).trans h.out,Nat.le_trans h.size hb.size,⟨d,(TyW.step d).below hd hb⟩,h.keep.trans (HeadK.of_below h.tab.glt hb)⟩
theorem HI.drewN {Vol:Nat→Prop} {b g m cap N:Nat} {Bd:Nat→Option TyT} {w:World} {t:TyT} {A:Option Addr} {l c:Nat} {X:World} (h:HI Vol b g m cap N Bd w t A l c X) (n:Nat):HI Vol b g m cap N Bd w t A l c (X.drewN n):=h.later (below_drewN (Below.refl _ _) n)
theorem HI.put {Vol:Nat→Prop} {b g m cap N:Nat} {Bd:Nat→Option TyT} {w:World} {t t1:TyT} {A A1:Option Addr} {l c l1 c1:Nat} {X:World} (h:HI Vol b g m cap N Bd w t A l c X) (hN:w.heap.size≤N) (hg:g < N)
  (h1:∃ d,TyW d (fun k=>Vol k ∨ k=N ∨ k=N+1) t1 (.agg #[.int .i64 t1.kind,.string t1.name,.int .i64 t1.var,.slice A1 l1 c1]) X) :
  HI Vol b g m cap N Bd w t1 A1 l1 c1 ((((X.setCell ⟨N,0,none⟩ (.int .i64 t1.kind)).setCell ⟨N,1,none⟩ (.string t1.name)).setCell ⟨N,2,none⟩ (.int .i64 t1.var)).setCell ⟨N,3,none⟩ (.slice A1 l1 c1)):=by
 have hk:=kput4 X N (.int .i64 t1.kind) (.string t1.name) (.int .i64 t1.var) (.slice A1 l1 c1)
 have hq:=put4 (.int .i64 t1.kind) (.string t1.name) (.int .i64 t1.var) (.slice A1 l1 c1) h.box
 generalize ((((X.setCell ⟨N,0,none⟩ (.int .i64 t1.kind)).setCell ⟨N,1,none⟩ (.string t1.name)).setCell ⟨N,2,none⟩ (.int .i64 t1.var)).setCell ⟨N,3,none⟩ (.slice A1 l1 c1))=W at hk hq ⊢
 obtain ⟨d,hd⟩:=h1
 have k0:=h.keep.kb
 have hsz:=h.size
 exact ⟨h.tab.kb hk (fun k e=>.inr (.inl e)) (by omega),hq,(hk.block _ (by omega) (by omega)).trans h.out,Nat.le_trans h.size hk.size,⟨d,TyW.step d _ _ _ _ _ _ hd (hk.wider (fun k _ e=>.inr (.inl e))) (fun _ _ e=>e)⟩,
  ⟨hk.os.trans k0.os,hk.tape.trans k0.tape,hk.output.trans k0.output,Nat.le_trans k0.size hk.size,fun j hj hn=>(hk.block j (Nat.lt_of_lt_of_le hj k0.size) (fun e=>by omega)).trans (k0.block j hj hn)⟩,fun i j h1 h2=>(World.cell?_of_block (hk.block g h.tab.glt (by omega))).trans (h.keep.rest i j h1 h2)⟩
/-- Four cells of a row's block are written. -/
theorem put4at {W:World} {g o:Nat} {T:TypeId} {cs:Array Value} (x0 x1 x2 x3:Value) (h:W.heap[g]?=some (.cells cs T (0,0))) (ho:o+4≤cs.size) :
  ∃ cs',((((W.setCell ⟨g,o,none⟩ x0).setCell ⟨g,o+1,none⟩ x1).setCell ⟨g,o+2,none⟩ x2).setCell ⟨g,o+3,none⟩ x3).heap[g]?=some (.cells cs' T (0,0))∧cs'.size=cs.size∧cs'[o]?=some x0∧cs'[o+1]?=some x1∧cs'[o+2]?=some x2∧cs'[o+3]?=some x3∧∀ q,(q < o ∨ o+4≤q)→cs'[q]?=cs[q]?:=by
 have h0:=blk_put W g o x0 h (by omega)
 have h1:=blk_put _ g (o+1) x1 h0 (by simp;omega)
 have h2:=blk_put _ g (o+2) x2 h1 (by simp;omega)
 have h3:=blk_put _ g (o+3) x3 h2 (by simp;omega)
 refine ⟨_,h3,by simp,?_,?_,?_,?_,fun q hq=>?_⟩
 ·rw [Array.getElem?_set_ne _ (by omega),Array.getElem?_set_ne _ (by omega),Array.getElem?_set_ne _ (by omega)];simp
 ·rw [Array.getElem?_set_ne _ (by omega),Array.getElem?_set_ne _ (by omega)];simp
 ·rw [Array.getElem?_set_ne _ (by omega)];simp
 ·simp
 ·rw [Array.getElem?_set_ne _ (by omega),Array.getElem?_set_ne _ (by omega),Array.getElem?_set_ne _ (by omega),Array.getElem?_set_ne _ (by omega)]
theorem kput4at (W:World) (g o:Nat) (x0 x1 x2 x3:Value):Kb (fun k=>k=g) W ((((W.setCell ⟨g,o,none⟩ x0).setCell ⟨g,o+1,none⟩ x1).setCell ⟨g,o+2,none⟩ x2).setCell ⟨g,o+3,none⟩ x3):=((((Kb.refl (fun k=>k=g) W).put (p:=⟨g,o,none⟩) rfl _).put (p:=⟨g,o+1,none⟩) rfl _).put (p:=⟨g,o+2,none⟩) rfl _).put (p:=⟨g,o+3,none⟩) rfl _
/-- An unknown's type is written anew. -/
theorem TabT.set {Vol:Nat→Prop} {b g m cap:Nat} {Bd:Nat→Option TyT} {w:World} (h:TabT Vol b g m cap Bd w) {u:Nat} (hu:u < m) {t:TyT} {A:Option Addr} {l c:Nat} (h0:t.kind ≠ 0) (ht:∃ d,TyW d Vol t (.agg #[.int .i64 t.kind,.string t.name,.int .i64 t.var,.slice A l c]) w) (hbg:b ≠ g) :
  TabT Vol b g m cap (fun i=>if i=u then some t else Bd i) ((((w.setCell ⟨g,u * 6,none⟩ (.int .i64 t.kind)).setCell ⟨g,u * 6+1,none⟩ (.string t.name)).setCell ⟨g,u * 6+2,none⟩ (.int .i64 t.var)).setCell ⟨g,u * 6+3,none⟩ (.slice A l c)) ∧
  HeadK g w ((((w.setCell ⟨g,u * 6,none⟩ (.int .i64 t.kind)).setCell ⟨g,u * 6+1,none⟩ (.string t.name)).setCell ⟨g,u * 6+2,none⟩ (.int .i64 t.var)).setCell ⟨g,u * 6+3,none⟩ (.slice A l c)):=by
 obtain ⟨cs,h1,h2⟩:=h.row
 obtain ⟨cs',q0,q1,q2,q3,q4,q5,q6⟩:=put4at (.int .i64 t.kind) (.string t.name) (.int .i64 t.var) (.slice A l c) h1 (o:=u * 6) (by omega)
 have hk:=kput4at w g (u * 6) (.int .i64 t.kind) (.string t.name) (.int .i64 t.var) (.slice A l c)
 generalize ((((w.setCell ⟨g,u * 6,none⟩ (.int .i64 t.kind)).setCell ⟨g,u * 6+1,none⟩ (.string t.name)).setCell ⟨g,u * 6+2,none⟩ (.int .i64 t.var)).setCell ⟨g,u * 6+3,none⟩ (.slice A l c))=W at q0 hk ⊢
 have hkV:Kb Vol w W:=hk.wider (fun k _ (e:k=g)=>by subst e;exact h.volg)
 refine ⟨⟨(hk.block b h.blt hbg).trans h.blk,⟨cs',q0,by omega⟩,fun i hi=>?_,h.volg,h.volb⟩,hk,fun i j h3 h4=>by rw [cellH q0,cellH h1];exact q6 _ (by omega)⟩
 by_cases e:i=u
 ·subst e
  simp only [if_true]
  obtain ⟨d,hd⟩:=ht
  refine ⟨h0,d,_,TyW.step d _ _ _ _ _ _ hd hkV (fun _ _ e=>e),fun j hj=>?_⟩
  rw [cellH q0]
  match j,hj with
  | 0,_=>exact q2
  | 1,_=>exact q3
  | 2,_=>exact q4
  | 3,_=>exact q5
 ·simp only [if_neg e]
  have hcell:∀ j,j < 4→W.cell? ⟨g,i * 6+j,none⟩=w.cell? ⟨g,i * 6+j,none⟩:=fun j hj=>by
   rw [cellH q0,cellH h1]
   exact q6 _ (by omega)
  have he:=h.ent i hi
  cases hB:Bd i with
  | none =>
   rw [hB] at he
   have:=hcell 0 (by decide)
   rw [Nat.add_zero] at this
   exact this.trans he
  | some t' =>
   rw [hB] at he
   obtain ⟨p0,d,v,p1,p2⟩:=he
   exact ⟨p0,d,v,TyW.step d _ _ _ _ _ _ p1 hkV (fun _ _ e=>e),fun j hj=>(hcell j hj).trans (p2 j hj)⟩
theorem TabT.ne {Vol:Nat→Prop} {b g m cap:Nat} {Bd:Nat→Option TyT} {w:World} (h:TabT Vol b g m cap Bd w):b ≠ g:=fun e=>h.volb (e ▸ h.volg)
theorem TabT.frozen {Vol:Nat→Prop} {b g m cap:Nat} {Bd:Nat→Option TyT} {w:World} (h:TabT Vol b g m cap Bd w) (o:Nat):w.frozen? ⟨g,o,none⟩=false:=by
 obtain ⟨cs,h1,_⟩:=h.row
 exact frozenH h1 o
/-- What a head gives. -/
def HeadP (Vol:Nat→Prop) (b g m cap:Nat) (r:Rho) (Bd:Nat→Option TyT) (rk:Nat→Nat) (t:TyT) (w:World) (e:Ending) (w':World):Prop :=
 ∃ (t':TyT) (v':Value) (Bd':Nat→Option TyT),e=.returned v'∧goodT m t'∧sub r t'=sub r t∧(t'.kind=4→sub r t'=t')∧(∃ d,TyW d Vol t' v' w')∧Bds m r Bd' rk∧(∀ i,Bd' i=none ↔ Bd i=none)∧TabT Vol b g m cap Bd' w'∧HeadK g w w'
theorem head_done (Vol:Nat→Prop) (b g m cap:Nat) (r:Rho) (Bd Bc:Nat→Option TyT) (rk:Nat→Nat) (t tc:TyT) (A:Option Addr) (l c:Nat) (w X:World) (tmps:Array Value) (hX:HI Vol b g m cap w.heap.size Bc w tc A l c X) (hvl:∀ k,Vol k→k < w.heap.size) (hvg:Vol g) (hg:g < w.heap.size)
  (hb:Bds m r Bc rk) (hgt:goodT m tc) (hs:sub r tc=sub r t) (hn:∀ i,Bc i=none ↔ Bd i=none) (hun:tc.kind=4→sub r tc=tc) (ht:tmps[4]?.getD undef=.pointer (some ⟨w.heap.size+1,0,none⟩)) :
  bodyPost Tryd.prog Tryd.f85 (HeadP Vol b g m cap r Bd rk t w) Exit.ret { tmps:=tmps,defers:=[] } ((((X.setCell ⟨w.heap.size+1,0,none⟩ (.int .i64 tc.kind)).setCell ⟨w.heap.size+1,1,none⟩ (.string tc.name)).setCell ⟨w.heap.size+1,2,none⟩ (.int .i64 tc.var)).setCell ⟨w.heap.size+1,3,none⟩ (.slice A l c)):=by
 have hk:=kput4 X (w.heap.size+1) (.int .i64 tc.kind) (.string tc.name) (.int .i64 tc.var) (.slice A l c)
 have hq:=put4 (.int .i64 tc.kind) (.string tc.name) (.int .i64 tc.var) (.slice A l c) hX.out
 generalize ((((X.setCell ⟨w.heap.size+1,0,none⟩ (.int .i64 tc.kind)).setCell ⟨w.heap.size+1,1,none⟩ (.string tc.name)).setCell ⟨w.heap.size+1,2,none⟩ (.int .i64 tc.var)).setCell ⟨w.heap.size+1,3,none⟩ (.slice A l c))=W at hk hq ⊢
 have c0:=(cellH hq 0).trans rfl
 have c1:=(cellH hq 1).trans rfl
 have c2:=(cellH hq 2).trans rfl
 have c3:=(cellH hq 3).trans rfl
 have hne:¬ g=w.heap.size+1:=by omega
 have hkW:Kb (fun k=>Vol k ∨ k=w.heap.size ∨ k=w.heap.size+1) X W:=hk.wider (fun k _ e=>.inr (.inr e))
 refine bodyPost_ret (v:=.agg #[.int .i64 tc.kind,.string tc.name,.int .i64 tc.var,.slice A l c]) (by simp [results,Tryd.results85,go_sem,ht,c0,c1,c2,c3]) rfl ⟨tc,_,Bc,rfl,hgt,hs,hun,?_,hb,hn,?_,?_⟩
 ·obtain ⟨d,hd⟩:=hX.hold
  exact ⟨d,TyW.step d _ _ _ _ _ _ hd hkW (fun k _ e=>.inl e)⟩
 ·exact (hX.tab.kb hk (fun k e=>.inr (.inr e)) hne).vol (fun k _ e=>.inl e) hvg
 ·have k0:=hX.keep.kb
  exact ⟨⟨hk.os.trans k0.os,hk.tape.trans k0.tape,hk.output.trans k0.output,Nat.le_trans k0.size hk.size,fun j hj hn=>(hk.block j (Nat.lt_of_lt_of_le hj k0.size) (fun e=>by omega)).trans (k0.block j hj hn)⟩,fun i j h1 h2=>(World.cell?_of_block (hk.block g hX.tab.glt hne)).trans (hX.keep.rest i j h1 h2)⟩
set_option maxRecDepth 100000 in
set_option maxHeartbeats 8000000 in
theorem head_gen (Vol:Nat→Prop) (b g m cap:Nat) (r:Rho) (Bd:Nat→Option TyT) (rk:Nat→Nat) (HBd:Bds m r Bd rk) (t:TyT) (gt:goodT m t) (v:Value) (w:World) (hv:∃ d,TyW d Vol t v w) (hT:TabT Vol b g m cap Bd w) (hvl:∀ k,Vol k→k < w.heap.size) :
  Calls Tryd.prog 85 #[.pointer (some ⟨b,0,none⟩),v] w (HeadP Vol b g m cap r Bd rk t w):=by
 obtain ⟨d0,hv⟩:=hv
 obtain ⟨A,l,c,rfl⟩:=hv.this
 have hB0:Below w.heap.size w ((w.alloc (.cells #[.int .i64 t.kind,.string t.name,.int .i64 t.var,.slice A l c] 32)).alloc (.cells #[.int .i64 0,.string ⟨#[]⟩,.int .i64 0,.slice none 0 0] 32)):=(below_alloc _ _).alloc (by simp) _
 have hback:∀ k,k < w.heap.size→(Vol k ∨ k=w.heap.size ∨ k=w.heap.size+1)→Vol k:=fun k hk e=>by
  rcases e with e | e | e
  ·exact e
  ·omega
  ·omega
 have HI0:Hid (HI Vol b g m cap w.heap.size Bd w t A l c ((w.alloc (.cells #[.int .i64 t.kind,.string t.name,.int .i64 t.var,.slice A l c] 32)).alloc (.cells #[.int .i64 0,.string ⟨#[]⟩,.int .i64 0,.slice none 0 0] 32))):=Lib.hid (by
  refine ⟨(hT.vol hback (.inl hT.volg)).below hB0,(Below.heap_alloc _ _ w.heap.size (by simp)).trans (heap_alloc_new _ _),?_,by simp,⟨d0,TyW.step d0 _ _ _ _ _ _ hv (Kb.of_below hB0) hback⟩,HeadK.of_below hT.glt hB0⟩
  have:=heap_alloc_new (w.alloc (.cells #[.int .i64 t.kind,.string t.name,.int .i64 t.var,.slice A l c] 32)) (.cells #[.int .i64 0,.string ⟨#[]⟩,.int .i64 0,.slice none 0 0] 32)
  simpa using this)
 have HG:=Lib.hid hT.glt
 have HVG:=Lib.hid hT.volg
 have HVL:=Lib.hid hvl
 have HBDS:=Lib.hid HBd
 have HGT:=Lib.hid gt
 clear hv hT hvl hB0 HBd gt hback
 go_enter Tryd.func85,Tryd.ntmps85
 go_wp2_with fail
 generalize ((w.alloc (.cells #[.int .i64 t.kind,.string t.name,.int .i64 t.var,.slice A l c] 32)).alloc (.cells #[.int .i64 0,.string ⟨#[]⟩,.int .i64 0,.slice none 0 0] 32))=w0 at HI0 ⊢
 go_loopw [5] (fun _ wr=>∃ (tc:TyT) (Bc:Nat→Option TyT) (Ac:Option Addr) (lc cc:Nat),Hid (HI Vol b g m cap w.heap.size Bc w tc Ac lc cc wr)∧Hid (Bds m r Bc rk)∧Hid (goodT m tc)∧Hid (sub r tc=sub r t)∧Hid (∀ i,Bc i=none ↔ Bd i=none)) (fun _ wr=>if intOf ((wr.cell? ⟨w.heap.size,0,none⟩).getD undef)=4 then rk (intOf ((wr.cell? ⟨w.heap.size,2,none⟩).getD undef)).toNat+1 else 0)
 case atStart=>exact ⟨t,Bd,A,l,c,HI0,HBDS,HGT,Lib.hid rfl,Lib.hid (fun _=>Iff.rfl)⟩
 case round =>
  obtain ⟨tc,Bc,Ac,lc,cc,HM,HBC,HGC,HS,HN⟩:=hrel
  clear HI0
  by_cases k4:tc.kind=4
  ·obtain ⟨u,hu,rfl⟩:=good_free HGC.out k4
   have hu0:(0:Int)≤(u:Int):=by omega
   have hu1:(u:Int) < (m:Int):=by omega
   have ek:(fr u).kind=4:=rfl
   have en:(fr u).name=⟨#[]⟩:=rfl
   have ev:(fr u).var=(u:Int):=rfl
   have hms0:wr.cell? ⟨w.heap.size,0,none⟩=some (.int .i64 4):=(cellH HM.out.box 0).trans rfl
   have hms2:wr.cell? ⟨w.heap.size,2,none⟩=some (.int .i64 (u:Int)):=(cellH HM.out.box 2).trans rfl
   have HMS:=Lib.hid (And.intro hms0 hms2)
   clear hms0 hms2
   cases hB:Bc u with
   | none =>
    have he:=HM.out.tab.ent u hu
    rw [hB] at he
    have he:wr.cell? ⟨g,u * 6,none⟩=some (.int .i64 0):=he
    have ht:=(cellH (HM.out.tab.blkP hu) 0).trans rfl
    have a0:=(cellH HM.out.box 0).trans rfl
    have a1:=(cellH HM.out.box 1).trans rfl
    have a2:=(cellH HM.out.box 2).trans rfl
    have a3:=(cellH HM.out.box 3).trans rfl
    simp only [ek,en,ev] at a0 a1 a2 a3
    go_wp2_with fail
    go_quiet (fail)
    clear a0 a1 a2 a3 he ht
    have HM:=Lib.hid (HM.out.drewN nq)
    generalize wr.drewN nq=X at HM ⊢
    have a0:=(cellH HM.out.box 0).trans rfl
    have a1:=(cellH HM.out.box 1).trans rfl
    have a2:=(cellH HM.out.box 2).trans rfl
    have a3:=(cellH HM.out.box 3).trans rfl
    have o0:=(cellH HM.out.out 0).trans rfl
    have o1:=(cellH HM.out.out 1).trans rfl
    have o2:=(cellH HM.out.out 2).trans rfl
    have o3:=(cellH HM.out.out 3).trans rfl
    have f0:=frozenH HM.out.out 0
    have f1:=frozenH HM.out.out 1
    have f2:=frozenH HM.out.out 2
    have f3:=frozenH HM.out.out 3
    go_wp2_with fail
    exact head_done Vol b g m cap r Bd Bc rk t (fr u) Ac lc cc w X _ HM.out HVL.out HVG.out HG.out HBC.out HGC.out HS.out HN.out (fun _=>by rw [sub_fr];exact HBC.out.free u hu hB) rfl
   | some t1 =>
    have hk10:t1.kind ≠ 0:=by
     have:=HM.out.tab.ent u hu
     rw [hB] at this
     exact this.1
    have ek0:(t1.kind != 0)=true:=by simpa using hk10
    have ht:=(cellH (HM.out.tab.blkP hu) 0).trans rfl
    have a0:=(cellH HM.out.box 0).trans rfl
    have a1:=(cellH HM.out.box 1).trans rfl
    have a2:=(cellH HM.out.box 2).trans rfl
    have a3:=(cellH HM.out.box 3).trans rfl
    simp only [ek,en,ev] at a0 a1 a2 a3
    obtain ⟨hkp,dp,vp,hvp,hcp⟩:EntT (fun k=>Vol k ∨ k=w.heap.size ∨ k=w.heap.size+1) (some t1) g u wr:=by
     have:=HM.out.tab.ent u hu
     rw [hB] at this
     exact this
    obtain ⟨Ap,lp,cp,rfl⟩:=hvp.this
    have p0:=(hcp 0 (by decide)).trans rfl
    have p1:=(hcp 1 (by decide)).trans rfl
    have p2:=(hcp 2 (by decide)).trans rfl
    have p3:=(hcp 3 (by decide)).trans rfl
    simp only [cellsL,Value.cells,List.getElem?_cons_zero,List.getElem?_cons_succ,Nat.add_zero] at p0 p1 p2 p3
    have HVP:=Lib.hid hvp
    clear hcp hvp hkp
    go_wp2_with fail
    go_quiet (fail)
    clear a0 a1 a2 a3 p0 p1 p2 p3 ht
    have HM:=Lib.hid (HM.out.drewN nq)
    generalize wr.drewN nq=X1 at HM ⊢
    have ht:=(cellH (HM.out.tab.blkP hu) 0).trans rfl
    have a0:=(cellH HM.out.box 0).trans rfl
    have a1:=(cellH HM.out.box 1).trans rfl
    have a2:=(cellH HM.out.box 2).trans rfl
    have a3:=(cellH HM.out.box 3).trans rfl
    simp only [ek,en,ev] at a0 a1 a2 a3
    go_wp2_with fail
    go_quiet (fail)
    clear a0 a1 a2 a3 ht
    have HM:=Lib.hid (HM.out.drewN nq)
    generalize X1.drewN nq=X2 at HM ⊢
    obtain ⟨gt1,rt1,nt1⟩:=HBC.out.bound u t1 hu hB
    have HGT1:=Lib.hid gt1
    have HRT1:=Lib.hid (show sub r t1=sub r t by rw [← rt1,← HS.out,sub_fr])
    clear gt1 rt1 nt1
    by_cases k14:t1.kind=4
    ·obtain ⟨x,hx,rfl⟩:=good_free HGT1.out k14
     have hx0:(0:Int)≤(x:Int):=by omega
     have hx1:(x:Int) < (m:Int):=by omega
     have hrk:=HBC.out.rank u x hu hB
     have hxu:x ≠ u:=fun e=>by subst e;omega
     have exk:(fr x).kind=4:=rfl
     have exn:(fr x).name=⟨#[]⟩:=rfl
     have exv:(fr x).var=(x:Int):=rfl
     cases hB2:Bc x with
     | none =>
      have ht:=(cellH (HM.out.tab.blkP hu) 0).trans rfl
      obtain ⟨hkp,dp,vp,hvp,hcp⟩:EntT (fun k=>Vol k ∨ k=w.heap.size ∨ k=w.heap.size+1) (some (fr x)) g u X2:=by
       have:=HM.out.tab.ent u hu
       rw [hB] at this
       exact this
      obtain ⟨Ap,lp,cp,rfl⟩:=hvp.this
      have p0:=(hcp 0 (by decide)).trans rfl
      have p1:=(hcp 1 (by decide)).trans rfl
      have p2:=(hcp 2 (by decide)).trans rfl
      have p3:=(hcp 3 (by decide)).trans rfl
      simp only [cellsL,Value.cells,List.getElem?_cons_zero,List.getElem?_cons_succ,Nat.add_zero] at p0 p1 p2 p3
      have HVP:=Lib.hid hvp
      clear hcp hvp hkp
      simp only [exk,exn,exv] at p0 p1 p2
      have he:X2.cell? ⟨g,x * 6,none⟩=some (.int .i64 0):=by
       have:=HM.out.tab.ent x hx
       rw [hB2] at this
       exact this
      go_wp2_with fail
      go_quiet (fail)
      clear p0 p1 p2 p3 ht he
      have HM:=Lib.hid (HM.out.drewN nq)
      generalize X2.drewN nq=X3 at HM ⊢
      obtain ⟨hkp,dp,vp,hvp,hcp⟩:EntT (fun k=>Vol k ∨ k=w.heap.size ∨ k=w.heap.size+1) (some (fr x)) g u X3:=by
       have:=HM.out.tab.ent u hu
       rw [hB] at this
       exact this
      obtain ⟨Ap,lp,cp,rfl⟩:=hvp.this
      have p0:=(hcp 0 (by decide)).trans rfl
      have p1:=(hcp 1 (by decide)).trans rfl
      have p2:=(hcp 2 (by decide)).trans rfl
      have p3:=(hcp 3 (by decide)).trans rfl
      simp only [cellsL,Value.cells,List.getElem?_cons_zero,List.getElem?_cons_succ,Nat.add_zero] at p0 p1 p2 p3
      have HVP:=Lib.hid hvp
      clear hcp hvp hkp
      simp only [exk,exn,exv] at p0 p1 p2
      have a0:=(cellH HM.out.box 0).trans rfl
      have a1:=(cellH HM.out.box 1).trans rfl
      have a2:=(cellH HM.out.box 2).trans rfl
      have a3:=(cellH HM.out.box 3).trans rfl
      have f0:=frozenH HM.out.box 0
      have f1:=frozenH HM.out.box 1
      have f2:=frozenH HM.out.box 2
      have f3:=frozenH HM.out.box 3
      simp only [ek,en,ev] at a0 a1 a2 a3
      go_wp2_with fail
      clear a0 a1 a2 a3 f0 f1 f2 f3 p0 p1 p2 p3
      have HNX:=Lib.hid (HM.out.put (Nat.le_refl _) HG.out ⟨dp,HVP.out⟩)
      go_roundw
      case rel=>exact ⟨fr x,Bc,_,_,_,HNX,HBC,HGT1,HRT1,HN⟩
      case measure =>
       have hmz0:(World.cell? _ ⟨w.heap.size,0,none⟩)=some (.int .i64 4):=(cellH HNX.out.box 0).trans rfl
       have hmz2:(World.cell? _ ⟨w.heap.size,2,none⟩)=some (.int .i64 (x:Int)):=(cellH HNX.out.box 2).trans rfl
       simp only [exk,exn,exv] at hmz0 hmz2
       rw [HMS.out.1,HMS.out.2,hmz0,hmz2]
       simp only [Option.getD_some,intOf,Int.toNat_natCast,if_true]
       omega
     | some t2 =>
      have hk20:t2.kind ≠ 0:=by
       have:=HM.out.tab.ent x hx
       rw [hB2] at this
       exact this.1
      have ek20:(t2.kind != 0)=true:=by simpa using hk20
      have ht:=(cellH (HM.out.tab.blkP hu) 0).trans rfl
      obtain ⟨hkp,dp,vp,hvp,hcp⟩:EntT (fun k=>Vol k ∨ k=w.heap.size ∨ k=w.heap.size+1) (some (fr x)) g u X2:=by
       have:=HM.out.tab.ent u hu
       rw [hB] at this
       exact this
      obtain ⟨Ap,lp,cp,rfl⟩:=hvp.this
      have p0:=(hcp 0 (by decide)).trans rfl
      have p1:=(hcp 1 (by decide)).trans rfl
      have p2:=(hcp 2 (by decide)).trans rfl
      have p3:=(hcp 3 (by decide)).trans rfl
      simp only [cellsL,Value.cells,List.getElem?_cons_zero,List.getElem?_cons_succ,Nat.add_zero] at p0 p1 p2 p3
      have HVP:=Lib.hid hvp
      clear hcp hvp hkp
      simp only [exk,exn,exv] at p0 p1 p2
      obtain ⟨hkz,dz,vz,hvz,hcz⟩:EntT (fun k=>Vol k ∨ k=w.heap.size ∨ k=w.heap.size+1) (some t2) g x X2:=by
       have:=HM.out.tab.ent x hx
       rw [hB2] at this
       exact this
      obtain ⟨Az,lz,cz,rfl⟩:=hvz.this
      have z0:=(hcz 0 (by decide)).trans rfl
      have z1:=(hcz 1 (by decide)).trans rfl
      have z2:=(hcz 2 (by decide)).trans rfl
      have z3:=(hcz 3 (by decide)).trans rfl
      simp only [cellsL,Value.cells,List.getElem?_cons_zero,List.getElem?_cons_succ,Nat.add_zero] at z0 z1 z2 z3
      have HVZ:=Lib.hid hvz
      clear hcz hvz hkz
      go_wp2_with fail
      go_quiet (fail)
      clear p0 p1 p2 p3 z0 z1 z2 z3 ht HVP HVZ
      have HM:=Lib.hid (HM.out.drewN nq)
      generalize X2.drewN nq=X3 at HM ⊢
      go_wp2_with fail
      obtain ⟨hkp,dp,vp,hvp,hcp⟩:EntT (fun k=>Vol k ∨ k=w.heap.size ∨ k=w.heap.size+1) (some (fr x)) g u X3:=by
       have:=HM.out.tab.ent u hu
       rw [hB] at this
       exact this
      obtain ⟨Ap,lp,cp,rfl⟩:=hvp.this
      have p0:=(hcp 0 (by decide)).trans rfl
      have p1:=(hcp 1 (by decide)).trans rfl
      have p2:=(hcp 2 (by decide)).trans rfl
      have p3:=(hcp 3 (by decide)).trans rfl
      simp only [cellsL,Value.cells,List.getElem?_cons_zero,List.getElem?_cons_succ,Nat.add_zero] at p0 p1 p2 p3
      have HVP:=Lib.hid hvp
      clear hcp hvp hkp
      simp only [exk,exn,exv] at p0 p1 p2
      obtain ⟨hkz,dz,vz,hvz,hcz⟩:EntT (fun k=>Vol k ∨ k=w.heap.size ∨ k=w.heap.size+1) (some t2) g x X3:=by
       have:=HM.out.tab.ent x hx
       rw [hB2] at this
       exact this
      obtain ⟨Az,lz,cz,rfl⟩:=hvz.this
      have z0:=(hcz 0 (by decide)).trans rfl
      have z1:=(hcz 1 (by decide)).trans rfl
      have z2:=(hcz 2 (by decide)).trans rfl
      have z3:=(hcz 3 (by decide)).trans rfl
      simp only [cellsL,Value.cells,List.getElem?_cons_zero,List.getElem?_cons_succ,Nat.add_zero] at z0 z1 z2 z3
      have HVZ:=Lib.hid hvz
      clear hcz hvz hkz
      have ht:=(cellH (HM.out.tab.blkP hu) 0).trans rfl
      have p0d:X3.drew.cell? _=_:=p0
      have p1d:X3.drew.cell? _=_:=p1
      have p2d:X3.drew.cell? _=_:=p2
      have p3d:X3.drew.cell? _=_:=p3
      have z0d:X3.drew.cell? _=_:=z0
      have z1d:X3.drew.cell? _=_:=z1
      have z2d:X3.drew.cell? _=_:=z2
      have z3d:X3.drew.cell? _=_:=z3
      have htd:X3.drew.cell? _=_:=ht
      have f0:=HM.out.tab.frozen (u * 6)
      have f0d:X3.drew.frozen? ⟨g,u * 6,none⟩=false:=f0
      have f1:=HM.out.tab.frozen (u * 6+1)
      have f1d:X3.drew.frozen? ⟨g,u * 6+1,none⟩=false:=f1
      have f2:=HM.out.tab.frozen (u * 6+2)
      have f2d:X3.drew.frozen? ⟨g,u * 6+2,none⟩=false:=f2
      have f3:=HM.out.tab.frozen (u * 6+3)
      have f3d:X3.drew.frozen? ⟨g,u * 6+3,none⟩=false:=f3
      go_region
      clear p0 p1 p2 p3 z0 z1 z2 z3 ht p0d p1d p2d p3d z0d z1d z2d z3d htd f0 f1 f2 f3 f0d f1d f2d f3d
      have HHF:=Lib.hid (HBC.out.half hu hx hB hB2)
      have hset:=HM.out.tab.set hu hk20 ⟨_,HVZ.out⟩ HM.out.tab.ne
      have HMX:Hid (HI Vol b g m cap w.heap.size (fun i=>if i=u then some t2 else Bc i) w (fr u) Ac lc cc _):=Lib.hid (by
       obtain ⟨q1,q2⟩:=hset
       obtain ⟨dh,hdh⟩:=HM.out.hold
       have hgl:=HG.out
       have hsz:=HM.out.size
       exact HI.later (Y:=_) ⟨q1,(q2.kb.block _ (by omega) (by omega)).trans HM.out.box,(q2.kb.block _ (by omega) (by omega)).trans HM.out.out,Nat.le_trans hsz q2.kb.size,⟨dh,TyW.step dh _ _ _ _ _ _ hdh (q2.kb.wider (fun k _ (e:k=g)=>by subst e;exact .inl HVG.out)) (fun _ _ e=>e)⟩,HM.out.keep.trans q2⟩ (below_drw (Below.refl _ _)))
      clear hset HVP HVZ HM
      generalize World.drew _=X4 at HMX ⊢
      obtain ⟨hkq,dq,vq,hvq,hcq⟩:EntT (fun k=>Vol k ∨ k=w.heap.size ∨ k=w.heap.size+1) (some t2) g u X4:=by
       have:=HMX.out.tab.ent u hu
       simp only [if_true] at this
       exact this
      obtain ⟨Aq,lq,cq,rfl⟩:=hvq.this
      have q0:=(hcq 0 (by decide)).trans rfl
      have q1:=(hcq 1 (by decide)).trans rfl
      have q2:=(hcq 2 (by decide)).trans rfl
      have q3:=(hcq 3 (by decide)).trans rfl
      simp only [cellsL,Value.cells,List.getElem?_cons_zero,List.getElem?_cons_succ,Nat.add_zero] at q0 q1 q2 q3
      have HVQ:=Lib.hid hvq
      clear hcq hvq hkq
      have a0:=(cellH HMX.out.box 0).trans rfl
      have a1:=(cellH HMX.out.box 1).trans rfl
      have a2:=(cellH HMX.out.box 2).trans rfl
      have a3:=(cellH HMX.out.box 3).trans rfl
      have f0:=frozenH HMX.out.box 0
      have f1:=frozenH HMX.out.box 1
      have f2:=frozenH HMX.out.box 2
      have f3:=frozenH HMX.out.box 3
      simp only [ek,en,ev] at a0 a1 a2 a3
      go_wp2_with fail
      clear a0 a1 a2 a3 f0 f1 f2 f3 q0 q1 q2 q3
      have HNX:=Lib.hid (HMX.out.put (Nat.le_refl _) HG.out ⟨dq,HVQ.out⟩)
      have hgt2:=(HBC.out.bound x t2 hx hB2)
      have HRT2:=Lib.hid (show sub r t2=sub r t by rw [← HRT1.out,sub_fr,hgt2.2.1])
      have HGT2:=Lib.hid hgt2.1
      clear hgt2
      have HN2:Hid (∀ i,(fun i=>if i=u then some t2 else Bc i) i=none ↔ Bd i=none):=Lib.hid (fun i=>by
       by_cases e:i=u
       ·subst e
        have:=HN.out i
        rw [hB] at this
        simp at this ⊢
        exact this
       ·simp only [if_neg e]
        exact HN.out i)
      go_roundw
      case rel=>exact ⟨t2,_,_,_,_,HNX,HHF,HGT2,HRT2,HN2⟩
      case measure =>
       have hmz0:(World.cell? _ ⟨w.heap.size,0,none⟩)=some (.int .i64 t2.kind):=(cellH HNX.out.box 0).trans rfl
       have hmz2:(World.cell? _ ⟨w.heap.size,2,none⟩)=some (.int .i64 t2.var):=(cellH HNX.out.box 2).trans rfl
       rw [HMS.out.1,HMS.out.2,hmz0,hmz2]
       simp only [Option.getD_some,intOf,Int.toNat_natCast,if_true]
       by_cases k24:t2.kind=4
       ·obtain ⟨y,hy,rfl⟩:=good_free HGT2.out k24
        have h3:=HBC.out.rank x y hx hB2
        have h4:(fr y).kind=4:=rfl
        have h5:(fr y).var=(y:Int):=rfl
        rw [h4,h5]
        simp only [Int.toNat_natCast,if_true]
        omega
       ·simp only [k24,if_false]
        omega
    ·have e14:(t1.kind == 4)=false:=by simpa using k14
     have ht:=(cellH (HM.out.tab.blkP hu) 0).trans rfl
     obtain ⟨hkp,dp,vp,hvp,hcp⟩:EntT (fun k=>Vol k ∨ k=w.heap.size ∨ k=w.heap.size+1) (some t1) g u X2:=by
      have:=HM.out.tab.ent u hu
      rw [hB] at this
      exact this
     obtain ⟨Ap,lp,cp,rfl⟩:=hvp.this
     have p0:=(hcp 0 (by decide)).trans rfl
     have p1:=(hcp 1 (by decide)).trans rfl
     have p2:=(hcp 2 (by decide)).trans rfl
     have p3:=(hcp 3 (by decide)).trans rfl
     simp only [cellsL,Value.cells,List.getElem?_cons_zero,List.getElem?_cons_succ,Nat.add_zero] at p0 p1 p2 p3
     have HVP:=Lib.hid hvp
     clear hcp hvp hkp
     go_wp2_with fail
     go_quiet (fail)
     clear p0 p1 p2 p3 ht
     have HM:=Lib.hid (HM.out.drewN nq)
     generalize X2.drewN nq=X3 at HM ⊢
     obtain ⟨hkp,dp,vp,hvp,hcp⟩:EntT (fun k=>Vol k ∨ k=w.heap.size ∨ k=w.heap.size+1) (some t1) g u X3:=by
      have:=HM.out.tab.ent u hu
      rw [hB] at this
      exact this
     obtain ⟨Ap,lp,cp,rfl⟩:=hvp.this
     have p0:=(hcp 0 (by decide)).trans rfl
     have p1:=(hcp 1 (by decide)).trans rfl
     have p2:=(hcp 2 (by decide)).trans rfl
     have p3:=(hcp 3 (by decide)).trans rfl
     simp only [cellsL,Value.cells,List.getElem?_cons_zero,List.getElem?_cons_succ,Nat.add_zero] at p0 p1 p2 p3
     have HVP:=Lib.hid hvp
     clear hcp hvp hkp
     have a0:=(cellH HM.out.box 0).trans rfl
     have a1:=(cellH HM.out.box 1).trans rfl
     have a2:=(cellH HM.out.box 2).trans rfl
     have a3:=(cellH HM.out.box 3).trans rfl
     have f0:=frozenH HM.out.box 0
     have f1:=frozenH HM.out.box 1
     have f2:=frozenH HM.out.box 2
     have f3:=frozenH HM.out.box 3
     simp only [ek,en,ev] at a0 a1 a2 a3
     go_wp2_with fail
     clear a0 a1 a2 a3 f0 f1 f2 f3 p0 p1 p2 p3
     have HNX:=Lib.hid (HM.out.put (Nat.le_refl _) HG.out ⟨dp,HVP.out⟩)
     go_roundw
     case rel=>exact ⟨t1,Bc,_,_,_,HNX,HBC,HGT1,HRT1,HN⟩
     case measure =>
      have hmz0:(World.cell? _ ⟨w.heap.size,0,none⟩)=some (.int .i64 t1.kind):=(cellH HNX.out.box 0).trans rfl
      rw [HMS.out.1,HMS.out.2,hmz0]
      simp only [Option.getD_some,intOf,k14,if_true,if_false]
      omega
  ·have e4:(tc.kind == 4)=false:=by simpa using k4
   have a0:=(cellH HM.out.box 0).trans rfl
   have a1:=(cellH HM.out.box 1).trans rfl
   have a2:=(cellH HM.out.box 2).trans rfl
   have a3:=(cellH HM.out.box 3).trans rfl
   go_wp2_with fail
   go_quiet (fail)
   clear a0 a1 a2 a3
   have HM:=Lib.hid (HM.out.drewN nq)
   generalize wr.drewN nq=X at HM ⊢
   have a0:=(cellH HM.out.box 0).trans rfl
   have a1:=(cellH HM.out.box 1).trans rfl
   have a2:=(cellH HM.out.box 2).trans rfl
   have a3:=(cellH HM.out.box 3).trans rfl
   have o0:=(cellH HM.out.out 0).trans rfl
   have o1:=(cellH HM.out.out 1).trans rfl
   have o2:=(cellH HM.out.out 2).trans rfl
   have o3:=(cellH HM.out.out 3).trans rfl
   have f0:=frozenH HM.out.out 0
   have f1:=frozenH HM.out.out 1
   have f2:=frozenH HM.out.out 2
   have f3:=frozenH HM.out.out 3
   go_wp2_with fail
   exact head_done Vol b g m cap r Bd Bc rk t tc Ac lc cc w X _ HM.out HVL.out HVG.out HG.out HBC.out HGC.out HS.out HN.out (fun e=>absurd e k4) rfl
end Lx
end Go.Proofs.YtnpacamcgifabaaDoor
