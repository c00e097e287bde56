/- A loop of the reference's reader that reads a row into a field of a struct in memory: what it holds, and its step. Conditions: the reader's block is its own, the struct's is another. -/
/- The contract of the reference's reader's ctor: what the parser's plain reading says. Conditions: the reader's block is its own; at most 16384 tokens, each of which is one by itself. -/
/- The contract of the reference's reader's Item: what is common to its ways. Conditions: the reader's block is its own; at most 16384 tokens, each of which is one by itself. -/
import Derived.Test.YtajomoclbpobhaaGreatDoorRdpA
import Derived.Test.YtajomoclbpobhaaGreatDoorParWholeS
import Derived.Test.YtajomoclbpobhaaGreatDoorRowB
import Derived.Test.YtajomoclbpobhaaGreatDoorItemC
import Derived.Deep.Cut
namespace Go.Proofs.YtajomoclbpobhaaGreatDoor
set_option linter.unusedSimpArgs false
set_option linter.unusedVariables false
namespace Lx
open Go Go.RowKit
theorem Fr2.toPFr {b bx:Nat} {w x y:World} (h:PFr b w x) (h2:Fr2 b bx x y) (hx:w.heap.size≤bx):PFr b w y :=
 ⟨h2.os.trans h.os,h2.tape.trans h.tape,h2.output.trans h.output,Nat.le_trans h.size h2.size,fun k hk hn=>(h2.block k (Nat.lt_of_lt_of_le hk h.size) hn (by omega)).trans (h.block k hk hn)⟩
theorem Fr2.refl' (b bx:Nat) (w:World):Fr2 b bx w w:=⟨rfl,rfl,rfl,Nat.le_refl _,fun _ _ _ _=>rfl⟩
theorem Fr2.pfr {b bx:Nat} {w x y:World} (h:Fr2 b bx w x) (h2:PFr b x y):Fr2 b bx w y :=
 ⟨h2.os.trans h.os,h2.tape.trans h.tape,h2.output.trans h.output,Nat.le_trans h.size h2.size,fun k hk h1 h3=>(h2.block k (Nat.lt_of_lt_of_le hk h.size) h1).trans (h.block k hk h1 h3)⟩
section
variable {α β:Type}
/-- What the loop holds: the struct in block bx, the row in its field, the row's blocks from wB on. -/
structure LpI (t:TypeId) (sz:Nat) (V:Holds α) (b:Nat) (A:Option Addr) (c:Nat) (ts:List Tok) (OT:Out β) (rd:Nat→Out α) (f:List α→Nat→Out β) (T:TypeId) (bx:Nat) (Bx:Value→Array Value) (wB wr:World) (s:Option Addr) (cap n k:Nat) (er:Int):Prop where
 box:wr.heap[bx]?=some (.cells (Bx (.slice s n cap)) T (0,0))
 wd:Rd wr b A c ts k er
 le:k≤ts.length
 fr:Fr2 b bx wB wr
 cont:Cont OT er (∃ acc vs g m,n=acc.length∧RowH t sz V wB.heap.size wr s cap acc vs g∧(acc.length=0 ∨ ts.length < k+m)∧acc.length≤k∧bindO (tailO rd ts m k acc) f=OT)
variable {t:TypeId} {sz:Nat} {V:Holds α} {b:Nat} {A:Option Addr} {c:Nat} {ts:List Tok} {OT:Out β} {rd:Nat→Out α} {f:List α→Nat→Out β} {T:TypeId} {bx:Nat} {Bx:Value→Array Value} {wB wr:World} {s:Option Addr} {cap n k:Nat} {er:Int}
theorem lp_start (hbx:wB.heap[bx]?=some (.cells (Bx (.slice none 0 0)) T (0,0))) (hp:Rd wB b A c ts k er) (hk:k≤ts.length) (hc:Cont OT er (bindO (argsO rd ts k) f=OT)) :
  LpI t sz V b A c ts OT rd f T bx Bx wB wB none 0 0 k er :=
 ⟨hbx,hp,hk,Fr2.refl' _ _ _,hc.imp (fun h=>⟨[],[],0,0,rfl,⟨.inl ⟨rfl,rfl,rfl⟩,⟨by simp,.inl ⟨rfl,rfl⟩⟩,trivial⟩,.inl rfl,Nat.zero_le _,h⟩)⟩
theorem lp_more {m:Nat} {acc:List α} (hf:acc.length=0 ∨ ts.length < k+m) (hk:k≤ts.length) (hO:bindO (tailO rd ts m k acc) f=OT) :
  (∃ k1 m2,moreO ts k acc.length=(true,k1,0)∧k < k1∧k1≤ts.length∧ts.length < k1+m2∧bindO (rd k1) (fun x k2=>bindO (tailO rd ts m2 k2 (acc++[x])) f)=OT) ∨
  (∃ k1 er1,moreO ts k acc.length=(false,k1,er1)∧k1≤ts.length∧Cont OT er1 (f acc k1=OT)):=by
 rcases tail_next rd hf hk with ⟨k1,m2,h1,h2,h3,h4,h5⟩ | ⟨k1,h1,_,h3,h5⟩ | ⟨k1,i,h1,h3,h5⟩
 ·refine .inl ⟨k1,m2,h1,h2,h3,h4,?_⟩
  rw [h5,bindO_assoc] at hO
  exact hO
 ·rw [h5] at hO
  exact .inr ⟨k1,0,h1,h3,.inl ⟨rfl,hO⟩⟩
 ·rw [h5] at hO
  exact .inr ⟨k1,erN i,h1,h3,.inr ⟨i,rfl,hO.symm⟩⟩
/-- Behind an append, ahead of the store. -/
theorem lp_grown {w w4 w6:World} {k0:Nat} {er0:Int} (h0:Rd w b A c ts k0 er0) (hwB:PFr b w wB) (hwx:w.heap.size≤bx) (hbx:bx < wB.heap.size) (h:LpI t sz V b A c ts OT rd f T bx Bx wB wr s cap n k 0) {acc:List α} {vs:List Value} {g:Nat} (hrow:RowH t sz V wB.heap.size wr s cap acc vs g) (hf4:PFr b wr w4) {o:Obj}
  (hg:(w4.alloc o).grownBy w6 (Value.slice s acc.length cap).ownBlock) :
  w6.heap[bx]?=some (.cells (Bx (.slice s n cap)) T (0,0))∧Fr2 b bx wB w6∧(∀ k er,Rd w4 b A c ts k er→Rd w6 b A c ts k er)∧PFr b w w6:=by
 have hb:=h0.lt
 have hs4:=hf4.size
 have hsB:=h.fr.size
 have hwr:=Fr2.toPFr hwB h.fr hwx
 have hwB2:=hwB.size
 obtain ⟨q1,q2,q3,q4⟩:=hrow.grow (w:=w) (by omega) hsB (by omega) hwr hf4 hg
 refine ⟨(q4 bx hbx).trans ((hf4.block bx (by omega) (by omega)).trans h.box),⟨?_,?_,?_,by omega,fun j j1 j2 j3=>(q4 j j1).trans ((hf4.block j (by omega) j2).trans (h.fr.block j j1 j2 j3))⟩,fun k er hr=>h0.move q1 ((q4 b (by omega)).trans hr.blk) hr.near hr.nest0 hr.nest1,q1⟩
 ·exact hg.os.trans (hf4.os.trans h.fr.os)
 ·exact hg.tape.trans (hf4.tape.trans h.fr.tape)
 ·exact hg.output.trans (hf4.output.trans h.fr.output)
theorem lp_next {w w4 w6:World} {k0:Nat} {er0:Int} (h0:Rd w b A c ts k0 er0) (hwB:PFr b w wB) (hwx:w.heap.size≤bx) (hbx:bx < wB.heap.size) (i:Nat) (hi:∀ v,i < (Bx v).size) (hset:∀ v v',(Bx v).set i v' (hi v)=Bx v') (hV:Stable V)
  {acc:List α} {vs:List Value} {g:Nat} (h:LpI t sz V b A c ts OT rd f T bx Bx wB wr s cap acc.length k 0) (hrow:RowH t sz V wB.heap.size wr s cap acc vs g) (hal:acc.length≤k) (hf4:PFr b wr w4) {v2:Value} {k1 k' m2 lo4 g2 cap2:Nat} {er':Int} (hp4:Rd w4 b A c ts k' er') (hk':k'≤ts.length) (hlo:wr.heap.size≤lo4) (hk1:k < k1) (hfu:ts.length < k1+m2)
  (hc:Cont OT er' (∃ x,V x v2 lo4 w4.heap.size w4∧k1 < k'∧bindO (tailO rd ts m2 k' (acc++[x])) f=OT)) {o:Obj}
  (hown:w6.ownsRow wB.heap.size t sz (.slice (some ⟨g2,0,none⟩) (acc.length+1) cap2) (acc.length+1) (vs.flatMap cellsL++cellsL v2)) (hg:(w4.alloc o).grownBy w6 (Value.slice s acc.length cap).ownBlock) (hat:(Value.slice s acc.length cap).ownBlock=some g2 ∨ g2=(w4.alloc o).heap.size) :
  LpI t sz V b A c ts OT rd f T bx Bx wB (w6.setCell ⟨bx,i,none⟩ (.slice (some ⟨g2,0,none⟩) (acc.length+1) cap2)) (some ⟨g2,0,none⟩) cap2 (acc.length+1) k' er':=by
 have hb:=h0.lt
 have hsB:=hwB.size
 obtain ⟨q1,q2,q3,q4⟩:=lp_grown h0 hwB hwx hbx h hrow hf4 hg
 have hp6:=q3 _ _ hp4
 have hpx:Rd (w6.setCell ⟨bx,i,none⟩ (.slice (some ⟨g2,0,none⟩) (acc.length+1) cap2)) b A c ts k' er':=h0.move (q4.putNew hwx i _) ((Below.heap_setCell w6 ⟨bx,i,none⟩ _ b (by show b ≠ bx;omega)).trans hp6.blk) hp6.near hp6.nest0 hp6.nest1
 refine ⟨?_,hpx,hk',⟨q2.os,q2.tape,q2.output,by simpa [World.setCell] using q2.size,fun j j1 j2 j3=>(Below.heap_setCell w6 _ _ j j3).trans (q2.block j j1 j2 j3)⟩,hc.imp ?_⟩
 ·have e:=blk_put w6 bx i (.slice (some ⟨g2,0,none⟩) (acc.length+1) cap2) q1 (hi _)
  rw [hset] at e
  exact e
 ·rintro ⟨x,h1,h2,h3⟩
  have hr6:=hrow.snoc hV (by omega:b < wB.heap.size) h.fr.size hf4 hlo h1 hown hg hat
  have hh:=HiEq.put w6 hbx i (.slice (some ⟨g2,0,none⟩) (acc.length+1) cap2)
  have hlen:(acc++[x]).length=acc.length+1:=by simp
  refine ⟨acc++[x],vs++[v2],g2,m2,hlen.symm,⟨.inr rfl,own_hi hr6.own hh,Items.step hV (fun j j1 _ _=>hh.block j j1) (by rw [hh.size];exact Nat.le_refl _) (.inl rfl) hr6.items⟩,.inr (by omega),by omega,h3⟩
/-- What the loop leaves. -/
theorem lp_left {k1:Nat} {er1:Int} {acc:List α} {vs:List Value} {g:Nat} (hV:Stable V) (hb:b < wB.heap.size) (h:LpI t sz V b A c ts OT rd f T bx Bx wB wr s cap acc.length k 0) (hrow:RowH t sz V wB.heap.size wr s cap acc vs g) {w3:World} (hf:PFr b wr w3) (hc:Cont OT er1 (f acc k1=OT)) :
  Fr2 b bx wB w3∧Cont OT er1 (∃ l,ArgsV t sz V l (.slice s acc.length cap) wB.heap.size w3.heap.size w3∧f l k1=OT) :=
 ⟨h.fr.pfr hf,hc.imp (fun e=>⟨acc,(hrow.fr hV hb hf).held,e⟩)⟩
theorem lp_over (h:LpI t sz V b A c ts OT rd f T bx Bx wB wr s cap n k er) (he:er ≠ 0):Cont OT er (∃ l,ArgsV t sz V l (.slice s n cap) wB.heap.size wr.heap.size wr∧f l k=OT):=by
 obtain ⟨i,h1,h2⟩:=h.cont.err he
 exact .inr ⟨i,h1,h2⟩
end
end Lx
end Go.Proofs.YtajomoclbpobhaaGreatDoor
namespace Go.Proofs.YtajomoclbpobhaaGreatDoor
set_option linter.unusedSimpArgs false
set_option linter.unusedVariables false
namespace Lx
open Go Go.RowKit
def ShCt (v:Value):Prop:=∃ z1 z2 z3 z4,v=.agg #[.string z1,.slice z2 z3 z4]
theorem CtorV.sh:∀ x v lo hi w,CtorV x v lo hi w→ShCt v:=fun _ _ _ _ _ h=>CtorV.this _ _ _ _ _ h
theorem infoCt2:(Tryz.prog.info? 80).map (·.size)=some 2:=by kernel_rfl
theorem bs_data (y:ByteArray):bs y.data.toList=y:=by
 unfold bs
 rfl
def zeroCB (w:World) (B:Nat):Prop:=w.heap[B]?=some (.cells #[.string ⟨#[]⟩,.slice none 0 0] 80 (0,0))
theorem box2c {w w':World} {o:Obj} {b:Nat} {cs:Array Value} {T:TypeId} (hf:PFr b (w.alloc o) w') (hb:b < w.heap.size) (h:(w.alloc o).heap[w.heap.size]?=some (.cells cs T (0,0))):w'.heap[w.heap.size]?=some (.cells cs T (0,0)) :=
 (hf.block w.heap.size (by simp) (Nat.ne_of_gt hb)).trans h
theorem rput2 {w w3:World} {b:Nat} {A:Option Addr} {c:Nat} {ts:List Tok} {k k0:Nat} {er er0:Int} (h:Rd w b A c ts k0 er0) (hf:PFr b w w3) (hp:Rd w3 b A c ts k er) (hz:zeroCB w3 w.heap.size) (x0 x1:Value) :
  ((w3.setCell ⟨w.heap.size,0,none⟩ x0).setCell ⟨w.heap.size,1,none⟩ x1).heap[w.heap.size]?=some (.cells #[x0,x1] 80 (0,0))∧Rd ((w3.setCell ⟨w.heap.size,0,none⟩ x0).setCell ⟨w.heap.size,1,none⟩ x1) b A c ts k er∧PFr b w ((w3.setCell ⟨w.heap.size,0,none⟩ x0).setCell ⟨w.heap.size,1,none⟩ x1)∧HiEq (w.heap.size+1) w3 ((w3.setCell ⟨w.heap.size,0,none⟩ x0).setCell ⟨w.heap.size,1,none⟩ x1):=by
 have hfr:=(hf.putNew (Nat.le_refl _) 0 x0).putNew (Nat.le_refl _) 1 x1
 have hn:∀ j,j ≠ w.heap.size→((w3.setCell ⟨w.heap.size,0,none⟩ x0).setCell ⟨w.heap.size,1,none⟩ x1).heap[j]?=w3.heap[j]?:=fun j hj=>by
  rw [Below.heap_setCell _ _ _ j hj,Below.heap_setCell _ _ _ j hj]
 refine ⟨blk_put _ _ 1 x1 (blk_put w3 _ 0 x0 hz (by show 0 < 2;decide)) (by show 1 < 2;decide),h.move hfr ((hn b (Nat.ne_of_lt h.lt)).trans hp.blk) hp.near hp.nest0 hp.nest1,hfr,?_,fun j hj=>hn j (by omega)⟩
 simp [World.setCell]
theorem ctorO_eq (ts:List Tok) (ne:Int) (k:Nat):ctorO ts ne k=bindO (nameO ts k) (fun s k1=>bindO (argsO (typeO ts 66 ne) ts k1) (fun l k2=>.ok (.mk s l) k2)):=by
 unfold ctorO
 cases nameO ts k with
 | no i=>rfl
 | ok s k1 =>
  show _=bindO (argsO (typeO ts 66 ne) ts k1) _
  dsimp only
  cases argsO (typeO ts 66 ne) ts k1 <;> rfl
/-- An append at a step of a region that draws its order. -/
theorem step_ctor {ops:Array Oper} {o:Oper} {a:Act} {W:World} {K:Act→World→Prop} {Q:Exit→Act→World→Prop} {E:Prop} (hgd:o.guard=none) (s x:Operand)
  (ho:o.op=.call { callee:=.builtin .append,args:=#[s,x],argTypes:=#[23,23] })
  (base:Nat) (v:Value) (n:Nat) (xs:List Value) (hs:a.eval s=v) (hown:W.ownsRow base 80 2 v n xs) (B:Nat) (p2:ByteArray) (p4:Option Addr) (p5 p6:Nat) (hx:a.eval x=.slice (some ⟨B,0,none⟩) 1 1)
  (hB:W.heap[B]?=some (.cells #[.string p2,.slice p4 p5 p6] 80 (0,0))) (hn:n≤2000000) (hbase:base≤W.heap.size)
  (h:∀ g c w',w'.ownsRow base 80 2 (.slice (some ⟨g,0,none⟩) (n+1) c) (n+1) (xs++[.string p2,.slice p4 p5 p6])→W.grownBy w' v.ownBlock→(v.ownBlock=some g ∨ g=W.heap.size)→K (a.put o.dst (.slice (some ⟨g,0,none⟩) (n+1) c)) w') :
  if Region.wanted o (yielded ops a.tmps)=true then Oper.wp Tryz.prog o a W K Q else E:=by
 obtain ⟨i0,hi,hz0,hz1,hz2⟩:=info_parts infoCt
 exact step_append_lies W hgd s x _ ho base _ i0 _ 2 40 Tryz.underlying23 hi hz0 hz1 hz2 rfl (by decide) v n xs hs hown ⟨B,0,none⟩ 1 1 [.string p2,.slice p4 p5 p6] hx rfl (World.news_of_block (cs:=#[.string p2,.slice p4 p5 p6]) hB) (by simp [Value.oneCell'])
  (by omega) (by unfold maxLen;omega) (by omega) hbase _ rfl (fun g cap w' h2 h3 h4 _=>h g cap w' h2 h3 h4)
theorem step_str {ops:Array Oper} {o:Oper} {a:Act} {W:World} {K:Act→World→Prop} {Q:Exit→Act→World→Prop} {E:Prop} (hgd:o.guard=none) (s x:Operand)
  (ho:o.op=.call { callee:=.builtin .append,args:=#[s,x],argTypes:=#[22,22] })
  (base:Nat) (v:Value) (n:Nat) (xs:List Value) (hs:a.eval s=v) (hown:W.ownsRow base 9 1 v n xs) (B:Nat) (p2:ByteArray) (hx:a.eval x=.slice (some ⟨B,0,none⟩) 1 1)
  (hB:W.heap[B]?=some (.cells #[.string p2] 9 (0,0))) (hn:n≤2000000) (hbase:base≤W.heap.size)
  (h:∀ g c w',w'.ownsRow base 9 1 (.slice (some ⟨g,0,none⟩) (n+1) c) (n+1) (xs++[.string p2])→W.grownBy w' v.ownBlock→(v.ownBlock=some g ∨ g=W.heap.size)→K (a.put o.dst (.slice (some ⟨g,0,none⟩) (n+1) c)) w') :
  if Region.wanted o (yielded ops a.tmps)=true then Oper.wp Tryz.prog o a W K Q else E:=by
 obtain ⟨i0,hi,hz0,hz1,hz2⟩:=info_parts infoSt
 exact step_append_lies W hgd s x _ ho base _ i0 _ 1 16 Tryz.underlying22 hi hz0 hz1 hz2 rfl (by decide) v n xs hs hown ⟨B,0,none⟩ 1 1 [.string p2] hx rfl (World.news_of_block (cs:=#[.string p2]) hB) (by simp [Value.oneCell'])
  (by omega) (by unfold maxLen;omega) (by omega) hbase _ rfl (fun g cap w' h2 h3 h4 _=>h g cap w' h2 h3 h4)
set_option maxRecDepth 100000 in
set_option maxHeartbeats 8000000 in
theorem rctor_genc (b:Nat) (A:Option Addr) (c:Nat) (ts:List Tok) (hw:WF ts):GenC 100 #[.pointer (some ⟨b,0,none⟩)] b A c ts CtorV ShCt (ctorO ts 0):=by
 intro w k er OT hc h hk
 have HP:=Lib.hid h
 have hfw:=h.few
 have HWF:=Lib.hid hw
 have HBW:=Lib.hid h.lt
 rw [ctorO_eq] at hc
 have HN:=Lib.hid (rname_cont (h.alloc (.cells #[.string ⟨#[]⟩,.slice none 0 0] 80)) hk hc)
 have HTG:=Lib.hid (rtype_top b A c ts hw)
 clear h hc hk hw
 go_enter Tryz.func100,Tryz.ntmps100
 go_wp2_with fail
 go_at_call 98
 refine HN.out.mono ?_
 rintro e w2 ⟨y,k2,er2,rfl,hk2,hp2,hf2,hc2⟩
 have hc3:Cont OT er2 (bindO (argsO (typeO ts 66 0) ts k2) (fun l k'=>.ok (.mk y.data.toList l) k')=OT):=hc2.imp (fun ⟨s,e,_,h⟩=>by rw [e];exact h)
 have HBOX:=Lib.hid (heap_alloc_new w2 (.cells #[.string y,.slice none 0 0] 80))
 have HPB:=Lib.hid (hp2.alloc (.cells #[.string y,.slice none 0 0] 80))
 have HKB:=Lib.hid hk2
 have HCB:=Lib.hid hc3
 have HFB:=Lib.hid ((((PFr.refl b w).alloc _).trans hf2).alloc (.cells #[.string y,.slice none 0 0] 80))
 have hsz:w.heap.size+1≤w2.heap.size:=by have:=hf2.size;simpa using this
 have HBX:Hid (w.heap.size≤w2.heap.size):=Lib.hid (by omega)
 have HBXB:Hid (w2.heap.size < (w2.alloc (.cells #[.string y,.slice none 0 0] 80)).heap.size):=Lib.hid (by simp)
 have HRB:Hid (w.heap.size < w2.heap.size):=Lib.hid (by omega)
 have HNB:Hid (b < w2.heap.size):=Lib.hid (by have:=HBW.out;omega)
 have HBB:Hid (b < (w2.alloc (.cells #[.string y,.slice none 0 0] 80)).heap.size):=Lib.hid (by have:=HBW.out;simp;omega)
 have HZB:Hid (zeroCB (w2.alloc (.cells #[.string y,.slice none 0 0] 80)) w.heap.size):=Lib.hid ((Below.heap_alloc _ _ _ (by omega)).trans (box2c hf2 HBW.out (heap_alloc_new w _)))
 clear hk2 hp2 hf2 hc2 hc3 hsz
 go_wp2_with fail
 generalize w2.alloc (.cells #[.string y,.slice none 0 0] 80)=wB at HBOX HPB HFB HBXB HBB HZB ⊢
 have HST:=Lib.hid (lp_start (OT:=OT) (t:=35) (sz:=3) (V:=TypeV 66) (rd:=typeO ts 66 0) (f:=fun l k'=>Out.ok (CtorT.mk y.data.toList l) k') (bx:=w2.heap.size) (Bx:=fun v=>#[.string y,v]) (T:=80) HBOX.out HPB.out HKB.out HCB.out)
 go_loopw [] (fun wr=>∃ s cap n kk er',Hid (LpI 35 3 (TypeV 66) b A c ts OT (typeO ts 66 0) (fun l k'=>Out.ok (CtorT.mk y.data.toList l) k') 80 w2.heap.size (fun v=>#[.string y,v]) wB wr s cap n kk er')) (fun wr=>meas ts.length b wr)
 case atStart=>exact ⟨none,0,0,_,_,HST⟩
 case round =>
  obtain ⟨s,cap,n,kk,er',hI⟩:=hrel
  have HI:=hI
  clear hI HST
  have c2:=HI.out.wd.c2
  have hbox:=HI.out.box
  have d3:=(Lib.cell_of_heap hbox 1).trans rfl
  clear hbox
  rcases (show er' ≠ 0 ∨ er'=0 from (Decidable.em (er'=0)).symm) with hne | rfl
  case' inl =>
   have hq:(er' == 0)=false:=by simpa using hne
   have HXC:=Lib.hid (lp_over HI.out hne)
   have HXB:=Lib.hid HI.out.box
   have HXR:=Lib.hid HI.out.wd
   have HXK:=Lib.hid HI.out.le
   have HXF:=Lib.hid HI.out.fr
   obtain ⟨W,hW⟩:∃ W:World,W=wr:=⟨_,rfl⟩
   rw [← hW] at HXC HXB HXR HXF c2 d3 ⊢
   obtain ⟨k3,hk3⟩:∃ k3:Nat,k3=kk:=⟨_,rfl⟩
   obtain ⟨er3,he3⟩:∃ er3:Int,er3=er':=⟨_,rfl⟩
   rw [← hk3] at HXC HXR HXK
   rw [← he3] at HXC HXR c2 hq
   clear HI hne hW hk3 he3
  case' inr =>
   obtain ⟨acc,vs,g,m,rfl,hrow,hfu,hal,hO⟩:=HI.out.cont.ok
   have HROW:=Lib.hid hrow
   have HAL:=Lib.hid hal
   have hfew:acc.length≤16384:=by have h2:=HI.out.le;omega
   have HM:=Lib.hid (rmore_any wr b A c ts HWF.out kk acc.length HI.out.wd HI.out.le)
   have hbz:w2.heap.size < wr.heap.size:=(Array.getElem?_eq_some_iff.1 HI.out.box).1
   rcases lp_more hfu HI.out.le hO with ⟨k1,m2,hm,hk1,hk1l,hfu2,hT⟩ | ⟨k1,er1,hm,hk1l,hc1⟩
   case' inl =>
    rw [hm] at HM
    have HRX:=Lib.hid (fun (w3:World) (h3:Rd w3 b A c ts k1 0)=>HTG.out.cont (typeO_fwd ts 66 0) (TypeV.sh) h3 hk1l (.inl ⟨rfl,hT⟩))
    have HK1:=Lib.hid hk1
    have HFU:=Lib.hid hfu2
    clear hrow hfu hal hO hm hk1 hk1l hfu2 hT
    go_wp2_with fail
    go_at_call 99
    refine HM.out.mono ?_
    rintro e w3 ⟨rfl,hp3,hf3⟩
    have hnb:w2.heap.size ≠ b:=by have:=HNB.out;omega
    have d4:=(hf3.cell (p:=⟨w2.heap.size,1,none⟩) hbz hnb).trans d3
    have hw3:w2.heap.size < w3.heap.size:=Nat.lt_of_lt_of_le hbz hf3.size
    have HOWN:=Lib.hid (own_fr HROW.out.own hf3 HBB.out)
    have HR3:=Lib.hid hp3
    have HF3:=Lib.hid hf3
    clear hp3 hf3 d3 c2
    go_wp2_with fail
    go_region_law (first
     | (go_simp;go_at_call 101;refine (HRX.out _ HR3.out.drew).mono ?_;rintro e w4 ⟨v4,k4,er4,rfl,⟨p1,p2,p4,p5,p6,rfl⟩,hk4,hp4,hf4,hc4⟩;replace hf4:=PFr.ofDrew hf4;have d5:=(hf4.cell (p:=⟨w2.heap.size,1,none⟩) hw3 hnb).trans d4;have hw4:w2.heap.size < w4.heap.size:=Nat.lt_of_lt_of_le hw3 hf4.size;have hw5:¬ w2.heap.size=w4.heap.size:=Nat.ne_of_lt hw4;have hw6:¬ w4.heap.size=w2.heap.size:=fun e=>hw5 e.symm)
     | ((refine step_type rfl (.tmp 20) (.tmp 23) rfl wB.heap.size (.slice s acc.length cap) acc.length (vs.flatMap cellsL) ?_ ?_ w4.heap.size p1 p2 p4 p5 p6 ?_ ?_ ?_ ?_ ?_);(rfl);(exact (own_fr HOWN.out hf4 HBB.out).alloc _);(rfl);(exact heap_alloc_new _ _);(omega);(have:=hf4.size;have:=HI.out.fr.size;have:=HF3.out.size;simp at this ⊢;omega);(intro g2 cap2 w6 hown6 hg6 hat6;have HG6:=Lib.hid hg6;have HOW:=Lib.hid hown6;have HAT:=Lib.hid hat6;obtain ⟨q1,q2,q3,q4⟩:=lp_grown HP.out HFB.out HBX.out HBXB.out HI.out HROW.out (HF3.out.trans hf4) hg6;have e3:=(Lib.cell_of_heap q1 1).trans rfl;have f3:=Lib.frozen_of_heap q1 1;clear q1 q2 q3 q4 hg6 hown6 hat6)))
    all_goals
     have HLN:=Lib.hid (lp_next HP.out HFB.out HBX.out HBXB.out 1 (fun _=>by show 1 < 2;decide) (fun _ _=>rfl) (TypeV.stable 66) HI.out HROW.out HAL.out (HF3.out.trans hf4) hp4 hk4 (show wr.heap.size≤w3.drew.heap.size from HF3.out.size) HK1.out HFU.out hc4 (v2:=.agg #[.bool p1,.string p2,.slice p4 p5 p6]) HOW.out HG6.out HAT.out)
     have HC4:=Lib.hid hc4
     have HK4:=Lib.hid hk4
     clear hf4 hp4 d4 d5 e3 f3 hk4 hc4
     go_wp2
     go_roundw
     case rel=>exact ⟨_,_,_,_,_,HLN⟩
     case measure =>
      rw [meas_on HI.out.wd]
      rcases HC4.out with ⟨rfl,_,_,h5,_⟩ | ⟨i,rfl,_⟩
      ·rw [meas_on HLN.out.wd]
       have h6:=HK1.out
       have h7:=HK4.out
       omega
      ·rw [meas_off HLN.out.wd (erN_ne i)]
       omega
   case' inr =>
    rw [hm] at HM
    have HC1:=Lib.hid hc1
    have HXK:=Lib.hid hk1l
    clear hrow hfu hal hO hm hk1l hc1
    go_wp2_with fail
    go_at_call 99
    refine HM.out.mono ?_
    rintro e W ⟨rfl,hp3,hf3⟩
    obtain ⟨HXFo,HXCo⟩:=lp_left (TypeV.stable 66) HBB.out HI.out HROW.out hf3 HC1.out
    have HXF:=Lib.hid HXFo
    have HXC:=Lib.hid HXCo
    have HXB:=Lib.hid ((hf3.block w2.heap.size hbz (by have:=HNB.out;omega)).trans HI.out.box)
    have HXR:=Lib.hid hp3
    obtain ⟨n,hn⟩:∃ n:Nat,n=acc.length:=⟨_,rfl⟩
    rw [← hn] at HXC HXB
    obtain ⟨k3,hk3⟩:∃ k3:Nat,k3=k1:=⟨_,rfl⟩
    obtain ⟨er3,he3⟩:∃ er3:Int,er3=er1:=⟨_,rfl⟩
    rw [← hk3] at HXC HXR HXK
    rw [← he3] at HXC HXR
    clear hp3 hf3 HXFo HXCo HM HC1 hn hk3 he3 d3 c2 hfew hbz HROW HAL HI
  all_goals
   have hz:=(HXF.out.block w.heap.size (by have:=HRB.out;have:=HBXB.out;omega) (by have:=HBW.out;omega) (by have:=HRB.out;omega)).trans HZB.out
   have hbx:=HXB.out
   have d0:=(Lib.cell_of_heap hbx 0).trans rfl
   have d1:=(Lib.cell_of_heap hbx 1).trans rfl
   have x0:=(Lib.cell_of_heap hz 0).trans rfl
   have x1:=(Lib.cell_of_heap hz 1).trans rfl
   have g0:=Lib.frozen_of_heap hz 0
   have g1:=Lib.frozen_of_heap hz 1
   have HZ:=Lib.hid hz
   clear hz hbx
   go_wp2_with fail
   obtain ⟨t0,t1,t2,t3⟩:=rput2 HP.out (Fr2.toPFr HFB.out HXF.out HBX.out) HXR.out HZ.out (.string y) (.slice s n cap)
   generalize ((W.setCell ⟨w.heap.size,0,none⟩ (.string y)).setCell ⟨w.heap.size,1,none⟩ (.slice s n cap))=X at t0 t1 t2 t3 ⊢
   refine bodyPost_ret (v:=.agg #[.string y,.slice s n cap]) (results_cell_row Tryz.results100 _ _ w.heap.size 80 #[.string y,.slice s n cap] (0,0) _ rfl t0 Tryz.underlying80 rfl infoCt2) rfl (rends_of HXK.out ⟨_,_,_,_,rfl⟩ t1 t2 (HXC.out.imp (fun q=>?_)))
   obtain ⟨l,g1,g2⟩:=q
   refine ⟨_,?_,g2⟩
   have e1:=HRB.out
   have e2:=HBXB.out
   have g3:=ArgsV.stable _ _ (TypeV.stable 66) _ _ _ _ _ X g1 (fun j j1 _=>t3.block j (by omega))
   exact ⟨_,by rw [bs_data],g3.wide (by omega) (by rw [t3.size];exact Nat.le_refl _)⟩
end Lx
end Go.Proofs.YtajomoclbpobhaaGreatDoor
namespace Go.Proofs.YtajomoclbpobhaaGreatDoor
set_option linter.unusedSimpArgs false
set_option linter.unusedVariables false
namespace Lx
open Go Go.RowKit
theorem kw_type:KW (ByteArray.mk #[116,121,112,101]).data.toList:=⟨by simp,1,.inl rfl,rfl⟩
theorem kw_pred:KW (ByteArray.mk #[112,114,101,100]).data.toList:=⟨by simp,1,.inl rfl,rfl⟩
theorem kw_mode:KW (ByteArray.mk #[109,111,100,101]).data.toList:=⟨by simp,1,.inl rfl,rfl⟩
theorem kw_bar:KW (ByteArray.mk #[124]).data.toList:=⟨by simp,4,.inr rfl,rfl⟩
theorem kw_in:KW (ByteArray.mk #[105,110]).data.toList:=⟨by simp,1,.inl rfl,rfl⟩
theorem kw_out:KW (ByteArray.mk #[111,117,116]).data.toList:=⟨by simp,1,.inl rfl,rfl⟩
theorem kw_is:KW (ByteArray.mk #[105,115]).data.toList:=⟨by simp,1,.inl rfl,rfl⟩
theorem kw_det:KW (ByteArray.mk #[100,101,116]).data.toList:=⟨by simp,1,.inl rfl,rfl⟩
theorem kw_semidet:KW (ByteArray.mk #[115,101,109,105,100,101,116]).data.toList:=⟨by simp,1,.inl rfl,rfl⟩
theorem kw_multi:KW (ByteArray.mk #[109,117,108,116,105]).data.toList:=⟨by simp,1,.inl rfl,rfl⟩
theorem kw_nondet:KW (ByteArray.mk #[110,111,110,100,101,116]).data.toList:=⟨by simp,1,.inl rfl,rfl⟩
theorem kw_arrow:KW (ByteArray.mk #[58,45]).data.toList:=⟨by simp,4,.inr rfl,rfl⟩
theorem kw_dot:KW (ByteArray.mk #[46]).data.toList:=⟨by simp,4,.inr rfl,rfl⟩
def ShIt (v:Value):Prop:=∃ i1 i2 i3 i4 i5 i6 i7 i8 i9 ia ib ic id ie ig ih ii ij z1 z2 z3 z4 z5 z6 z7 z8 z9 za zb zc zd ze zf zg zh zi zj zk,v=.agg #[.int .i64 i1,.string i2,.slice i3 i4 i5,.slice i6 i7 i8,.slice i9 ia ib,.slice ic id ie,.int .i64 ig,.slice ih ii ij,.int .i64 z1,.int .i64 z2,.string z3,.int .i64 z4,.slice z5 z6 z7,.int .i64 z8,.string z9,.int .i64 za,.slice zb zc zd,.string ze,.slice zf zg zh,.slice zi zj zk]
theorem ItemV.sh:∀ x v lo hi w,ItemV x v lo hi w→ShIt v:=fun _ _ _ _ _ h=>ItemV.this h
theorem infoIt20:(Tryz.prog.info? 33).map (·.size)=some 20:=by kernel_rfl
def zeroIB (w:World) (B:Nat):Prop:=w.heap[B]?=some (.cells #[.int .i64 0,.string ⟨#[]⟩,.slice none 0 0,.slice none 0 0,.slice none 0 0,.slice none 0 0,.int .i64 0,.slice none 0 0,.int .i64 0,.int .i64 0,.string ⟨#[]⟩,.int .i64 0,.slice none 0 0,.int .i64 0,.string ⟨#[]⟩,.int .i64 0,.slice none 0 0,.string ⟨#[]⟩,.slice none 0 0,.slice none 0 0] 33 (0,0))
/-- The result is written as a whole. -/
theorem rputAll {w w3:World} {b:Nat} {A:Option Addr} {c:Nat} {ts:List Tok} {k k0:Nat} {er er0:Int} (h:Rd w b A c ts k0 er0) (hf:PFr b w w3) (hp:Rd w3 b A c ts k er) {Z C:Array Value} {T:TypeId} (hz:w3.heap[w.heap.size]?=some (.cells Z T (0,0))) (hC:C.size=Z.size) :
  (w3.setCells w.heap.size 0 C.toList).heap[w.heap.size]?=some (.cells C T (0,0))∧Rd (w3.setCells w.heap.size 0 C.toList) b A c ts k er∧PFr b w (w3.setCells w.heap.size 0 C.toList)∧HiEq (w.heap.size+1) w3 (w3.setCells w.heap.size 0 C.toList):=by
 have hfr:PFr b w (w3.setCells w.heap.size 0 C.toList) :=
  ⟨(sets_os _ _ _ _).1.trans hf.os,(sets_os _ _ _ _).2.1.trans hf.tape,(sets_os _ _ _ _).2.2.trans hf.output,by rw [sets_size];exact hf.size,fun j hj hn=>(sets_else _ _ _ _ j (Nat.ne_of_lt hj)).trans (hf.block j hj hn)⟩
 refine ⟨sets_all C hz hC,h.move hfr ?_ hp.near hp.nest0 hp.nest1,hfr,sets_size _ _ _ _,fun j hj=>sets_else _ _ _ _ j (by omega)⟩
 rw [sets_else _ _ _ _ b (Nat.ne_of_lt h.lt)]
 exact hp.blk
theorem sets_goal {w:World} {N:Nat} {T:TypeId} {a0 a1 a2 a3 a4 a5 a6 a7:Value} {L G:List Value} (h:w.heap[N]?=some (.cells ⟨a0 :: a1 :: a2 :: a3 :: a4 :: a5 :: a6 :: a7 :: L⟩ T (0,0))) (hL:L.length=12) (hG:G.length=12) :
  (w.setCells N 8 G).heap[N]?=some (.cells ⟨a0 :: a1 :: a2 :: a3 :: a4 :: a5 :: a6 :: a7 :: G⟩ T (0,0)):=by
 obtain ⟨C',h1,h2,h3⟩:=sets_blk N G 8 w _ h (by simp;omega)
 rw [h1]
 congr 2
 apply Array.ext_getElem?
 intro q
 rw [h3 q]
 simp only [List.getElem?_toArray]
 match q with
 | 0=>rw [if_neg (by omega)];rfl
 | 1=>rw [if_neg (by omega)];rfl
 | 2=>rw [if_neg (by omega)];rfl
 | 3=>rw [if_neg (by omega)];rfl
 | 4=>rw [if_neg (by omega)];rfl
 | 5=>rw [if_neg (by omega)];rfl
 | 6=>rw [if_neg (by omega)];rfl
 | 7=>rw [if_neg (by omega)];rfl
 | q+8 =>
  by_cases hq:q < 12
  ·rw [if_pos (by omega),show q+8 - 8=q by omega]
   rfl
  ·rw [if_neg (by omega)]
   show L[q]?=G[q]?
   rw [List.getElem?_eq_none (by omega),List.getElem?_eq_none (by omega)]
theorem there_goal {w:World} {N:Nat} {T:TypeId} {a0 a1 a2 a3 a4 a5 a6 a7:Value} {L:List Value} (h:w.heap[N]?=some (.cells ⟨a0 :: a1 :: a2 :: a3 :: a4 :: a5 :: a6 :: a7 :: L⟩ T (0,0))) (hL:L.length=12):w.there N 8 12:=fun j hj=>by
 refine ⟨?_,Lib.frozen_of_heap h _⟩
 rw [cell_of_row w N (8+j) _ T (0,0) h,List.getElem?_toArray,show 8+j=j+8 by omega]
 show (L[j]?).isSome=true
 rw [List.getElem?_eq_getElem (by omega)]
 rfl
theorem Rd.sets {w0 X:World} {b:Nat} {A:Option Addr} {c:Nat} {ts:List Tok} {k k0:Nat} {er er0:Int} (h0:Rd w0 b A c ts k0 er0) (hf:PFr b w0 X) (hp:Rd X b A c ts k er) {N:Nat} (hN:w0.heap.size≤N) (i:Nat) (l:List Value):Rd (X.setCells N i l) b A c ts k er∧PFr b w0 (X.setCells N i l):=by
 have hfr:PFr b w0 (X.setCells N i l):=⟨(sets_os _ _ _ _).1.trans hf.os,(sets_os _ _ _ _).2.1.trans hf.tape,(sets_os _ _ _ _).2.2.trans hf.output,by rw [sets_size];exact hf.size,fun j hj hn=>(sets_else _ _ _ _ j (by omega)).trans (hf.block j hj hn)⟩
 refine ⟨h0.move hfr ?_ hp.near hp.nest0 hp.nest1,hfr⟩
 rw [sets_else _ _ _ _ b (by have:=h0.lt;omega)]
 exact hp.blk
theorem zero_sets {x:World} {R N i:Nat} {l:List Value} (h:R ≠ N) (hz:zeroIB x R):zeroIB (x.setCells N i l) R:=(sets_else _ _ _ _ _ h).trans hz
theorem zero_pfr {b:Nat} {x y:World} (h:PFr b x y) (R:Nat) (h1:R < x.heap.size) (h2:R ≠ b) (hz:zeroIB x R):zeroIB y R:=(h.block R h1 h2).trans hz
theorem zero_put {x:World} {R N i:Nat} {v:Value} (h:R ≠ N) (hz:zeroIB x R):zeroIB (x.setCell ⟨N,i,none⟩ v) R:=(Below.heap_setCell _ _ _ _ h).trans hz
/-- The two new blocks: the result, and the item that is made. -/
theorem item_begin {w:World} {b:Nat} {A:Option Addr} {c:Nat} {ts:List Tok} {k:Nat} {er:Int} {C:Array Value} (h:Rd w b A c ts k er) (hY:((w.alloc (.cells #[.int .i64 0,.string ⟨#[]⟩,.slice none 0 0,.slice none 0 0,.slice none 0 0,.slice none 0 0,.int .i64 0,.slice none 0 0,.int .i64 0,.int .i64 0,.string ⟨#[]⟩,.int .i64 0,.slice none 0 0,.int .i64 0,.string ⟨#[]⟩,.int .i64 0,.slice none 0 0,.string ⟨#[]⟩,.slice none 0 0,.slice none 0 0] 33)).alloc (.cells #[.int .i64 0,.string ⟨#[]⟩,.slice none 0 0,.slice none 0 0,.slice none 0 0,.slice none 0 0,.int .i64 0,.slice none 0 0,.int .i64 0,.int .i64 0,.string ⟨#[]⟩,.int .i64 0,.slice none 0 0,.int .i64 0,.string ⟨#[]⟩,.int .i64 0,.slice none 0 0,.string ⟨#[]⟩,.slice none 0 0,.slice none 0 0] 33)).heap[w.heap.size+1]?=some (.cells #[.int .i64 0,.string ⟨#[]⟩,.slice none 0 0,.slice none 0 0,.slice none 0 0,.slice none 0 0,.int .i64 0,.slice none 0 0,.int .i64 0,.int .i64 0,.string ⟨#[]⟩,.int .i64 0,.slice none 0 0,.int .i64 0,.string ⟨#[]⟩,.int .i64 0,.slice none 0 0,.string ⟨#[]⟩,.slice none 0 0,.slice none 0 0] 33 (0,0))) (hC:C.size=20) :
  (((w.alloc (.cells #[.int .i64 0,.string ⟨#[]⟩,.slice none 0 0,.slice none 0 0,.slice none 0 0,.slice none 0 0,.int .i64 0,.slice none 0 0,.int .i64 0,.int .i64 0,.string ⟨#[]⟩,.int .i64 0,.slice none 0 0,.int .i64 0,.string ⟨#[]⟩,.int .i64 0,.slice none 0 0,.string ⟨#[]⟩,.slice none 0 0,.slice none 0 0] 33)).alloc (.cells #[.int .i64 0,.string ⟨#[]⟩,.slice none 0 0,.slice none 0 0,.slice none 0 0,.slice none 0 0,.int .i64 0,.slice none 0 0,.int .i64 0,.int .i64 0,.string ⟨#[]⟩,.int .i64 0,.slice none 0 0,.int .i64 0,.string ⟨#[]⟩,.int .i64 0,.slice none 0 0,.string ⟨#[]⟩,.slice none 0 0,.slice none 0 0] 33)).setCells (w.heap.size+1) 0 C.toList).heap[w.heap.size+1]?=some (.cells C 33 (0,0))∧zeroIB (((w.alloc (.cells #[.int .i64 0,.string ⟨#[]⟩,.slice none 0 0,.slice none 0 0,.slice none 0 0,.slice none 0 0,.int .i64 0,.slice none 0 0,.int .i64 0,.int .i64 0,.string ⟨#[]⟩,.int .i64 0,.slice none 0 0,.int .i64 0,.string ⟨#[]⟩,.int .i64 0,.slice none 0 0,.string ⟨#[]⟩,.slice none 0 0,.slice none 0 0] 33)).alloc (.cells #[.int .i64 0,.string ⟨#[]⟩,.slice none 0 0,.slice none 0 0,.slice none 0 0,.slice none 0 0,.int .i64 0,.slice none 0 0,.int .i64 0,.int .i64 0,.string ⟨#[]⟩,.int .i64 0,.slice none 0 0,.int .i64 0,.string ⟨#[]⟩,.int .i64 0,.slice none 0 0,.string ⟨#[]⟩,.slice none 0 0,.slice none 0 0] 33)).setCells (w.heap.size+1) 0 C.toList) w.heap.size ∧
  Rd (((w.alloc (.cells #[.int .i64 0,.string ⟨#[]⟩,.slice none 0 0,.slice none 0 0,.slice none 0 0,.slice none 0 0,.int .i64 0,.slice none 0 0,.int .i64 0,.int .i64 0,.string ⟨#[]⟩,.int .i64 0,.slice none 0 0,.int .i64 0,.string ⟨#[]⟩,.int .i64 0,.slice none 0 0,.string ⟨#[]⟩,.slice none 0 0,.slice none 0 0] 33)).alloc (.cells #[.int .i64 0,.string ⟨#[]⟩,.slice none 0 0,.slice none 0 0,.slice none 0 0,.slice none 0 0,.int .i64 0,.slice none 0 0,.int .i64 0,.int .i64 0,.string ⟨#[]⟩,.int .i64 0,.slice none 0 0,.int .i64 0,.string ⟨#[]⟩,.int .i64 0,.slice none 0 0,.string ⟨#[]⟩,.slice none 0 0,.slice none 0 0] 33)).setCells (w.heap.size+1) 0 C.toList) b A c ts k er∧PFr b w (((w.alloc (.cells #[.int .i64 0,.string ⟨#[]⟩,.slice none 0 0,.slice none 0 0,.slice none 0 0,.slice none 0 0,.int .i64 0,.slice none 0 0,.int .i64 0,.int .i64 0,.string ⟨#[]⟩,.int .i64 0,.slice none 0 0,.int .i64 0,.string ⟨#[]⟩,.int .i64 0,.slice none 0 0,.string ⟨#[]⟩,.slice none 0 0,.slice none 0 0] 33)).alloc (.cells #[.int .i64 0,.string ⟨#[]⟩,.slice none 0 0,.slice none 0 0,.slice none 0 0,.slice none 0 0,.int .i64 0,.slice none 0 0,.int .i64 0,.int .i64 0,.string ⟨#[]⟩,.int .i64 0,.slice none 0 0,.int .i64 0,.string ⟨#[]⟩,.int .i64 0,.slice none 0 0,.string ⟨#[]⟩,.slice none 0 0,.slice none 0 0] 33)).setCells (w.heap.size+1) 0 C.toList)∧w.heap.size+2≤(((w.alloc (.cells #[.int .i64 0,.string ⟨#[]⟩,.slice none 0 0,.slice none 0 0,.slice none 0 0,.slice none 0 0,.int .i64 0,.slice none 0 0,.int .i64 0,.int .i64 0,.string ⟨#[]⟩,.int .i64 0,.slice none 0 0,.int .i64 0,.string ⟨#[]⟩,.int .i64 0,.slice none 0 0,.string ⟨#[]⟩,.slice none 0 0,.slice none 0 0] 33)).alloc (.cells #[.int .i64 0,.string ⟨#[]⟩,.slice none 0 0,.slice none 0 0,.slice none 0 0,.slice none 0 0,.int .i64 0,.slice none 0 0,.int .i64 0,.int .i64 0,.string ⟨#[]⟩,.int .i64 0,.slice none 0 0,.int .i64 0,.string ⟨#[]⟩,.int .i64 0,.slice none 0 0,.string ⟨#[]⟩,.slice none 0 0,.slice none 0 0] 33)).setCells (w.heap.size+1) 0 C.toList).heap.size:=by
 have hz:((w.alloc (.cells #[.int .i64 0,.string ⟨#[]⟩,.slice none 0 0,.slice none 0 0,.slice none 0 0,.slice none 0 0,.int .i64 0,.slice none 0 0,.int .i64 0,.int .i64 0,.string ⟨#[]⟩,.int .i64 0,.slice none 0 0,.int .i64 0,.string ⟨#[]⟩,.int .i64 0,.slice none 0 0,.string ⟨#[]⟩,.slice none 0 0,.slice none 0 0] 33)).alloc (.cells #[.int .i64 0,.string ⟨#[]⟩,.slice none 0 0,.slice none 0 0,.slice none 0 0,.slice none 0 0,.int .i64 0,.slice none 0 0,.int .i64 0,.int .i64 0,.string ⟨#[]⟩,.int .i64 0,.slice none 0 0,.int .i64 0,.string ⟨#[]⟩,.int .i64 0,.slice none 0 0,.string ⟨#[]⟩,.slice none 0 0,.slice none 0 0] 33)).heap[w.heap.size]?=some (.cells #[.int .i64 0,.string ⟨#[]⟩,.slice none 0 0,.slice none 0 0,.slice none 0 0,.slice none 0 0,.int .i64 0,.slice none 0 0,.int .i64 0,.int .i64 0,.string ⟨#[]⟩,.int .i64 0,.slice none 0 0,.int .i64 0,.string ⟨#[]⟩,.int .i64 0,.slice none 0 0,.string ⟨#[]⟩,.slice none 0 0,.slice none 0 0] 33 (0,0)):=(Below.heap_alloc _ _ _ (by simp)).trans (heap_alloc_new w _)
 have hp:=(h.alloc (.cells #[.int .i64 0,.string ⟨#[]⟩,.slice none 0 0,.slice none 0 0,.slice none 0 0,.slice none 0 0,.int .i64 0,.slice none 0 0,.int .i64 0,.int .i64 0,.string ⟨#[]⟩,.int .i64 0,.slice none 0 0,.int .i64 0,.string ⟨#[]⟩,.int .i64 0,.slice none 0 0,.string ⟨#[]⟩,.slice none 0 0,.slice none 0 0] 33)).alloc (.cells #[.int .i64 0,.string ⟨#[]⟩,.slice none 0 0,.slice none 0 0,.slice none 0 0,.slice none 0 0,.int .i64 0,.slice none 0 0,.int .i64 0,.int .i64 0,.string ⟨#[]⟩,.int .i64 0,.slice none 0 0,.int .i64 0,.string ⟨#[]⟩,.int .i64 0,.slice none 0 0,.string ⟨#[]⟩,.slice none 0 0,.slice none 0 0] 33)
 have hf:=((PFr.refl b w).alloc (.cells #[.int .i64 0,.string ⟨#[]⟩,.slice none 0 0,.slice none 0 0,.slice none 0 0,.slice none 0 0,.int .i64 0,.slice none 0 0,.int .i64 0,.int .i64 0,.string ⟨#[]⟩,.int .i64 0,.slice none 0 0,.int .i64 0,.string ⟨#[]⟩,.int .i64 0,.slice none 0 0,.string ⟨#[]⟩,.slice none 0 0,.slice none 0 0] 33)).alloc (.cells #[.int .i64 0,.string ⟨#[]⟩,.slice none 0 0,.slice none 0 0,.slice none 0 0,.slice none 0 0,.int .i64 0,.slice none 0 0,.int .i64 0,.int .i64 0,.string ⟨#[]⟩,.int .i64 0,.slice none 0 0,.int .i64 0,.string ⟨#[]⟩,.int .i64 0,.slice none 0 0,.string ⟨#[]⟩,.slice none 0 0,.slice none 0 0] 33)
 have hs:((w.alloc (.cells #[.int .i64 0,.string ⟨#[]⟩,.slice none 0 0,.slice none 0 0,.slice none 0 0,.slice none 0 0,.int .i64 0,.slice none 0 0,.int .i64 0,.int .i64 0,.string ⟨#[]⟩,.int .i64 0,.slice none 0 0,.int .i64 0,.string ⟨#[]⟩,.int .i64 0,.slice none 0 0,.string ⟨#[]⟩,.slice none 0 0,.slice none 0 0] 33)).alloc (.cells #[.int .i64 0,.string ⟨#[]⟩,.slice none 0 0,.slice none 0 0,.slice none 0 0,.slice none 0 0,.int .i64 0,.slice none 0 0,.int .i64 0,.int .i64 0,.string ⟨#[]⟩,.int .i64 0,.slice none 0 0,.int .i64 0,.string ⟨#[]⟩,.int .i64 0,.slice none 0 0,.string ⟨#[]⟩,.slice none 0 0,.slice none 0 0] 33)).heap.size=w.heap.size+2:=by simp
 generalize (w.alloc (.cells #[.int .i64 0,.string ⟨#[]⟩,.slice none 0 0,.slice none 0 0,.slice none 0 0,.slice none 0 0,.int .i64 0,.slice none 0 0,.int .i64 0,.int .i64 0,.string ⟨#[]⟩,.int .i64 0,.slice none 0 0,.int .i64 0,.string ⟨#[]⟩,.int .i64 0,.slice none 0 0,.string ⟨#[]⟩,.slice none 0 0,.slice none 0 0] 33)).alloc (.cells #[.int .i64 0,.string ⟨#[]⟩,.slice none 0 0,.slice none 0 0,.slice none 0 0,.slice none 0 0,.int .i64 0,.slice none 0 0,.int .i64 0,.int .i64 0,.string ⟨#[]⟩,.int .i64 0,.slice none 0 0,.int .i64 0,.string ⟨#[]⟩,.int .i64 0,.slice none 0 0,.string ⟨#[]⟩,.slice none 0 0,.slice none 0 0] 33)=Y at *
 have hfr:PFr b w (Y.setCells (w.heap.size+1) 0 C.toList):=hf.sets (by omega) C.toList
 refine ⟨sets_all C hY hC,(sets_else _ _ _ _ _ (by omega)).trans hz,h.move hfr ?_ hp.near hp.nest0 hp.nest1,hfr,by rw [sets_size];omega⟩
 rw [sets_else _ _ _ _ b (by have:=h.lt;omega)]
 exact hp.blk
theorem zero_fr2 {b bx:Nat} {x y:World} (h:Fr2 b bx x y) (R:Nat) (h1:R < x.heap.size) (h2:R ≠ b) (h3:R ≠ bx) (hz:zeroIB x R):zeroIB y R:=(h.block R h1 h2 h3).trans hz
def ShS (v:Value):Prop:=∃ y,v=.string y
theorem strH.sh:∀ x v lo hi w,strH x v lo hi w→ShS v:=fun _ _ _ _ _ h=>⟨_,h⟩
theorem rvar_genc (b:Nat) (A:Option Addr) (c:Nat) (ts:List Tok):GenC 98 #[.pointer (some ⟨b,0,none⟩),.int .i64 2] b A c ts strH ShS (varO ts):=by
 intro w k er O hc h hk
 rcases hc with ⟨rfl,rfl⟩ | ⟨i,rfl,rfl⟩
 ·refine (rvar_any w b A c ts k h).mono ?_
  intro e w' hq
  cases hn:varO ts k with
  | ok s k' =>
   rw [hn] at hq
   obtain ⟨rfl,hp,hf⟩:=hq
   exact ⟨_,rfl,rfl,hp,hf⟩
  | no i =>
   rw [hn] at hq
   obtain ⟨rfl,hp,hf⟩:=hq
   have hi:i=2:=by
    unfold varO at hn
    split at hn
    ·cases hn
    ·injection hn with hn
     exact hn.symm
   subst hi
   exact ⟨_,k,rfl,⟨_,rfl⟩,hk,hp,hf⟩
 ·refine (rword_err w b A c ts k (erN i) 2 h (erN_ne i)).mono ?_
  rintro e w' ⟨rfl,hp,hf⟩
  exact ⟨_,k,rfl,⟨_,rfl⟩,hk,hp,hf⟩
def typeR (ts:List Tok) (k:Nat):Out ItemT:=bindO (nameO ts k) (fun s k1=>bindO (argsO (varO ts) ts k1) (fun vs k2=>bindO (expO ts k2 [61]) (fun _ k3=>bindO (rowO (ctorO ts 0) ts [124] 16384 k3) (fun cs k4=>.ok ⟨1,s,vs,cs,[],[],0,[],zeroG⟩ k4))))
theorem typeItemO_eq (ts:List Tok) (k:Nat):typeItemO ts 0 k=typeR ts k:=by
 unfold typeItemO typeR
 cases nameO ts k with
 | no i=>rfl
 | ok s k1 =>
  show _=bindO (argsO (varO ts) ts k1) _
  dsimp only
  cases argsO (varO ts) ts k1 with
  | no i=>rfl
  | ok vs k2 =>
   show _=bindO (expO ts k2 [61]) _
   dsimp only
   cases expO ts k2 [61] with
   | no i=>rfl
   | ok u k3 =>
    show _=bindO (rowO (ctorO ts 0) ts [124] 16384 k3) _
    dsimp only
    cases rowO (ctorO ts 0) ts [124] 16384 k3 <;> rfl
def predR (ts:List Tok) (k:Nat):Out ItemT:=bindO (nameO ts k) (fun s k1=>bindO (argsO (typeO ts 66 0) ts k1) (fun l k2=>.ok ⟨2,s,[],[],l,[],0,[],zeroG⟩ k2))
theorem predO_eq (ts:List Tok) (k:Nat):predO ts 0 k=predR ts k:=by
 unfold predO predR
 cases nameO ts k with
 | no i=>rfl
 | ok s k1 =>
  show _=bindO (argsO (typeO ts 66 0) ts k1) _
  dsimp only
  cases argsO (typeO ts 66 0) ts k1 <;> rfl
def modeR (ts:List Tok) (k:Nat):Out ItemT:=bindO (nameO ts k) (fun s k1=>bindO (argsO (wayO ts) ts k1) (fun ws k2=>bindO (expO ts k2 [105,115]) (fun _ k3=>bindO (detO ts k3) (fun d k4=>.ok ⟨3,s,[],[],[],ws,d,[],zeroG⟩ k4))))
theorem modeItemO_eq (ts:List Tok) (k:Nat):modeItemO ts k=modeR ts k:=by
 unfold modeItemO modeR
 cases nameO ts k with
 | no i=>rfl
 | ok s k1 =>
  show _=bindO (argsO (wayO ts) ts k1) _
  dsimp only
  cases argsO (wayO ts) ts k1 with
  | no i=>rfl
  | ok vs k2 =>
   show _=bindO (expO ts k2 [105,115]) _
   dsimp only
   cases expO ts k2 [105,115] with
   | no i=>rfl
   | ok u k3 =>
    show _=bindO (detO ts k3) _
    dsimp only
    cases detO ts k3 <;> rfl
def clauseR (ts:List Tok) (k:Nat):Out ItemT:=bindO (nameO ts k) (fun s k1=>bindO (argsO (termO ts 66 0) ts k1) (fun l k2=>if hasT ts k2 [58,45]=true then bindO (goalO (primO ts 66 0) ts (k2+1)) (fun g k3=>.ok ⟨4,s,[],[],[],[],0,l,g⟩ k3) else .ok ⟨4,s,[],[],[],[],0,l,trueG⟩ k2))
theorem clauseO_eq (ts:List Tok) (k:Nat):clauseO ts 0 k=clauseR ts k:=by
 unfold clauseO clauseR
 cases nameO ts k with
 | no i=>rfl
 | ok s k1 =>
  show _=bindO (argsO (termO ts 66 0) ts k1) _
  dsimp only
  cases argsO (termO ts 66 0) ts k1 with
  | no i=>rfl
  | ok l k2 =>
   show _=(if _ then _ else _)
   dsimp only
   split
   ·cases goalO (primO ts 66 0) ts (k2+1) <;> rfl
   ·rfl
end Lx
end Go.Proofs.YtajomoclbpobhaaGreatDoor
