/- The contract of the reference's reader's Type: what the parser's plain reading says. Conditions: the reader's block is its own; at most 16384 tokens, each of which is one by itself. -/
import Derived.Test.YtiljemkglhloeaaGreatDoorRdt
import Derived.Test.YtiljemkglhloeaaGreatDoorRowB
namespace Go.Proofs.YtiljemkglhloeaaGreatDoor
set_option linter.unusedSimpArgs false
set_option linter.unusedVariables false
namespace Lx
open Go Go.RowKit
def ShTy (v:Value):Prop:=∃ z1 z2 z3 z4 z5,v=.agg #[.bool z1,.string z2,.slice z3 z4 z5]
theorem infoTy3:(Tryz.prog.info? 35).map (·.size)=some 3:=by kernel_rfl
theorem kw_int:KW (ByteArray.mk #[105,110,116]).data.toList:=⟨by simp,1,.inl rfl,rfl⟩
theorem isB_done {ts:List Tok} {k:Nat} {er:Int} (h:doneB ts k er=true) {s:List UInt8} (hs:s ≠ []):isB ts k er s=false:=by
 by_cases hz:er=0
 ·subst hz
  rw [isB_ok]
  rcases Nat.lt_or_ge k ts.length with hl | hl
  ·rw [doneB_in hl] at h
   cases h
  ·exact hasT_out hl hs
 ·exact isB_err hz s
def zeroY (w:World) (B:Nat):Prop:=w.heap[B]?=some (.cells #[.bool false,.string ⟨#[]⟩,.slice none 0 0] 35 (0,0))
theorem box3y {w w':World} {o:Obj} {b:Nat} {cs:Array Value} (hf:PFr b (w.alloc o) w') (hb:b < w.heap.size) (h:(w.alloc o).heap[w.heap.size]?=some (.cells cs 35 (0,0))):w'.heap[w.heap.size]?=some (.cells cs 35 (0,0)) :=
 (hf.block w.heap.size (by simp) (Nat.ne_of_gt hb)).trans h
/-- The result's three cells are written. -/
theorem rput3 {w w3:World} {b:Nat} {A:Option Addr} {c:Nat} {ts:List Tok} {k k0:Nat} {er er0:Int} (h:Rd w b A c ts k0 er0) (hf:PFr b w w3) (hp:Rd w3 b A c ts k er) (hz:zeroY w3 w.heap.size) (x0 x1 x2:Value) :
  (((w3.setCell ⟨w.heap.size,0,none⟩ x0).setCell ⟨w.heap.size,1,none⟩ x1).setCell ⟨w.heap.size,2,none⟩ x2).heap[w.heap.size]?=some (.cells #[x0,x1,x2] 35 (0,0)) ∧
  Rd (((w3.setCell ⟨w.heap.size,0,none⟩ x0).setCell ⟨w.heap.size,1,none⟩ x1).setCell ⟨w.heap.size,2,none⟩ x2) b A c ts k er ∧
  PFr b w (((w3.setCell ⟨w.heap.size,0,none⟩ x0).setCell ⟨w.heap.size,1,none⟩ x1).setCell ⟨w.heap.size,2,none⟩ x2) ∧
  HiEq (w.heap.size+1) w3 (((w3.setCell ⟨w.heap.size,0,none⟩ x0).setCell ⟨w.heap.size,1,none⟩ x1).setCell ⟨w.heap.size,2,none⟩ x2):=by
 have hfr:=(((hf.putNew (Nat.le_refl _) 0 x0).putNew (Nat.le_refl _) 1 x1).putNew (Nat.le_refl _) 2 x2)
 have hn:∀ j,j ≠ w.heap.size→(((w3.setCell ⟨w.heap.size,0,none⟩ x0).setCell ⟨w.heap.size,1,none⟩ x1).setCell ⟨w.heap.size,2,none⟩ x2).heap[j]?=w3.heap[j]?:=fun j hj=>by
  rw [Below.heap_setCell _ _ _ j hj,Below.heap_setCell _ _ _ j hj,Below.heap_setCell _ _ _ j hj]
 refine ⟨blk_put _ _ 2 x2 (blk_put _ _ 1 x1 (blk_put w3 _ 0 x0 hz (by show 0 < 3;decide)) (by show 1 < 3;decide)) (by show 2 < 3;decide),h.move hfr ((hn b (Nat.ne_of_lt h.lt)).trans hp.blk) hp.near hp.nest0 hp.nest1,hfr,?_,fun j hj=>hn j (by omega)⟩
 simp [World.setCell]
def ctyO (s:List UInt8):Out (List TypeT)→Out TypeT
 | .no i=>.no i
 | .ok l k=>.ok (.mk false s l) k
/-- What stands ahead of the loop: an error, or a name. -/
def PreY (ts:List Tok) (m:Nat) (ne:Int) (OT:Out TypeT) (y:ByteArray) (k er:Int):Prop:=(er ≠ 0∧∃ i,OT=.no i∧erN i=er) ∨ (er=0∧ne < 64∧∃ s,y=bs s∧∃ kk:Nat,k=kk∧OT=ctyO s (argsO (typeO ts m (ne+1)) ts kk))
theorem typeO_parts {ts:List Tok} {m k:Nat} {ne er:Int} {OT:Out TypeT} (hOT:typeO ts (m+1) ne k=OT) (hER:nestE ts k 0 (ne+1)=er) :
  (er=3∧OT=.no 0) ∨ (er=0∧(k < ts.length→ne < 64)∧OT=if (peekT ts k).kind=2 then .ok (.mk true (peekT ts k).text []) (k+1) else if hasT ts k [105,110,116]=true then .ok (.mk false [105,110,116] []) (k+1) else
   match nameO ts k with
   | .no i=>.no i
   | .ok s k1=>ctyO s (argsO (typeO ts m (ne+1)) ts k1)):=by
 subst hOT
 subst hER
 rw [typeO]
 unfold enterO nestE
 by_cases h:64 < ne+1∧k < ts.length
 ·left
  simp only [h,doneB_in h.2,and_self,if_true]
 ·right
  have hn:¬ (64 < ne+1∧doneB ts k 0=false):=fun q=>h ⟨q.1,by
   rcases Nat.lt_or_ge k ts.length with hl | hl
   ·exact hl
   ·rw [doneB_out hl] at q
    cases q.2⟩
  refine ⟨if_neg hn,fun hl=>?_,?_⟩
  ·rcases Int.lt_or_le ne 64 with h1 | h1
   ·exact h1
   ·exact absurd ⟨by omega,hl⟩ h
  ·rw [if_neg h]
   by_cases h2:(peekT ts k).kind=2
   ·simp only [h2,if_true]
   ·by_cases h3:hasT ts k [105,110,116]=true
    ·simp only [h2,h3,if_true,if_false]
    ·simp only [h2,h3,if_false]
     cases nameO ts k with
     | no i=>rfl
     | ok s k1 =>
      show (match argsO (typeO ts m (ne+1)) ts k1 with | .no i=>.no i | .ok l k2=>.ok (.mk false s l) k2)=ctyO s (argsO (typeO ts m (ne+1)) ts k1)
      cases argsO (typeO ts m (ne+1)) ts k1 <;> rfl
def boxY (w:World) (B:Nat) (y:ByteArray) (s:Option Addr) (n cap:Nat):Prop:=w.heap[B]?=some (.cells #[.bool false,.string y,.slice s n cap] 35 (0,0))
/-- What the loop holds. -/
def RelY (b:Nat) (A:Option Addr) (c:Nat) (ts:List Tok) (m:Nat) (ne:Int) (OT:Out TypeT) (y:ByteArray) (w:World) (B:Nat) (wr:World):Prop :=
 (∃ O s0 m' kk acc vs g s cap,ne < 64∧y=bs s0∧OT=ctyO s0 O∧boxY wr B y s acc.length cap∧zeroY wr w.heap.size∧RdI 35 3 (TypeV m) (typeO ts m (ne+1)) O w (B+1) b A c ts s cap wr m' kk acc vs g) ∨
 (∃ kk er i s n cap,er ≠ 0∧OT=.no i∧erN i=er∧kk≤ts.length∧boxY wr B y s n cap∧zeroY wr w.heap.size∧Rd wr b A c ts kk er∧PFr b w wr)
theorem relY_start {b:Nat} {A:Option Addr} {c:Nat} {ts:List Tok} {m:Nat} {ne:Int} {OT:Out TypeT} {y:ByteArray} {w w2:World} {k2 k0:Nat} {er2 er0:Int} (h:Rd w b A c ts k0 er0) (hp:Rd w2 b A c ts k2 er2) (hk:k2≤ts.length)
  (hf:PFr b (w.alloc (.cells #[.bool false,.string ⟨#[]⟩,.slice none 0 0] 35)) w2) (hpre:PreY ts m ne OT y k2 er2) :
  RelY b A c ts m ne OT y w w2.heap.size (w2.alloc (.cells #[.bool false,.string y,.slice none 0 0] 35)):=by
 have hz:=box3y hf h.lt (heap_alloc_new w _)
 have hz2:zeroY (w2.alloc (.cells #[.bool false,.string y,.slice none 0 0] 35)) w.heap.size:=(heap_alloc_old w2 _ (Array.getElem?_eq_some_iff.1 hz).1).trans hz
 have hsz:=hf.size
 have hsz':w.heap.size < w2.heap.size:=by simp at hsz;omega
 have hf2:PFr b w w2:=((PFr.refl b w).alloc _).trans hf
 rcases hpre with ⟨he,i,hi,hei⟩ | ⟨rfl,hne,s0,hy,kk,hkk,hO⟩
 ·exact .inr ⟨k2,er2,i,none,0,0,he,hi,hei,hk,heap_alloc_new w2 _,hz2,hp.alloc _,hf2.alloc _⟩
 ·obtain rfl:k2=kk:=by omega
  refine .inl ⟨_,s0,0,k2,[],[],0,none,0,hne,hy,hO,heap_alloc_new w2 _,hz2,⟨rfl,.inl rfl,hk,Nat.zero_le _,.inl ⟨rfl,rfl,rfl⟩,⟨by simp,.inl ⟨rfl,rfl⟩⟩,trivial,by omega,by simp,hp.alloc _,hf2.alloc _⟩⟩
/-- Behind the append and the store of the arguments. -/
theorem fin7y {b:Nat} {A:Option Addr} {c:Nat} {ts:List Tok} {k0:Nat} {er0:Int} {w wr w4 w6:World} {o:Obj} {V:Holds TypeT} {rd:Nat→Out TypeT} {O:Out (List TypeT)} {B:Nat} {s:Option Addr} {cap m k:Nat} {acc:List TypeT} {vs:List Value} {g:Nat} {y:ByteArray}
  (h0:Rd w b A c ts k0 er0) (hI:RdI 35 3 V rd O w (B+1) b A c ts s cap wr m k acc vs g) (hbx:boxY wr B y s acc.length cap) (hz:zeroY wr w.heap.size) (hlt:w.heap.size < B) (hf4:PFr b wr w4) (hg:(w4.alloc o).grownBy w6 (Value.slice s acc.length cap).ownBlock) (s2:Option Addr) (n2 cap2:Nat) :
  boxY (w6.setCell ⟨B,2,none⟩ (.slice s2 n2 cap2)) B y s2 n2 cap2∧zeroY (w6.setCell ⟨B,2,none⟩ (.slice s2 n2 cap2)) w.heap.size∧PFr b w (w6.setCell ⟨B,2,none⟩ (.slice s2 n2 cap2))∧HiEq (B+1) w6 (w6.setCell ⟨B,2,none⟩ (.slice s2 n2 cap2))∧∀ k er,Rd w4 b A c ts k er→Rd (w6.setCell ⟨B,2,none⟩ (.slice s2 n2 cap2)) b A c ts k er:=by
 obtain ⟨q1,q2,q3,q4,q5⟩:=hI.grow h0 hf4 hg
 have hb:=h0.lt
 have hfr:=q1.putNew (N:=B) (by omega) 2 (.slice s2 n2 cap2)
 refine ⟨blk_put w6 B 2 _ ((q4 B (by omega) (by omega)).trans hbx) (by show 2 < 3;decide),(Below.heap_setCell w6 ⟨B,2,none⟩ _ w.heap.size (by show w.heap.size ≠ B;omega)).trans ((q4 w.heap.size (by omega) (by omega)).trans hz),hfr,HiEq.put w6 (Nat.lt_succ_self B) 2 _,fun k er hr=>?_⟩
 have hr6:=q5 k er hr
 exact h0.move hfr ((Below.heap_setCell w6 ⟨B,2,none⟩ _ b (by show b ≠ B;omega)).trans hr6.blk) hr6.near hr6.nest0 hr6.nest1
/-- 'append(t.Args, r.Term(n + 1))' at a step of a region that draws its order. -/
theorem step_type {ops:Array Oper} {o:Oper} {a:Act} {W:World} {K:Act→World→Prop} {Q:Exit→Act→World→Prop} {E:Prop} (hgd:o.guard=none) (s x:Operand)
  (ho:o.op=.call { callee:=.builtin .append,args:=#[s,x],argTypes:=#[24,24] })
  (base:Nat) (v:Value) (n:Nat) (xs:List Value) (hs:a.eval s=v) (hown:W.ownsRow base 35 3 v n xs) (B:Nat) (p1:Bool) (p2:ByteArray) (p4:Option Addr) (p5 p6:Nat) (hx:a.eval x=.slice (some ⟨B,0,none⟩) 1 1)
  (hB:W.heap[B]?=some (.cells #[.bool p1,.string p2,.slice p4 p5 p6] 35 (0,0))) (hn:n≤2000000) (hbase:base≤W.heap.size)
  (h:∀ g c w',w'.ownsRow base 35 3 (.slice (some ⟨g,0,none⟩) (n+1) c) (n+1) (xs++[.bool p1,.string p2,.slice p4 p5 p6])→W.grownBy w' v.ownBlock→(v.ownBlock=some g ∨ g=W.heap.size)→K (a.put o.dst (.slice (some ⟨g,0,none⟩) (n+1) c)) w') :
  if Region.wanted o (yielded ops a.tmps)=true then Oper.wp Tryz.prog o a W K Q else E:=by
 obtain ⟨i0,hi,hz0,hz1,hz2⟩:=info_parts infoTy
 exact step_append_lies W hgd s x _ ho base _ i0 _ 3 48 Tryz.underlying24 hi hz0 hz1 hz2 rfl (by decide) v n xs hs hown ⟨B,0,none⟩ 1 1 [.bool p1,.string p2,.slice p4 p5 p6] hx rfl (World.news_of_block (cs:=#[.bool p1,.string p2,.slice p4 p5 p6]) hB) (by simp [Value.oneCell'])
  (by omega) (by unfold maxLen;omega) (by omega) hbase _ rfl (fun g cap w' h2 h3 h4 _=>h g cap w' h2 h3 h4)
end Lx
end Go.Proofs.YtiljemkglhloeaaGreatDoor
