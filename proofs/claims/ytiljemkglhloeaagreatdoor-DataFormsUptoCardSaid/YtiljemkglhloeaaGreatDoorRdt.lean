/- The contract of the reference's reader's Term: what the parser's plain reading says. Conditions: the reader's block is its own; at most 16384 tokens, each of which is one by itself. -/
import Derived.Test.YtiljemkglhloeaaGreatDoorRdA
import Derived.Deep.RegionHeld3
namespace Go.Proofs.YtiljemkglhloeaaGreatDoor
set_option linter.unusedSimpArgs false
set_option linter.unusedVariables false
namespace Lx
open Go Go.RowKit
theorem rword_gen (w:World) (b:Nat) (A:Option Addr) (c:Nat) (ts:List Tok) (k:Nat) (er:Int) (h:Rd w b A c ts k er) (hk:k≤ts.length) :
  Calls Tryz.prog 119 #[.pointer (some ⟨b,0,none⟩),.int .i64 1] w fun e w'=>∃ y k' er',e=.returned (.string y)∧Rd w' b A c ts k' er'∧PFr b w w'∧k'≤ts.length ∧
   (er ≠ 0→er'=er)∧(er=0→(er'=0∧∃ s,nameO ts k=.ok s k'∧y=bs s) ∨ (er'=2∧nameO ts k=.no 2)):=by
 by_cases hz:er=0
 ·subst hz
  refine (rname_any w b A c ts k h).mono ?_
  intro e w' hq
  cases hn:nameO ts k with
  | ok s k' =>
   rw [hn] at hq
   obtain ⟨rfl,h1,h2⟩:=hq
   exact ⟨_,_,_,rfl,h1,h2,(nameO_fwd ts _ _ _ hn).2,fun h=>absurd rfl h,fun _=>.inl ⟨rfl,s,rfl,rfl⟩⟩
  | no i =>
   rw [hn] at hq
   obtain ⟨rfl,h1,h2⟩:=hq
   have hi:i=2:=by
    unfold nameO at hn
    split at hn
    ·cases hn
    ·injection hn with hn
     exact hn.symm
   subst hi
   exact ⟨_,_,_,rfl,h1,h2,hk,fun h=>absurd rfl h,fun _=>.inr ⟨rfl,rfl⟩⟩
 ·refine (rword_err w b A c ts k er 1 h hz).mono ?_
  rintro e w' ⟨rfl,h1,h2⟩
  exact ⟨_,_,_,rfl,h1,h2,hk,fun _=>rfl,fun h=>absurd h hz⟩
def ShTerm (v:Value):Prop:=∃ p q z s n c,v=.agg #[.int .i64 p,.string q,.int .i64 z,.slice s n c]
theorem Rd.drew {w:World} {b:Nat} {A:Option Addr} {c:Nat} {ts:List Tok} {k:Nat} {ne:Int} (h:Rd w b A c ts k ne):Rd w.drew b A c ts k ne:=⟨h.blk,h.row,h.few,h.near,h.nest0,h.nest1⟩
theorem PFr.drewR {b:Nat} {x y:World} (h:PFr b x y):PFr b x y.drew:=⟨h.os,h.tape,h.output,h.size,h.block⟩
theorem PFr.ofDrew {b:Nat} {x y:World} (h:PFr b x.drew y):PFr b x y:=⟨h.os,h.tape,h.output,h.size,h.block⟩
theorem infoTerm4:(Tryz.prog.info? 28).map (·.size)=some 4:=by kernel_rfl
def rzeroT (w:World) (B:Nat):Prop:=w.heap[B]?=some (.cells #[.int .i64 0,.string ⟨#[]⟩,.int .i64 0,.slice none 0 0] 28 (0,0))
/-- The result's four cells are written. -/
theorem rput4 {w w3:World} {b:Nat} {A:Option Addr} {c:Nat} {ts:List Tok} {k k0:Nat} {er er0:Int} (h:Rd w b A c ts k0 er0) (hf:PFr b w w3) (hp:Rd w3 b A c ts k er) (hz:rzeroT w3 w.heap.size) (x0 x1 x2 x3:Value) :
  ((((w3.setCell ⟨w.heap.size,0,none⟩ x0).setCell ⟨w.heap.size,1,none⟩ x1).setCell ⟨w.heap.size,2,none⟩ x2).setCell ⟨w.heap.size,3,none⟩ x3).heap[w.heap.size]?=some (.cells #[x0,x1,x2,x3] 28 (0,0)) ∧
  Rd ((((w3.setCell ⟨w.heap.size,0,none⟩ x0).setCell ⟨w.heap.size,1,none⟩ x1).setCell ⟨w.heap.size,2,none⟩ x2).setCell ⟨w.heap.size,3,none⟩ x3) b A c ts k er ∧
  PFr b w ((((w3.setCell ⟨w.heap.size,0,none⟩ x0).setCell ⟨w.heap.size,1,none⟩ x1).setCell ⟨w.heap.size,2,none⟩ x2).setCell ⟨w.heap.size,3,none⟩ x3) ∧
  HiEq (w.heap.size+1) w3 ((((w3.setCell ⟨w.heap.size,0,none⟩ x0).setCell ⟨w.heap.size,1,none⟩ x1).setCell ⟨w.heap.size,2,none⟩ x2).setCell ⟨w.heap.size,3,none⟩ x3):=by
 have hfr:=((((hf.putNew (Nat.le_refl _) 0 x0).putNew (Nat.le_refl _) 1 x1).putNew (Nat.le_refl _) 2 x2).putNew (Nat.le_refl _) 3 x3)
 have hn:∀ j,j ≠ w.heap.size→((((w3.setCell ⟨w.heap.size,0,none⟩ x0).setCell ⟨w.heap.size,1,none⟩ x1).setCell ⟨w.heap.size,2,none⟩ x2).setCell ⟨w.heap.size,3,none⟩ x3).heap[j]?=w3.heap[j]?:=fun j hj=>by
  rw [Below.heap_setCell _ _ _ j hj,Below.heap_setCell _ _ _ j hj,Below.heap_setCell _ _ _ j hj,Below.heap_setCell _ _ _ j hj]
 refine ⟨blk_put _ _ 3 x3 (blk_put _ _ 2 x2 (blk_put _ _ 1 x1 (blk_put w3 _ 0 x0 hz (by show 0 < 4;decide)) (by show 1 < 4;decide)) (by show 2 < 4;decide)) (by show 3 < 4;decide),h.move hfr ((hn b (Nat.ne_of_lt h.lt)).trans hp.blk) hp.near hp.nest0 hp.nest1,hfr,?_,fun j hj=>hn j (by omega)⟩
 simp [World.setCell]
def mkTermO (s:List UInt8):Out (List TermT)→Out TermT
 | .no i=>.no i
 | .ok l k=>.ok (.mk 3 s 0 l) k
/-- What stands ahead of the loop: an error, or a name. -/
def PreT (ts:List Tok) (m:Nat) (ne:Int) (OT:Out TermT) (y:ByteArray) (k er:Int):Prop:=(er ≠ 0∧∃ i,OT=.no i∧erN i=er) ∨ (er=0∧ne < 64∧∃ s,y=bs s∧∃ kk:Nat,k=kk∧OT=mkTermO s (argsO (termO ts m (ne+1)) ts kk))
theorem termO_parts {ts:List Tok} {m k:Nat} {ne er:Int} {OT:Out TermT} (hOT:termO ts (m+1) ne k=OT) (hER:nestE ts k 0 (ne+1)=er) :
  (er=3∧OT=.no 0) ∨ (er=0∧(k < ts.length→ne < 64)∧OT=if (peekT ts k).kind=2 then .ok (.mk 1 (peekT ts k).text 0 []) (k+1) else if (peekT ts k).kind=3 then .ok (.mk 2 [] (peekT ts k).num []) (k+1) else
   match nameO ts k with
   | .no i=>.no i
   | .ok s k1=>mkTermO s (argsO (termO ts m (ne+1)) ts k1)):=by
 subst hOT
 subst hER
 rw [termO]
 unfold enterO nestE
 by_cases h:64 < ne+1∧k < ts.length
 ·left
  simp only [h,doneB_in h.2,and_self,if_true]
 ·right
  have hn:¬ (64 < ne+1∧doneB ts k 0=false):=fun q=>h ⟨q.1,by
   rcases Nat.lt_or_ge k ts.length with hl | hl
   ·exact hl
   ·rw [doneB_out hl] at q
    cases q.2⟩
  refine ⟨if_neg hn,fun hl=>?_,?_⟩
  ·rcases Int.lt_or_le ne 64 with h1 | h1
   ·exact h1
   ·exact absurd ⟨by omega,hl⟩ h
  ·rw [if_neg h]
   by_cases h2:(peekT ts k).kind=2
   ·simp only [h2,if_true]
   ·by_cases h3:(peekT ts k).kind=3
    ·simp only [h3,if_true]
    ·simp only [h2,h3,if_false]
     cases nameO ts k with
     | no i=>rfl
     | ok s k1 =>
      show (match argsO (termO ts m (ne+1)) ts k1 with | .no i=>.no i | .ok l k2=>.ok (.mk 3 s 0 l) k2)=mkTermO s (argsO (termO ts m (ne+1)) ts k1)
      cases argsO (termO ts m (ne+1)) ts k1 <;> rfl
theorem nestE_err {ts:List Tok} {k:Nat} {er n:Int} (h:er ≠ 0):nestE ts k er n=er:=by
 unfold nestE
 exact if_neg (fun q=>by rw [doneB_err h] at q;cases q.2)
def rboxT (w:World) (B:Nat) (y:ByteArray) (s:Option Addr) (n cap:Nat):Prop:=w.heap[B]?=some (.cells #[.int .i64 3,.string y,.int .i64 0,.slice s n cap] 28 (0,0))
/-- What the loop holds. -/
def RelT (b:Nat) (A:Option Addr) (c:Nat) (ts:List Tok) (m:Nat) (ne:Int) (OT:Out TermT) (y:ByteArray) (w:World) (B:Nat) (wr:World):Prop :=
 (∃ O s0 m' kk acc vs g s cap,ne < 64∧y=bs s0∧OT=mkTermO s0 O∧rboxT wr B y s acc.length cap∧rzeroT wr w.heap.size∧RdI 28 4 (TermV m) (termO ts m (ne+1)) O w (B+1) b A c ts s cap wr m' kk acc vs g) ∨
 (∃ kk er i s n cap,er ≠ 0∧OT=.no i∧erN i=er∧kk≤ts.length∧rboxT wr B y s n cap∧rzeroT wr w.heap.size∧Rd wr b A c ts kk er∧PFr b w wr)
theorem relT_start {b:Nat} {A:Option Addr} {c:Nat} {ts:List Tok} {m:Nat} {ne:Int} {OT:Out TermT} {y:ByteArray} {w w2:World} {k2 k0:Nat} {er2 er0:Int} (h:Rd w b A c ts k0 er0) (hp:Rd w2 b A c ts k2 er2) (hk:k2≤ts.length)
  (hf:PFr b (w.alloc (.cells #[.int .i64 0,.string ⟨#[]⟩,.int .i64 0,.slice none 0 0] 28)) w2) (hpre:PreT ts m ne OT y k2 er2) :
  RelT b A c ts m ne OT y w w2.heap.size (w2.alloc (.cells #[.int .i64 3,.string y,.int .i64 0,.slice none 0 0] 28)):=by
 have hz:=box4 hf h.lt (heap_alloc_new w _)
 have hz2:rzeroT (w2.alloc (.cells #[.int .i64 3,.string y,.int .i64 0,.slice none 0 0] 28)) w.heap.size:=(heap_alloc_old w2 _ (Array.getElem?_eq_some_iff.1 hz).1).trans hz
 have hsz:=hf.size
 have hsz':w.heap.size < w2.heap.size:=by simp at hsz;omega
 have hf2:PFr b w w2:=((PFr.refl b w).alloc _).trans hf
 rcases hpre with ⟨he,i,hi,hei⟩ | ⟨rfl,hne,s0,hy,kk,hkk,hO⟩
 ·exact .inr ⟨k2,er2,i,none,0,0,he,hi,hei,hk,heap_alloc_new w2 _,hz2,hp.alloc _,hf2.alloc _⟩
 ·obtain rfl:k2=kk:=by omega
  refine .inl ⟨_,s0,0,k2,[],[],0,none,0,hne,hy,hO,heap_alloc_new w2 _,hz2,⟨rfl,.inl rfl,hk,Nat.zero_le _,.inl ⟨rfl,rfl,rfl⟩,⟨by simp,.inl ⟨rfl,rfl⟩⟩,trivial,by omega,by simp,hp.alloc _,hf2.alloc _⟩⟩
/-- Behind the append and the store of the arguments. -/
theorem fin7 {b:Nat} {A:Option Addr} {c:Nat} {ts:List Tok} {k0:Nat} {er0:Int} {w wr w4 w6:World} {o:Obj} {V:Holds TermT} {rd:Nat→Out TermT} {O:Out (List TermT)} {B:Nat} {s:Option Addr} {cap m k:Nat} {acc:List TermT} {vs:List Value} {g:Nat} {y:ByteArray}
  (h0:Rd w b A c ts k0 er0) (hI:RdI 28 4 V rd O w (B+1) b A c ts s cap wr m k acc vs g) (hbx:rboxT wr B y s acc.length cap) (hz:rzeroT wr w.heap.size) (hlt:w.heap.size < B) (hf4:PFr b wr w4) (hg:(w4.alloc o).grownBy w6 (Value.slice s acc.length cap).ownBlock) (s2:Option Addr) (n2 cap2:Nat) :
  rboxT (w6.setCell ⟨B,3,none⟩ (.slice s2 n2 cap2)) B y s2 n2 cap2∧rzeroT (w6.setCell ⟨B,3,none⟩ (.slice s2 n2 cap2)) w.heap.size∧PFr b w (w6.setCell ⟨B,3,none⟩ (.slice s2 n2 cap2))∧HiEq (B+1) w6 (w6.setCell ⟨B,3,none⟩ (.slice s2 n2 cap2))∧∀ k er,Rd w4 b A c ts k er→Rd (w6.setCell ⟨B,3,none⟩ (.slice s2 n2 cap2)) b A c ts k er:=by
 obtain ⟨q1,q2,q3,q4,q5⟩:=hI.grow h0 hf4 hg
 have hb:=h0.lt
 have hfr:=q1.putNew (N:=B) (by omega) 3 (.slice s2 n2 cap2)
 refine ⟨blk_put w6 B 3 _ ((q4 B (by omega) (by omega)).trans hbx) (by show 3 < 4;decide),(Below.heap_setCell w6 ⟨B,3,none⟩ _ w.heap.size (by show w.heap.size ≠ B;omega)).trans ((q4 w.heap.size (by omega) (by omega)).trans hz),hfr,HiEq.put w6 (Nat.lt_succ_self B) 3 _,fun k er hr=>?_⟩
 have hr6:=q5 k er hr
 exact h0.move hfr ((Below.heap_setCell w6 ⟨B,3,none⟩ _ b (by show b ≠ B;omega)).trans hr6.blk) hr6.near hr6.nest0 hr6.nest1
/-- 'append(t.Args, r.Term(n + 1))' at a step of a region that draws its order. -/
theorem step_term {ops:Array Oper} {o:Oper} {a:Act} {W:World} {K:Act→World→Prop} {Q:Exit→Act→World→Prop} {E:Prop} (hgd:o.guard=none) (s x:Operand)
  (ho:o.op=.call { callee:=.builtin .append,args:=#[s,x],argTypes:=#[26,26] })
  (base:Nat) (v:Value) (n:Nat) (xs:List Value) (hs:a.eval s=v) (hown:W.ownsRow base 28 4 v n xs) (B:Nat) (p1 p3:Int) (p2:ByteArray) (p4:Option Addr) (p5 p6:Nat) (hx:a.eval x=.slice (some ⟨B,0,none⟩) 1 1)
  (hB:W.heap[B]?=some (.cells #[.int .i64 p1,.string p2,.int .i64 p3,.slice p4 p5 p6] 28 (0,0))) (hn:n≤2000000) (hbase:base≤W.heap.size)
  (h:∀ g c w',w'.ownsRow base 28 4 (.slice (some ⟨g,0,none⟩) (n+1) c) (n+1) (xs++[.int .i64 p1,.string p2,.int .i64 p3,.slice p4 p5 p6])→W.grownBy w' v.ownBlock→(v.ownBlock=some g ∨ g=W.heap.size)→K (a.put o.dst (.slice (some ⟨g,0,none⟩) (n+1) c)) w') :
  if Region.wanted o (yielded ops a.tmps)=true then Oper.wp Tryz.prog o a W K Q else E:=by
 obtain ⟨i0,hi,hz0,hz1,hz2⟩:=info_parts infoTerm
 exact step_append_lies W hgd s x _ ho base _ i0 _ 4 56 Tryz.underlying26 hi hz0 hz1 hz2 rfl (by decide) v n xs hs hown ⟨B,0,none⟩ 1 1 [.int .i64 p1,.string p2,.int .i64 p3,.slice p4 p5 p6] hx rfl (World.news_of_block (cs:=#[.int .i64 p1,.string p2,.int .i64 p3,.slice p4 p5 p6]) hB) (by simp [Value.oneCell'])
  (by omega) (by unfold maxLen;omega) (by omega) hbase _ rfl (fun g cap w' h2 h3 h4 _=>h g cap w' h2 h3 h4)
set_option maxRecDepth 100000 in
set_option maxHeartbeats 8000000 in
theorem rterm_gen (b:Nat) (A:Option Addr) (c:Nat) (ts:List Tok) (hw:WF ts) (m:Nat) (ne:Int) (h0:0≤ne) (h1:ne≤70000)
  (HR:Hid (ne < 64→∀ w k,Rd w b A c ts k 0→k≤ts.length→Calls Tryz.prog 90 #[.pointer (some ⟨b,0,none⟩),.int .i64 (ne+1+1)] w fun e w'=>REnds b A c ts (TermV m) ShTerm w (termO ts m (ne+1) k) e w'))
  (w:World) (k:Nat) (er0:Int) (OT:Out TermT) (hor:(er0=0∧termO ts (m+1) ne k=OT) ∨ ∃ i,er0=erN i∧OT=.no i) (h:Rd w b A c ts k er0) (hk:k≤ts.length) :
  Calls Tryz.prog 90 #[.pointer (some ⟨b,0,none⟩),.int .i64 (ne+1)] w fun e w'=>REnds b A c ts (TermV (m+1)) ShTerm w OT e w':=by
 have HP:=Lib.hid h
 have hfw:=h.few
 have HN:=Lib.hid (rnest_any (w.alloc (.cells #[.int .i64 0,.string ⟨#[]⟩,.int .i64 0,.slice none 0 0] 28)) b A c ts k er0 (ne+1) (h.alloc _))
 have HMORE:=Lib.hid (fun wr kk n h hk=>rmore_any wr b A c ts hw kk n h hk)
 have HFWD:=Lib.hid (termO_fwd ts m (ne+1))
 obtain ⟨i0,hi,hz0,hz1,hz2⟩:=info_parts infoTerm
 have HI0:=Lib.hid hi
 have HI1:=Lib.hid hz0
 have HI2:=Lib.hid hz1
 have HI3:=Lib.hid hz2
 clear hi hz0 hz1 hz2
 clear h
 generalize hER:nestE ts k er0 (ne+1)=er at HN
 obtain ⟨hone,HPRE⟩:(doneB ts k er=true ∨ (doneB ts k er=false∧k < ts.length∧er=0))∧Hid (∀ y k2 er2,(doneB ts k er=true ∨ ((peekT ts k).kind ≠ 2∧(peekT ts k).kind ≠ 3))→(er ≠ 0→er2=er)→(er=0→(er2=0∧∃ s,nameO ts k=.ok s k2∧y=bs s) ∨ er2=2∧nameO ts k=.no 2)→PreT ts m ne OT y k2 er2):=by
  rcases hor with ⟨rfl,hOT⟩ | ⟨i,rfl,rfl⟩
  case inr =>
   rw [nestE_err (erN_ne i)] at hER
   subst hER
   refine ⟨.inl (doneB_err (erN_ne i)),Lib.hid (fun y k2 er2 _ h1 _=>?_)⟩
   rw [h1 (erN_ne i)]
   exact .inl ⟨erN_ne i,i,rfl,rfl⟩
  rcases termO_parts hOT hER with ⟨rfl,rfl⟩ | ⟨rfl,hn,hO⟩
  ·refine ⟨.inl (doneB_err (by decide)),Lib.hid (fun y k2 er2 _ h1 _=>?_)⟩
   rw [h1 (by decide)]
   exact .inl ⟨by decide,0,rfl,rfl⟩
  ·refine ⟨?_,Lib.hid (fun y k2 er2 hq _ h2=>?_)⟩
   ·rcases Nat.lt_or_ge k ts.length with hl | hl
    ·exact .inr ⟨doneB_in hl,hl,rfl⟩
    ·exact .inl (doneB_out hl)
   ·have hkn:(peekT ts k).kind ≠ 2∧(peekT ts k).kind ≠ 3:=by
     rcases hq with hq | hq
     ·rcases Nat.lt_or_ge k ts.length with hl | hl
      ·rw [doneB_in hl] at hq
       cases hq
      ·rw [peekT_out hl]
       exact ⟨by decide,by decide⟩
     ·exact hq
    rw [if_neg hkn.1,if_neg hkn.2] at hO
    rcases h2 rfl with ⟨rfl,s,hs,rfl⟩ | ⟨rfl,hs⟩
    ·rw [hs] at hO
     have hf:=nameO_fwd ts _ _ _ hs
     exact .inr ⟨rfl,hn (by omega),s,rfl,k2,rfl,hO⟩
    ·rw [hs] at hO
     exact .inl ⟨by decide,2,hO,rfl⟩
 have HK2:Hid (er=0→k < ts.length→(peekT ts k).kind=2→OT=.ok (.mk 1 (peekT ts k).text 0 []) (k+1)):=Lib.hid (fun he _ hx=>by
  rcases hor with ⟨rfl,hOT⟩ | ⟨i,rfl,rfl⟩
  case inr =>
   rw [nestE_err (erN_ne i)] at hER
   exact absurd (hER.trans he) (erN_ne i)
  rcases termO_parts hOT hER with ⟨h3,_⟩ | ⟨_,_,hO⟩
  ·omega
  ·rw [hO,if_pos hx])
 have HK3:Hid (er=0→k < ts.length→(peekT ts k).kind ≠ 2→(peekT ts k).kind=3→OT=.ok (.mk 2 [] (peekT ts k).num []) (k+1)):=Lib.hid (fun he _ hy hx=>by
  rcases hor with ⟨rfl,hOT⟩ | ⟨i,rfl,rfl⟩
  case inr =>
   rw [nestE_err (erN_ne i)] at hER
   exact absurd (hER.trans he) (erN_ne i)
  rcases termO_parts hOT hER with ⟨h3,_⟩ | ⟨_,_,hO⟩
  ·omega
  ·rw [hO,if_neg hy,if_pos hx])
 clear hor hER
 rcases hone with hd | ⟨hd,hl,rfl⟩
 case' inl =>
  have HPR:=Lib.hid (fun y k2 er2=>HPRE.out y k2 er2 (.inl hd))
  clear HPRE
  go_enter Tryz.func90,Tryz.ntmps90
  go_wp2_with fail
  go_at_call 117
  refine HN.out.mono ?_
  rintro e w1 ⟨rfl,hp1,hf1⟩
  have HE:=Lib.hid (fun q=>rend_any (w1.drewN q) b A c ts k er (hp1.drewN q))
  have HE2:=Lib.hid (fun x q=>rend_any (x:World) b A c ts k er q)
  rw [hd] at HE HE2
  have HP1:=Lib.hid hp1
  have HF1:=Lib.hid hf1
  clear hp1 hf1 hd
  go_wp2
  go_quiet ((go_at_call 118;exact Calls.quiet_of (HE.out _)))
  go_wp2
  have HP1b:=Lib.hid (HP1.out.drewN nq)
  have HF1b:=Lib.hid (HF1.out.drewN nq)
  clear HE HP1 HF1
  generalize w1.drewN nq=w1 at *
  have HE:=Lib.hid (fun q=>HE2.out (w1.drewN q) (HP1b.out.drewN q))
  go_quiet ((go_at_call 118;exact Calls.quiet_of (HE.out _)))
  go_wp2_with fail
  go_at_call 119
  refine (rword_gen _ b A c ts k er (HP1b.out.drewN nq) hk).mono ?_
  rintro e w2 ⟨y,k2,er2,rfl,hp2,hf2,hk2,hz1,hz2⟩
  have HST:=Lib.hid (relT_start HP.out hp2 hk2 ((HF1b.out.drewN nq).trans hf2) (HPR.out y k2 er2 hz1 hz2))
  have hlt:w.heap.size < w2.heap.size:=by have h1:=HF1b.out.size;have h2:=hf2.size;simp at h1 h2;omega
  clear hp2 hf2 hz1 hz2 HE HE2 HP1b HF1b HPR
  go_wp2_with fail
 case' inr =>
  have hpk:=peekT_in hl
  rw [hpk] at HK2 HK3 HPRE
  clear hpk
  have hk0:(0:Int)≤(k:Int):=by omega
  have hk1:(k:Int) < (ts.length:Int):=by omega
  have hkn:k+1≤20000:=by omega
  rcases (show (ts[k]).kind=3 ∨ (ts[k]).kind=2 ∨ ((ts[k]).kind ≠ 2∧(ts[k]).kind ≠ 3) by omega) with hx | hx | ⟨hx,hy⟩
  ·rw [HK3.out rfl hl (by rw [hx];decide) hx]
   clear HK2 HK3 HPRE
   go_enter Tryz.func90,Tryz.ntmps90
   go_wp2_with fail
   go_at_call 117
   refine HN.out.mono ?_
   rintro e w1 ⟨rfl,hp1,hf1⟩
   have HE:=Lib.hid (fun q=>rend_any (w1.drewN q) b A c ts k 0 (hp1.drewN q))
   rw [hd] at HE
   obtain ⟨g,rfl,hgb,d0,d1,d2⟩:=hp1.at_tok hl
   have c0:=hp1.c0
   have c1:=hp1.c1
   have f1:=hp1.f1
   rw [hx] at d0
   have HP1:=Lib.hid hp1
   have HF1:=Lib.hid hf1
   clear hp1 hf1 hx hd
   generalize hzz:(ts[k]).num=z at *
   have HZZ:=Lib.hid hzz
   clear hzz
   go_wp2
   go_quiet ((go_at_call 118;exact Calls.quiet_of (HE.out _)))
   go_wp2_with fail
   have HQ:=Lib.hid ((HP1.out.drewN nq).setAt (k+1) hkn)
   have HF:=Lib.hid ((HF1.out.drewN nq).put 1 (.int .i64 ((k:Int)+1)))
   have e0:=HQ.out.c0
   have e1:((w1.drewN nq).setCell ⟨b,1,none⟩ (.int .i64 ((k:Int)+1))).cell? ⟨b,1,none⟩=some (.int .i64 ((k:Int)+1)):=HQ.out.c1
   have e2:((w1.drewN nq).setCell ⟨b,1,none⟩ (.int .i64 ((k:Int)+1))).cell? ⟨g,k * 3+2,none⟩=some (.int .i64 z):=by
    rw [World.cell?_setCell_other _ _ _ _ (by simp)]
    exact d2
   have HX:Hid ((((w1.drewN nq).setCell ⟨b,1,none⟩ (.int .i64 ((k:Int)+1))))=((w1.drewN nq).setCell ⟨b,1,none⟩ (.int .i64 (((k+1:Nat)):Int)))):=Lib.hid (by simp)
   rw [← HX.out] at HQ e0
   generalize (w1.drewN nq).setCell ⟨b,1,none⟩ (.int .i64 ((k:Int)+1))=X at *
   have hb:=box4 HF.out HP.out.lt (heap_alloc_new w _)
   have x0:=(Lib.cell_of_heap hb 0).trans rfl
   have x1:=(Lib.cell_of_heap hb 1).trans rfl
   have x2:=(Lib.cell_of_heap hb 2).trans rfl
   have x3:=(Lib.cell_of_heap hb 3).trans rfl
   have g0:=Lib.frozen_of_heap hb 0
   have g1:=Lib.frozen_of_heap hb 1
   have g2:=Lib.frozen_of_heap hb 2
   have g3:=Lib.frozen_of_heap hb 3
   have HFX:=Lib.hid (((PFr.refl b w).alloc _).trans HF.out)
   have HZ:Hid (rzeroT X w.heap.size):=Lib.hid hb
   clear hb c0 c1 f1 d0 d1 d2 HP1 HF1 HE HF HX
   go_region
   go_wp2
   obtain ⟨t0,t1,t2,t3⟩:=rput4 HP.out HFX.out HQ.out HZ.out (.int .i64 2) (.string ⟨#[]⟩) (.int .i64 z) (.slice none 0 0)
   exact bodyPost_ret (v:=.agg #[.int .i64 2,.string ⟨#[]⟩,.int .i64 z,.slice none 0 0]) (results_cell_row Tryz.results90 _ _ w.heap.size 28 #[.int .i64 2,.string ⟨#[]⟩,.int .i64 z,.slice none 0 0] (0,0) _ rfl t0 Tryz.underlying28 rfl infoTerm4) rfl ⟨_,rfl,⟨_,by first | (rw [HZZ.out];done) | (rw [HZZ.out];rfl),.inl ⟨rfl,rfl⟩⟩,t1.drew,t2.drewR⟩
  ·rw [HK2.out rfl hl hx]
   clear HK2 HK3 HPRE
   go_enter Tryz.func90,Tryz.ntmps90
   go_wp2_with fail
   go_at_call 117
   refine HN.out.mono ?_
   rintro e w1 ⟨rfl,hp1,hf1⟩
   have HE2:=Lib.hid (fun x q=>rend_any (x:World) b A c ts k 0 q)
   rw [hd] at HE2
   obtain ⟨g,rfl,hgb,d0,d1,d2⟩:=hp1.at_tok hl
   have c0:=hp1.c0
   have c1:=hp1.c1
   have f1:=hp1.f1
   rw [hx] at d0
   have HP1:=Lib.hid hp1
   have HF1:=Lib.hid hf1
   have HE:=Lib.hid (fun q=>HE2.out (w1.drewN q) (HP1.out.drewN q))
   clear hp1 hf1 hx hd
   generalize hzz:(ts[k]).text=z at *
   have HZZ:=Lib.hid hzz
   clear hzz
   go_wp2
   go_quiet ((go_at_call 118;exact Calls.quiet_of (HE.out _)))
   go_wp2
   have HP1b:=Lib.hid (HP1.out.drewN nq)
   have HF1b:=Lib.hid (HF1.out.drewN nq)
   have c0:(w1.drewN nq).cell? _=_:=c0
   have c1:(w1.drewN nq).cell? _=_:=c1
   have f1:(w1.drewN nq).frozen? _=_:=f1
   have d0:(w1.drewN nq).cell? _=_:=d0
   have d1:(w1.drewN nq).cell? _=_:=d1
   clear HE HP1 HF1
   generalize w1.drewN nq=w1 at *
   have HE:=Lib.hid (fun q=>HE2.out (w1.drewN q) (HP1b.out.drewN q))
   go_quiet ((go_at_call 118;exact Calls.quiet_of (HE.out _)))
   go_wp2_with fail
   have HQ:=Lib.hid ((HP1b.out.drewN nq).setAt (k+1) hkn)
   have HF:=Lib.hid ((HF1b.out.drewN nq).put 1 (.int .i64 ((k:Int)+1)))
   have e0:=HQ.out.c0
   have e1:((w1.drewN nq).setCell ⟨b,1,none⟩ (.int .i64 ((k:Int)+1))).cell? ⟨b,1,none⟩=some (.int .i64 ((k:Int)+1)):=HQ.out.c1
   have e2:((w1.drewN nq).setCell ⟨b,1,none⟩ (.int .i64 ((k:Int)+1))).cell? ⟨g,k * 3+1,none⟩=some (.string (bs z)):=by
    rw [World.cell?_setCell_other _ _ _ _ (by simp)]
    exact d1
   have HX:Hid ((((w1.drewN nq).setCell ⟨b,1,none⟩ (.int .i64 ((k:Int)+1))))=((w1.drewN nq).setCell ⟨b,1,none⟩ (.int .i64 (((k+1:Nat)):Int)))):=Lib.hid (by simp)
   rw [← HX.out] at HQ e0
   generalize (w1.drewN nq).setCell ⟨b,1,none⟩ (.int .i64 ((k:Int)+1))=X at *
   have hb:=box4 HF.out HP.out.lt (heap_alloc_new w _)
   have x0:=(Lib.cell_of_heap hb 0).trans rfl
   have x1:=(Lib.cell_of_heap hb 1).trans rfl
   have x2:=(Lib.cell_of_heap hb 2).trans rfl
   have x3:=(Lib.cell_of_heap hb 3).trans rfl
   have g0:=Lib.frozen_of_heap hb 0
   have g1:=Lib.frozen_of_heap hb 1
   have g2:=Lib.frozen_of_heap hb 2
   have g3:=Lib.frozen_of_heap hb 3
   have HFX:=Lib.hid (((PFr.refl b w).alloc _).trans HF.out)
   have HZ:Hid (rzeroT X w.heap.size):=Lib.hid hb
   clear hb c0 c1 f1 d0 d1 d2 HP1b HF1b HE HE2 HF HX
   go_region
   go_wp2
   obtain ⟨t0,t1,t2,t3⟩:=rput4 HP.out HFX.out HQ.out HZ.out (.int .i64 1) (.string (bs z)) (.int .i64 0) (.slice none 0 0)
   exact bodyPost_ret (v:=.agg #[.int .i64 1,.string (bs z),.int .i64 0,.slice none 0 0]) (results_cell_row Tryz.results90 _ _ w.heap.size 28 #[.int .i64 1,.string (bs z),.int .i64 0,.slice none 0 0] (0,0) _ rfl t0 Tryz.underlying28 rfl infoTerm4) rfl ⟨_,rfl,⟨_,by first | (rw [HZZ.out];done) | (rw [HZZ.out];rfl),.inl ⟨rfl,rfl⟩⟩,t1.drew,t2.drewR⟩
  have HPR:=Lib.hid (fun y k2 er2=>HPRE.out y k2 er2 (.inr ⟨hx,hy⟩))
  have hq2:((ts[k]).kind == 2)=false:=by simpa using hx
  have hq3:((ts[k]).kind == 3)=false:=by simpa using hy
  clear HK2 HK3 HPRE hx hy
  go_enter Tryz.func90,Tryz.ntmps90
  go_wp2_with fail
  go_at_call 117
  refine HN.out.mono ?_
  rintro e w1 ⟨rfl,hp1,hf1⟩
  have HE2:=Lib.hid (fun x q=>rend_any (x:World) b A c ts k 0 q)
  rw [hd] at HE2
  obtain ⟨g,hA,hgb,d0,d1,d2⟩:=hp1.at_tok hl
  have c0:=hp1.c0
  have c1:=hp1.c1
  rw [hA] at c0
  have HP1:=Lib.hid hp1
  have HF1:=Lib.hid hf1
  have HE:=Lib.hid (fun q=>HE2.out (w1.drewN q) (HP1.out.drewN q))
  clear hp1 hf1 hd d1 d2 hgb hA
  generalize (ts[k]).kind=kn at *
  go_wp2
  go_quiet ((go_at_call 118;exact Calls.quiet_of (HE.out _)))
  go_wp2
  have HP1b:=Lib.hid (HP1.out.drewN nq)
  have HF1b:=Lib.hid (HF1.out.drewN nq)
  have c0:(w1.drewN nq).cell? _=_:=c0
  have c1:(w1.drewN nq).cell? _=_:=c1
  have d0:(w1.drewN nq).cell? _=_:=d0
  clear HE HP1 HF1
  generalize w1.drewN nq=w1 at *
  have HE:=Lib.hid (fun q=>HE2.out (w1.drewN q) (HP1b.out.drewN q))
  go_quiet ((go_at_call 118;exact Calls.quiet_of (HE.out _)))
  go_wp2_with fail
  go_at_call 119
  refine (rword_gen _ b A c ts k 0 (HP1b.out.drewN nq) hk).mono ?_
  rintro e w2 ⟨y,k2,er2,rfl,hp2,hf2,hk2,hz1,hz2⟩
  have HST:=Lib.hid (relT_start HP.out hp2 hk2 ((HF1b.out.drewN nq).trans hf2) (HPR.out y k2 er2 hz1 (fun _=>hz2 rfl)))
  have hlt:w.heap.size < w2.heap.size:=by have h1:=HF1b.out.size;have h2:=hf2.size;simp at h1 h2;omega
  clear hp2 hf2 hz1 hz2 HE HE2 HP1b HF1b HPR c0 c1 d0 hq2 hq3 hk0 hk1 hkn hl
  go_wp2_with fail
 all_goals
  go_loopw [] (fun wr=>Hid (RelT b A c ts m ne OT y w w2.heap.size wr)) (fun wr=>meas ts.length b wr)
  case atStart=>exact HST
  case round =>
   clear HST
   rcases hrel.out with ⟨O,s0,m',kk,acc,vs,g,s,cap,hne,hy,hOT,hbox,hzero,hI⟩ | ⟨kk,er',i,s,n,cap,her,hOT,hei,hkk,hbox,hzero,hr,hf⟩
   ·clear hrel
    have c2:=hI.rd.c2
    have d3:=(Lib.cell_of_heap hbox 3).trans rfl
    have HM:=Lib.hid (HMORE.out wr kk acc.length hI.rd hI.le)
    have HBW:=Lib.hid HP.out.lt
    have hbz:=(Array.getElem?_eq_some_iff.1 hbox).1
    have HSTEP:=tail_step HFWD.out hI.out hI.fuel hI.le
    have HI:=Lib.hid hI
    have HBX:=Lib.hid hbox
    have HZR:=Lib.hid hzero
    have hfew:acc.length≤16384:=by have h1:=hI.few;have h2:=hI.le;omega
    clear hI hbox hzero
    rcases HSTEP with ⟨k1,hm,hk1,hk1l,hx⟩ | ⟨k1,hm,hk1l,hO⟩ | ⟨k1,er',i,hm,her,hk1l,hO,hei⟩
    ·rw [hm] at HM
     have HRX:=Lib.hid (fun w3 h3=>HR.out hne w3 k1 h3 hk1l)
     rcases hx with ⟨i,hr,hO⟩ | ⟨x2,k2',m2,hr,hk3,hk4,hO,hfu⟩
     ·rw [hr] at HRX
      obtain rfl:=hO
      obtain rfl:OT=.no i:=hOT
      clear hm hk1l hbz hne hy hr
      go_wp2_with fail
      go_at_call 120
      refine HM.out.mono ?_
      rintro e w3 ⟨rfl,hp3,hf3⟩
      have d4:=(hf3.cell (p:=⟨w2.heap.size,3,none⟩) (Array.getElem?_eq_some_iff.1 HBX.out).1 (by have:=HBW.out;show w2.heap.size ≠ b;omega)).trans d3
      have hw3:w2.heap.size < w3.heap.size:=by have h1:=HI.out.base2;have h2:=hf3.size;omega
      have hnb:w2.heap.size ≠ b:=by have:=HBW.out;omega
      have HOWN:=Lib.hid (own_fr HI.out.own hf3 (by have:=HBW.out;omega))
      have HR3:=Lib.hid hp3
      have HF3:=Lib.hid hf3
      clear hp3 hf3 d3 c2
      go_wp2_with fail
      have HWR:Hid (IntKind.i64.wrap (ne+1+1)=ne+1+1):=Lib.hid (IntWalk.i64_in _ (by omega))
      go_region_law (first
       | (go_simp;go_at_call 90;rw [HWR.out];refine (HRX.out _ HR3.out.drew).mono ?_;rintro e w4 ⟨v4,k4,rfl,⟨p1,p2,p3,p4,p5,p6,rfl⟩,hk4,hp4,hf4⟩;replace hf4:=PFr.ofDrew hf4;have d5:=(hf4.cell (p:=⟨w2.heap.size,3,none⟩) hw3 hnb).trans d4;have hw4:w2.heap.size < w4.heap.size:=Nat.lt_of_lt_of_le hw3 hf4.size;have hw5:¬ w2.heap.size=w4.heap.size:=Nat.ne_of_lt hw4;have hw6:¬ w4.heap.size=w2.heap.size:=fun e=>hw5 e.symm)
       | ((refine step_term rfl (.tmp 99) (.tmp 104) rfl (w2.heap.size+1) (.slice s acc.length cap) acc.length (vs.flatMap cellsL) ?_ ?_ w4.heap.size p1 p3 p2 p4 p5 p6 ?_ ?_ ?_ ?_ ?_);(rfl);(exact (own_fr HOWN.out hf4 (by have:=HBW.out;omega)).alloc _);(rfl);(exact heap_alloc_new _ _);(omega);(have:=hf4.size;simp at this ⊢;omega);(intro g2 cap2 w6 hown6 hg6 hat6;have HG6:=Lib.hid hg6;have HOW:=Lib.hid hown6;have HAT:=Lib.hid hat6;obtain ⟨q1,q2,q3,q4,q5⟩:=HI.out.grow HP.out (HF3.out.trans hf4) hg6;have hb6:=(q4 w2.heap.size (Nat.lt_succ_self _) hnb).trans HBX.out;have e3:=(Lib.cell_of_heap hb6 3).trans rfl;have f3:=Lib.frozen_of_heap hb6 3;clear q1 q2 q3 q4 q5 hb6 hg6 hown6 hat6)))
      all_goals
       obtain ⟨t1,t2,t3,t4,t5⟩:=fin7 HP.out HI.out HBX.out HZR.out hlt (HF3.out.trans hf4) HG6.out (some ⟨g2,0,none⟩) (acc.length+1) cap2
       have HK4:=Lib.hid hk4;have HP4:=Lib.hid hp4;have HF4:=Lib.hid hf4
       clear hf4 hp4 d4 d5 e3 f3 hk4
       go_wp2
       go_roundw
       case rel=>exact Lib.hid (.inr ⟨k4,_,i,_,_,_,erN_ne i,rfl,rfl,HK4.out,t1,t2,t5 _ _ HP4.out,t3⟩)
       case measure =>
        rw [meas_off (t5 _ _ HP4.out) (erN_ne i),meas_on HI.out.rd]
        omega
     ·rw [hr] at HRX
      have HNE:=Lib.hid hne
      have HY:=Lib.hid hy
      have HOT:=Lib.hid hOT
      have HO:=Lib.hid hO
      have HFU:=Lib.hid hfu
      have HKK:Hid (kk < k2'):=Lib.hid (by omega)
      have HK4:=Lib.hid hk4
      clear hk4 hk3 hfu hO hOT hk1
      clear hm hk1l hbz hne hy hr
      go_wp2_with fail
      go_at_call 120
      refine HM.out.mono ?_
      rintro e w3 ⟨rfl,hp3,hf3⟩
      have d4:=(hf3.cell (p:=⟨w2.heap.size,3,none⟩) (Array.getElem?_eq_some_iff.1 HBX.out).1 (by have:=HBW.out;show w2.heap.size ≠ b;omega)).trans d3
      have hw3:w2.heap.size < w3.heap.size:=by have h1:=HI.out.base2;have h2:=hf3.size;omega
      have hnb:w2.heap.size ≠ b:=by have:=HBW.out;omega
      have HOWN:=Lib.hid (own_fr HI.out.own hf3 (by have:=HBW.out;omega))
      have HR3:=Lib.hid hp3
      have HF3:=Lib.hid hf3
      clear hp3 hf3 d3 c2
      go_wp2_with fail
      have HWR:Hid (IntKind.i64.wrap (ne+1+1)=ne+1+1):=Lib.hid (IntWalk.i64_in _ (by omega))
      go_region_law (first
       | (go_simp;go_at_call 90;rw [HWR.out];refine (HRX.out _ HR3.out.drew).mono ?_;rintro e w4 ⟨v4,rfl,hv4,hp4,hf4⟩;obtain ⟨p1,p2,p3,p4,p5,p6,rfl⟩:=TermV.this m _ _ _ _ _ hv4;have HV4:=Lib.hid hv4;clear hv4;replace hf4:=PFr.ofDrew hf4;have d5:=(hf4.cell (p:=⟨w2.heap.size,3,none⟩) hw3 hnb).trans d4;have hw4:w2.heap.size < w4.heap.size:=Nat.lt_of_lt_of_le hw3 hf4.size;have hw5:¬ w2.heap.size=w4.heap.size:=Nat.ne_of_lt hw4;have hw6:¬ w4.heap.size=w2.heap.size:=fun e=>hw5 e.symm)
       | ((refine step_term rfl (.tmp 99) (.tmp 104) rfl (w2.heap.size+1) (.slice s acc.length cap) acc.length (vs.flatMap cellsL) ?_ ?_ w4.heap.size p1 p3 p2 p4 p5 p6 ?_ ?_ ?_ ?_ ?_);(rfl);(exact (own_fr HOWN.out hf4 (by have:=HBW.out;omega)).alloc _);(rfl);(exact heap_alloc_new _ _);(omega);(have:=hf4.size;simp at this ⊢;omega);(intro g2 cap2 w6 hown6 hg6 hat6;have HG6:=Lib.hid hg6;have HOW:=Lib.hid hown6;have HAT:=Lib.hid hat6;obtain ⟨q1,q2,q3,q4,q5⟩:=HI.out.grow HP.out (HF3.out.trans hf4) hg6;have hb6:=(q4 w2.heap.size (Nat.lt_succ_self _) hnb).trans HBX.out;have e3:=(Lib.cell_of_heap hb6 3).trans rfl;have f3:=Lib.frozen_of_heap hb6 3;clear q1 q2 q3 q4 q5 hb6 hg6 hown6 hat6)))
      all_goals
       obtain ⟨t1,t2,t3,t4,t5⟩:=fin7 HP.out HI.out HBX.out HZR.out hlt (HF3.out.trans hf4) HG6.out (some ⟨g2,0,none⟩) (acc.length+1) cap2
       have HP4:=Lib.hid hp4;have HF4:=Lib.hid hf4
       clear hf4 hp4 d4 d5 e3 f3
       go_wp2
       go_roundw
       case rel =>
        have hlo:wr.heap.size≤w3.drew.heap.size:=HF3.out.size
        have hlen:(acc++[x2]).length=acc.length+1:=by simp
        refine Lib.hid (.inl ⟨O,s0,m2,k2',acc++[x2],vs++[.agg #[.int .i64 p1,.string p2,.int .i64 p3,.slice p4 p5 p6]],g2,some ⟨g2,0,none⟩,cap2,HNE.out,HY.out,HOT.out,by rw [hlen];exact t1,t2,?_⟩)
        exact HI.out.next (TermV.stable m) HP.out (HF3.out.trans HF4.out) hlo HV4.out HOW.out HG6.out HAT.out HO.out HFU.out HKK.out HK4.out t4 t3 (t5 _ _ HP4.out)
       case measure =>
        rw [meas_on (t5 _ _ HP4.out),meas_on HI.out.rd]
        have h1:=HKK.out
        have h2:=HK4.out
        omega
    ·rw [hm] at HM
     obtain rfl:=hO
     obtain rfl:OT=.ok (.mk 3 s0 0 acc) k1:=hOT
     have HK7:=Lib.hid hk1l
     have HY:=Lib.hid hy
     clear hm hk1l hbz hne hy
     go_wp2_with fail
     go_at_call 120
     refine HM.out.mono ?_
     rintro e w3 ⟨rfl,hp3,hf3⟩
     have hbox:=(hf3.block w2.heap.size (Array.getElem?_eq_some_iff.1 HBX.out).1 (by have:=HBW.out;omega)).trans HBX.out
     have hzero:=(hf3.block w.heap.size (Array.getElem?_eq_some_iff.1 HZR.out).1 (by have:=HBW.out;omega)).trans HZR.out
     have d0:=(Lib.cell_of_heap hbox 0).trans rfl
     have d1:=(Lib.cell_of_heap hbox 1).trans rfl
     have d2:=(Lib.cell_of_heap hbox 2).trans rfl
     have d3:=(Lib.cell_of_heap hbox 3).trans rfl
     have x0:=(Lib.cell_of_heap hzero 0).trans rfl
     have x1:=(Lib.cell_of_heap hzero 1).trans rfl
     have x2:=(Lib.cell_of_heap hzero 2).trans rfl
     have x3:=(Lib.cell_of_heap hzero 3).trans rfl
     have g0:=Lib.frozen_of_heap hzero 0
     have g1:=Lib.frozen_of_heap hzero 1
     have g2:=Lib.frozen_of_heap hzero 2
     have g3:=Lib.frozen_of_heap hzero 3
     have HR7:=Lib.hid hp3
     have HF7:=Lib.hid hf3
     have HZ:Hid (rzeroT w3 w.heap.size):=Lib.hid hzero
     clear hp3 hf3 hbox hzero
     go_wp2_with fail
     obtain ⟨t0,t1,t2,t3⟩:=rput4 HP.out (HI.out.fr.trans HF7.out) HR7.out HZ.out (.int .i64 3) (.string y) (.int .i64 0) (.slice s acc.length cap)
     refine bodyPost_ret (v:=.agg #[.int .i64 3,.string y,.int .i64 0,.slice s acc.length cap]) (results_cell_row Tryz.results90 _ _ w.heap.size 28 #[.int .i64 3,.string y,.int .i64 0,.slice s acc.length cap] (0,0) _ rfl t0 Tryz.underlying28 rfl infoTerm4) rfl ⟨_,rfl,⟨_,by rw [HY.out],?_⟩,t1,t2⟩
     have hB:=HI.out.base
     have hv1:=HI.out.held
     have hv2:=ArgsV.stable _ _ (TermV.stable m) _ _ _ _ _ w3 hv1 (fun j j1 j2=>HF7.out.block j j2 (by have:=HBW.out;omega))
     have hv3:=ArgsV.wide hv2 (Nat.le_refl _) HF7.out.size
     have hv4:=ArgsV.stable _ _ (TermV.stable m) _ _ _ _ _ _ hv3 (fun j j1 j2=>t3.block j (by omega))
     exact ArgsV.wide hv4 (by omega) (by rw [t3.size];exact Nat.le_refl _)
    ·rw [hm] at HM
     obtain rfl:=hei
     obtain rfl:=hO
     obtain rfl:OT=.no i:=hOT
     have HK7:=Lib.hid hk1l
     clear hm hk1l hbz hne hy her
     go_wp2_with fail
     go_at_call 120
     refine HM.out.mono ?_
     rintro e w3 ⟨rfl,hp3,hf3⟩
     have hbox:=(hf3.block w2.heap.size (Array.getElem?_eq_some_iff.1 HBX.out).1 (by have:=HBW.out;omega)).trans HBX.out
     have hzero:=(hf3.block w.heap.size (Array.getElem?_eq_some_iff.1 HZR.out).1 (by have:=HBW.out;omega)).trans HZR.out
     have d0:=(Lib.cell_of_heap hbox 0).trans rfl
     have d1:=(Lib.cell_of_heap hbox 1).trans rfl
     have d2:=(Lib.cell_of_heap hbox 2).trans rfl
     have d3:=(Lib.cell_of_heap hbox 3).trans rfl
     have x0:=(Lib.cell_of_heap hzero 0).trans rfl
     have x1:=(Lib.cell_of_heap hzero 1).trans rfl
     have x2:=(Lib.cell_of_heap hzero 2).trans rfl
     have x3:=(Lib.cell_of_heap hzero 3).trans rfl
     have g0:=Lib.frozen_of_heap hzero 0
     have g1:=Lib.frozen_of_heap hzero 1
     have g2:=Lib.frozen_of_heap hzero 2
     have g3:=Lib.frozen_of_heap hzero 3
     have HR7:=Lib.hid hp3
     have HF7:=Lib.hid hf3
     have HZ:Hid (rzeroT w3 w.heap.size):=Lib.hid hzero
     clear hp3 hf3 hbox hzero
     go_wp2_with fail
     obtain ⟨t0,t1,t2,t3⟩:=rput4 HP.out (HI.out.fr.trans HF7.out) HR7.out HZ.out (.int .i64 3) (.string y) (.int .i64 0) (.slice s acc.length cap)
     exact bodyPost_ret (v:=.agg #[.int .i64 3,.string y,.int .i64 0,.slice s acc.length cap]) (results_cell_row Tryz.results90 _ _ w.heap.size 28 #[.int .i64 3,.string y,.int .i64 0,.slice s acc.length cap] (0,0) _ rfl t0 Tryz.underlying28 rfl infoTerm4) rfl ⟨_,_,rfl,⟨_,_,_,_,_,_,rfl⟩,HK7.out,t1,t2⟩
   ·clear hrel
    obtain rfl:=hei
    subst hOT
    have c2:=hr.c2
    have hq:(erN i == 0)=false:=by simpa using her
    have d0:=(Lib.cell_of_heap hbox 0).trans rfl
    have d1:=(Lib.cell_of_heap hbox 1).trans rfl
    have d2:=(Lib.cell_of_heap hbox 2).trans rfl
    have d3:=(Lib.cell_of_heap hbox 3).trans rfl
    have x0:=(Lib.cell_of_heap hzero 0).trans rfl
    have x1:=(Lib.cell_of_heap hzero 1).trans rfl
    have x2:=(Lib.cell_of_heap hzero 2).trans rfl
    have x3:=(Lib.cell_of_heap hzero 3).trans rfl
    have g0:=Lib.frozen_of_heap hzero 0
    have g1:=Lib.frozen_of_heap hzero 1
    have g2:=Lib.frozen_of_heap hzero 2
    have g3:=Lib.frozen_of_heap hzero 3
    have HR7:=Lib.hid hr
    have HF7:=Lib.hid hf
    have HK7:=Lib.hid hkk
    have HZ:=Lib.hid hzero
    clear hr hf hkk hbox hzero her
    go_wp2_with fail
    obtain ⟨t0,t1,t2,t3⟩:=rput4 HP.out HF7.out HR7.out HZ.out (.int .i64 3) (.string y) (.int .i64 0) (.slice s n cap)
    exact bodyPost_ret (v:=.agg #[.int .i64 3,.string y,.int .i64 0,.slice s n cap]) (results_cell_row Tryz.results90 _ _ w.heap.size 28 #[.int .i64 3,.string y,.int .i64 0,.slice s n cap] (0,0) _ rfl t0 Tryz.underlying28 rfl infoTerm4) rfl ⟨_,_,rfl,⟨_,_,_,_,_,_,rfl⟩,HK7.out,t1,t2⟩
theorem rterm_step (b:Nat) (A:Option Addr) (c:Nat) (ts:List Tok) (hw:WF ts) (m:Nat) (ne:Int) (h0:0≤ne) (h1:ne≤70000)
  (HR:Hid (ne < 64→∀ w k,Rd w b A c ts k 0→k≤ts.length→Calls Tryz.prog 90 #[.pointer (some ⟨b,0,none⟩),.int .i64 (ne+1+1)] w fun e w'=>REnds b A c ts (TermV m) ShTerm w (termO ts m (ne+1) k) e w'))
  (w:World) (k:Nat) (h:Rd w b A c ts k 0) (hk:k≤ts.length) :
  Calls Tryz.prog 90 #[.pointer (some ⟨b,0,none⟩),.int .i64 (ne+1)] w fun e w'=>REnds b A c ts (TermV (m+1)) ShTerm w (termO ts (m+1) ne k) e w' :=
 rterm_gen b A c ts hw m ne h0 h1 HR w k 0 _ (.inl ⟨rfl,rfl⟩) h hk
/-- A term, at whatever nest. -/
theorem rterm_any (b:Nat) (A:Option Addr) (c:Nat) (ts:List Tok) (hw:WF ts):∀ (m:Nat) (ne:Int),65≤ne+m→0≤ne→ne≤70000→∀ (w:World) (k:Nat),Rd w b A c ts k 0→k≤ts.length →
  Calls Tryz.prog 90 #[.pointer (some ⟨b,0,none⟩),.int .i64 (ne+1)] w fun e w'=>REnds b A c ts (TermV (m+1)) ShTerm w (termO ts (m+1) ne k) e w'
 | 0,ne,hm,h0,h1,w,k,h,hk=>rterm_step b A c ts hw 0 ne h0 h1 (Lib.hid (fun hn=>by omega)) w k h hk
 | m+1,ne,hm,h0,h1,w,k,h,hk=>rterm_step b A c ts hw (m+1) ne h0 h1 (Lib.hid (fun hn=>rterm_any b A c ts hw m (ne+1) (by omega) (by omega) (by omega))) w k h hk
end Lx
end Go.Proofs.YtiljemkglhloeaaGreatDoor
