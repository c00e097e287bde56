/- The contract of package parse's prim: what a goal is where the grammar has a prim, held in cells; or the panic. Conditions: the parser's block is its own; at most 16384 tokens. -/
import Derived.Test.YtiljemkglhloeaaGreatDoorPrimA
namespace Go.Proofs.YtiljemkglhloeaaGreatDoor
set_option linter.unusedSimpArgs false
set_option linter.unusedVariables false
namespace Lx
open Go Go.RowKit
set_option maxRecDepth 100000 in
set_option maxHeartbeats 8000000 in
theorem prim_step (b:Nat) (A:Option Addr) (c:Nat) (ts:List Tok) (f:Nat→Addr) (m:Nat) (ne:Int) (h0:0≤ne) (h1:ne≤60000)
  (HR:Hid (ne < 64→∀ w k,Par w b A c ts k (ne+1)→PErrs w b f→k≤ts.length→Calls Tryz.prog 184 #[.pointer (some ⟨b,0,none⟩)] w fun e w'=>EndsV b A c ts (ne+1) f (GoalV (2 * m)) w (primO ts m (ne+1) k) e w'))
  (w:World) (k:Nat) (h:Par w b A c ts k ne) (hE:PErrs w b f) (hk:k≤ts.length) :
  Calls Tryz.prog 184 #[.pointer (some ⟨b,0,none⟩)] w fun e w'=>EndsV b A c ts ne f (GoalV (2 * (m+1))) w (primO ts (m+1) ne k) e w':=by
 have HP:=Lib.hid h
 have HE:=Lib.hid hE
 have hfw:=h.few
 have H1:=Lib.hid (fun w h hE=>enter_any w b A c ts k ne f h (by omega) hE)
 have HA1:=Lib.hid (fun w h=>accept_any w b A c ts k (ne+1) ⟨#[116,114,117,101]⟩ h (by omega))
 rw [hasT_eq,show (ByteArray.mk #[116,114,117,101]).data.toList=[116,114,117,101] from rfl] at HA1
 have HA2:=Lib.hid (fun w h=>accept_any w b A c ts k (ne+1) ⟨#[102,97,105,108]⟩ h (by omega))
 rw [hasT_eq,show (ByteArray.mk #[102,97,105,108]).data.toList=[102,97,105,108] from rfl] at HA2
 have HA3:=Lib.hid (fun w h=>accept_any w b A c ts k (ne+1) ⟨#[110,111,116]⟩ h (by omega))
 rw [hasT_eq,show (ByteArray.mk #[110,111,116]).data.toList=[110,111,116] from rfl] at HA3
 have HA4:=Lib.hid (fun w h=>accept_any w b A c ts k (ne+1) ⟨#[116,104,114,111,119]⟩ h (by omega))
 rw [hasT_eq,show (ByteArray.mk #[116,104,114,111,119]).data.toList=[116,104,114,111,119] from rfl] at HA4
 have HA5:=Lib.hid (fun w h=>accept_any w b A c ts k (ne+1) ⟨#[116,114,121]⟩ h (by omega))
 rw [hasT_eq,show (ByteArray.mk #[116,114,121]).data.toList=[116,114,121] from rfl] at HA5
 have HA6:=Lib.hid (fun w h=>accept_any w b A c ts k (ne+1) ⟨#[40]⟩ h (by omega))
 rw [hasT_eq,show (ByteArray.mk #[40]).data.toList=[40] from rfl] at HA6
 have HEO:=Lib.hid (show 64 < ne+1∧k < ts.length→enterO ts k ne=.no 0 from fun h=>by simp [enterO,h])
 rw [primO]
 clear h hE
 cases he:enterO ts k ne with
 | no i =>
  rw [he] at H1
  go_enter_defers Tryz.func184,Tryz.ntmps184
  go_wp2_with fail
  go_at_call 109
  refine (H1.out _ (HP.out.alloc _) (HE.out.move ((PFr.refl b w).alloc _))).mono ?_
  rintro e w1 ⟨rfl,h2,h3⟩
  go_wp2_with fail
  obtain ⟨kq,nq,hpq,hnq⟩:=h2
  exact ⟨rfl,⟨kq,nq,hpq,by omega⟩,((PFr.refl b w).alloc _).trans h3⟩
 | ok u ku =>
  obtain rfl:ku=k:=by
   unfold enterO at he
   split at he
   ·cases he
   ·injection he with _ h2;exact h2.symm
  rw [he] at H1
  have hne64:ku < ts.length→ne < 64:=fun hl=>by
   rcases Int.lt_or_le ne 64 with h | h
   ·exact h
   ·have:=HEO.out ⟨by omega,hl⟩
    rw [he] at this
    cases this
  clear he
  cases q1:hasT ts ku [116,114,117,101] with
  | true =>
   have hin:ku < ts.length:=hasT_in q1 (by decide)
   replace hne64:=hne64 hin
   rw [q1] at HA1
   simp only [if_true] at HA1 ⊢
   clear q1
   go_enter_defers Tryz.func184,Tryz.ntmps184
   go_wp2_with fail
   go_at_call 109
   refine (H1.out _ (HP.out.alloc _) (HE.out.move ((PFr.refl b w).alloc _))).mono ?_
   rintro e w1 ⟨v,rfl,rfl,hp1,hf1⟩
   go_wp2_with fail
   go_at_call 123
   refine (HA1.out _ hp1).mono ?_
   rintro e w2 ⟨rfl,hp2,hf2⟩
   have hb:=boxG (hf1.trans hf2) HP.out.lt (heap_alloc_new w _)
   have d0:=(Lib.cell_of_heap hb 0).trans rfl
   have g0:=Lib.frozen_of_heap hb 0
   have d1:=(Lib.cell_of_heap hb 1).trans rfl
   have g1:=Lib.frozen_of_heap hb 1
   have d2:=(Lib.cell_of_heap hb 2).trans rfl
   have g2:=Lib.frozen_of_heap hb 2
   have d3:=(Lib.cell_of_heap hb 3).trans rfl
   have g3:=Lib.frozen_of_heap hb 3
   have d4:=(Lib.cell_of_heap hb 4).trans rfl
   have g4:=Lib.frozen_of_heap hb 4
   have d5:=(Lib.cell_of_heap hb 5).trans rfl
   have g5:=Lib.frozen_of_heap hb 5
   have d6:=(Lib.cell_of_heap hb 6).trans rfl
   have g6:=Lib.frozen_of_heap hb 6
   have d7:=(Lib.cell_of_heap hb 7).trans rfl
   have g7:=Lib.frozen_of_heap hb 7
   have d8:=(Lib.cell_of_heap hb 8).trans rfl
   have g8:=Lib.frozen_of_heap hb 8
   have d9:=(Lib.cell_of_heap hb 9).trans rfl
   have g9:=Lib.frozen_of_heap hb 9
   have d10:=(Lib.cell_of_heap hb 10).trans rfl
   have g10:=Lib.frozen_of_heap hb 10
   have d11:=(Lib.cell_of_heap hb 11).trans rfl
   have g11:=Lib.frozen_of_heap hb 11
   have hsz:w.heap.size < w2.heap.size:=(Array.getElem?_eq_some_iff.1 hb).1
   have HB:=Lib.hid hb
   clear hb
   go_wp2_with fail
   obtain ⟨t1,t2,t3,t4,t5⟩:=put12 HP.out (hf1.trans hf2) hp2 HB.out (.int .i64 1) (.int .i64 0) (.string ⟨#[]⟩) (.int .i64 0) (.slice none 0 0) (.int .i64 0) (.string ⟨#[]⟩) (.int .i64 0) (.slice none 0 0) (.string ⟨#[]⟩) (.slice none 0 0) (.slice none 0 0)
   refine prim_door (x0:=.int .i64 1) (x1:=.int .i64 0) (x2:=.string ⟨#[]⟩) (x3:=.int .i64 0) (x4:=.slice none 0 0) (x5:=.int .i64 0) (x6:=.string ⟨#[]⟩) (x7:=.int .i64 0) (x8:=.slice none 0 0) (x9:=.string ⟨#[]⟩) (x10:=.slice none 0 0) (x11:=.slice none 0 0) h0 HP.out.lt rfl t1 t2 t3 ?_
   exact ⟨_,_,_,_,_,_,_,_,_,_,rfl,zeroT_holds _ _ _,zeroT_holds _ _ _,.inl ⟨rfl,rfl⟩,.inl ⟨rfl,rfl⟩⟩
  | false =>
   rw [q1] at HA1
   simp only [Bool.false_eq_true,if_false] at HA1 ⊢
   clear q1
   cases q2:hasT ts ku [102,97,105,108] with
   | true =>
    have hin:ku < ts.length:=hasT_in q2 (by decide)
    replace hne64:=hne64 hin
    rw [q2] at HA2
    simp only [if_true] at HA2 ⊢
    clear q2
    go_enter_defers Tryz.func184,Tryz.ntmps184
    go_wp2_with fail
    go_at_call 109
    refine (H1.out _ (HP.out.alloc _) (HE.out.move ((PFr.refl b w).alloc _))).mono ?_
    rintro e w1 ⟨v,rfl,rfl,hp1,hf1⟩
    go_wp2_with fail
    go_at_call 123
    refine (HA1.out _ hp1).mono ?_
    rintro e w2 ⟨rfl,hp2,hf2⟩
    go_wp2_with fail
    go_at_call 123
    refine (HA2.out _ hp2).mono ?_
    rintro e w3 ⟨rfl,hp3,hf3⟩
    have hb:=boxG (hf1.trans (hf2.trans hf3)) HP.out.lt (heap_alloc_new w _)
    have d0:=(Lib.cell_of_heap hb 0).trans rfl
    have g0:=Lib.frozen_of_heap hb 0
    have d1:=(Lib.cell_of_heap hb 1).trans rfl
    have g1:=Lib.frozen_of_heap hb 1
    have d2:=(Lib.cell_of_heap hb 2).trans rfl
    have g2:=Lib.frozen_of_heap hb 2
    have d3:=(Lib.cell_of_heap hb 3).trans rfl
    have g3:=Lib.frozen_of_heap hb 3
    have d4:=(Lib.cell_of_heap hb 4).trans rfl
    have g4:=Lib.frozen_of_heap hb 4
    have d5:=(Lib.cell_of_heap hb 5).trans rfl
    have g5:=Lib.frozen_of_heap hb 5
    have d6:=(Lib.cell_of_heap hb 6).trans rfl
    have g6:=Lib.frozen_of_heap hb 6
    have d7:=(Lib.cell_of_heap hb 7).trans rfl
    have g7:=Lib.frozen_of_heap hb 7
    have d8:=(Lib.cell_of_heap hb 8).trans rfl
    have g8:=Lib.frozen_of_heap hb 8
    have d9:=(Lib.cell_of_heap hb 9).trans rfl
    have g9:=Lib.frozen_of_heap hb 9
    have d10:=(Lib.cell_of_heap hb 10).trans rfl
    have g10:=Lib.frozen_of_heap hb 10
    have d11:=(Lib.cell_of_heap hb 11).trans rfl
    have g11:=Lib.frozen_of_heap hb 11
    have hsz:w.heap.size < w3.heap.size:=(Array.getElem?_eq_some_iff.1 hb).1
    have HB:=Lib.hid hb
    clear hb
    go_wp2_with fail
    obtain ⟨t1,t2,t3,t4,t5⟩:=put12 HP.out (hf1.trans (hf2.trans hf3)) hp3 HB.out (.int .i64 2) (.int .i64 0) (.string ⟨#[]⟩) (.int .i64 0) (.slice none 0 0) (.int .i64 0) (.string ⟨#[]⟩) (.int .i64 0) (.slice none 0 0) (.string ⟨#[]⟩) (.slice none 0 0) (.slice none 0 0)
    refine prim_door (x0:=.int .i64 2) (x1:=.int .i64 0) (x2:=.string ⟨#[]⟩) (x3:=.int .i64 0) (x4:=.slice none 0 0) (x5:=.int .i64 0) (x6:=.string ⟨#[]⟩) (x7:=.int .i64 0) (x8:=.slice none 0 0) (x9:=.string ⟨#[]⟩) (x10:=.slice none 0 0) (x11:=.slice none 0 0) h0 HP.out.lt rfl t1 t2 t3 ?_
    exact ⟨_,_,_,_,_,_,_,_,_,_,rfl,zeroT_holds _ _ _,zeroT_holds _ _ _,.inl ⟨rfl,rfl⟩,.inl ⟨rfl,rfl⟩⟩
   | false =>
    rw [q2] at HA2
    simp only [Bool.false_eq_true,if_false] at HA2 ⊢
    clear q2
    cases q3:hasT ts ku [110,111,116] with
    | true =>
     have hin:ku < ts.length:=hasT_in q3 (by decide)
     replace hne64:=hne64 hin
     rw [q3] at HA3
     simp only [if_true] at HA3 ⊢
     clear q3
     have HQ:=Lib.hid (fun w h hE=>HR.out hne64 w (ku+1) h hE (by omega))
     cases hq:primO ts m (ne+1) (ku+1) with
     | no i =>
      rw [hq] at HQ
      go_enter_defers Tryz.func184,Tryz.ntmps184
      go_wp2_with fail
      go_at_call 109
      refine (H1.out _ (HP.out.alloc _) (HE.out.move ((PFr.refl b w).alloc _))).mono ?_
      rintro e w1 ⟨v,rfl,rfl,hp1,hf1⟩
      go_wp2_with fail
      go_at_call 123
      refine (HA1.out _ hp1).mono ?_
      rintro e w2 ⟨rfl,hp2,hf2⟩
      go_wp2_with fail
      go_at_call 123
      refine (HA2.out _ hp2).mono ?_
      rintro e w3 ⟨rfl,hp3,hf3⟩
      go_wp2_with fail
      go_at_call 123
      refine (HA3.out _ hp3).mono ?_
      rintro e w4 ⟨rfl,hp4,hf4⟩
      go_wp2_with fail
      go_at_call 184
      refine (HQ.out _ hp4 ((HE.out.move ((PFr.refl b w).alloc _)).move (hf1.trans (hf2.trans (hf3.trans hf4))))).mono ?_
      rintro e w5 ⟨rfl,h2,h3⟩
      go_wp2_with fail
      exact prim_fall h0 h2 (((PFr.refl b w).alloc _).trans (hf1.trans (hf2.trans (hf3.trans (hf4.trans h3)))))
     | ok g k2 =>
      rw [hq] at HQ
      go_enter_defers Tryz.func184,Tryz.ntmps184
      go_wp2_with fail
      go_at_call 109
      refine (H1.out _ (HP.out.alloc _) (HE.out.move ((PFr.refl b w).alloc _))).mono ?_
      rintro e w1 ⟨v,rfl,rfl,hp1,hf1⟩
      go_wp2_with fail
      go_at_call 123
      refine (HA1.out _ hp1).mono ?_
      rintro e w2 ⟨rfl,hp2,hf2⟩
      go_wp2_with fail
      go_at_call 123
      refine (HA2.out _ hp2).mono ?_
      rintro e w3 ⟨rfl,hp3,hf3⟩
      go_wp2_with fail
      go_at_call 123
      refine (HA3.out _ hp3).mono ?_
      rintro e w4 ⟨rfl,hp4,hf4⟩
      go_wp2_with fail
      go_at_call 184
      refine (HQ.out _ hp4 ((HE.out.move ((PFr.refl b w).alloc _)).move (hf1.trans (hf2.trans (hf3.trans hf4))))).mono ?_
      rintro e w5 ⟨v5,rfl,hv5,hp5,hf5⟩
      obtain ⟨z1,z2,z3,z4,z5,z6,z7,z8,z9,za,zb,zc,zd,ze,zf,zg,zh,zi,zj,zk,rfl⟩:=GoalV.this _ _ _ _ _ _ hv5
      have HV5:=Lib.hid hv5
      clear hv5
      have hb:=boxG (hf1.trans (hf2.trans (hf3.trans (hf4.trans hf5)))) HP.out.lt (heap_alloc_new w _)
      have d0:=(Lib.cell_of_heap hb 0).trans rfl
      have g0:=Lib.frozen_of_heap hb 0
      have d1:=(Lib.cell_of_heap hb 1).trans rfl
      have g1:=Lib.frozen_of_heap hb 1
      have d2:=(Lib.cell_of_heap hb 2).trans rfl
      have g2:=Lib.frozen_of_heap hb 2
      have d3:=(Lib.cell_of_heap hb 3).trans rfl
      have g3:=Lib.frozen_of_heap hb 3
      have d4:=(Lib.cell_of_heap hb 4).trans rfl
      have g4:=Lib.frozen_of_heap hb 4
      have d5:=(Lib.cell_of_heap hb 5).trans rfl
      have g5:=Lib.frozen_of_heap hb 5
      have d6:=(Lib.cell_of_heap hb 6).trans rfl
      have g6:=Lib.frozen_of_heap hb 6
      have d7:=(Lib.cell_of_heap hb 7).trans rfl
      have g7:=Lib.frozen_of_heap hb 7
      have d8:=(Lib.cell_of_heap hb 8).trans rfl
      have g8:=Lib.frozen_of_heap hb 8
      have d9:=(Lib.cell_of_heap hb 9).trans rfl
      have g9:=Lib.frozen_of_heap hb 9
      have d10:=(Lib.cell_of_heap hb 10).trans rfl
      have g10:=Lib.frozen_of_heap hb 10
      have d11:=(Lib.cell_of_heap hb 11).trans rfl
      have g11:=Lib.frozen_of_heap hb 11
      have hsz:w.heap.size < w5.heap.size:=(Array.getElem?_eq_some_iff.1 hb).1
      have HB:=Lib.hid hb
      clear hb
      go_wp2_with fail
      have hs4:w.heap.size < w4.heap.size:=by have:=(hf1.trans (hf2.trans (hf3.trans hf4))).size;simp at this;omega
      obtain ⟨t1,t2,t3,t4,t5⟩:=put12 HP.out (hf1.trans (hf2.trans (hf3.trans (hf4.trans hf5)))) hp5 HB.out (.int .i64 7) (.int .i64 0) (.string ⟨#[]⟩) (.int .i64 0) (.slice none 0 0) (.int .i64 0) (.string ⟨#[]⟩) (.int .i64 0) (.slice none 0 0) (.string ⟨#[]⟩) (.slice none 0 0) (.slice (some ⟨w5.heap.size,0,none⟩) 1 1)
      have t6:=(Below.heap_alloc _ (.cells #[.int .i64 z1,.int .i64 z2,.string z3,.int .i64 z4,.slice z5 z6 z7,.int .i64 z8,.string z9,.int .i64 za,.slice zb zc zd,.string ze,.slice zf zg zh,.slice zi zj zk] 31) _ (by rw [t5];exact hsz)).trans t1
      refine prim_door (x0:=.int .i64 7) (x1:=.int .i64 0) (x2:=.string ⟨#[]⟩) (x3:=.int .i64 0) (x4:=.slice none 0 0) (x5:=.int .i64 0) (x6:=.string ⟨#[]⟩) (x7:=.int .i64 0) (x8:=.slice none 0 0) (x9:=.string ⟨#[]⟩) (x10:=.slice none 0 0) (x11:=.slice (some ⟨w5.heap.size,0,none⟩) 1 1) h0 HP.out.lt rfl t6 (t2.alloc _) (t3.alloc _) ?_
      refine ⟨_,_,_,_,_,_,_,_,_,_,rfl,zeroT_holds _ _ _,zeroT_holds _ _ _,.inl ⟨rfl,rfl⟩,.inr ?_⟩
      refine RowV.imp (fun x v lo hi w h=>GoalV.succ _ _ _ _ _ _ h) ((rowLit (l:=[g]) (vs:=[.agg #[.int .i64 z1,.int .i64 z2,.string z3,.int .i64 z4,.slice z5 z6 z7,.int .i64 z8,.string z9,.int .i64 za,.slice zb zc zd,.string ze,.slice zf zg zh,.slice zi zj zk]]) (lo:=w4.heap.size) t5 hf5.size rfl rfl (show 1≤maxLen by decide) ⟨⟨w4.heap.size,w5.heap.size,Nat.le_refl _,Nat.le_refl _,by omega,?_⟩,trivial⟩).wide (Nat.le_of_lt hs4) (by simp [t5]))
      exact GoalV.stable _ _ _ _ _ _ _ HV5.out (fun j j1 hj=>(Below.heap_alloc _ _ j (by rw [t5];exact hj)).trans (t4 j (by omega)))
    | false =>
     rw [q3] at HA3
     simp only [Bool.false_eq_true,if_false] at HA3 ⊢
     clear q3
     cases q4:hasT ts ku [116,104,114,111,119] with
     | true =>
      have hin:ku < ts.length:=hasT_in q4 (by decide)
      replace hne64:=hne64 hin
      rw [q4] at HA4
      simp only [if_true] at HA4 ⊢
      clear q4
      have HQ:=Lib.hid (fun w h hE=>term_any b A c ts f 65 (ne+1) (by omega) (by omega) (by omega) w (ku+1) h hE (by omega))
      cases hq:termO ts 66 (ne+1) (ku+1) with
      | no i =>
       rw [hq] at HQ
       go_enter_defers Tryz.func184,Tryz.ntmps184
       go_wp2_with fail
       go_at_call 109
       refine (H1.out _ (HP.out.alloc _) (HE.out.move ((PFr.refl b w).alloc _))).mono ?_
       rintro e w1 ⟨v,rfl,rfl,hp1,hf1⟩
       go_wp2_with fail
       go_at_call 123
       refine (HA1.out _ hp1).mono ?_
       rintro e w2 ⟨rfl,hp2,hf2⟩
       go_wp2_with fail
       go_at_call 123
       refine (HA2.out _ hp2).mono ?_
       rintro e w3 ⟨rfl,hp3,hf3⟩
       go_wp2_with fail
       go_at_call 123
       refine (HA3.out _ hp3).mono ?_
       rintro e w4 ⟨rfl,hp4,hf4⟩
       go_wp2_with fail
       go_at_call 123
       refine (HA4.out _ hp4).mono ?_
       rintro e w5 ⟨rfl,hp5,hf5⟩
       go_wp2_with fail
       go_at_call 86
       refine (HQ.out _ hp5 ((HE.out.move ((PFr.refl b w).alloc _)).move (hf1.trans (hf2.trans (hf3.trans (hf4.trans hf5)))))).mono ?_
       rintro e w6 ⟨rfl,h2,h3⟩
       go_wp2_with fail
       exact prim_fall h0 h2 (((PFr.refl b w).alloc _).trans (hf1.trans (hf2.trans (hf3.trans (hf4.trans (hf5.trans h3))))))
      | ok t k2 =>
       rw [hq] at HQ
       go_enter_defers Tryz.func184,Tryz.ntmps184
       go_wp2_with fail
       go_at_call 109
       refine (H1.out _ (HP.out.alloc _) (HE.out.move ((PFr.refl b w).alloc _))).mono ?_
       rintro e w1 ⟨v,rfl,rfl,hp1,hf1⟩
       go_wp2_with fail
       go_at_call 123
       refine (HA1.out _ hp1).mono ?_
       rintro e w2 ⟨rfl,hp2,hf2⟩
       go_wp2_with fail
       go_at_call 123
       refine (HA2.out _ hp2).mono ?_
       rintro e w3 ⟨rfl,hp3,hf3⟩
       go_wp2_with fail
       go_at_call 123
       refine (HA3.out _ hp3).mono ?_
       rintro e w4 ⟨rfl,hp4,hf4⟩
       go_wp2_with fail
       go_at_call 123
       refine (HA4.out _ hp4).mono ?_
       rintro e w5 ⟨rfl,hp5,hf5⟩
       go_wp2_with fail
       go_at_call 86
       refine (HQ.out _ hp5 ((HE.out.move ((PFr.refl b w).alloc _)).move (hf1.trans (hf2.trans (hf3.trans (hf4.trans hf5)))))).mono ?_
       rintro e w6 ⟨v6,rfl,hv6,hp6,hf6⟩
       obtain ⟨z1,z2,z3,z4,z5,z6,rfl⟩:=TermV.shape hv6
       have HV6:=Lib.hid hv6
       clear hv6
       have hb:=boxG (hf1.trans (hf2.trans (hf3.trans (hf4.trans (hf5.trans hf6))))) HP.out.lt (heap_alloc_new w _)
       have d0:=(Lib.cell_of_heap hb 0).trans rfl
       have g0:=Lib.frozen_of_heap hb 0
       have d1:=(Lib.cell_of_heap hb 1).trans rfl
       have g1:=Lib.frozen_of_heap hb 1
       have d2:=(Lib.cell_of_heap hb 2).trans rfl
       have g2:=Lib.frozen_of_heap hb 2
       have d3:=(Lib.cell_of_heap hb 3).trans rfl
       have g3:=Lib.frozen_of_heap hb 3
       have d4:=(Lib.cell_of_heap hb 4).trans rfl
       have g4:=Lib.frozen_of_heap hb 4
       have d5:=(Lib.cell_of_heap hb 5).trans rfl
       have g5:=Lib.frozen_of_heap hb 5
       have d6:=(Lib.cell_of_heap hb 6).trans rfl
       have g6:=Lib.frozen_of_heap hb 6
       have d7:=(Lib.cell_of_heap hb 7).trans rfl
       have g7:=Lib.frozen_of_heap hb 7
       have d8:=(Lib.cell_of_heap hb 8).trans rfl
       have g8:=Lib.frozen_of_heap hb 8
       have d9:=(Lib.cell_of_heap hb 9).trans rfl
       have g9:=Lib.frozen_of_heap hb 9
       have d10:=(Lib.cell_of_heap hb 10).trans rfl
       have g10:=Lib.frozen_of_heap hb 10
       have d11:=(Lib.cell_of_heap hb 11).trans rfl
       have g11:=Lib.frozen_of_heap hb 11
       have hsz:w.heap.size < w6.heap.size:=(Array.getElem?_eq_some_iff.1 hb).1
       have HB:=Lib.hid hb
       clear hb
       go_wp2_with fail
       obtain ⟨t1,t2,t3,t4,t5⟩:=put12 HP.out (hf1.trans (hf2.trans (hf3.trans (hf4.trans (hf5.trans hf6))))) hp6 HB.out (.int .i64 8) (.int .i64 z1) (.string z2) (.int .i64 z3) (.slice z4 z5 z6) (.int .i64 0) (.string ⟨#[]⟩) (.int .i64 0) (.slice none 0 0) (.string ⟨#[]⟩) (.slice none 0 0) (.slice none 0 0)
       refine prim_door (x0:=.int .i64 8) (x1:=.int .i64 z1) (x2:=.string z2) (x3:=.int .i64 z3) (x4:=.slice z4 z5 z6) (x5:=.int .i64 0) (x6:=.string ⟨#[]⟩) (x7:=.int .i64 0) (x8:=.slice none 0 0) (x9:=.string ⟨#[]⟩) (x10:=.slice none 0 0) (x11:=.slice none 0 0) h0 HP.out.lt rfl t1 t2 t3 ?_
       have hs5:w.heap.size < w5.heap.size:=by have:=(hf1.trans (hf2.trans (hf3.trans (hf4.trans hf5)))).size;simp at this;omega
       exact ⟨_,_,_,_,_,_,_,_,_,_,rfl,TermV.wide _ _ _ _ _ _ _ _ (TermV.stable _ _ _ _ _ _ _ HV6.out (fun j j1 _=>t4 j (by omega))) (Nat.le_of_lt hs5) (by rw [t5];exact Nat.le_refl _),zeroT_holds _ _ _,.inl ⟨rfl,rfl⟩,.inl ⟨rfl,rfl⟩⟩
     | false =>
      rw [q4] at HA4
      simp only [Bool.false_eq_true,if_false] at HA4 ⊢
      clear q4
      cases q5:hasT ts ku [116,114,121] with
      | true =>
       have hin:ku < ts.length:=hasT_in q5 (by decide)
       replace hne64:=hne64 hin
       rw [q5] at HA5
       simp only [if_true] at HA5 ⊢
       clear q5
       have HQ:=Lib.hid (fun w h hE=>guarded_any b A c ts (ne+1) f (2 * m) (primO ts m (ne+1)) (primO_fwd ts m (ne+1)) (Lib.hid (HR.out hne64)) w (ku+1) h hE (by omega))
       cases hq:guardO (primO ts m (ne+1)) ts (ku+1) with
       | no i =>
        rw [hq] at HQ
        go_enter_defers Tryz.func184,Tryz.ntmps184
        go_wp2_with fail
        go_at_call 109
        refine (H1.out _ (HP.out.alloc _) (HE.out.move ((PFr.refl b w).alloc _))).mono ?_
        rintro e w1 ⟨v,rfl,rfl,hp1,hf1⟩
        go_wp2_with fail
        go_at_call 123
        refine (HA1.out _ hp1).mono ?_
        rintro e w2 ⟨rfl,hp2,hf2⟩
        go_wp2_with fail
        go_at_call 123
        refine (HA2.out _ hp2).mono ?_
        rintro e w3 ⟨rfl,hp3,hf3⟩
        go_wp2_with fail
        go_at_call 123
        refine (HA3.out _ hp3).mono ?_
        rintro e w4 ⟨rfl,hp4,hf4⟩
        go_wp2_with fail
        go_at_call 123
        refine (HA4.out _ hp4).mono ?_
        rintro e w5 ⟨rfl,hp5,hf5⟩
        go_wp2_with fail
        go_at_call 123
        refine (HA5.out _ hp5).mono ?_
        rintro e w6 ⟨rfl,hp6,hf6⟩
        go_wp2_with fail
        go_at_call 192
        refine (HQ.out _ hp6 ((HE.out.move ((PFr.refl b w).alloc _)).move (hf1.trans (hf2.trans (hf3.trans (hf4.trans (hf5.trans hf6))))))).mono ?_
        rintro e w7 ⟨rfl,h2,h3⟩
        go_wp2_with fail
        exact prim_fall h0 h2 (((PFr.refl b w).alloc _).trans (hf1.trans (hf2.trans (hf3.trans (hf4.trans (hf5.trans (hf6.trans h3)))))))
       | ok g k2 =>
        rw [hq] at HQ
        go_enter_defers Tryz.func184,Tryz.ntmps184
        go_wp2_with fail
        go_at_call 109
        refine (H1.out _ (HP.out.alloc _) (HE.out.move ((PFr.refl b w).alloc _))).mono ?_
        rintro e w1 ⟨v,rfl,rfl,hp1,hf1⟩
        go_wp2_with fail
        go_at_call 123
        refine (HA1.out _ hp1).mono ?_
        rintro e w2 ⟨rfl,hp2,hf2⟩
        go_wp2_with fail
        go_at_call 123
        refine (HA2.out _ hp2).mono ?_
        rintro e w3 ⟨rfl,hp3,hf3⟩
        go_wp2_with fail
        go_at_call 123
        refine (HA3.out _ hp3).mono ?_
        rintro e w4 ⟨rfl,hp4,hf4⟩
        go_wp2_with fail
        go_at_call 123
        refine (HA4.out _ hp4).mono ?_
        rintro e w5 ⟨rfl,hp5,hf5⟩
        go_wp2_with fail
        go_at_call 123
        refine (HA5.out _ hp5).mono ?_
        rintro e w6 ⟨rfl,hp6,hf6⟩
        go_wp2_with fail
        go_at_call 192
        refine (HQ.out _ hp6 ((HE.out.move ((PFr.refl b w).alloc _)).move (hf1.trans (hf2.trans (hf3.trans (hf4.trans (hf5.trans hf6))))))).mono ?_
        rintro e w7 ⟨v7,rfl,hv7,hp7,hf7⟩
        obtain ⟨z1,z2,z3,z4,z5,z6,z7,z8,z9,za,zb,zc,zd,ze,zf,zg,zh,zi,zj,zk,rfl⟩:=GoalV.this _ _ _ _ _ _ hv7
        have HV7:=Lib.hid hv7
        clear hv7
        have hb:=boxG (hf1.trans (hf2.trans (hf3.trans (hf4.trans (hf5.trans (hf6.trans hf7)))))) HP.out.lt (heap_alloc_new w _)
        have d0:=(Lib.cell_of_heap hb 0).trans rfl
        have g0:=Lib.frozen_of_heap hb 0
        have d1:=(Lib.cell_of_heap hb 1).trans rfl
        have g1:=Lib.frozen_of_heap hb 1
        have d2:=(Lib.cell_of_heap hb 2).trans rfl
        have g2:=Lib.frozen_of_heap hb 2
        have d3:=(Lib.cell_of_heap hb 3).trans rfl
        have g3:=Lib.frozen_of_heap hb 3
        have d4:=(Lib.cell_of_heap hb 4).trans rfl
        have g4:=Lib.frozen_of_heap hb 4
        have d5:=(Lib.cell_of_heap hb 5).trans rfl
        have g5:=Lib.frozen_of_heap hb 5
        have d6:=(Lib.cell_of_heap hb 6).trans rfl
        have g6:=Lib.frozen_of_heap hb 6
        have d7:=(Lib.cell_of_heap hb 7).trans rfl
        have g7:=Lib.frozen_of_heap hb 7
        have d8:=(Lib.cell_of_heap hb 8).trans rfl
        have g8:=Lib.frozen_of_heap hb 8
        have d9:=(Lib.cell_of_heap hb 9).trans rfl
        have g9:=Lib.frozen_of_heap hb 9
        have d10:=(Lib.cell_of_heap hb 10).trans rfl
        have g10:=Lib.frozen_of_heap hb 10
        have d11:=(Lib.cell_of_heap hb 11).trans rfl
        have g11:=Lib.frozen_of_heap hb 11
        have hsz:w.heap.size < w7.heap.size:=(Array.getElem?_eq_some_iff.1 hb).1
        have HB:=Lib.hid hb
        clear hb
        go_wp2_with fail
        obtain ⟨t1,t2,t3,t4,t5⟩:=put12 HP.out (hf1.trans (hf2.trans (hf3.trans (hf4.trans (hf5.trans (hf6.trans hf7)))))) hp7 HB.out (.int .i64 z1) (.int .i64 z2) (.string z3) (.int .i64 z4) (.slice z5 z6 z7) (.int .i64 z8) (.string z9) (.int .i64 za) (.slice zb zc zd) (.string ze) (.slice zf zg zh) (.slice zi zj zk)
        refine prim_door (x0:=.int .i64 z1) (x1:=.int .i64 z2) (x2:=.string z3) (x3:=.int .i64 z4) (x4:=.slice z5 z6 z7) (x5:=.int .i64 z8) (x6:=.string z9) (x7:=.int .i64 za) (x8:=.slice zb zc zd) (x9:=.string ze) (x10:=.slice zf zg zh) (x11:=.slice zi zj zk) h0 HP.out.lt rfl t1 t2 t3 ?_
        have hs6:w.heap.size < w6.heap.size:=by have:=(hf1.trans (hf2.trans (hf3.trans (hf4.trans (hf5.trans hf6))))).size;simp at this;omega
        exact GoalV.succ _ _ _ _ _ _ (GoalV.wide _ _ _ _ _ _ _ _ (GoalV.stable _ _ _ _ _ _ _ HV7.out (fun j j1 _=>t4 j (by omega))) (Nat.le_of_lt hs6) (by rw [t5];exact Nat.le_refl _))
      | false =>
       rw [q5] at HA5
       simp only [Bool.false_eq_true,if_false] at HA5 ⊢
       clear q5
       cases q6:hasT ts ku [40] with
       | true =>
        have hin:ku < ts.length:=hasT_in q6 (by decide)
        replace hne64:=hne64 hin
        rw [q6] at HA6
        simp only [if_true] at HA6 ⊢
        clear q6
        have HCJ:=Lib.hid (fun w k h hE hk=>conj_any b A c ts (ne+1) f (2 * m) (primO ts m (ne+1)) (primO_fwd ts m (ne+1)) (Lib.hid (HR.out hne64)) w k h hE hk)
        have HQ:=Lib.hid (fun w h hE=>goal_any b A c ts (ne+1) f (2 * m+1) (joinO (primO ts m (ne+1)) ts [44] 5) (joinO_fwd (primO_fwd ts m (ne+1)) [44] 5) HCJ w (ku+1) h hE (by omega))
        show Calls _ _ _ _ fun e w'=>EndsV b A c ts ne f (GoalV (2 * (m+1))) w (match joinO (joinO (primO ts m (ne+1)) ts [44] 5) ts [59] 6 (ku+1) with | .no i=>.no i | .ok g k'=>match expO ts k' [41] with | .no i=>.no i | .ok _ k2=>.ok g k2) e w'
        cases hq:joinO (joinO (primO ts m (ne+1)) ts [44] 5) ts [59] 6 (ku+1) with
        | no i =>
         rw [hq] at HQ
         go_enter_defers Tryz.func184,Tryz.ntmps184
         go_wp2_with fail
         go_at_call 109
         refine (H1.out _ (HP.out.alloc _) (HE.out.move ((PFr.refl b w).alloc _))).mono ?_
         rintro e w1 ⟨v,rfl,rfl,hp1,hf1⟩
         go_wp2_with fail
         go_at_call 123
         refine (HA1.out _ hp1).mono ?_
         rintro e w2 ⟨rfl,hp2,hf2⟩
         go_wp2_with fail
         go_at_call 123
         refine (HA2.out _ hp2).mono ?_
         rintro e w3 ⟨rfl,hp3,hf3⟩
         go_wp2_with fail
         go_at_call 123
         refine (HA3.out _ hp3).mono ?_
         rintro e w4 ⟨rfl,hp4,hf4⟩
         go_wp2_with fail
         go_at_call 123
         refine (HA4.out _ hp4).mono ?_
         rintro e w5 ⟨rfl,hp5,hf5⟩
         go_wp2_with fail
         go_at_call 123
         refine (HA5.out _ hp5).mono ?_
         rintro e w6 ⟨rfl,hp6,hf6⟩
         go_wp2_with fail
         go_at_call 123
         refine (HA6.out _ hp6).mono ?_
         rintro e w7 ⟨rfl,hp7,hf7⟩
         go_wp2_with fail
         go_at_call 149
         refine (HQ.out _ hp7 ((HE.out.move ((PFr.refl b w).alloc _)).move (hf1.trans (hf2.trans (hf3.trans (hf4.trans (hf5.trans (hf6.trans hf7)))))))).mono ?_
         rintro e w8 ⟨rfl,h2,h3⟩
         go_wp2_with fail
         exact prim_fall h0 h2 (((PFr.refl b w).alloc _).trans (hf1.trans (hf2.trans (hf3.trans (hf4.trans (hf5.trans (hf6.trans (hf7.trans h3))))))))
        | ok g k2 =>
         rw [hq] at HQ
         have hkk:=joinO_fwd (joinO_fwd (primO_fwd ts m (ne+1)) [44] 5) [59] 6 _ _ _ hq
         have HX:=Lib.hid (fun w h hE=>expect_any w b A c ts k2 (ne+1) f ⟨#[41]⟩ h (by omega) hE)
         rw [expO_eq,show (ByteArray.mk #[41]).data.toList=[41] from rfl] at HX
         show Calls _ _ _ _ fun e w'=>EndsV b A c ts ne f (GoalV (2 * (m+1))) w (match expO ts k2 [41] with | .no i=>.no i | .ok _ k2=>.ok g k2) e w'
         cases hx:expO ts k2 [41] with
         | no i =>
          rw [hx] at HX
          go_enter_defers Tryz.func184,Tryz.ntmps184
          go_wp2_with fail
          go_at_call 109
          refine (H1.out _ (HP.out.alloc _) (HE.out.move ((PFr.refl b w).alloc _))).mono ?_
          rintro e w1 ⟨v,rfl,rfl,hp1,hf1⟩
          go_wp2_with fail
          go_at_call 123
          refine (HA1.out _ hp1).mono ?_
          rintro e w2 ⟨rfl,hp2,hf2⟩
          go_wp2_with fail
          go_at_call 123
          refine (HA2.out _ hp2).mono ?_
          rintro e w3 ⟨rfl,hp3,hf3⟩
          go_wp2_with fail
          go_at_call 123
          refine (HA3.out _ hp3).mono ?_
          rintro e w4 ⟨rfl,hp4,hf4⟩
          go_wp2_with fail
          go_at_call 123
          refine (HA4.out _ hp4).mono ?_
          rintro e w5 ⟨rfl,hp5,hf5⟩
          go_wp2_with fail
          go_at_call 123
          refine (HA5.out _ hp5).mono ?_
          rintro e w6 ⟨rfl,hp6,hf6⟩
          go_wp2_with fail
          go_at_call 123
          refine (HA6.out _ hp6).mono ?_
          rintro e w7 ⟨rfl,hp7,hf7⟩
          go_wp2_with fail
          go_at_call 149
          refine (HQ.out _ hp7 ((HE.out.move ((PFr.refl b w).alloc _)).move (hf1.trans (hf2.trans (hf3.trans (hf4.trans (hf5.trans (hf6.trans hf7)))))))).mono ?_
          rintro e w8 ⟨v8,rfl,hv8,hp8,hf8⟩
          obtain ⟨z1,z2,z3,z4,z5,z6,z7,z8,z9,za,zb,zc,zd,ze,zf,zg,zh,zi,zj,zk,rfl⟩:=GoalV.this _ _ _ _ _ _ hv8
          have HV8:=Lib.hid hv8
          clear hv8
          go_wp2_with fail
          go_at_call 96
          refine (HX.out _ (hp8.alloc _) ((HE.out.move ((PFr.refl b w).alloc _)).move ((hf1.trans (hf2.trans (hf3.trans (hf4.trans (hf5.trans (hf6.trans (hf7.trans hf8))))))).alloc _))).mono ?_
          rintro e w9 ⟨rfl,h2,h3⟩
          go_wp2_with fail
          exact prim_fall h0 h2 (((PFr.refl b w).alloc _).trans (((hf1.trans (hf2.trans (hf3.trans (hf4.trans (hf5.trans (hf6.trans (hf7.trans hf8))))))).alloc _).trans h3))
         | ok u k3 =>
          rw [hx] at HX
          go_enter_defers Tryz.func184,Tryz.ntmps184
          go_wp2_with fail
          go_at_call 109
          refine (H1.out _ (HP.out.alloc _) (HE.out.move ((PFr.refl b w).alloc _))).mono ?_
          rintro e w1 ⟨v,rfl,rfl,hp1,hf1⟩
          go_wp2_with fail
          go_at_call 123
          refine (HA1.out _ hp1).mono ?_
          rintro e w2 ⟨rfl,hp2,hf2⟩
          go_wp2_with fail
          go_at_call 123
          refine (HA2.out _ hp2).mono ?_
          rintro e w3 ⟨rfl,hp3,hf3⟩
          go_wp2_with fail
          go_at_call 123
          refine (HA3.out _ hp3).mono ?_
          rintro e w4 ⟨rfl,hp4,hf4⟩
          go_wp2_with fail
          go_at_call 123
          refine (HA4.out _ hp4).mono ?_
          rintro e w5 ⟨rfl,hp5,hf5⟩
          go_wp2_with fail
          go_at_call 123
          refine (HA5.out _ hp5).mono ?_
          rintro e w6 ⟨rfl,hp6,hf6⟩
          go_wp2_with fail
          go_at_call 123
          refine (HA6.out _ hp6).mono ?_
          rintro e w7 ⟨rfl,hp7,hf7⟩
          go_wp2_with fail
          go_at_call 149
          refine (HQ.out _ hp7 ((HE.out.move ((PFr.refl b w).alloc _)).move (hf1.trans (hf2.trans (hf3.trans (hf4.trans (hf5.trans (hf6.trans hf7)))))))).mono ?_
          rintro e w8 ⟨v8,rfl,hv8,hp8,hf8⟩
          obtain ⟨z1,z2,z3,z4,z5,z6,z7,z8,z9,za,zb,zc,zd,ze,zf,zg,zh,zi,zj,zk,rfl⟩:=GoalV.this _ _ _ _ _ _ hv8
          have HV8:=Lib.hid hv8
          clear hv8
          go_wp2_with fail
          go_at_call 96
          refine (HX.out _ (hp8.alloc _) ((HE.out.move ((PFr.refl b w).alloc _)).move ((hf1.trans (hf2.trans (hf3.trans (hf4.trans (hf5.trans (hf6.trans (hf7.trans hf8))))))).alloc _))).mono ?_
          rintro e w9 ⟨v9,rfl,rfl,hp9,hf9⟩
          have hgb:=(hf9.block w8.heap.size (by simp) (by have:=HP.out.lt;have:=(hf1.trans (hf2.trans (hf3.trans (hf4.trans (hf5.trans (hf6.trans (hf7.trans hf8))))))).size;simp at this;omega)).trans (heap_alloc_new w8 _)
          have e0:=(Lib.cell_of_heap hgb 0).trans rfl
          have e1:=(Lib.cell_of_heap hgb 1).trans rfl
          have e2:=(Lib.cell_of_heap hgb 2).trans rfl
          have e3:=(Lib.cell_of_heap hgb 3).trans rfl
          have e4:=(Lib.cell_of_heap hgb 4).trans rfl
          have e5:=(Lib.cell_of_heap hgb 5).trans rfl
          have e6:=(Lib.cell_of_heap hgb 6).trans rfl
          have e7:=(Lib.cell_of_heap hgb 7).trans rfl
          have e8:=(Lib.cell_of_heap hgb 8).trans rfl
          have e9:=(Lib.cell_of_heap hgb 9).trans rfl
          have e10:=(Lib.cell_of_heap hgb 10).trans rfl
          have e11:=(Lib.cell_of_heap hgb 11).trans rfl
          have hsz8:w8.heap.size < w9.heap.size:=(Array.getElem?_eq_some_iff.1 hgb).1
          have hsn:w.heap.size < w8.heap.size:=(by have:=(hf1.trans (hf2.trans (hf3.trans (hf4.trans (hf5.trans (hf6.trans (hf7.trans hf8))))))).size;simp at this;omega)
          have hsn1:¬ w.heap.size=w8.heap.size:=Nat.ne_of_lt hsn
          have hsn2:¬ w8.heap.size=w.heap.size:=Nat.ne_of_gt hsn
          clear hgb
          have hb:=boxG (((hf1.trans (hf2.trans (hf3.trans (hf4.trans (hf5.trans (hf6.trans (hf7.trans hf8))))))).alloc _).trans hf9) HP.out.lt (heap_alloc_new w _)
          have d0:=(Lib.cell_of_heap hb 0).trans rfl
          have g0:=Lib.frozen_of_heap hb 0
          have d1:=(Lib.cell_of_heap hb 1).trans rfl
          have g1:=Lib.frozen_of_heap hb 1
          have d2:=(Lib.cell_of_heap hb 2).trans rfl
          have g2:=Lib.frozen_of_heap hb 2
          have d3:=(Lib.cell_of_heap hb 3).trans rfl
          have g3:=Lib.frozen_of_heap hb 3
          have d4:=(Lib.cell_of_heap hb 4).trans rfl
          have g4:=Lib.frozen_of_heap hb 4
          have d5:=(Lib.cell_of_heap hb 5).trans rfl
          have g5:=Lib.frozen_of_heap hb 5
          have d6:=(Lib.cell_of_heap hb 6).trans rfl
          have g6:=Lib.frozen_of_heap hb 6
          have d7:=(Lib.cell_of_heap hb 7).trans rfl
          have g7:=Lib.frozen_of_heap hb 7
          have d8:=(Lib.cell_of_heap hb 8).trans rfl
          have g8:=Lib.frozen_of_heap hb 8
          have d9:=(Lib.cell_of_heap hb 9).trans rfl
          have g9:=Lib.frozen_of_heap hb 9
          have d10:=(Lib.cell_of_heap hb 10).trans rfl
          have g10:=Lib.frozen_of_heap hb 10
          have d11:=(Lib.cell_of_heap hb 11).trans rfl
          have g11:=Lib.frozen_of_heap hb 11
          have hsz:w.heap.size < w9.heap.size:=(Array.getElem?_eq_some_iff.1 hb).1
          have HB:=Lib.hid hb
          clear hb
          go_wp2_with fail
          obtain ⟨t1,t2,t3,t4,t5⟩:=put12 HP.out (((hf1.trans (hf2.trans (hf3.trans (hf4.trans (hf5.trans (hf6.trans (hf7.trans hf8))))))).alloc _).trans hf9) hp9 HB.out (.int .i64 z1) (.int .i64 z2) (.string z3) (.int .i64 z4) (.slice z5 z6 z7) (.int .i64 z8) (.string z9) (.int .i64 za) (.slice zb zc zd) (.string ze) (.slice zf zg zh) (.slice zi zj zk)
          refine prim_door (x0:=.int .i64 z1) (x1:=.int .i64 z2) (x2:=.string z3) (x3:=.int .i64 z4) (x4:=.slice z5 z6 z7) (x5:=.int .i64 z8) (x6:=.string z9) (x7:=.int .i64 za) (x8:=.slice zb zc zd) (x9:=.string ze) (x10:=.slice zf zg zh) (x11:=.slice zi zj zk) h0 HP.out.lt rfl t1 t2 t3 ?_
          have hs7:w.heap.size < w7.heap.size:=by have:=(hf1.trans (hf2.trans (hf3.trans (hf4.trans (hf5.trans (hf6.trans hf7)))))).size;simp at this;omega
          have hbw:=HP.out.lt
          exact GoalV.wide _ _ _ _ _ _ _ _ (GoalV.stable _ _ _ _ _ _ _ (GoalV.up (by omega) HV8.out) (fun j j1 j2=>(t4 j (by omega)).trans ((hf9.block j (by simp;omega) (by omega)).trans (Below.heap_alloc w8 _ j j2)))) (Nat.le_of_lt hs7) (by rw [t5];have:=hf9.size;simp at this;omega)
       | false =>
        rw [q6] at HA6
        simp only [Bool.false_eq_true,if_false] at HA6 ⊢
        clear q6
        have HQ:=Lib.hid (fun w h hE=>uoc_any b A c ts f (ne+1) (by omega) (by omega) w ku h hE hk)
        cases hq:uocO (termO ts 66 (ne+1)) ts ku with
        | no i =>
         rw [hq] at HQ
         go_enter_defers Tryz.func184,Tryz.ntmps184
         go_wp2_with fail
         go_at_call 109
         refine (H1.out _ (HP.out.alloc _) (HE.out.move ((PFr.refl b w).alloc _))).mono ?_
         rintro e w1 ⟨v,rfl,rfl,hp1,hf1⟩
         go_wp2_with fail
         go_at_call 123
         refine (HA1.out _ hp1).mono ?_
         rintro e w2 ⟨rfl,hp2,hf2⟩
         go_wp2_with fail
         go_at_call 123
         refine (HA2.out _ hp2).mono ?_
         rintro e w3 ⟨rfl,hp3,hf3⟩
         go_wp2_with fail
         go_at_call 123
         refine (HA3.out _ hp3).mono ?_
         rintro e w4 ⟨rfl,hp4,hf4⟩
         go_wp2_with fail
         go_at_call 123
         refine (HA4.out _ hp4).mono ?_
         rintro e w5 ⟨rfl,hp5,hf5⟩
         go_wp2_with fail
         go_at_call 123
         refine (HA5.out _ hp5).mono ?_
         rintro e w6 ⟨rfl,hp6,hf6⟩
         go_wp2_with fail
         go_at_call 123
         refine (HA6.out _ hp6).mono ?_
         rintro e w7 ⟨rfl,hp7,hf7⟩
         go_wp2_with fail
         go_at_call 193
         refine (HQ.out _ hp7 ((HE.out.move ((PFr.refl b w).alloc _)).move (hf1.trans (hf2.trans (hf3.trans (hf4.trans (hf5.trans (hf6.trans hf7)))))))).mono ?_
         rintro e w8 ⟨rfl,h2,h3⟩
         go_wp2_with fail
         exact prim_fall h0 h2 (((PFr.refl b w).alloc _).trans (hf1.trans (hf2.trans (hf3.trans (hf4.trans (hf5.trans (hf6.trans (hf7.trans h3))))))))
        | ok g k2 =>
         rw [hq] at HQ
         go_enter_defers Tryz.func184,Tryz.ntmps184
         go_wp2_with fail
         go_at_call 109
         refine (H1.out _ (HP.out.alloc _) (HE.out.move ((PFr.refl b w).alloc _))).mono ?_
         rintro e w1 ⟨v,rfl,rfl,hp1,hf1⟩
         go_wp2_with fail
         go_at_call 123
         refine (HA1.out _ hp1).mono ?_
         rintro e w2 ⟨rfl,hp2,hf2⟩
         go_wp2_with fail
         go_at_call 123
         refine (HA2.out _ hp2).mono ?_
         rintro e w3 ⟨rfl,hp3,hf3⟩
         go_wp2_with fail
         go_at_call 123
         refine (HA3.out _ hp3).mono ?_
         rintro e w4 ⟨rfl,hp4,hf4⟩
         go_wp2_with fail
         go_at_call 123
         refine (HA4.out _ hp4).mono ?_
         rintro e w5 ⟨rfl,hp5,hf5⟩
         go_wp2_with fail
         go_at_call 123
         refine (HA5.out _ hp5).mono ?_
         rintro e w6 ⟨rfl,hp6,hf6⟩
         go_wp2_with fail
         go_at_call 123
         refine (HA6.out _ hp6).mono ?_
         rintro e w7 ⟨rfl,hp7,hf7⟩
         go_wp2_with fail
         go_at_call 193
         refine (HQ.out _ hp7 ((HE.out.move ((PFr.refl b w).alloc _)).move (hf1.trans (hf2.trans (hf3.trans (hf4.trans (hf5.trans (hf6.trans hf7)))))))).mono ?_
         rintro e w8 ⟨v8,rfl,hv8,hp8,hf8⟩
         obtain ⟨z1,z2,z3,z4,z5,z6,z7,z8,z9,za,zb,zc,zd,ze,zf,zg,zh,zi,zj,zk,rfl⟩:=GoalV.this _ _ _ _ _ _ hv8
         have HV8:=Lib.hid hv8
         clear hv8
         have hb:=boxG (hf1.trans (hf2.trans (hf3.trans (hf4.trans (hf5.trans (hf6.trans (hf7.trans hf8))))))) HP.out.lt (heap_alloc_new w _)
         have d0:=(Lib.cell_of_heap hb 0).trans rfl
         have g0:=Lib.frozen_of_heap hb 0
         have d1:=(Lib.cell_of_heap hb 1).trans rfl
         have g1:=Lib.frozen_of_heap hb 1
         have d2:=(Lib.cell_of_heap hb 2).trans rfl
         have g2:=Lib.frozen_of_heap hb 2
         have d3:=(Lib.cell_of_heap hb 3).trans rfl
         have g3:=Lib.frozen_of_heap hb 3
         have d4:=(Lib.cell_of_heap hb 4).trans rfl
         have g4:=Lib.frozen_of_heap hb 4
         have d5:=(Lib.cell_of_heap hb 5).trans rfl
         have g5:=Lib.frozen_of_heap hb 5
         have d6:=(Lib.cell_of_heap hb 6).trans rfl
         have g6:=Lib.frozen_of_heap hb 6
         have d7:=(Lib.cell_of_heap hb 7).trans rfl
         have g7:=Lib.frozen_of_heap hb 7
         have d8:=(Lib.cell_of_heap hb 8).trans rfl
         have g8:=Lib.frozen_of_heap hb 8
         have d9:=(Lib.cell_of_heap hb 9).trans rfl
         have g9:=Lib.frozen_of_heap hb 9
         have d10:=(Lib.cell_of_heap hb 10).trans rfl
         have g10:=Lib.frozen_of_heap hb 10
         have d11:=(Lib.cell_of_heap hb 11).trans rfl
         have g11:=Lib.frozen_of_heap hb 11
         have hsz:w.heap.size < w8.heap.size:=(Array.getElem?_eq_some_iff.1 hb).1
         have HB:=Lib.hid hb
         clear hb
         go_wp2_with fail
         obtain ⟨t1,t2,t3,t4,t5⟩:=put12 HP.out (hf1.trans (hf2.trans (hf3.trans (hf4.trans (hf5.trans (hf6.trans (hf7.trans hf8))))))) hp8 HB.out (.int .i64 z1) (.int .i64 z2) (.string z3) (.int .i64 z4) (.slice z5 z6 z7) (.int .i64 z8) (.string z9) (.int .i64 za) (.slice zb zc zd) (.string ze) (.slice zf zg zh) (.slice zi zj zk)
         refine prim_door (x0:=.int .i64 z1) (x1:=.int .i64 z2) (x2:=.string z3) (x3:=.int .i64 z4) (x4:=.slice z5 z6 z7) (x5:=.int .i64 z8) (x6:=.string z9) (x7:=.int .i64 za) (x8:=.slice zb zc zd) (x9:=.string ze) (x10:=.slice zf zg zh) (x11:=.slice zi zj zk) h0 HP.out.lt rfl t1 t2 t3 ?_
         have hs7:w.heap.size < w7.heap.size:=by have:=(hf1.trans (hf2.trans (hf3.trans (hf4.trans (hf5.trans (hf6.trans hf7)))))).size;simp at this;omega
         exact GoalV.wide _ _ _ _ _ _ _ _ (GoalV.stable _ _ _ _ _ _ _ (GoalV.up (by omega) HV8.out) (fun j j1 _=>t4 j (by omega))) (Nat.le_of_lt hs7) (by rw [t5];exact Nat.le_refl _)
end Lx
end Go.Proofs.YtiljemkglhloeaaGreatDoor
