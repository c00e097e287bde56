/- The contract of package parse's item: what an item is, held in cells; or the panic. Conditions: the parser's block is its own; at most 16384 tokens. -/
/- The contract of package parse's source: the row of the items up to the end; or the panic. Conditions: the parser's block is its own; at most 16384 tokens. -/
import Derived.Test.YtiljemkglhloeaaGreatDoorItemB
import Derived.Test.YtiljemkglhloeaaGreatDoorParItemC
namespace Go.Proofs.YtiljemkglhloeaaGreatDoor
set_option linter.unusedSimpArgs false
set_option linter.unusedVariables false
namespace Lx
open Go Go.RowKit
theorem ItemV.this {x:ItemT} {v:Value} {lo hi:Nat} {w:World} (h:ItemV x v lo hi w):∃ i1 i2 i3 i4 i5 i6 i7 i8 i9 ia ib ic id ie ig ih ii ij z1 z2 z3 z4 z5 z6 z7 z8 z9 za zb zc zd ze zf zg zh zi zj zk,v=.agg #[.int .i64 i1,.string i2,.slice i3 i4 i5,.slice i6 i7 i8,.slice i9 ia ib,.slice ic id ie,.int .i64 ig,.slice ih ii ij,.int .i64 z1,.int .i64 z2,.string z3,.int .i64 z4,.slice z5 z6 z7,.int .i64 z8,.string z9,.int .i64 za,.slice zb zc zd,.string ze,.slice zf zg zh,.slice zi zj zk]:=by
 obtain ⟨vv,vc,vt,vi,va,b0,b1,b2,b3,b4,b5,b6,b7,b8,b9,b10,b11,rfl,h1,h2,h3,h4,h5,h6⟩:=h
 obtain ⟨a1,a2,a3,rfl⟩:=h1.slice
 obtain ⟨c1,c2,c3,rfl⟩:=h2.slice
 obtain ⟨d1,d2,d3,rfl⟩:=h3.slice
 obtain ⟨e1,e2,e3,rfl⟩:=h4.slice
 obtain ⟨f1,f2,f3,rfl⟩:=h5.slice
 obtain ⟨z1,z2,z3,z4,z5,z6,z7,z8,z9,za,zb,zc,zd,ze,zf,zg,zh,zi,zj,zk,hz⟩:=GoalV.this _ _ _ _ _ _ h6
 simp only [Value.agg.injEq,Array.mk.injEq,List.cons.injEq,and_true] at hz
 obtain ⟨rfl,rfl,rfl,rfl,rfl,rfl,rfl,rfl,rfl,rfl,rfl,rfl⟩:=hz
 exact ⟨_,_,_,_,_,_,_,_,_,_,_,_,_,_,_,_,_,_,_,_,_,_,_,_,_,_,_,_,_,_,_,_,_,_,_,_,_,_,rfl⟩
set_option maxRecDepth 100000 in
set_option maxHeartbeats 8000000 in
theorem item_any (b:Nat) (A:Option Addr) (c:Nat) (ts:List Tok) (f:Nat→Addr) (ne:Int) (h0:0≤ne) (h1:ne≤50000) (w:World) (k:Nat) (h:Par w b A c ts k ne) (hE:PErrs w b f) (hk:k≤ts.length) :
  Calls Tryz.prog 95 #[.pointer (some ⟨b,0,none⟩)] w fun e w'=>EndsV b A c ts ne f ItemV w (itemO ts ne k) e w':=by
 have HP:=Lib.hid h
 have HE:=Lib.hid hE
 have hfw:=h.few
 have hbw:=h.lt
 clear h hE
 have HA1:=Lib.hid (fun w h=>accept_any w b A c ts k ne ⟨#[116,121,112,101]⟩ h (by omega))
 rw [hasT_eq,show (ByteArray.mk #[116,121,112,101]).data.toList=[116,121,112,101] from rfl] at HA1
 have HA2:=Lib.hid (fun w h=>accept_any w b A c ts k ne ⟨#[112,114,101,100]⟩ h (by omega))
 rw [hasT_eq,show (ByteArray.mk #[112,114,101,100]).data.toList=[112,114,101,100] from rfl] at HA2
 have HA3:=Lib.hid (fun w h=>accept_any w b A c ts k ne ⟨#[109,111,100,101]⟩ h (by omega))
 rw [hasT_eq,show (ByteArray.mk #[109,111,100,101]).data.toList=[109,111,100,101] from rfl] at HA3
 unfold itemO
 cases q1:hasT ts k [116,121,112,101] with
 | true =>
  have hin:k < ts.length:=hasT_in q1 (by decide)
  rw [q1] at HA1
  simp only [if_true] at HA1 ⊢
  clear q1
  have HQ:=Lib.hid (fun w h hE=>typeItem_any b A c ts f ne h0 h1 w (k+1) h hE (by omega))
  cases hq:typeItemO ts ne (k+1) with
  | no i =>
   rw [hq] at HQ
   go_enter Tryz.func95,Tryz.ntmps95
   go_wp2_with fail
   go_at_call 123
   refine (HA1.out _ (HP.out.alloc _)).mono ?_
   rintro e w1 ⟨rfl,hp1,hf1⟩
   go_wp2_with fail
   go_at_call 124
   refine (HQ.out _ hp1 ((HE.out.move ((PFr.refl b w).alloc _)).move hf1)).mono ?_
   rintro e w9 ⟨rfl,h2,h3⟩
   go_wp2_with fail
   exact ⟨rfl,rfl,h2,((PFr.refl b w).alloc _).trans (hf1.trans h3)⟩
  | ok x k2 =>
   rw [hq] at HQ
   go_enter Tryz.func95,Tryz.ntmps95
   go_wp2_with fail
   go_at_call 123
   refine (HA1.out _ (HP.out.alloc _)).mono ?_
   rintro e w1 ⟨rfl,hp1,hf1⟩
   go_wp2_with fail
   go_at_call 124
   refine (HQ.out _ hp1 ((HE.out.move ((PFr.refl b w).alloc _)).move hf1)).mono ?_
   rintro e w9 ⟨v9,rfl,hv9,hp9,hf9⟩
   obtain ⟨i1,i2,i3,i4,i5,i6,i7,i8,i9,ia,ib,ic,id,ie,ig,ih,ii,ij,z1,z2,z3,z4,z5,z6,z7,z8,z9,za,zb,zc,zd,ze,zf,zg,zh,zi,zj,zk,rfl⟩:=ItemV.this hv9
   have HV9:=Lib.hid hv9
   clear hv9
   have HB:=Lib.hid (boxI (hf1.trans hf9) hbw (heap_alloc_new w _))
   have hsi:w.heap.size < w1.heap.size:=(by have:=hf1.size;simp at this;omega)
   rename_i hKK
   refine hKK _ _ ?_
   clear hKK
   have hth:w9.there w.heap.size 0 20:=there_all HB.out
   refine wpList_store_mid rfl 33 (.tmp 2) (.tmp 7) rfl w.heap.size 0 #[.int .i64 i1,.string i2,.slice i3 i4 i5,.slice i6 i7 i8,.slice i9 ia ib,.slice ic id ie,.int .i64 ig,.slice ih ii ij,.int .i64 z1,.int .i64 z2,.string z3,.int .i64 z4,.slice z5 z6 z7,.int .i64 z8,.string z9,.int .i64 za,.slice zb zc zd,.string ze,.slice zf zg zh,.slice zi zj zk] rfl rfl hth infoItem (by simp [Value.oneCell']) ?_
   obtain ⟨t1,t2,t3,t4,t5⟩:=putAll (T:=33) HP.out (hf1.trans hf9) hp9 HB.out #[.int .i64 i1,.string i2,.slice i3 i4 i5,.slice i6 i7 i8,.slice i9 ia ib,.slice ic id ie,.int .i64 ig,.slice ih ii ij,.int .i64 z1,.int .i64 z2,.string z3,.int .i64 z4,.slice z5 z6 z7,.int .i64 z8,.string z9,.int .i64 za,.slice zb zc zd,.string ze,.slice zf zg zh,.slice zi zj zk] rfl
   generalize World.setCells _ _ _ _=X at t1 t2 t3 t4 t5 ⊢
   clear hth
   go_wp2
   refine bodyPost_ret (v:=.agg #[.int .i64 i1,.string i2,.slice i3 i4 i5,.slice i6 i7 i8,.slice i9 ia ib,.slice ic id ie,.int .i64 ig,.slice ih ii ij,.int .i64 z1,.int .i64 z2,.string z3,.int .i64 z4,.slice z5 z6 z7,.int .i64 z8,.string z9,.int .i64 za,.slice zb zc zd,.string ze,.slice zf zg zh,.slice zi zj zk]) (results_cell_row Tryz.results95 _ X w.heap.size 33 #[.int .i64 i1,.string i2,.slice i3 i4 i5,.slice i6 i7 i8,.slice i9 ia ib,.slice ic id ie,.int .i64 ig,.slice ih ii ij,.int .i64 z1,.int .i64 z2,.string z3,.int .i64 z4,.slice z5 z6 z7,.int .i64 z8,.string z9,.int .i64 za,.slice zb zc zd,.string ze,.slice zf zg zh,.slice zi zj zk] (0,0) _ rfl t1 Tryz.underlying33 rfl infoItem) rfl ⟨_,rfl,?_,t2,t3⟩
   exact ItemV.wide _ _ _ _ _ _ _ (ItemV.stable _ _ _ _ _ _ HV9.out (fun j j1 _=>t4 j (by omega))) (Nat.le_of_lt hsi) (by rw [t5];exact Nat.le_refl _)
 | false =>
  rw [q1] at HA1
  simp only [Bool.false_eq_true,if_false] at HA1 ⊢
  clear q1
  cases q2:hasT ts k [112,114,101,100] with
  | true =>
   have hin:k < ts.length:=hasT_in q2 (by decide)
   rw [q2] at HA2
   simp only [if_true] at HA2 ⊢
   clear q2
   unfold predO
   have H3:=Lib.hid (fun w h hE=>nameV_any w b A c ts (k+1) ne f h (by omega) hE)
   cases q3:nameO ts (k+1) with
   | no i =>
    rw [q3] at H3
    go_enter Tryz.func95,Tryz.ntmps95
    go_wp2_with fail
    go_at_call 123
    refine (HA1.out _ (HP.out.alloc _)).mono ?_
    rintro e w1 ⟨rfl,hp1,hf1⟩
    go_wp2_with fail
    go_at_call 123
    refine (HA2.out _ hp1).mono ?_
    rintro e w2 ⟨rfl,hp2,hf2⟩
    go_wp2_with fail
    go_at_call 113
    refine (H3.out _ hp2 ((HE.out.move ((PFr.refl b w).alloc _)).move (hf1.trans hf2))).mono ?_
    rintro e w3 ⟨rfl,h2,h3⟩
    go_wp2_with fail
    exact ⟨rfl,rfl,h2,((PFr.refl b w).alloc _).trans (hf1.trans (hf2.trans h3))⟩
   | ok s k1 =>
    rw [q3] at H3
    have hk1:=nameO_fwd ts _ _ _ q3
    clear q3
    have H4:=Lib.hid (fun w h hE=>argsTy_any b A c ts ne f (TypeV 66) (TypeV.stable 66) (TypeV.this 66) (typeO ts 66 ne) (typeO_fwd ts 66 ne) (Lib.hid (fun w k h hE hk=>type_any b A c ts f 65 ne (by omega) h0 (by omega) w k h hE hk)) w k1 h hE hk1.2)
    show Calls _ _ _ _ fun e w'=>EndsV b A c ts ne f ItemV w (match argsO (typeO ts 66 ne) ts k1 with | .no i=>.no i | .ok l k2=>.ok ⟨2,s,[],[],l,[],0,[],zeroG⟩ k2) e w'
    cases q4:argsO (typeO ts 66 ne) ts k1 with
    | no i =>
     rw [q4] at H4
     go_enter Tryz.func95,Tryz.ntmps95
     go_wp2_with fail
     go_at_call 123
     refine (HA1.out _ (HP.out.alloc _)).mono ?_
     rintro e w1 ⟨rfl,hp1,hf1⟩
     go_wp2_with fail
     go_at_call 123
     refine (HA2.out _ hp1).mono ?_
     rintro e w2 ⟨rfl,hp2,hf2⟩
     go_wp2_with fail
     go_at_call 113
     refine (H3.out _ hp2 ((HE.out.move ((PFr.refl b w).alloc _)).move (hf1.trans hf2))).mono ?_
     rintro e w3 ⟨v3,rfl,rfl,hp3,hf3⟩
     go_wp2_with fail
     go_at_call 125
     refine (H4.out _ hp3 ((HE.out.move ((PFr.refl b w).alloc _)).move (hf1.trans (hf2.trans hf3)))).mono ?_
     rintro e w4 ⟨rfl,h2,h3⟩
     go_wp2_with fail
     exact ⟨rfl,rfl,h2,((PFr.refl b w).alloc _).trans (hf1.trans (hf2.trans (hf3.trans h3)))⟩
    | ok l k2 =>
     rw [q4] at H4
     go_enter Tryz.func95,Tryz.ntmps95
     go_wp2_with fail
     go_at_call 123
     refine (HA1.out _ (HP.out.alloc _)).mono ?_
     rintro e w1 ⟨rfl,hp1,hf1⟩
     go_wp2_with fail
     go_at_call 123
     refine (HA2.out _ hp1).mono ?_
     rintro e w2 ⟨rfl,hp2,hf2⟩
     go_wp2_with fail
     go_at_call 113
     refine (H3.out _ hp2 ((HE.out.move ((PFr.refl b w).alloc _)).move (hf1.trans hf2))).mono ?_
     rintro e w3 ⟨v3,rfl,rfl,hp3,hf3⟩
     go_wp2_with fail
     go_at_call 125
     refine (H4.out _ hp3 ((HE.out.move ((PFr.refl b w).alloc _)).move (hf1.trans (hf2.trans hf3)))).mono ?_
     rintro e w4 ⟨v4,rfl,hv4,hp4,hf4⟩
     obtain ⟨s1,s2,s3,rfl⟩:=hv4.slice
     have HV4:=Lib.hid hv4
     clear hv4
     have HB:=Lib.hid (boxI (hf1.trans (hf2.trans (hf3.trans hf4))) hbw (heap_alloc_new w _))
     have hsi:w.heap.size < w3.heap.size:=(by have:=(hf1.trans (hf2.trans hf3)).size;simp at this;omega)
     rename_i hKK
     refine hKK _ _ ?_
     clear hKK
     refine wpList_plain rfl fun _ hKK=>?_
     have HKK:=Lib.hid hKK
     clear hKK
     go_simp
     refine HKK.out _ _ ?_
     clear HKK
     have hth:w4.there w.heap.size 0 20:=there_all HB.out
     refine wpList_store_mid rfl 33 (.tmp 2) (.tmp 17) rfl w.heap.size 0 #[.int .i64 2,.string (bs s),.slice none 0 0,.slice none 0 0,.slice s1 s2 s3,.slice none 0 0,.int .i64 0,.slice none 0 0,.int .i64 0,.int .i64 0,.string ⟨#[]⟩,.int .i64 0,.slice none 0 0,.int .i64 0,.string ⟨#[]⟩,.int .i64 0,.slice none 0 0,.string ⟨#[]⟩,.slice none 0 0,.slice none 0 0] rfl rfl hth infoItem (by simp [Value.oneCell']) ?_
     obtain ⟨t1,t2,t3,t4,t5⟩:=putAll (T:=33) HP.out (hf1.trans (hf2.trans (hf3.trans hf4))) hp4 HB.out #[.int .i64 2,.string (bs s),.slice none 0 0,.slice none 0 0,.slice s1 s2 s3,.slice none 0 0,.int .i64 0,.slice none 0 0,.int .i64 0,.int .i64 0,.string ⟨#[]⟩,.int .i64 0,.slice none 0 0,.int .i64 0,.string ⟨#[]⟩,.int .i64 0,.slice none 0 0,.string ⟨#[]⟩,.slice none 0 0,.slice none 0 0] rfl
     generalize World.setCells _ _ _ _=X at t1 t2 t3 t4 t5 ⊢
     clear hth
     go_wp2
     refine bodyPost_ret (v:=.agg #[.int .i64 2,.string (bs s),.slice none 0 0,.slice none 0 0,.slice s1 s2 s3,.slice none 0 0,.int .i64 0,.slice none 0 0,.int .i64 0,.int .i64 0,.string ⟨#[]⟩,.int .i64 0,.slice none 0 0,.int .i64 0,.string ⟨#[]⟩,.int .i64 0,.slice none 0 0,.string ⟨#[]⟩,.slice none 0 0,.slice none 0 0]) (results_cell_row Tryz.results95 _ X w.heap.size 33 #[.int .i64 2,.string (bs s),.slice none 0 0,.slice none 0 0,.slice s1 s2 s3,.slice none 0 0,.int .i64 0,.slice none 0 0,.int .i64 0,.int .i64 0,.string ⟨#[]⟩,.int .i64 0,.slice none 0 0,.int .i64 0,.string ⟨#[]⟩,.int .i64 0,.slice none 0 0,.string ⟨#[]⟩,.slice none 0 0,.slice none 0 0] (0,0) _ rfl t1 Tryz.underlying33 rfl infoItem) rfl ⟨_,rfl,?_,t2,t3⟩
     refine ⟨_,_,_,_,_,_,_,_,_,_,_,_,_,_,_,_,_,rfl,.inl ⟨rfl,rfl⟩,.inl ⟨rfl,rfl⟩,?_,.inl ⟨rfl,rfl⟩,.inl ⟨rfl,rfl⟩,zeroG_holds _ _ _⟩
     exact ArgsV.wide (ArgsV.stable _ _ (TypeV.stable 66) _ _ _ _ _ _ HV4.out (fun j j1 j2=>t4 j (by omega))) (Nat.le_of_lt hsi) (by rw [t5];exact Nat.le_refl _)
  | false =>
   rw [q2] at HA2
   simp only [Bool.false_eq_true,if_false] at HA2 ⊢
   clear q2
   cases q3:hasT ts k [109,111,100,101] with
   | true =>
    have hin:k < ts.length:=hasT_in q3 (by decide)
    rw [q3] at HA3
    simp only [if_true] at HA3 ⊢
    clear q3
    have HQ:=Lib.hid (fun w h hE=>modeItem_any b A c ts f ne h0 h1 w (k+1) h hE (by omega))
    cases hq:modeItemO ts (k+1) with
    | no i =>
     rw [hq] at HQ
     go_enter Tryz.func95,Tryz.ntmps95
     go_wp2_with fail
     go_at_call 123
     refine (HA1.out _ (HP.out.alloc _)).mono ?_
     rintro e w1 ⟨rfl,hp1,hf1⟩
     go_wp2_with fail
     go_at_call 123
     refine (HA2.out _ hp1).mono ?_
     rintro e w2 ⟨rfl,hp2,hf2⟩
     go_wp2_with fail
     go_at_call 123
     refine (HA3.out _ hp2).mono ?_
     rintro e w3 ⟨rfl,hp3,hf3⟩
     go_wp2_with fail
     go_at_call 127
     refine (HQ.out _ hp3 ((HE.out.move ((PFr.refl b w).alloc _)).move (hf1.trans (hf2.trans hf3)))).mono ?_
     rintro e w9 ⟨rfl,h2,h3⟩
     go_wp2_with fail
     exact ⟨rfl,rfl,h2,((PFr.refl b w).alloc _).trans (hf1.trans (hf2.trans (hf3.trans h3)))⟩
    | ok x k2 =>
     rw [hq] at HQ
     go_enter Tryz.func95,Tryz.ntmps95
     go_wp2_with fail
     go_at_call 123
     refine (HA1.out _ (HP.out.alloc _)).mono ?_
     rintro e w1 ⟨rfl,hp1,hf1⟩
     go_wp2_with fail
     go_at_call 123
     refine (HA2.out _ hp1).mono ?_
     rintro e w2 ⟨rfl,hp2,hf2⟩
     go_wp2_with fail
     go_at_call 123
     refine (HA3.out _ hp2).mono ?_
     rintro e w3 ⟨rfl,hp3,hf3⟩
     go_wp2_with fail
     go_at_call 127
     refine (HQ.out _ hp3 ((HE.out.move ((PFr.refl b w).alloc _)).move (hf1.trans (hf2.trans hf3)))).mono ?_
     rintro e w9 ⟨v9,rfl,hv9,hp9,hf9⟩
     obtain ⟨i1,i2,i3,i4,i5,i6,i7,i8,i9,ia,ib,ic,id,ie,ig,ih,ii,ij,z1,z2,z3,z4,z5,z6,z7,z8,z9,za,zb,zc,zd,ze,zf,zg,zh,zi,zj,zk,rfl⟩:=ItemV.this hv9
     have HV9:=Lib.hid hv9
     clear hv9
     have HB:=Lib.hid (boxI (hf1.trans (hf2.trans (hf3.trans hf9))) hbw (heap_alloc_new w _))
     have hsi:w.heap.size < w3.heap.size:=(by have:=(hf1.trans (hf2.trans hf3)).size;simp at this;omega)
     rename_i hKK
     refine hKK _ _ ?_
     clear hKK
     have hth:w9.there w.heap.size 0 20:=there_all HB.out
     refine wpList_store_mid rfl 33 (.tmp 2) (.tmp 22) rfl w.heap.size 0 #[.int .i64 i1,.string i2,.slice i3 i4 i5,.slice i6 i7 i8,.slice i9 ia ib,.slice ic id ie,.int .i64 ig,.slice ih ii ij,.int .i64 z1,.int .i64 z2,.string z3,.int .i64 z4,.slice z5 z6 z7,.int .i64 z8,.string z9,.int .i64 za,.slice zb zc zd,.string ze,.slice zf zg zh,.slice zi zj zk] rfl rfl hth infoItem (by simp [Value.oneCell']) ?_
     obtain ⟨t1,t2,t3,t4,t5⟩:=putAll (T:=33) HP.out (hf1.trans (hf2.trans (hf3.trans hf9))) hp9 HB.out #[.int .i64 i1,.string i2,.slice i3 i4 i5,.slice i6 i7 i8,.slice i9 ia ib,.slice ic id ie,.int .i64 ig,.slice ih ii ij,.int .i64 z1,.int .i64 z2,.string z3,.int .i64 z4,.slice z5 z6 z7,.int .i64 z8,.string z9,.int .i64 za,.slice zb zc zd,.string ze,.slice zf zg zh,.slice zi zj zk] rfl
     generalize World.setCells _ _ _ _=X at t1 t2 t3 t4 t5 ⊢
     clear hth
     go_wp2
     refine bodyPost_ret (v:=.agg #[.int .i64 i1,.string i2,.slice i3 i4 i5,.slice i6 i7 i8,.slice i9 ia ib,.slice ic id ie,.int .i64 ig,.slice ih ii ij,.int .i64 z1,.int .i64 z2,.string z3,.int .i64 z4,.slice z5 z6 z7,.int .i64 z8,.string z9,.int .i64 za,.slice zb zc zd,.string ze,.slice zf zg zh,.slice zi zj zk]) (results_cell_row Tryz.results95 _ X w.heap.size 33 #[.int .i64 i1,.string i2,.slice i3 i4 i5,.slice i6 i7 i8,.slice i9 ia ib,.slice ic id ie,.int .i64 ig,.slice ih ii ij,.int .i64 z1,.int .i64 z2,.string z3,.int .i64 z4,.slice z5 z6 z7,.int .i64 z8,.string z9,.int .i64 za,.slice zb zc zd,.string ze,.slice zf zg zh,.slice zi zj zk] (0,0) _ rfl t1 Tryz.underlying33 rfl infoItem) rfl ⟨_,rfl,?_,t2,t3⟩
     exact ItemV.wide _ _ _ _ _ _ _ (ItemV.stable _ _ _ _ _ _ HV9.out (fun j j1 _=>t4 j (by omega))) (Nat.le_of_lt hsi) (by rw [t5];exact Nat.le_refl _)
   | false =>
    rw [q3] at HA3
    simp only [Bool.false_eq_true,if_false] at HA3 ⊢
    clear q3
    have HQ:=Lib.hid (fun w h hE=>clause_any b A c ts f ne h0 h1 w k h hE hk)
    cases hq:clauseO ts ne k with
    | no i =>
     rw [hq] at HQ
     go_enter Tryz.func95,Tryz.ntmps95
     go_wp2_with fail
     go_at_call 123
     refine (HA1.out _ (HP.out.alloc _)).mono ?_
     rintro e w1 ⟨rfl,hp1,hf1⟩
     go_wp2_with fail
     go_at_call 123
     refine (HA2.out _ hp1).mono ?_
     rintro e w2 ⟨rfl,hp2,hf2⟩
     go_wp2_with fail
     go_at_call 123
     refine (HA3.out _ hp2).mono ?_
     rintro e w3 ⟨rfl,hp3,hf3⟩
     go_wp2_with fail
     go_at_call 128
     refine (HQ.out _ hp3 ((HE.out.move ((PFr.refl b w).alloc _)).move (hf1.trans (hf2.trans hf3)))).mono ?_
     rintro e w9 ⟨rfl,h2,h3⟩
     go_wp2_with fail
     exact ⟨rfl,rfl,h2,((PFr.refl b w).alloc _).trans (hf1.trans (hf2.trans (hf3.trans h3)))⟩
    | ok x k2 =>
     rw [hq] at HQ
     go_enter Tryz.func95,Tryz.ntmps95
     go_wp2_with fail
     go_at_call 123
     refine (HA1.out _ (HP.out.alloc _)).mono ?_
     rintro e w1 ⟨rfl,hp1,hf1⟩
     go_wp2_with fail
     go_at_call 123
     refine (HA2.out _ hp1).mono ?_
     rintro e w2 ⟨rfl,hp2,hf2⟩
     go_wp2_with fail
     go_at_call 123
     refine (HA3.out _ hp2).mono ?_
     rintro e w3 ⟨rfl,hp3,hf3⟩
     go_wp2_with fail
     go_at_call 128
     refine (HQ.out _ hp3 ((HE.out.move ((PFr.refl b w).alloc _)).move (hf1.trans (hf2.trans hf3)))).mono ?_
     rintro e w9 ⟨v9,rfl,hv9,hp9,hf9⟩
     obtain ⟨i1,i2,i3,i4,i5,i6,i7,i8,i9,ia,ib,ic,id,ie,ig,ih,ii,ij,z1,z2,z3,z4,z5,z6,z7,z8,z9,za,zb,zc,zd,ze,zf,zg,zh,zi,zj,zk,rfl⟩:=ItemV.this hv9
     have HV9:=Lib.hid hv9
     clear hv9
     have HB:=Lib.hid (boxI (hf1.trans (hf2.trans (hf3.trans hf9))) hbw (heap_alloc_new w _))
     have hsi:w.heap.size < w3.heap.size:=(by have:=(hf1.trans (hf2.trans hf3)).size;simp at this;omega)
     rename_i hKK
     refine hKK _ _ ?_
     clear hKK
     have hth:w9.there w.heap.size 0 20:=there_all HB.out
     refine wpList_store_mid rfl 33 (.tmp 2) (.tmp 24) rfl w.heap.size 0 #[.int .i64 i1,.string i2,.slice i3 i4 i5,.slice i6 i7 i8,.slice i9 ia ib,.slice ic id ie,.int .i64 ig,.slice ih ii ij,.int .i64 z1,.int .i64 z2,.string z3,.int .i64 z4,.slice z5 z6 z7,.int .i64 z8,.string z9,.int .i64 za,.slice zb zc zd,.string ze,.slice zf zg zh,.slice zi zj zk] rfl rfl hth infoItem (by simp [Value.oneCell']) ?_
     obtain ⟨t1,t2,t3,t4,t5⟩:=putAll (T:=33) HP.out (hf1.trans (hf2.trans (hf3.trans hf9))) hp9 HB.out #[.int .i64 i1,.string i2,.slice i3 i4 i5,.slice i6 i7 i8,.slice i9 ia ib,.slice ic id ie,.int .i64 ig,.slice ih ii ij,.int .i64 z1,.int .i64 z2,.string z3,.int .i64 z4,.slice z5 z6 z7,.int .i64 z8,.string z9,.int .i64 za,.slice zb zc zd,.string ze,.slice zf zg zh,.slice zi zj zk] rfl
     generalize World.setCells _ _ _ _=X at t1 t2 t3 t4 t5 ⊢
     clear hth
     go_wp2
     refine bodyPost_ret (v:=.agg #[.int .i64 i1,.string i2,.slice i3 i4 i5,.slice i6 i7 i8,.slice i9 ia ib,.slice ic id ie,.int .i64 ig,.slice ih ii ij,.int .i64 z1,.int .i64 z2,.string z3,.int .i64 z4,.slice z5 z6 z7,.int .i64 z8,.string z9,.int .i64 za,.slice zb zc zd,.string ze,.slice zf zg zh,.slice zi zj zk]) (results_cell_row Tryz.results95 _ X w.heap.size 33 #[.int .i64 i1,.string i2,.slice i3 i4 i5,.slice i6 i7 i8,.slice i9 ia ib,.slice ic id ie,.int .i64 ig,.slice ih ii ij,.int .i64 z1,.int .i64 z2,.string z3,.int .i64 z4,.slice z5 z6 z7,.int .i64 z8,.string z9,.int .i64 za,.slice zb zc zd,.string ze,.slice zf zg zh,.slice zi zj zk] (0,0) _ rfl t1 Tryz.underlying33 rfl infoItem) rfl ⟨_,rfl,?_,t2,t3⟩
     exact ItemV.wide _ _ _ _ _ _ _ (ItemV.stable _ _ _ _ _ _ HV9.out (fun j j1 _=>t4 j (by omega))) (Nat.le_of_lt hsi) (by rw [t5];exact Nat.le_refl _)
end Lx
end Go.Proofs.YtiljemkglhloeaaGreatDoor
namespace Go.Proofs.YtiljemkglhloeaaGreatDoor
set_option linter.unusedSimpArgs false
set_option linter.unusedVariables false
namespace Lx
open Go Go.RowKit
def srcLoop (ts:List Tok) (ne:Int):Nat→Nat→List ItemT→Out (List ItemT)
 | 0,_,_=>.no 2
 | m+1,k,acc =>
  if k < ts.length then
   if acc.length=512 then .no 1
   else match itemO ts ne k with
    | .no i=>.no i
    | .ok x k1=>match expO ts k1 [46] with
     | .no i=>.no i
     | .ok _ k2=>srcLoop ts ne m k2 (acc++[x])
  else .ok acc k
def sourceO (ts:List Tok) (ne:Int) (k:Nat):Out (List ItemT):=srcLoop ts ne (ts.length+1) k []
theorem infoIt:(Tryz.prog.info? 33).map (fun i=>(i.zero,i.size,i.bytes))=some (some (.agg #[.int .i64 0,.string ⟨#[]⟩,.slice none 0 0,.slice none 0 0,.slice none 0 0,.slice none 0 0,.int .i64 0,.slice none 0 0,.int .i64 0,.int .i64 0,.string ⟨#[]⟩,.int .i64 0,.slice none 0 0,.int .i64 0,.string ⟨#[]⟩,.int .i64 0,.slice none 0 0,.string ⟨#[]⟩,.slice none 0 0,.slice none 0 0]),20,336):=by kernel_rfl
/-- The row as the loop holds it. -/
structure SrcI (ne:Int) (O:Out (List ItemT)) (w:World) (b:Nat) (A:Option Addr) (c:Nat) (ts:List Tok) (s:Option Addr) (cap:Nat) (wr:World) (m k:Nat) (acc:List ItemT) (vs:List Value) (g:Nat):Prop where
 out:srcLoop ts ne m k acc=O
 fuel:ts.length < k+m
 le:k≤ts.length
 few:acc.length≤512
 val:(acc=[]∧s=none∧cap=0) ∨ s=some ⟨g,0,none⟩
 own:wr.ownsRow w.heap.size 33 20 (.slice s acc.length cap) acc.length (vs.flatMap cellsL)
 items:Items ItemV w.heap.size wr.heap.size g wr acc vs
 par:Par wr b A c ts k ne
 fr:PFr b w wr
theorem SrcI.held {ne:Int} {O:Out (List ItemT)} {w:World} {b:Nat} {A:Option Addr} {c:Nat} {ts:List Tok} {s:Option Addr} {cap:Nat} {wr:World} {m k:Nat} {acc:List ItemT} {vs:List Value} {g:Nat} (h:SrcI ne O w b A c ts s cap wr m k acc vs g) :
  ArgsV 33 20 ItemV acc (.slice s acc.length cap) w.heap.size wr.heap.size wr:=by
 rcases h.val with ⟨rfl,rfl,rfl⟩ | rfl
 ·exact .inl ⟨rfl,rfl⟩
 ·exact .inr ⟨g,cap,vs,rfl,(h.own.lt g rfl).2,h.own,h.items⟩
theorem SrcI.next {ne:Int} {O:Out (List ItemT)} {w:World} {b:Nat} {A:Option Addr} {c:Nat} {ts:List Tok} {s:Option Addr} {cap:Nat} {wr:World} {m k:Nat} {acc:List ItemT} {vs:List Value} {g:Nat} (h:SrcI ne O w b A c ts s cap wr m k acc vs g) {k0:Nat} (h0:Par w b A c ts k0 ne)
  {x2:ItemT} {v2:Value} {k1:Nat} {w4 w6:World} {o:Obj} {lo4 g2 cap2:Nat} (hl:acc.length < 512)
  (hf4:PFr b wr w4) (hp4:Par w4 b A c ts k1 ne) (hlo:wr.heap.size≤lo4) (hv4:ItemV x2 v2 lo4 w4.heap.size w4)
  (hown:w6.ownsRow w.heap.size 33 20 (.slice (some ⟨g2,0,none⟩) (acc.length+1) cap2) (acc.length+1) (vs.flatMap cellsL++cellsL v2)) (hg:(w4.alloc o).grownBy w6 (Value.slice s acc.length cap).ownBlock) (hat:(Value.slice s acc.length cap).ownBlock=some g2 ∨ g2=(w4.alloc o).heap.size)
  : Par w6 b A c ts k1 ne∧PFr b w w6∧(∀ w7 k2 m2,srcLoop ts ne m2 k2 (acc++[x2])=O→ts.length < k2+m2→k2≤ts.length→Par w7 b A c ts k2 ne→PFr b w6 w7→SrcI ne O w b A c ts (some ⟨g2,0,none⟩) cap2 w7 m2 k2 (acc++[x2]) (vs++[v2]) g2):=by
 have hbw:=h0.lt
 have hgl:∀ j,(Value.slice s acc.length cap).ownBlock=some j→w.heap.size≤j∧j < wr.heap.size∧(acc ≠ []→j=g):=fun j hj=>by
  have h1:=h.own.lt j hj
  refine ⟨h1.1,h1.2,fun hne=>?_⟩
  rcases h.val with ⟨e,_⟩ | rfl
  ·exact absurd e hne
  ·exact (Option.some.inj hj).symm
 have hfr:PFr b w w6:=((h.fr.trans hf4).alloc o).grown hg (fun j hj=>(hgl j hj).1)
 have hs6:w4.heap.size≤w6.heap.size:=by have:=hg.size;simp at this;omega
 have hblk:∀ j,j < w4.heap.size→some j ≠ (Value.slice s acc.length cap).ownBlock→w6.heap[j]?=w4.heap[j]?:=fun j hj hn=>(hg.block j (by simp;omega) hn).trans (Below.heap_alloc w4 o j hj)
 have hlen:(acc++[x2]).length=acc.length+1:=by simp
 have hp6:Par w6 b A c ts k1 ne:=h0.move hfr ((hblk b hp4.lt (fun e=>by have:=(hgl b e.symm).1;omega)).trans hp4.blk) hp4.near hp4.nest0 hp4.nest1
 refine ⟨hp6,hfr,fun w7 k2 m2 hout hfu hk4 hp7 hf7=>⟨hout,hfu,hk4,by rw [hlen];omega,.inr rfl,?_,?_,hp7,hfr.trans hf7⟩⟩
 ·rw [hlen,flat_snoc]
  exact own_fr hown hf7 hbw
 ·have i1:=Items.fr ItemV.stable hf4 hbw h.items
  refine Items.fr ItemV.stable hf7 hbw ?_
  rcases h.val with ⟨rfl,rfl,rfl⟩ | rfl
  ·match vs,i1 with
   | [],_ =>
    have hg2:g2=(w4.alloc o).heap.size:=by
     rcases hat with e | e
     ·cases e
     ·exact e
    refine ⟨⟨lo4,w4.heap.size,by have:=h.fr.size;omega,hs6,by rw [hg2];simp <;> omega,?_⟩,trivial⟩
    exact ItemV.stable _ _ _ _ _ _ hv4 (fun j _ hj=>hblk j hj (fun e=>by cases e))
  ·have i2:=Items.snoc (x:=x2) (v:=v2) ⟨lo4,w4.heap.size,by have:=h.fr.size;omega,Nat.le_refl _,by have:=(hgl g rfl).2.1;omega,hv4⟩ i1
   exact Items.step ItemV.stable (fun j _ j2 j3=>hblk j j2 (fun e=>j3 (Option.some.inj e))) hs6 (by rcases hat with e | e;exact .inl (Option.some.inj e).symm;exact .inr (by rw [e];simp)) i2
set_option maxRecDepth 100000 in
set_option maxHeartbeats 4000000 in
theorem source_any (b:Nat) (A:Option Addr) (c:Nat) (ts:List Tok) (f:Nat→Addr) (ne:Int) (h0:0≤ne) (h1:ne≤50000) (w:World) (k:Nat) (h:Par w b A c ts k ne) (hE:PErrs w b f) (hk:k≤ts.length) :
  Calls Tryz.prog 57 #[.pointer (some ⟨b,0,none⟩)] w fun e w'=>EndsV b A c ts ne f (ArgsV 33 20 ItemV) w (sourceO ts ne k) e w':=by
 have HP:=Lib.hid h
 have HE:=Lib.hid hE
 have hfw:=h.few
 obtain ⟨i0,hi,hz0,hz1,hz2⟩:=info_parts infoIt
 have HI0:=Lib.hid hi
 have HI1:=Lib.hid hz0
 have HI2:=Lib.hid hz1
 have HI3:=Lib.hid hz2
 clear hi hz0 hz1 hz2
 have HS:Hid (SrcI ne (sourceO ts ne k) w b A c ts none 0 w (ts.length+1) k [] [] 0):=Lib.hid ⟨rfl,by omega,hk,by simp,.inl ⟨rfl,rfl,rfl⟩,World.ownsRow_nil _ _ _ _,trivial,h,PFr.refl b w⟩
 clear h hE hk
 generalize sourceO ts ne k=O at *
 go_enter Tryz.func57,Tryz.ntmps57
 go_wp2_with fail
 go_loopw [3] (fun v wr=>∃ s cap m k acc vs g,v=.slice s acc.length cap∧Hid (SrcI ne O w b A c ts s cap wr m k acc vs g)) (fun _ wr=>ts.length - (intOf ((wr.cell? ⟨b,1,none⟩).getD undef)).toNat)
 case atStart=>exact ⟨none,0,_,_,[],[],0,rfl,HS⟩
 case round =>
  obtain ⟨s,cap,m,kr,acc,vs,g,rfl,hI⟩:=hrel
  clear HS
  have HI:=hI
  have hI2:=hI.out
  have hle:=hI2.le
  have hfewa:=hI2.few
  have hout:=hI2.out
  have hfu:=hI2.fuel
  obtain ⟨m,rfl⟩:∃ m',m=m'+1:=⟨m - 1,by omega⟩
  rw [srcLoop] at hout
  have hp0:=hI2.par.c1
  have HM:=Lib.hid (more_any wr b A c ts kr ne hI2.par)
  clear hI2
  by_cases hlt:kr < ts.length
  ·have hd:decide (kr < ts.length)=true:=by simpa using hlt
   rw [hd] at HM
   rw [if_pos hlt] at hout
   clear hd
   by_cases hlen:acc.length=512
   ·rw [if_pos hlen] at hout
    subst hout
    have hle2:((acc.length:Int) == (512:Int))=true:=by simp;omega
    clear hlen
    go_wp2_with fail
    go_at_call 94
    refine HM.out.mono ?_
    rintro e w2 ⟨rfl,q,rfl⟩
    have hcl:=(HE.out.move (HI.out.fr.drewN q)).large
    have hlw:=World.block_lt_of_cell? _ _ hcl
    go_wp2_with fail
    exact ⟨rfl,rfl,⟨_,_,HI.out.par.drewN q,Int.le_refl _⟩,HI.out.fr.drewN q⟩
   ·rw [if_neg hlen] at hout
    have hle2:((acc.length:Int) == (512:Int))=false:=by simp;omega
    have hl5:acc.length < 512:=by omega
    clear hlen
    have HQ:=Lib.hid (fun w h hE=>item_any b A c ts f ne h0 h1 w kr h hE hle)
    cases q1:itemO ts ne kr with
    | no i =>
     rw [q1] at HQ hout
     subst hout
     go_wp2_with fail
     go_at_call 94
     refine HM.out.mono ?_
     rintro e w2 ⟨rfl,q,rfl⟩
     go_wp2_with fail
     go_at_call 95
     refine (HQ.out _ (HI.out.par.drewN q) (HE.out.move (HI.out.fr.drewN q))).mono ?_
     rintro e w4 ⟨rfl,h2,h3⟩
     go_wp2_with fail
     exact ⟨rfl,rfl,h2,(HI.out.fr.drewN q).trans h3⟩
    | ok x2 k1 =>
     rw [q1] at HQ
     rw [q1] at hout
     have hk1:=itemO_fwd ts ne _ _ _ q1
     clear q1
     have HX:=Lib.hid (fun w h hE=>expect_any w b A c ts k1 ne f ⟨#[46]⟩ h (by omega) hE)
     rw [expO_eq,show (ByteArray.mk #[46]).data.toList=[46] from rfl] at HX
     have hout:(match expO ts k1 [46] with | .no i=>Out.no i | .ok _ k2=>srcLoop ts ne m k2 (acc++[x2]))=O:=hout
     cases q2:expO ts k1 [46] with
     | no i =>
      rw [q2] at HX hout
      subst hout
      go_wp2_with fail
      go_at_call 94
      refine HM.out.mono ?_
      rintro e w2 ⟨rfl,q,rfl⟩
      go_wp2_with fail
      go_at_call 95
      refine (HQ.out _ (HI.out.par.drewN q) (HE.out.move (HI.out.fr.drewN q))).mono ?_
      rintro e w4 ⟨v4,rfl,hv4,hp4,hf4⟩
      obtain ⟨i1,i2,i3,i4,i5,i6,i7,i8,i9,ia,ib,ic,id,ie,ig,ih,ii,ij,z1,z2,z3,z4,z5,z6,z7,z8,z9,za,zb,zc,zd,ze,zf,zg,zh,zi,zj,zk,rfl⟩:=ItemV.this hv4
      have HP4:=Lib.hid hp4
      have HF4:=Lib.hid (((PFr.refl b wr).drewN q).trans hf4)
      have HV4:=Lib.hid hv4
      have HO4:=Lib.hid (own_fr HI.out.own HF4.out HP.out.lt)
      have hW4:w.heap.size≤w4.heap.size:=Nat.le_trans HI.out.fr.size HF4.out.size
      have HLO:wr.heap.size≤(wr.drewN q).heap.size:=Nat.le_refl _
      clear hv4 hp4 hf4
      go_wp2_with (at_builtin;refine wpList_append_lies _ rfl _ _ 67 rfl w.heap.size 33 i0 (.agg #[.int .i64 0,.string ⟨#[]⟩,.slice none 0 0,.slice none 0 0,.slice none 0 0,.slice none 0 0,.int .i64 0,.slice none 0 0,.int .i64 0,.int .i64 0,.string ⟨#[]⟩,.int .i64 0,.slice none 0 0,.int .i64 0,.string ⟨#[]⟩,.int .i64 0,.slice none 0 0,.string ⟨#[]⟩,.slice none 0 0,.slice none 0 0]) 20 336 Tryz.underlying67 HI0.out HI1.out HI2.out HI3.out rfl (by decide) _ _ _ rfl (HO4.out.alloc _) ⟨w4.heap.size,0,none⟩ 1 1 [.int .i64 i1,.string i2,.slice i3 i4 i5,.slice i6 i7 i8,.slice i9 ia ib,.slice ic id ie,.int .i64 ig,.slice ih ii ij,.int .i64 z1,.int .i64 z2,.string z3,.int .i64 z4,.slice z5 z6 z7,.int .i64 z8,.string z9,.int .i64 za,.slice zb zc zd,.string ze,.slice zf zg zh,.slice zi zj zk] rfl rfl (cells_new _ #[.int .i64 i1,.string i2,.slice i3 i4 i5,.slice i6 i7 i8,.slice i9 ia ib,.slice ic id ie,.int .i64 ig,.slice ih ii ij,.int .i64 z1,.int .i64 z2,.string z3,.int .i64 z4,.slice z5 z6 z7,.int .i64 z8,.string z9,.int .i64 za,.slice zb zc zd,.string ze,.slice zf zg zh,.slice zi zj zk] _ _ rfl) (by simp [Value.oneCell']) (by decide) (by unfold maxLen;omega) (by omega) (by simp;omega) _ rfl ?_;intro g2 cap2 w6 hown6 hg6 hat6 _;have HNX:=Lib.hid (SrcI.next HI.out HP.out hl5  HF4.out HP4.out HLO HV4.out hown6 hg6 hat6);clear hown6 hg6 hat6)
      go_wp2_with fail
      go_at_call 96
      refine (HX.out _ HNX.out.1 (HE.out.move HNX.out.2.1)).mono ?_
      rintro e w7 ⟨rfl,h2,h3⟩
      go_wp2_with fail
      exact ⟨rfl,rfl,h2,HNX.out.2.1.trans h3⟩
     | ok u k2 =>
      rw [q2] at HX hout
      have hk2:=expO_fwd (ts:=ts) (s:=[46]) (by decide) _ _ _ q2
      have HO:=Lib.hid hout
      clear hout
      go_wp2_with fail
      go_at_call 94
      refine HM.out.mono ?_
      rintro e w2 ⟨rfl,q,rfl⟩
      go_wp2_with fail
      go_at_call 95
      refine (HQ.out _ (HI.out.par.drewN q) (HE.out.move (HI.out.fr.drewN q))).mono ?_
      rintro e w4 ⟨v4,rfl,hv4,hp4,hf4⟩
      obtain ⟨i1,i2,i3,i4,i5,i6,i7,i8,i9,ia,ib,ic,id,ie,ig,ih,ii,ij,z1,z2,z3,z4,z5,z6,z7,z8,z9,za,zb,zc,zd,ze,zf,zg,zh,zi,zj,zk,rfl⟩:=ItemV.this hv4
      have HP4:=Lib.hid hp4
      have HF4:=Lib.hid (((PFr.refl b wr).drewN q).trans hf4)
      have HV4:=Lib.hid hv4
      have HO4:=Lib.hid (own_fr HI.out.own HF4.out HP.out.lt)
      have hW4:w.heap.size≤w4.heap.size:=Nat.le_trans HI.out.fr.size HF4.out.size
      have HLO:wr.heap.size≤(wr.drewN q).heap.size:=Nat.le_refl _
      clear hv4 hp4 hf4
      go_wp2_with (at_builtin;refine wpList_append_lies _ rfl _ _ 67 rfl w.heap.size 33 i0 (.agg #[.int .i64 0,.string ⟨#[]⟩,.slice none 0 0,.slice none 0 0,.slice none 0 0,.slice none 0 0,.int .i64 0,.slice none 0 0,.int .i64 0,.int .i64 0,.string ⟨#[]⟩,.int .i64 0,.slice none 0 0,.int .i64 0,.string ⟨#[]⟩,.int .i64 0,.slice none 0 0,.string ⟨#[]⟩,.slice none 0 0,.slice none 0 0]) 20 336 Tryz.underlying67 HI0.out HI1.out HI2.out HI3.out rfl (by decide) _ _ _ rfl (HO4.out.alloc _) ⟨w4.heap.size,0,none⟩ 1 1 [.int .i64 i1,.string i2,.slice i3 i4 i5,.slice i6 i7 i8,.slice i9 ia ib,.slice ic id ie,.int .i64 ig,.slice ih ii ij,.int .i64 z1,.int .i64 z2,.string z3,.int .i64 z4,.slice z5 z6 z7,.int .i64 z8,.string z9,.int .i64 za,.slice zb zc zd,.string ze,.slice zf zg zh,.slice zi zj zk] rfl rfl (cells_new _ #[.int .i64 i1,.string i2,.slice i3 i4 i5,.slice i6 i7 i8,.slice i9 ia ib,.slice ic id ie,.int .i64 ig,.slice ih ii ij,.int .i64 z1,.int .i64 z2,.string z3,.int .i64 z4,.slice z5 z6 z7,.int .i64 z8,.string z9,.int .i64 za,.slice zb zc zd,.string ze,.slice zf zg zh,.slice zi zj zk] _ _ rfl) (by simp [Value.oneCell']) (by decide) (by unfold maxLen;omega) (by omega) (by simp;omega) _ rfl ?_;intro g2 cap2 w6 hown6 hg6 hat6 _;have HNX:=Lib.hid (SrcI.next HI.out HP.out hl5  HF4.out HP4.out HLO HV4.out hown6 hg6 hat6);clear hown6 hg6 hat6)
      go_wp2_with fail
      go_at_call 96
      refine (HX.out _ HNX.out.1 (HE.out.move HNX.out.2.1)).mono ?_
      rintro e w7 ⟨v7,rfl,rfl,hp7,hf7⟩
      have HN7:=Lib.hid (HNX.out.2.2 w7 k2 m HO.out (by omega) hk2.2 hp7 hf7)
      have hm7:=hp7.c1
      clear hp7 hf7
      go_wp2_with fail
      have hl2:(acc++[x2]).length=acc.length+1:=by simp
      go_roundw
      case rel=>exact ⟨_,_,_,_,acc++[x2],_,_,by rw [hl2],HN7⟩
      case measure=>simp [hm7,hp0,intOf];omega
  ·have hd:decide (kr < ts.length)=false:=by simpa using hlt
   rw [hd] at HM
   rw [if_neg hlt] at hout
   subst hout
   clear hd
   go_wp2_with fail
   go_at_call 94
   refine HM.out.mono ?_
   rintro e w2 ⟨rfl,q,rfl⟩
   go_wp2_with fail
   go_ret
   exact ⟨_,rfl,ArgsV.stable _ _ ItemV.stable _ _ _ _ _ _ HI.out.held (fun _ _ _=>rfl),HI.out.par.drewN q,HI.out.fr.drewN q⟩
end Lx
end Go.Proofs.YtiljemkglhloeaaGreatDoor
