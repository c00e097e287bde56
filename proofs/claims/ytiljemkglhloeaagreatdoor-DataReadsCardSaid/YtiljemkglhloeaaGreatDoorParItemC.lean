/- The contract of package parse's clause: what an item is, held in cells; or the panic. Conditions: the parser's block is its own; at most 16384 tokens. -/
import Derived.Test.YtiljemkglhloeaaGreatDoorItemA
namespace Go.Proofs.YtiljemkglhloeaaGreatDoor
set_option linter.unusedSimpArgs false
set_option linter.unusedVariables false
namespace Lx
open Go Go.RowKit
set_option maxRecDepth 100000 in
set_option maxHeartbeats 8000000 in
theorem clause_any (b:Nat) (A:Option Addr) (c:Nat) (ts:List Tok) (f:Nat→Addr) (ne:Int) (h0:0≤ne) (h1:ne≤50000) (w:World) (k:Nat) (h:Par w b A c ts k ne) (hE:PErrs w b f) (hk:k≤ts.length) :
  Calls Tryz.prog 128 #[.pointer (some ⟨b,0,none⟩)] w fun e w'=>EndsV b A c ts ne f ItemV w (clauseO ts ne k) e w':=by
 have HP:=Lib.hid h
 have HE:=Lib.hid hE
 have hfw:=h.few
 have hbw:=h.lt
 unfold clauseO
 clear h hE
 have H1:=Lib.hid (fun w h hE=>nameV_any w b A c ts k ne f h (by omega) hE)
 cases q1:nameO ts k with
 | no i =>
  rw [q1] at H1
  go_enter Tryz.func128,Tryz.ntmps128
  go_wp2_with fail
  go_at_call 113
  refine (H1.out _ (HP.out.alloc _) (HE.out.move ((PFr.refl b w).alloc _))).mono ?_
  rintro e w1 ⟨rfl,h2,h3⟩
  go_wp2_with fail
  exact ⟨rfl,rfl,h2,((PFr.refl b w).alloc _).trans h3⟩
 | ok s k1 =>
  rw [q1] at H1
  have hk1:=nameO_fwd ts _ _ _ q1
  clear q1
  have H2:=Lib.hid (fun w h hE=>argsTerm_any b A c ts ne f (TermV 66) (TermV.stable 66) (TermV.this 66) (termO ts 66 ne) (termO_fwd ts 66 ne) (Lib.hid (fun w k h hE hk=>term_any b A c ts f 65 ne (by omega) h0 (by omega) w k h hE hk)) w k1 h hE hk1.2)
  show Calls _ _ _ _ fun e w'=>EndsV b A c ts ne f ItemV w (match argsO (termO ts 66 ne) ts k1 with | .no i=>.no i | .ok l k2=>if hasT ts k2 [58,45]=true then match goalO (primO ts 66 ne) ts (k2+1) with | .no i=>.no i | .ok g k3=>.ok ⟨4,s,[],[],[],[],0,l,g⟩ k3 else .ok ⟨4,s,[],[],[],[],0,l,trueG⟩ k2) e w'
  cases q2:argsO (termO ts 66 ne) ts k1 with
  | no i =>
   rw [q2] at H2
   go_enter Tryz.func128,Tryz.ntmps128
   go_wp2_with fail
   go_at_call 113
   refine (H1.out _ (HP.out.alloc _) (HE.out.move ((PFr.refl b w).alloc _))).mono ?_
   rintro e w1 ⟨v1,rfl,rfl,hp1,hf1⟩
   go_wp2_with fail
   go_at_call 114
   refine (H2.out _ hp1 ((HE.out.move ((PFr.refl b w).alloc _)).move hf1)).mono ?_
   rintro e w2 ⟨rfl,h2,h3⟩
   go_wp2_with fail
   exact ⟨rfl,rfl,h2,((PFr.refl b w).alloc _).trans (hf1.trans h3)⟩
  | ok l k2 =>
   rw [q2] at H2
   have hk2:=argsO_fwd (termO_fwd ts 66 ne) q2 hk1.2
   clear q2
   have H3:=Lib.hid (fun w h=>accept_any w b A c ts k2 ne ⟨#[58,45]⟩ h (by omega))
   rw [hasT_eq,show (ByteArray.mk #[58,45]).data.toList=[58,45] from rfl] at H3
   show Calls _ _ _ _ fun e w'=>EndsV b A c ts ne f ItemV w (if hasT ts k2 [58,45]=true then match goalO (primO ts 66 ne) ts (k2+1) with | .no i=>.no i | .ok g k3=>.ok ⟨4,s,[],[],[],[],0,l,g⟩ k3 else .ok ⟨4,s,[],[],[],[],0,l,trueG⟩ k2) e w'
   cases q3:hasT ts k2 [58,45] with
   | false =>
    rw [q3] at H3
    simp only [Bool.false_eq_true,if_false] at H3 ⊢
    clear q3
    go_enter Tryz.func128,Tryz.ntmps128
    go_wp2_with fail
    go_at_call 113
    refine (H1.out _ (HP.out.alloc _) (HE.out.move ((PFr.refl b w).alloc _))).mono ?_
    rintro e w1 ⟨v1,rfl,rfl,hp1,hf1⟩
    go_wp2_with fail
    go_at_call 114
    refine (H2.out _ hp1 ((HE.out.move ((PFr.refl b w).alloc _)).move hf1)).mono ?_
    rintro e w2 ⟨v2,rfl,hv2,hp2,hf2⟩
    obtain ⟨s1,s2,s3,rfl⟩:=hv2.slice
    have HV2:=Lib.hid hv2
    clear hv2
    have hs01:w.heap.size < w1.heap.size:=(by have:=hf1.size;simp at this;omega)
    have hs12:w1.heap.size≤w2.heap.size:=hf2.size
    have hsn1:¬ w.heap.size=w2.heap.size:=(by omega)
    have hsn2:¬ w2.heap.size=w.heap.size:=(by omega)
    rename_i hKK
    refine hKK _ _ ?_
    clear hKK
    refine wpList_plain rfl fun _ hKK=>?_
    have HKK:=Lib.hid hKK
    clear hKK
    go_simp
    refine HKK.out _ _ ?_
    clear HKK
    refine wpList_plain rfl fun _ hKK=>?_
    have HKK:=Lib.hid hKK
    clear hKK
    go_simp
    refine HKK.out _ _ ?_
    clear HKK
    have hal:(w2.alloc (.cells #[.int .i64 0,.string ⟨#[]⟩,.slice none 0 0,.slice none 0 0,.slice none 0 0,.slice none 0 0,.int .i64 0,.slice none 0 0,.int .i64 0,.int .i64 0,.string ⟨#[]⟩,.int .i64 0,.slice none 0 0,.int .i64 0,.string ⟨#[]⟩,.int .i64 0,.slice none 0 0,.string ⟨#[]⟩,.slice none 0 0,.slice none 0 0] 33)).there w2.heap.size 0 20:=there_all (heap_alloc_new w2 _)
    refine wpList_store_mid rfl 33 (.tmp 3) (.tmp 10) rfl w2.heap.size 0 #[.int .i64 4,.string (bs s),.slice none 0 0,.slice none 0 0,.slice none 0 0,.slice none 0 0,.int .i64 0,.slice s1 s2 s3,.int .i64 0,.int .i64 0,.string ⟨#[]⟩,.int .i64 0,.slice none 0 0,.int .i64 0,.string ⟨#[]⟩,.int .i64 0,.slice none 0 0,.string ⟨#[]⟩,.slice none 0 0,.slice none 0 0] rfl rfl hal infoItem (by simp [Value.oneCell']) ?_
    clear hal
    obtain ⟨u1,u2,u3,u4⟩:=newAll (T:=33) hp2 #[.int .i64 0,.string ⟨#[]⟩,.slice none 0 0,.slice none 0 0,.slice none 0 0,.slice none 0 0,.int .i64 0,.slice none 0 0,.int .i64 0,.int .i64 0,.string ⟨#[]⟩,.int .i64 0,.slice none 0 0,.int .i64 0,.string ⟨#[]⟩,.int .i64 0,.slice none 0 0,.string ⟨#[]⟩,.slice none 0 0,.slice none 0 0] #[.int .i64 4,.string (bs s),.slice none 0 0,.slice none 0 0,.slice none 0 0,.slice none 0 0,.int .i64 0,.slice s1 s2 s3,.int .i64 0,.int .i64 0,.string ⟨#[]⟩,.int .i64 0,.slice none 0 0,.int .i64 0,.string ⟨#[]⟩,.int .i64 0,.slice none 0 0,.string ⟨#[]⟩,.slice none 0 0,.slice none 0 0] rfl
    generalize World.setCells _ _ _ _=X at u1 u2 u3 u4 ⊢
    have e8:=(Lib.cell_of_heap u1 8).trans rfl
    have fz8:=Lib.frozen_of_heap u1 8
    have hx:w2.heap.size < X.heap.size:=by omega
    go_upto_region 3 with fail
    have v1:(X.setCell ⟨w2.heap.size,8,none⟩ (.int .i64 1)).heap[w2.heap.size]?=some (.cells #[.int .i64 4,.string (bs s),.slice none 0 0,.slice none 0 0,.slice none 0 0,.slice none 0 0,.int .i64 0,.slice s1 s2 s3,.int .i64 1,.int .i64 0,.string ⟨#[]⟩,.int .i64 0,.slice none 0 0,.int .i64 0,.string ⟨#[]⟩,.int .i64 0,.slice none 0 0,.string ⟨#[]⟩,.slice none 0 0,.slice none 0 0] 33 (0,0)):=blk_put X w2.heap.size 8 (.int .i64 1) u1 (by show 8 < 20;decide)
    have v2:=hp2.putBeside u3 u2 (Nat.le_refl _) 8 (.int .i64 1)
    have v3:=u3.putNew (Nat.le_refl _) 8 (.int .i64 1)
    have v4:(X.setCell ⟨w2.heap.size,8,none⟩ (.int .i64 1)).heap.size=w2.heap.size+1:=by simp [World.setCell,u4]
    clear u1 u2 u3 u4 e8 fz8 hx
    generalize X.setCell _ _=Y at v1 v2 v3 v4 ⊢
    obtain ⟨u1,u2,u3,u4⟩:=And.intro v1 (And.intro v2 (And.intro v3 v4))
    clear v1 v2 v3 v4
    go_wp2_with fail
    go_at_call 123
    refine (H3.out _ u2).mono ?_
    rintro e w3 ⟨rfl,hp3,hf3⟩
    have hgb:=(hf3.block w2.heap.size (by omega) (by omega)).trans u1
    have hszi:w2.heap.size < w3.heap.size:=(Array.getElem?_eq_some_iff.1 hgb).1
    have HG:=Lib.hid hgb
    clear hgb
    have HB:=Lib.hid (boxI (((hf1.trans hf2).trans u3).trans hf3) hbw (heap_alloc_new w _))
    go_upto_region 5 with fail
    have hs23:=hf3.size
    have hfi:PFr b (w.alloc (.cells #[.int .i64 0,.string ⟨#[]⟩,.slice none 0 0,.slice none 0 0,.slice none 0 0,.slice none 0 0,.int .i64 0,.slice none 0 0,.int .i64 0,.int .i64 0,.string ⟨#[]⟩,.int .i64 0,.slice none 0 0,.int .i64 0,.string ⟨#[]⟩,.int .i64 0,.slice none 0 0,.string ⟨#[]⟩,.slice none 0 0,.slice none 0 0] 33)) w3:=(((hf1.trans hf2).trans u3).trans hf3)
    have hgi:w3.heap[w2.heap.size]?=some (.cells #[.int .i64 4,.string (bs s),.slice none 0 0,.slice none 0 0,.slice none 0 0,.slice none 0 0,.int .i64 0,.slice s1 s2 s3,.int .i64 1,.int .i64 0,.string ⟨#[]⟩,.int .i64 0,.slice none 0 0,.int .i64 0,.string ⟨#[]⟩,.int .i64 0,.slice none 0 0,.string ⟨#[]⟩,.slice none 0 0,.slice none 0 0] 33 (0,0)):=HG.out
    have hbi:w3.heap[w.heap.size]?=some (.cells #[.int .i64 0,.string ⟨#[]⟩,.slice none 0 0,.slice none 0 0,.slice none 0 0,.slice none 0 0,.int .i64 0,.slice none 0 0,.int .i64 0,.int .i64 0,.string ⟨#[]⟩,.int .i64 0,.slice none 0 0,.int .i64 0,.string ⟨#[]⟩,.int .i64 0,.slice none 0 0,.string ⟨#[]⟩,.slice none 0 0,.slice none 0 0] 33 (0,0)):=HB.out
    obtain ⟨t1,t2,t3,t4,t5⟩:=putAll (T:=33) HP.out hfi hp3 hbi #[.int .i64 4,.string (bs s),.slice none 0 0,.slice none 0 0,.slice none 0 0,.slice none 0 0,.int .i64 0,.slice s1 s2 s3,.int .i64 1,.int .i64 0,.string ⟨#[]⟩,.int .i64 0,.slice none 0 0,.int .i64 0,.string ⟨#[]⟩,.int .i64 0,.slice none 0 0,.string ⟨#[]⟩,.slice none 0 0,.slice none 0 0] rfl
    have hth:w3.there w.heap.size 0 20:=there_all hbi
    refine wp_region_list ?_
    refine wpList_load_mid rfl 33 (.tmp 3) rfl w2.heap.size 0 rfl _ _ (range_all hgi) Tryz.underlying33 rfl infoItem ?_
    refine wpList_store_mid rfl 33 (.tmp 2) (.tmp 18) rfl w.heap.size 0 #[.int .i64 4,.string (bs s),.slice none 0 0,.slice none 0 0,.slice none 0 0,.slice none 0 0,.int .i64 0,.slice s1 s2 s3,.int .i64 1,.int .i64 0,.string ⟨#[]⟩,.int .i64 0,.slice none 0 0,.int .i64 0,.string ⟨#[]⟩,.int .i64 0,.slice none 0 0,.string ⟨#[]⟩,.slice none 0 0,.slice none 0 0] rfl rfl hth infoItem (by simp [Value.oneCell']) ?_
    generalize World.setCells _ _ _ _=X at t1 t2 t3 t4 t5 ⊢
    clear hgi hbi
    go_wp2
    refine bodyPost_ret (v:=.agg #[.int .i64 4,.string (bs s),.slice none 0 0,.slice none 0 0,.slice none 0 0,.slice none 0 0,.int .i64 0,.slice s1 s2 s3,.int .i64 1,.int .i64 0,.string ⟨#[]⟩,.int .i64 0,.slice none 0 0,.int .i64 0,.string ⟨#[]⟩,.int .i64 0,.slice none 0 0,.string ⟨#[]⟩,.slice none 0 0,.slice none 0 0]) (results_cell_row Tryz.results128 _ X w.heap.size 33 #[.int .i64 4,.string (bs s),.slice none 0 0,.slice none 0 0,.slice none 0 0,.slice none 0 0,.int .i64 0,.slice s1 s2 s3,.int .i64 1,.int .i64 0,.string ⟨#[]⟩,.int .i64 0,.slice none 0 0,.int .i64 0,.string ⟨#[]⟩,.int .i64 0,.slice none 0 0,.string ⟨#[]⟩,.slice none 0 0,.slice none 0 0] (0,0) _ rfl t1 Tryz.underlying33 rfl infoItem) rfl ⟨_,rfl,?_,t2,t3⟩
    have hsl:w2.heap.size < w3.heap.size:=by omega
    refine ⟨_,_,_,_,_,_,_,_,_,_,_,_,_,_,_,_,_,rfl,.inl ⟨rfl,rfl⟩,.inl ⟨rfl,rfl⟩,.inl ⟨rfl,rfl⟩,.inl ⟨rfl,rfl⟩,?_,trueG_holds _ _ _⟩
    refine ArgsV.wide (ArgsV.stable _ _ (TermV.stable 66) _ _ _ _ _ _ HV2.out (fun j j1 j2=>?_)) (by omega) (by rw [t5];omega)
    exact (t4 j (by omega)).trans ((hf3.block j (by omega) (by omega)).trans (u3.block j j2 (by omega)))
   | true =>
    have hin:k2 < ts.length:=hasT_in q3 (by decide)
    rw [q3] at H3
    simp only [if_true] at H3 ⊢
    clear q3
    have H4:=Lib.hid (fun w h hE=>topgoal_any b A c ts f ne h0 (by omega) w (k2+1) h hE (by omega))
    cases q4:goalO (primO ts 66 ne) ts (k2+1) with
    | no i =>
     rw [q4] at H4
     go_enter Tryz.func128,Tryz.ntmps128
     go_wp2_with fail
     go_at_call 113
     refine (H1.out _ (HP.out.alloc _) (HE.out.move ((PFr.refl b w).alloc _))).mono ?_
     rintro e w1 ⟨v1,rfl,rfl,hp1,hf1⟩
     go_wp2_with fail
     go_at_call 114
     refine (H2.out _ hp1 ((HE.out.move ((PFr.refl b w).alloc _)).move hf1)).mono ?_
     rintro e w2 ⟨v2,rfl,hv2,hp2,hf2⟩
     obtain ⟨s1,s2,s3,rfl⟩:=hv2.slice
     have HV2:=Lib.hid hv2
     clear hv2
     have hs01:w.heap.size < w1.heap.size:=(by have:=hf1.size;simp at this;omega)
     have hs12:w1.heap.size≤w2.heap.size:=hf2.size
     have hsn1:¬ w.heap.size=w2.heap.size:=(by omega)
     have hsn2:¬ w2.heap.size=w.heap.size:=(by omega)
     rename_i hKK
     refine hKK _ _ ?_
     clear hKK
     refine wpList_plain rfl fun _ hKK=>?_
     have HKK:=Lib.hid hKK
     clear hKK
     go_simp
     refine HKK.out _ _ ?_
     clear HKK
     refine wpList_plain rfl fun _ hKK=>?_
     have HKK:=Lib.hid hKK
     clear hKK
     go_simp
     refine HKK.out _ _ ?_
     clear HKK
     have hal:(w2.alloc (.cells #[.int .i64 0,.string ⟨#[]⟩,.slice none 0 0,.slice none 0 0,.slice none 0 0,.slice none 0 0,.int .i64 0,.slice none 0 0,.int .i64 0,.int .i64 0,.string ⟨#[]⟩,.int .i64 0,.slice none 0 0,.int .i64 0,.string ⟨#[]⟩,.int .i64 0,.slice none 0 0,.string ⟨#[]⟩,.slice none 0 0,.slice none 0 0] 33)).there w2.heap.size 0 20:=there_all (heap_alloc_new w2 _)
     refine wpList_store_mid rfl 33 (.tmp 3) (.tmp 10) rfl w2.heap.size 0 #[.int .i64 4,.string (bs s),.slice none 0 0,.slice none 0 0,.slice none 0 0,.slice none 0 0,.int .i64 0,.slice s1 s2 s3,.int .i64 0,.int .i64 0,.string ⟨#[]⟩,.int .i64 0,.slice none 0 0,.int .i64 0,.string ⟨#[]⟩,.int .i64 0,.slice none 0 0,.string ⟨#[]⟩,.slice none 0 0,.slice none 0 0] rfl rfl hal infoItem (by simp [Value.oneCell']) ?_
     clear hal
     obtain ⟨u1,u2,u3,u4⟩:=newAll (T:=33) hp2 #[.int .i64 0,.string ⟨#[]⟩,.slice none 0 0,.slice none 0 0,.slice none 0 0,.slice none 0 0,.int .i64 0,.slice none 0 0,.int .i64 0,.int .i64 0,.string ⟨#[]⟩,.int .i64 0,.slice none 0 0,.int .i64 0,.string ⟨#[]⟩,.int .i64 0,.slice none 0 0,.string ⟨#[]⟩,.slice none 0 0,.slice none 0 0] #[.int .i64 4,.string (bs s),.slice none 0 0,.slice none 0 0,.slice none 0 0,.slice none 0 0,.int .i64 0,.slice s1 s2 s3,.int .i64 0,.int .i64 0,.string ⟨#[]⟩,.int .i64 0,.slice none 0 0,.int .i64 0,.string ⟨#[]⟩,.int .i64 0,.slice none 0 0,.string ⟨#[]⟩,.slice none 0 0,.slice none 0 0] rfl
     generalize World.setCells _ _ _ _=X at u1 u2 u3 u4 ⊢
     have e8:=(Lib.cell_of_heap u1 8).trans rfl
     have fz8:=Lib.frozen_of_heap u1 8
     have hx:w2.heap.size < X.heap.size:=by omega
     go_upto_region 3 with fail
     have v1:(X.setCell ⟨w2.heap.size,8,none⟩ (.int .i64 1)).heap[w2.heap.size]?=some (.cells #[.int .i64 4,.string (bs s),.slice none 0 0,.slice none 0 0,.slice none 0 0,.slice none 0 0,.int .i64 0,.slice s1 s2 s3,.int .i64 1,.int .i64 0,.string ⟨#[]⟩,.int .i64 0,.slice none 0 0,.int .i64 0,.string ⟨#[]⟩,.int .i64 0,.slice none 0 0,.string ⟨#[]⟩,.slice none 0 0,.slice none 0 0] 33 (0,0)):=blk_put X w2.heap.size 8 (.int .i64 1) u1 (by show 8 < 20;decide)
     have v2:=hp2.putBeside u3 u2 (Nat.le_refl _) 8 (.int .i64 1)
     have v3:=u3.putNew (Nat.le_refl _) 8 (.int .i64 1)
     have v4:(X.setCell ⟨w2.heap.size,8,none⟩ (.int .i64 1)).heap.size=w2.heap.size+1:=by simp [World.setCell,u4]
     clear u1 u2 u3 u4 e8 fz8 hx
     generalize X.setCell _ _=Y at v1 v2 v3 v4 ⊢
     obtain ⟨u1,u2,u3,u4⟩:=And.intro v1 (And.intro v2 (And.intro v3 v4))
     clear v1 v2 v3 v4
     go_wp2_with fail
     go_at_call 123
     refine (H3.out _ u2).mono ?_
     rintro e w3 ⟨rfl,hp3,hf3⟩
     go_wp2_with fail
     go_at_call 149
     refine (H4.out _ hp3 ((HE.out.move ((PFr.refl b w).alloc _)).move (((hf1.trans hf2).trans u3).trans hf3))).mono ?_
     rintro e w4 ⟨rfl,h2,h3⟩
     go_wp2_with fail
     exact ⟨rfl,rfl,h2,((PFr.refl b w).alloc _).trans (((hf1.trans hf2).trans u3).trans (hf3.trans h3))⟩
    | ok g k3 =>
     rw [q4] at H4
     go_enter Tryz.func128,Tryz.ntmps128
     go_wp2_with fail
     go_at_call 113
     refine (H1.out _ (HP.out.alloc _) (HE.out.move ((PFr.refl b w).alloc _))).mono ?_
     rintro e w1 ⟨v1,rfl,rfl,hp1,hf1⟩
     go_wp2_with fail
     go_at_call 114
     refine (H2.out _ hp1 ((HE.out.move ((PFr.refl b w).alloc _)).move hf1)).mono ?_
     rintro e w2 ⟨v2,rfl,hv2,hp2,hf2⟩
     obtain ⟨s1,s2,s3,rfl⟩:=hv2.slice
     have HV2:=Lib.hid hv2
     clear hv2
     have hs01:w.heap.size < w1.heap.size:=(by have:=hf1.size;simp at this;omega)
     have hs12:w1.heap.size≤w2.heap.size:=hf2.size
     have hsn1:¬ w.heap.size=w2.heap.size:=(by omega)
     have hsn2:¬ w2.heap.size=w.heap.size:=(by omega)
     rename_i hKK
     refine hKK _ _ ?_
     clear hKK
     refine wpList_plain rfl fun _ hKK=>?_
     have HKK:=Lib.hid hKK
     clear hKK
     go_simp
     refine HKK.out _ _ ?_
     clear HKK
     refine wpList_plain rfl fun _ hKK=>?_
     have HKK:=Lib.hid hKK
     clear hKK
     go_simp
     refine HKK.out _ _ ?_
     clear HKK
     have hal:(w2.alloc (.cells #[.int .i64 0,.string ⟨#[]⟩,.slice none 0 0,.slice none 0 0,.slice none 0 0,.slice none 0 0,.int .i64 0,.slice none 0 0,.int .i64 0,.int .i64 0,.string ⟨#[]⟩,.int .i64 0,.slice none 0 0,.int .i64 0,.string ⟨#[]⟩,.int .i64 0,.slice none 0 0,.string ⟨#[]⟩,.slice none 0 0,.slice none 0 0] 33)).there w2.heap.size 0 20:=there_all (heap_alloc_new w2 _)
     refine wpList_store_mid rfl 33 (.tmp 3) (.tmp 10) rfl w2.heap.size 0 #[.int .i64 4,.string (bs s),.slice none 0 0,.slice none 0 0,.slice none 0 0,.slice none 0 0,.int .i64 0,.slice s1 s2 s3,.int .i64 0,.int .i64 0,.string ⟨#[]⟩,.int .i64 0,.slice none 0 0,.int .i64 0,.string ⟨#[]⟩,.int .i64 0,.slice none 0 0,.string ⟨#[]⟩,.slice none 0 0,.slice none 0 0] rfl rfl hal infoItem (by simp [Value.oneCell']) ?_
     clear hal
     obtain ⟨u1,u2,u3,u4⟩:=newAll (T:=33) hp2 #[.int .i64 0,.string ⟨#[]⟩,.slice none 0 0,.slice none 0 0,.slice none 0 0,.slice none 0 0,.int .i64 0,.slice none 0 0,.int .i64 0,.int .i64 0,.string ⟨#[]⟩,.int .i64 0,.slice none 0 0,.int .i64 0,.string ⟨#[]⟩,.int .i64 0,.slice none 0 0,.string ⟨#[]⟩,.slice none 0 0,.slice none 0 0] #[.int .i64 4,.string (bs s),.slice none 0 0,.slice none 0 0,.slice none 0 0,.slice none 0 0,.int .i64 0,.slice s1 s2 s3,.int .i64 0,.int .i64 0,.string ⟨#[]⟩,.int .i64 0,.slice none 0 0,.int .i64 0,.string ⟨#[]⟩,.int .i64 0,.slice none 0 0,.string ⟨#[]⟩,.slice none 0 0,.slice none 0 0] rfl
     generalize World.setCells _ _ _ _=X at u1 u2 u3 u4 ⊢
     have e8:=(Lib.cell_of_heap u1 8).trans rfl
     have fz8:=Lib.frozen_of_heap u1 8
     have hx:w2.heap.size < X.heap.size:=by omega
     go_upto_region 3 with fail
     have v1:(X.setCell ⟨w2.heap.size,8,none⟩ (.int .i64 1)).heap[w2.heap.size]?=some (.cells #[.int .i64 4,.string (bs s),.slice none 0 0,.slice none 0 0,.slice none 0 0,.slice none 0 0,.int .i64 0,.slice s1 s2 s3,.int .i64 1,.int .i64 0,.string ⟨#[]⟩,.int .i64 0,.slice none 0 0,.int .i64 0,.string ⟨#[]⟩,.int .i64 0,.slice none 0 0,.string ⟨#[]⟩,.slice none 0 0,.slice none 0 0] 33 (0,0)):=blk_put X w2.heap.size 8 (.int .i64 1) u1 (by show 8 < 20;decide)
     have v2:=hp2.putBeside u3 u2 (Nat.le_refl _) 8 (.int .i64 1)
     have v3:=u3.putNew (Nat.le_refl _) 8 (.int .i64 1)
     have v4:(X.setCell ⟨w2.heap.size,8,none⟩ (.int .i64 1)).heap.size=w2.heap.size+1:=by simp [World.setCell,u4]
     clear u1 u2 u3 u4 e8 fz8 hx
     generalize X.setCell _ _=Y at v1 v2 v3 v4 ⊢
     obtain ⟨u1,u2,u3,u4⟩:=And.intro v1 (And.intro v2 (And.intro v3 v4))
     clear v1 v2 v3 v4
     go_wp2_with fail
     go_at_call 123
     refine (H3.out _ u2).mono ?_
     rintro e w3 ⟨rfl,hp3,hf3⟩
     go_wp2_with fail
     go_at_call 149
     refine (H4.out _ hp3 ((HE.out.move ((PFr.refl b w).alloc _)).move (((hf1.trans hf2).trans u3).trans hf3))).mono ?_
     rintro e w4 ⟨v4,rfl,hv4,hp4,hf4⟩
     obtain ⟨z1,z2,z3,z4,z5,z6,z7,z8,z9,za,zb,zc,zd,ze,zf,zg,zh,zi,zj,zk,rfl⟩:=GoalV.this _ _ _ _ _ _ hv4
     have HV4:=Lib.hid hv4
     clear hv4
     have hgb:=((hf3.trans hf4).block w2.heap.size (by omega) (by omega)).trans u1
     have e8:=(Lib.cell_of_heap hgb 8).trans rfl
     have fz8:=Lib.frozen_of_heap hgb 8
     have e9:=(Lib.cell_of_heap hgb 9).trans rfl
     have fz9:=Lib.frozen_of_heap hgb 9
     have e10:=(Lib.cell_of_heap hgb 10).trans rfl
     have fz10:=Lib.frozen_of_heap hgb 10
     have e11:=(Lib.cell_of_heap hgb 11).trans rfl
     have fz11:=Lib.frozen_of_heap hgb 11
     have e12:=(Lib.cell_of_heap hgb 12).trans rfl
     have fz12:=Lib.frozen_of_heap hgb 12
     have e13:=(Lib.cell_of_heap hgb 13).trans rfl
     have fz13:=Lib.frozen_of_heap hgb 13
     have e14:=(Lib.cell_of_heap hgb 14).trans rfl
     have fz14:=Lib.frozen_of_heap hgb 14
     have e15:=(Lib.cell_of_heap hgb 15).trans rfl
     have fz15:=Lib.frozen_of_heap hgb 15
     have e16:=(Lib.cell_of_heap hgb 16).trans rfl
     have fz16:=Lib.frozen_of_heap hgb 16
     have e17:=(Lib.cell_of_heap hgb 17).trans rfl
     have fz17:=Lib.frozen_of_heap hgb 17
     have e18:=(Lib.cell_of_heap hgb 18).trans rfl
     have fz18:=Lib.frozen_of_heap hgb 18
     have e19:=(Lib.cell_of_heap hgb 19).trans rfl
     have fz19:=Lib.frozen_of_heap hgb 19
     have hszi:w2.heap.size < w4.heap.size:=(Array.getElem?_eq_some_iff.1 hgb).1
     have HG:=Lib.hid hgb
     clear hgb
     have HB:=Lib.hid (boxI (((hf1.trans hf2).trans u3).trans (hf3.trans hf4)) hbw (heap_alloc_new w _))
     go_upto_region 5 with fail
     have hs23:=hf3.size
     have hs34:=hf4.size
     have hfi:PFr b (w.alloc (.cells #[.int .i64 0,.string ⟨#[]⟩,.slice none 0 0,.slice none 0 0,.slice none 0 0,.slice none 0 0,.int .i64 0,.slice none 0 0,.int .i64 0,.int .i64 0,.string ⟨#[]⟩,.int .i64 0,.slice none 0 0,.int .i64 0,.string ⟨#[]⟩,.int .i64 0,.slice none 0 0,.string ⟨#[]⟩,.slice none 0 0,.slice none 0 0] 33)) ((((((((((((w4.setCell ⟨w2.heap.size,8,none⟩ (.int .i64 z1)).setCell ⟨w2.heap.size,9,none⟩ (.int .i64 z2)).setCell ⟨w2.heap.size,10,none⟩ (.string z3)).setCell ⟨w2.heap.size,11,none⟩ (.int .i64 z4)).setCell ⟨w2.heap.size,12,none⟩ (.slice z5 z6 z7)).setCell ⟨w2.heap.size,13,none⟩ (.int .i64 z8)).setCell ⟨w2.heap.size,14,none⟩ (.string z9)).setCell ⟨w2.heap.size,15,none⟩ (.int .i64 za)).setCell ⟨w2.heap.size,16,none⟩ (.slice zb zc zd)).setCell ⟨w2.heap.size,17,none⟩ (.string ze)).setCell ⟨w2.heap.size,18,none⟩ (.slice zf zg zh)).setCell ⟨w2.heap.size,19,none⟩ (.slice zi zj zk)):=(((((((((((((((hf1.trans hf2).trans u3).trans (hf3.trans hf4)).putNew (by simp;omega) 8 (.int .i64 z1)).putNew (by simp;omega) 9 (.int .i64 z2)).putNew (by simp;omega) 10 (.string z3)).putNew (by simp;omega) 11 (.int .i64 z4)).putNew (by simp;omega) 12 (.slice z5 z6 z7)).putNew (by simp;omega) 13 (.int .i64 z8)).putNew (by simp;omega) 14 (.string z9)).putNew (by simp;omega) 15 (.int .i64 za)).putNew (by simp;omega) 16 (.slice zb zc zd)).putNew (by simp;omega) 17 (.string ze)).putNew (by simp;omega) 18 (.slice zf zg zh)).putNew (by simp;omega) 19 (.slice zi zj zk))
     have hall:∀ j,j ≠ w2.heap.size→((((((((((((w4.setCell ⟨w2.heap.size,8,none⟩ (.int .i64 z1)).setCell ⟨w2.heap.size,9,none⟩ (.int .i64 z2)).setCell ⟨w2.heap.size,10,none⟩ (.string z3)).setCell ⟨w2.heap.size,11,none⟩ (.int .i64 z4)).setCell ⟨w2.heap.size,12,none⟩ (.slice z5 z6 z7)).setCell ⟨w2.heap.size,13,none⟩ (.int .i64 z8)).setCell ⟨w2.heap.size,14,none⟩ (.string z9)).setCell ⟨w2.heap.size,15,none⟩ (.int .i64 za)).setCell ⟨w2.heap.size,16,none⟩ (.slice zb zc zd)).setCell ⟨w2.heap.size,17,none⟩ (.string ze)).setCell ⟨w2.heap.size,18,none⟩ (.slice zf zg zh)).setCell ⟨w2.heap.size,19,none⟩ (.slice zi zj zk)).heap[j]?=w4.heap[j]?:=fun j hj=>by rw [Below.heap_setCell _ _ _ j hj,Below.heap_setCell _ _ _ j hj,Below.heap_setCell _ _ _ j hj,Below.heap_setCell _ _ _ j hj,Below.heap_setCell _ _ _ j hj,Below.heap_setCell _ _ _ j hj,Below.heap_setCell _ _ _ j hj,Below.heap_setCell _ _ _ j hj,Below.heap_setCell _ _ _ j hj,Below.heap_setCell _ _ _ j hj,Below.heap_setCell _ _ _ j hj,Below.heap_setCell _ _ _ j hj]
     have hsi:((((((((((((w4.setCell ⟨w2.heap.size,8,none⟩ (.int .i64 z1)).setCell ⟨w2.heap.size,9,none⟩ (.int .i64 z2)).setCell ⟨w2.heap.size,10,none⟩ (.string z3)).setCell ⟨w2.heap.size,11,none⟩ (.int .i64 z4)).setCell ⟨w2.heap.size,12,none⟩ (.slice z5 z6 z7)).setCell ⟨w2.heap.size,13,none⟩ (.int .i64 z8)).setCell ⟨w2.heap.size,14,none⟩ (.string z9)).setCell ⟨w2.heap.size,15,none⟩ (.int .i64 za)).setCell ⟨w2.heap.size,16,none⟩ (.slice zb zc zd)).setCell ⟨w2.heap.size,17,none⟩ (.string ze)).setCell ⟨w2.heap.size,18,none⟩ (.slice zf zg zh)).setCell ⟨w2.heap.size,19,none⟩ (.slice zi zj zk)).heap.size=w4.heap.size:=by simp [World.setCell]
     have hpi:Par ((((((((((((w4.setCell ⟨w2.heap.size,8,none⟩ (.int .i64 z1)).setCell ⟨w2.heap.size,9,none⟩ (.int .i64 z2)).setCell ⟨w2.heap.size,10,none⟩ (.string z3)).setCell ⟨w2.heap.size,11,none⟩ (.int .i64 z4)).setCell ⟨w2.heap.size,12,none⟩ (.slice z5 z6 z7)).setCell ⟨w2.heap.size,13,none⟩ (.int .i64 z8)).setCell ⟨w2.heap.size,14,none⟩ (.string z9)).setCell ⟨w2.heap.size,15,none⟩ (.int .i64 za)).setCell ⟨w2.heap.size,16,none⟩ (.slice zb zc zd)).setCell ⟨w2.heap.size,17,none⟩ (.string ze)).setCell ⟨w2.heap.size,18,none⟩ (.slice zf zg zh)).setCell ⟨w2.heap.size,19,none⟩ (.slice zi zj zk)) b A c ts _ ne:=HP.out.fromFr (((PFr.refl b w).alloc _).trans hfi) hp4 (hall b (by omega))
     have hgi:((((((((((((w4.setCell ⟨w2.heap.size,8,none⟩ (.int .i64 z1)).setCell ⟨w2.heap.size,9,none⟩ (.int .i64 z2)).setCell ⟨w2.heap.size,10,none⟩ (.string z3)).setCell ⟨w2.heap.size,11,none⟩ (.int .i64 z4)).setCell ⟨w2.heap.size,12,none⟩ (.slice z5 z6 z7)).setCell ⟨w2.heap.size,13,none⟩ (.int .i64 z8)).setCell ⟨w2.heap.size,14,none⟩ (.string z9)).setCell ⟨w2.heap.size,15,none⟩ (.int .i64 za)).setCell ⟨w2.heap.size,16,none⟩ (.slice zb zc zd)).setCell ⟨w2.heap.size,17,none⟩ (.string ze)).setCell ⟨w2.heap.size,18,none⟩ (.slice zf zg zh)).setCell ⟨w2.heap.size,19,none⟩ (.slice zi zj zk)).heap[w2.heap.size]?=some (.cells #[.int .i64 4,.string (bs s),.slice none 0 0,.slice none 0 0,.slice none 0 0,.slice none 0 0,.int .i64 0,.slice s1 s2 s3,.int .i64 z1,.int .i64 z2,.string z3,.int .i64 z4,.slice z5 z6 z7,.int .i64 z8,.string z9,.int .i64 za,.slice zb zc zd,.string ze,.slice zf zg zh,.slice zi zj zk] 33 (0,0)):=(blk_put _ _ 19 (.slice zi zj zk) (blk_put _ _ 18 (.slice zf zg zh) (blk_put _ _ 17 (.string ze) (blk_put _ _ 16 (.slice zb zc zd) (blk_put _ _ 15 (.int .i64 za) (blk_put _ _ 14 (.string z9) (blk_put _ _ 13 (.int .i64 z8) (blk_put _ _ 12 (.slice z5 z6 z7) (blk_put _ _ 11 (.int .i64 z4) (blk_put _ _ 10 (.string z3) (blk_put _ _ 9 (.int .i64 z2) (blk_put _ _ 8 (.int .i64 z1) HG.out (by show 8 < 20;decide)) (by show 9 < 20;decide)) (by show 10 < 20;decide)) (by show 11 < 20;decide)) (by show 12 < 20;decide)) (by show 13 < 20;decide)) (by show 14 < 20;decide)) (by show 15 < 20;decide)) (by show 16 < 20;decide)) (by show 17 < 20;decide)) (by show 18 < 20;decide)) (by show 19 < 20;decide))
     have hbi:((((((((((((w4.setCell ⟨w2.heap.size,8,none⟩ (.int .i64 z1)).setCell ⟨w2.heap.size,9,none⟩ (.int .i64 z2)).setCell ⟨w2.heap.size,10,none⟩ (.string z3)).setCell ⟨w2.heap.size,11,none⟩ (.int .i64 z4)).setCell ⟨w2.heap.size,12,none⟩ (.slice z5 z6 z7)).setCell ⟨w2.heap.size,13,none⟩ (.int .i64 z8)).setCell ⟨w2.heap.size,14,none⟩ (.string z9)).setCell ⟨w2.heap.size,15,none⟩ (.int .i64 za)).setCell ⟨w2.heap.size,16,none⟩ (.slice zb zc zd)).setCell ⟨w2.heap.size,17,none⟩ (.string ze)).setCell ⟨w2.heap.size,18,none⟩ (.slice zf zg zh)).setCell ⟨w2.heap.size,19,none⟩ (.slice zi zj zk)).heap[w.heap.size]?=some (.cells #[.int .i64 0,.string ⟨#[]⟩,.slice none 0 0,.slice none 0 0,.slice none 0 0,.slice none 0 0,.int .i64 0,.slice none 0 0,.int .i64 0,.int .i64 0,.string ⟨#[]⟩,.int .i64 0,.slice none 0 0,.int .i64 0,.string ⟨#[]⟩,.int .i64 0,.slice none 0 0,.string ⟨#[]⟩,.slice none 0 0,.slice none 0 0] 33 (0,0)):=(hall w.heap.size hsn1).trans HB.out
     obtain ⟨t1,t2,t3,t4,t5⟩:=putAll (T:=33) HP.out hfi hpi hbi #[.int .i64 4,.string (bs s),.slice none 0 0,.slice none 0 0,.slice none 0 0,.slice none 0 0,.int .i64 0,.slice s1 s2 s3,.int .i64 z1,.int .i64 z2,.string z3,.int .i64 z4,.slice z5 z6 z7,.int .i64 z8,.string z9,.int .i64 za,.slice zb zc zd,.string ze,.slice zf zg zh,.slice zi zj zk] rfl
     have hth:((((((((((((w4.setCell ⟨w2.heap.size,8,none⟩ (.int .i64 z1)).setCell ⟨w2.heap.size,9,none⟩ (.int .i64 z2)).setCell ⟨w2.heap.size,10,none⟩ (.string z3)).setCell ⟨w2.heap.size,11,none⟩ (.int .i64 z4)).setCell ⟨w2.heap.size,12,none⟩ (.slice z5 z6 z7)).setCell ⟨w2.heap.size,13,none⟩ (.int .i64 z8)).setCell ⟨w2.heap.size,14,none⟩ (.string z9)).setCell ⟨w2.heap.size,15,none⟩ (.int .i64 za)).setCell ⟨w2.heap.size,16,none⟩ (.slice zb zc zd)).setCell ⟨w2.heap.size,17,none⟩ (.string ze)).setCell ⟨w2.heap.size,18,none⟩ (.slice zf zg zh)).setCell ⟨w2.heap.size,19,none⟩ (.slice zi zj zk)).there w.heap.size 0 20:=there_all hbi
     refine wp_region_list ?_
     refine wpList_load_mid rfl 33 (.tmp 3) rfl w2.heap.size 0 rfl _ _ (range_all hgi) Tryz.underlying33 rfl infoItem ?_
     refine wpList_store_mid rfl 33 (.tmp 2) (.tmp 18) rfl w.heap.size 0 #[.int .i64 4,.string (bs s),.slice none 0 0,.slice none 0 0,.slice none 0 0,.slice none 0 0,.int .i64 0,.slice s1 s2 s3,.int .i64 z1,.int .i64 z2,.string z3,.int .i64 z4,.slice z5 z6 z7,.int .i64 z8,.string z9,.int .i64 za,.slice zb zc zd,.string ze,.slice zf zg zh,.slice zi zj zk] rfl rfl hth infoItem (by simp [Value.oneCell']) ?_
     generalize World.setCells _ _ _ _=X at t1 t2 t3 t4 t5 ⊢
     clear hgi hbi
     go_wp2
     refine bodyPost_ret (v:=.agg #[.int .i64 4,.string (bs s),.slice none 0 0,.slice none 0 0,.slice none 0 0,.slice none 0 0,.int .i64 0,.slice s1 s2 s3,.int .i64 z1,.int .i64 z2,.string z3,.int .i64 z4,.slice z5 z6 z7,.int .i64 z8,.string z9,.int .i64 za,.slice zb zc zd,.string ze,.slice zf zg zh,.slice zi zj zk]) (results_cell_row Tryz.results128 _ X w.heap.size 33 #[.int .i64 4,.string (bs s),.slice none 0 0,.slice none 0 0,.slice none 0 0,.slice none 0 0,.int .i64 0,.slice s1 s2 s3,.int .i64 z1,.int .i64 z2,.string z3,.int .i64 z4,.slice z5 z6 z7,.int .i64 z8,.string z9,.int .i64 za,.slice zb zc zd,.string ze,.slice zf zg zh,.slice zi zj zk] (0,0) _ rfl t1 Tryz.underlying33 rfl infoItem) rfl ⟨_,rfl,?_,t2,t3⟩
     have hsl:w2.heap.size < w3.heap.size:=by omega
     refine ⟨_,_,_,_,_,_,_,_,_,_,_,_,_,_,_,_,_,rfl,.inl ⟨rfl,rfl⟩,.inl ⟨rfl,rfl⟩,.inl ⟨rfl,rfl⟩,.inl ⟨rfl,rfl⟩,?_,?_⟩
     ·refine ArgsV.wide (ArgsV.stable _ _ (TermV.stable 66) _ _ _ _ _ _ HV2.out (fun j j1 j2=>?_)) (by omega) (by rw [t5,hsi];omega)
      exact (t4 j (by omega)).trans ((hall j (by omega)).trans (((hf3.trans hf4).block j (by omega) (by omega)).trans (u3.block j j2 (by omega))))
     ·refine GoalV.wide _ _ _ _ _ _ _ _ (GoalV.stable _ _ _ _ _ _ _ HV4.out (fun j j1 j2=>?_)) (by omega) (by rw [t5,hsi];exact Nat.le_refl _)
      exact (t4 j (by omega)).trans (hall j (by omega))
end Lx
end Go.Proofs.YtiljemkglhloeaaGreatDoor
