/- The contract of package parse's typeItem: what an item is, held in cells; or the panic. Conditions: the parser's block is its own; at most 16384 tokens. -/
/- The contract of package parse's modeItem: what an item is, held in cells; or the panic. Conditions: the parser's block is its own; at most 16384 tokens. -/
import Derived.Test.YtiljemkglhloeaaGreatDoorItemA
namespace Go.Proofs.YtiljemkglhloeaaGreatDoor
set_option linter.unusedSimpArgs false
set_option linter.unusedVariables false
namespace Lx
open Go Go.RowKit
set_option maxRecDepth 100000 in
set_option maxHeartbeats 8000000 in
theorem typeItem_any (b:Nat) (A:Option Addr) (c:Nat) (ts:List Tok) (f:Nat→Addr) (ne:Int) (h0:0≤ne) (h1:ne≤50000) (w:World) (k:Nat) (h:Par w b A c ts k ne) (hE:PErrs w b f) (hk:k≤ts.length) :
  Calls Tryz.prog 124 #[.pointer (some ⟨b,0,none⟩)] w fun e w'=>EndsV b A c ts ne f ItemV w (typeItemO ts ne k) e w':=by
 have HP:=Lib.hid h
 have HE:=Lib.hid hE
 have hfw:=h.few
 have hbw:=h.lt
 unfold typeItemO
 clear h hE
 have H1:=Lib.hid (fun w h hE=>nameV_any w b A c ts k ne f h (by omega) hE)
 cases q1:nameO ts k with
 | no i =>
  rw [q1] at H1
  go_enter Tryz.func124,Tryz.ntmps124
  go_wp2_with fail
  go_at_call 113
  refine (H1.out _ (HP.out.alloc _) (HE.out.move ((PFr.refl b w).alloc _))).mono ?_
  rintro e w1 ⟨rfl,h2,h3⟩
  go_wp2_with fail
  exact ⟨rfl,rfl,h2,((PFr.refl b w).alloc _).trans h3⟩
 | ok s k1 =>
  rw [q1] at H1
  have hk1:=nameO_fwd ts _ _ _ q1
  clear q1
  have H2:=Lib.hid (fun w h hE=>argsSt_any b A c ts ne f strH strH.stable strH.this (varO ts) (varO_fwd ts) (Lib.hid (fun w k h hE hk=>varV_any w b A c ts k ne f h (by omega) hE)) w k1 h hE hk1.2)
  show Calls _ _ _ _ fun e w'=>EndsV b A c ts ne f ItemV w (match argsO (varO ts) ts k1 with | .no i=>.no i | .ok vs k2=>match expO ts k2 [61] with | .no i=>.no i | .ok _ k3=>match rowO (ctorO ts ne) ts [124] 16384 k3 with | .no i=>.no i | .ok cs k4=>.ok ⟨1,s,vs,cs,[],[],0,[],zeroG⟩ k4) e w'
  cases q2:argsO (varO ts) ts k1 with
  | no i =>
   rw [q2] at H2
   go_enter Tryz.func124,Tryz.ntmps124
   go_wp2_with fail
   go_at_call 113
   refine (H1.out _ (HP.out.alloc _) (HE.out.move ((PFr.refl b w).alloc _))).mono ?_
   rintro e w1 ⟨v1,rfl,rfl,hp1,hf1⟩
   go_wp2_with fail
   go_at_call 141
   refine (H2.out _ hp1 ((HE.out.move ((PFr.refl b w).alloc _)).move hf1)).mono ?_
   rintro e w2 ⟨rfl,h2,h3⟩
   go_wp2_with fail
   exact ⟨rfl,rfl,h2,((PFr.refl b w).alloc _).trans (hf1.trans h3)⟩
  | ok vs k2 =>
   rw [q2] at H2
   have hk2:=argsO_fwd (varO_fwd ts) q2 hk1.2
   clear q2
   have H3:=Lib.hid (fun w h hE=>expect_any w b A c ts k2 ne f ⟨#[61]⟩ h (by omega) hE)
   rw [expO_eq,show (ByteArray.mk #[61]).data.toList=[61] from rfl] at H3
   show Calls _ _ _ _ fun e w'=>EndsV b A c ts ne f ItemV w (match expO ts k2 [61] with | .no i=>.no i | .ok _ k3=>match rowO (ctorO ts ne) ts [124] 16384 k3 with | .no i=>.no i | .ok cs k4=>.ok ⟨1,s,vs,cs,[],[],0,[],zeroG⟩ k4) e w'
   cases q3:expO ts k2 [61] with
   | no i =>
    rw [q3] at H3
    go_enter Tryz.func124,Tryz.ntmps124
    go_wp2_with fail
    go_at_call 113
    refine (H1.out _ (HP.out.alloc _) (HE.out.move ((PFr.refl b w).alloc _))).mono ?_
    rintro e w1 ⟨v1,rfl,rfl,hp1,hf1⟩
    go_wp2_with fail
    go_at_call 141
    refine (H2.out _ hp1 ((HE.out.move ((PFr.refl b w).alloc _)).move hf1)).mono ?_
    rintro e w2 ⟨v2,rfl,hv2,hp2,hf2⟩
    obtain ⟨s1,s2,s3,rfl⟩:=hv2.slice
    have HV2:=Lib.hid hv2
    clear hv2
    have hs01:w.heap.size < w1.heap.size:=(by have:=hf1.size;simp at this;omega)
    have hs12:w1.heap.size≤w2.heap.size:=hf2.size
    have hsn1:¬ w.heap.size=w2.heap.size:=(by omega)
    have hsn2:¬ w2.heap.size=w.heap.size:=(by omega)
    rename_i hKK
    refine hKK _ _ ?_
    clear hKK
    refine wpList_plain rfl fun _ hKK=>?_
    have HKK:=Lib.hid hKK
    clear hKK
    go_simp
    refine HKK.out _ _ ?_
    clear HKK
    refine wpList_plain rfl fun _ hKK=>?_
    have HKK:=Lib.hid hKK
    clear hKK
    go_simp
    refine HKK.out _ _ ?_
    clear HKK
    have hal:(w2.alloc (.cells #[.int .i64 0,.string ⟨#[]⟩,.slice none 0 0,.slice none 0 0,.slice none 0 0,.slice none 0 0,.int .i64 0,.slice none 0 0,.int .i64 0,.int .i64 0,.string ⟨#[]⟩,.int .i64 0,.slice none 0 0,.int .i64 0,.string ⟨#[]⟩,.int .i64 0,.slice none 0 0,.string ⟨#[]⟩,.slice none 0 0,.slice none 0 0] 33)).there w2.heap.size 0 20:=there_all (heap_alloc_new w2 _)
    refine wpList_store_mid rfl 33 (.tmp 3) (.tmp 10) rfl w2.heap.size 0 #[.int .i64 1,.string (bs s),.slice s1 s2 s3,.slice none 0 0,.slice none 0 0,.slice none 0 0,.int .i64 0,.slice none 0 0,.int .i64 0,.int .i64 0,.string ⟨#[]⟩,.int .i64 0,.slice none 0 0,.int .i64 0,.string ⟨#[]⟩,.int .i64 0,.slice none 0 0,.string ⟨#[]⟩,.slice none 0 0,.slice none 0 0] rfl rfl hal infoItem (by simp [Value.oneCell']) ?_
    clear hal
    obtain ⟨u1,u2,u3,u4⟩:=newAll (T:=33) hp2 #[.int .i64 0,.string ⟨#[]⟩,.slice none 0 0,.slice none 0 0,.slice none 0 0,.slice none 0 0,.int .i64 0,.slice none 0 0,.int .i64 0,.int .i64 0,.string ⟨#[]⟩,.int .i64 0,.slice none 0 0,.int .i64 0,.string ⟨#[]⟩,.int .i64 0,.slice none 0 0,.string ⟨#[]⟩,.slice none 0 0,.slice none 0 0] #[.int .i64 1,.string (bs s),.slice s1 s2 s3,.slice none 0 0,.slice none 0 0,.slice none 0 0,.int .i64 0,.slice none 0 0,.int .i64 0,.int .i64 0,.string ⟨#[]⟩,.int .i64 0,.slice none 0 0,.int .i64 0,.string ⟨#[]⟩,.int .i64 0,.slice none 0 0,.string ⟨#[]⟩,.slice none 0 0,.slice none 0 0] rfl
    generalize World.setCells _ _ _ _=X at u1 u2 u3 u4 ⊢
    go_wp2_with fail
    go_at_call 96
    refine (H3.out _ u2 ((HE.out.move ((PFr.refl b w).alloc _)).move ((hf1.trans hf2).trans u3))).mono ?_
    rintro e w3 ⟨rfl,h2,h3⟩
    go_wp2_with fail
    exact ⟨rfl,rfl,h2,((PFr.refl b w).alloc _).trans (((hf1.trans hf2).trans u3).trans h3)⟩
   | ok u k3 =>
    rw [q3] at H3
    have hk3:=expO_fwd (ts:=ts) (s:=[61]) (by decide) _ _ _ q3
    clear q3
    have H4:=Lib.hid (fun w h hE=>rowCt_any b A c ts ne f CtorV CtorV.stable CtorV.this (ctorO ts ne) (ctorO_fwd ts ne) ⟨#[124]⟩ 16384 (by decide) (Lib.hid (fun w k h hE hk=>ctor_any b A c ts ne f h0 (by omega) w k h hE hk)) w k3 h hE hk3.2)
    rw [show (ByteArray.mk #[124]).data.toList=[124] from rfl] at H4
    show Calls _ _ _ _ fun e w'=>EndsV b A c ts ne f ItemV w (match rowO (ctorO ts ne) ts [124] 16384 k3 with | .no i=>.no i | .ok cs k4=>.ok ⟨1,s,vs,cs,[],[],0,[],zeroG⟩ k4) e w'
    cases q4:rowO (ctorO ts ne) ts [124] 16384 k3 with
    | no i =>
     rw [q4] at H4
     go_enter Tryz.func124,Tryz.ntmps124
     go_wp2_with fail
     go_at_call 113
     refine (H1.out _ (HP.out.alloc _) (HE.out.move ((PFr.refl b w).alloc _))).mono ?_
     rintro e w1 ⟨v1,rfl,rfl,hp1,hf1⟩
     go_wp2_with fail
     go_at_call 141
     refine (H2.out _ hp1 ((HE.out.move ((PFr.refl b w).alloc _)).move hf1)).mono ?_
     rintro e w2 ⟨v2,rfl,hv2,hp2,hf2⟩
     obtain ⟨s1,s2,s3,rfl⟩:=hv2.slice
     have HV2:=Lib.hid hv2
     clear hv2
     have hs01:w.heap.size < w1.heap.size:=(by have:=hf1.size;simp at this;omega)
     have hs12:w1.heap.size≤w2.heap.size:=hf2.size
     have hsn1:¬ w.heap.size=w2.heap.size:=(by omega)
     have hsn2:¬ w2.heap.size=w.heap.size:=(by omega)
     rename_i hKK
     refine hKK _ _ ?_
     clear hKK
     refine wpList_plain rfl fun _ hKK=>?_
     have HKK:=Lib.hid hKK
     clear hKK
     go_simp
     refine HKK.out _ _ ?_
     clear HKK
     refine wpList_plain rfl fun _ hKK=>?_
     have HKK:=Lib.hid hKK
     clear hKK
     go_simp
     refine HKK.out _ _ ?_
     clear HKK
     have hal:(w2.alloc (.cells #[.int .i64 0,.string ⟨#[]⟩,.slice none 0 0,.slice none 0 0,.slice none 0 0,.slice none 0 0,.int .i64 0,.slice none 0 0,.int .i64 0,.int .i64 0,.string ⟨#[]⟩,.int .i64 0,.slice none 0 0,.int .i64 0,.string ⟨#[]⟩,.int .i64 0,.slice none 0 0,.string ⟨#[]⟩,.slice none 0 0,.slice none 0 0] 33)).there w2.heap.size 0 20:=there_all (heap_alloc_new w2 _)
     refine wpList_store_mid rfl 33 (.tmp 3) (.tmp 10) rfl w2.heap.size 0 #[.int .i64 1,.string (bs s),.slice s1 s2 s3,.slice none 0 0,.slice none 0 0,.slice none 0 0,.int .i64 0,.slice none 0 0,.int .i64 0,.int .i64 0,.string ⟨#[]⟩,.int .i64 0,.slice none 0 0,.int .i64 0,.string ⟨#[]⟩,.int .i64 0,.slice none 0 0,.string ⟨#[]⟩,.slice none 0 0,.slice none 0 0] rfl rfl hal infoItem (by simp [Value.oneCell']) ?_
     clear hal
     obtain ⟨u1,u2,u3,u4⟩:=newAll (T:=33) hp2 #[.int .i64 0,.string ⟨#[]⟩,.slice none 0 0,.slice none 0 0,.slice none 0 0,.slice none 0 0,.int .i64 0,.slice none 0 0,.int .i64 0,.int .i64 0,.string ⟨#[]⟩,.int .i64 0,.slice none 0 0,.int .i64 0,.string ⟨#[]⟩,.int .i64 0,.slice none 0 0,.string ⟨#[]⟩,.slice none 0 0,.slice none 0 0] #[.int .i64 1,.string (bs s),.slice s1 s2 s3,.slice none 0 0,.slice none 0 0,.slice none 0 0,.int .i64 0,.slice none 0 0,.int .i64 0,.int .i64 0,.string ⟨#[]⟩,.int .i64 0,.slice none 0 0,.int .i64 0,.string ⟨#[]⟩,.int .i64 0,.slice none 0 0,.string ⟨#[]⟩,.slice none 0 0,.slice none 0 0] rfl
     generalize World.setCells _ _ _ _=X at u1 u2 u3 u4 ⊢
     go_wp2_with fail
     go_at_call 96
     refine (H3.out _ u2 ((HE.out.move ((PFr.refl b w).alloc _)).move ((hf1.trans hf2).trans u3))).mono ?_
     rintro e w3 ⟨v3,rfl,rfl,hp3,hf3⟩
     go_wp2_with fail
     go_at_call 143
     refine (H4.out _ hp3 ((HE.out.move ((PFr.refl b w).alloc _)).move (((hf1.trans hf2).trans u3).trans hf3))).mono ?_
     rintro e w4 ⟨rfl,h2,h3⟩
     go_wp2_with fail
     exact ⟨rfl,rfl,h2,((PFr.refl b w).alloc _).trans (((hf1.trans hf2).trans u3).trans (hf3.trans h3))⟩
    | ok cs k4 =>
     rw [q4] at H4
     go_enter Tryz.func124,Tryz.ntmps124
     go_wp2_with fail
     go_at_call 113
     refine (H1.out _ (HP.out.alloc _) (HE.out.move ((PFr.refl b w).alloc _))).mono ?_
     rintro e w1 ⟨v1,rfl,rfl,hp1,hf1⟩
     go_wp2_with fail
     go_at_call 141
     refine (H2.out _ hp1 ((HE.out.move ((PFr.refl b w).alloc _)).move hf1)).mono ?_
     rintro e w2 ⟨v2,rfl,hv2,hp2,hf2⟩
     obtain ⟨s1,s2,s3,rfl⟩:=hv2.slice
     have HV2:=Lib.hid hv2
     clear hv2
     have hs01:w.heap.size < w1.heap.size:=(by have:=hf1.size;simp at this;omega)
     have hs12:w1.heap.size≤w2.heap.size:=hf2.size
     have hsn1:¬ w.heap.size=w2.heap.size:=(by omega)
     have hsn2:¬ w2.heap.size=w.heap.size:=(by omega)
     rename_i hKK
     refine hKK _ _ ?_
     clear hKK
     refine wpList_plain rfl fun _ hKK=>?_
     have HKK:=Lib.hid hKK
     clear hKK
     go_simp
     refine HKK.out _ _ ?_
     clear HKK
     refine wpList_plain rfl fun _ hKK=>?_
     have HKK:=Lib.hid hKK
     clear hKK
     go_simp
     refine HKK.out _ _ ?_
     clear HKK
     have hal:(w2.alloc (.cells #[.int .i64 0,.string ⟨#[]⟩,.slice none 0 0,.slice none 0 0,.slice none 0 0,.slice none 0 0,.int .i64 0,.slice none 0 0,.int .i64 0,.int .i64 0,.string ⟨#[]⟩,.int .i64 0,.slice none 0 0,.int .i64 0,.string ⟨#[]⟩,.int .i64 0,.slice none 0 0,.string ⟨#[]⟩,.slice none 0 0,.slice none 0 0] 33)).there w2.heap.size 0 20:=there_all (heap_alloc_new w2 _)
     refine wpList_store_mid rfl 33 (.tmp 3) (.tmp 10) rfl w2.heap.size 0 #[.int .i64 1,.string (bs s),.slice s1 s2 s3,.slice none 0 0,.slice none 0 0,.slice none 0 0,.int .i64 0,.slice none 0 0,.int .i64 0,.int .i64 0,.string ⟨#[]⟩,.int .i64 0,.slice none 0 0,.int .i64 0,.string ⟨#[]⟩,.int .i64 0,.slice none 0 0,.string ⟨#[]⟩,.slice none 0 0,.slice none 0 0] rfl rfl hal infoItem (by simp [Value.oneCell']) ?_
     clear hal
     obtain ⟨u1,u2,u3,u4⟩:=newAll (T:=33) hp2 #[.int .i64 0,.string ⟨#[]⟩,.slice none 0 0,.slice none 0 0,.slice none 0 0,.slice none 0 0,.int .i64 0,.slice none 0 0,.int .i64 0,.int .i64 0,.string ⟨#[]⟩,.int .i64 0,.slice none 0 0,.int .i64 0,.string ⟨#[]⟩,.int .i64 0,.slice none 0 0,.string ⟨#[]⟩,.slice none 0 0,.slice none 0 0] #[.int .i64 1,.string (bs s),.slice s1 s2 s3,.slice none 0 0,.slice none 0 0,.slice none 0 0,.int .i64 0,.slice none 0 0,.int .i64 0,.int .i64 0,.string ⟨#[]⟩,.int .i64 0,.slice none 0 0,.int .i64 0,.string ⟨#[]⟩,.int .i64 0,.slice none 0 0,.string ⟨#[]⟩,.slice none 0 0,.slice none 0 0] rfl
     generalize World.setCells _ _ _ _=X at u1 u2 u3 u4 ⊢
     go_wp2_with fail
     go_at_call 96
     refine (H3.out _ u2 ((HE.out.move ((PFr.refl b w).alloc _)).move ((hf1.trans hf2).trans u3))).mono ?_
     rintro e w3 ⟨v3,rfl,rfl,hp3,hf3⟩
     go_wp2_with fail
     go_at_call 143
     refine (H4.out _ hp3 ((HE.out.move ((PFr.refl b w).alloc _)).move (((hf1.trans hf2).trans u3).trans hf3))).mono ?_
     rintro e w4 ⟨v4,rfl,hv4,hp4,hf4⟩
     obtain ⟨r1,r2,r3,rfl⟩:=RowV.slice hv4
     have HV4:=Lib.hid hv4
     clear hv4
     have hgb:=((hf3.trans hf4).block w2.heap.size (by omega) (by omega)).trans u1
     have e3:=(Lib.cell_of_heap hgb 3).trans rfl
     have fz3:=Lib.frozen_of_heap hgb 3
     have hszi:w2.heap.size < w4.heap.size:=(Array.getElem?_eq_some_iff.1 hgb).1
     have HG:=Lib.hid hgb
     clear hgb
     have HB:=Lib.hid (boxI (((hf1.trans hf2).trans u3).trans (hf3.trans hf4)) hbw (heap_alloc_new w _))
     go_upto_region 4 with fail
     have hs23:=hf3.size
     have hs34:=hf4.size
     have hfi:PFr b (w.alloc (.cells #[.int .i64 0,.string ⟨#[]⟩,.slice none 0 0,.slice none 0 0,.slice none 0 0,.slice none 0 0,.int .i64 0,.slice none 0 0,.int .i64 0,.int .i64 0,.string ⟨#[]⟩,.int .i64 0,.slice none 0 0,.int .i64 0,.string ⟨#[]⟩,.int .i64 0,.slice none 0 0,.string ⟨#[]⟩,.slice none 0 0,.slice none 0 0] 33)) (w4.setCell ⟨w2.heap.size,3,none⟩ (.slice r1 r2 r3)):=((((hf1.trans hf2).trans u3).trans (hf3.trans hf4)).putNew (by simp;omega) 3 (.slice r1 r2 r3))
     have hall:∀ j,j ≠ w2.heap.size→(w4.setCell ⟨w2.heap.size,3,none⟩ (.slice r1 r2 r3)).heap[j]?=w4.heap[j]?:=fun j hj=>by rw [Below.heap_setCell _ _ _ j hj]
     have hsi:(w4.setCell ⟨w2.heap.size,3,none⟩ (.slice r1 r2 r3)).heap.size=w4.heap.size:=by simp [World.setCell]
     have hpi:Par (w4.setCell ⟨w2.heap.size,3,none⟩ (.slice r1 r2 r3)) b A c ts _ ne:=HP.out.fromFr (((PFr.refl b w).alloc _).trans hfi) hp4 (hall b (by omega))
     have hgi:(w4.setCell ⟨w2.heap.size,3,none⟩ (.slice r1 r2 r3)).heap[w2.heap.size]?=some (.cells #[.int .i64 1,.string (bs s),.slice s1 s2 s3,.slice r1 r2 r3,.slice none 0 0,.slice none 0 0,.int .i64 0,.slice none 0 0,.int .i64 0,.int .i64 0,.string ⟨#[]⟩,.int .i64 0,.slice none 0 0,.int .i64 0,.string ⟨#[]⟩,.int .i64 0,.slice none 0 0,.string ⟨#[]⟩,.slice none 0 0,.slice none 0 0] 33 (0,0)):=(blk_put _ _ 3 (.slice r1 r2 r3) HG.out (by show 3 < 20;decide))
     have hbi:(w4.setCell ⟨w2.heap.size,3,none⟩ (.slice r1 r2 r3)).heap[w.heap.size]?=some (.cells #[.int .i64 0,.string ⟨#[]⟩,.slice none 0 0,.slice none 0 0,.slice none 0 0,.slice none 0 0,.int .i64 0,.slice none 0 0,.int .i64 0,.int .i64 0,.string ⟨#[]⟩,.int .i64 0,.slice none 0 0,.int .i64 0,.string ⟨#[]⟩,.int .i64 0,.slice none 0 0,.string ⟨#[]⟩,.slice none 0 0,.slice none 0 0] 33 (0,0)):=(hall w.heap.size hsn1).trans HB.out
     obtain ⟨t1,t2,t3,t4,t5⟩:=putAll (T:=33) HP.out hfi hpi hbi #[.int .i64 1,.string (bs s),.slice s1 s2 s3,.slice r1 r2 r3,.slice none 0 0,.slice none 0 0,.int .i64 0,.slice none 0 0,.int .i64 0,.int .i64 0,.string ⟨#[]⟩,.int .i64 0,.slice none 0 0,.int .i64 0,.string ⟨#[]⟩,.int .i64 0,.slice none 0 0,.string ⟨#[]⟩,.slice none 0 0,.slice none 0 0] rfl
     have hth:(w4.setCell ⟨w2.heap.size,3,none⟩ (.slice r1 r2 r3)).there w.heap.size 0 20:=there_all hbi
     refine wp_region_list ?_
     refine wpList_load_mid rfl 33 (.tmp 3) rfl w2.heap.size 0 rfl _ _ (range_all hgi) Tryz.underlying33 rfl infoItem ?_
     refine wpList_store_mid rfl 33 (.tmp 2) (.tmp 18) rfl w.heap.size 0 #[.int .i64 1,.string (bs s),.slice s1 s2 s3,.slice r1 r2 r3,.slice none 0 0,.slice none 0 0,.int .i64 0,.slice none 0 0,.int .i64 0,.int .i64 0,.string ⟨#[]⟩,.int .i64 0,.slice none 0 0,.int .i64 0,.string ⟨#[]⟩,.int .i64 0,.slice none 0 0,.string ⟨#[]⟩,.slice none 0 0,.slice none 0 0] rfl rfl hth infoItem (by simp [Value.oneCell']) ?_
     generalize World.setCells _ _ _ _=X at t1 t2 t3 t4 t5 ⊢
     clear hgi hbi
     go_wp2
     refine bodyPost_ret (v:=.agg #[.int .i64 1,.string (bs s),.slice s1 s2 s3,.slice r1 r2 r3,.slice none 0 0,.slice none 0 0,.int .i64 0,.slice none 0 0,.int .i64 0,.int .i64 0,.string ⟨#[]⟩,.int .i64 0,.slice none 0 0,.int .i64 0,.string ⟨#[]⟩,.int .i64 0,.slice none 0 0,.string ⟨#[]⟩,.slice none 0 0,.slice none 0 0]) (results_cell_row Tryz.results124 _ X w.heap.size 33 #[.int .i64 1,.string (bs s),.slice s1 s2 s3,.slice r1 r2 r3,.slice none 0 0,.slice none 0 0,.int .i64 0,.slice none 0 0,.int .i64 0,.int .i64 0,.string ⟨#[]⟩,.int .i64 0,.slice none 0 0,.int .i64 0,.string ⟨#[]⟩,.int .i64 0,.slice none 0 0,.string ⟨#[]⟩,.slice none 0 0,.slice none 0 0] (0,0) _ rfl t1 Tryz.underlying33 rfl infoItem) rfl ⟨_,rfl,?_,t2,t3⟩
     have hsl:w2.heap.size < w3.heap.size:=by omega
     refine ⟨_,_,_,_,_,_,_,_,_,_,_,_,_,_,_,_,_,rfl,?_,.inr ?_,.inl ⟨rfl,rfl⟩,.inl ⟨rfl,rfl⟩,.inl ⟨rfl,rfl⟩,zeroG_holds _ _ _⟩
     ·refine ArgsV.wide (ArgsV.stable _ _ strH.stable _ _ _ _ _ _ HV2.out (fun j j1 j2=>?_)) (by omega) (by rw [t5,hsi];omega)
      exact (t4 j (by omega)).trans ((hall j (by omega)).trans (((hf3.trans hf4).block j (by omega) (by omega)).trans (u3.block j j2 (by omega))))
     ·refine RowV.wide (RowV.stable _ _ CtorV.stable _ _ _ _ _ _ HV4.out (fun j j1 j2=>?_)) (by omega) (by rw [t5,hsi];omega)
      exact (t4 j (by omega)).trans (hall j (by omega))
end Lx
end Go.Proofs.YtiljemkglhloeaaGreatDoor
namespace Go.Proofs.YtiljemkglhloeaaGreatDoor
set_option linter.unusedSimpArgs false
set_option linter.unusedVariables false
namespace Lx
open Go Go.RowKit
set_option maxRecDepth 100000 in
set_option maxHeartbeats 8000000 in
theorem modeItem_any (b:Nat) (A:Option Addr) (c:Nat) (ts:List Tok) (f:Nat→Addr) (ne:Int) (h0:0≤ne) (h1:ne≤50000) (w:World) (k:Nat) (h:Par w b A c ts k ne) (hE:PErrs w b f) (hk:k≤ts.length) :
  Calls Tryz.prog 127 #[.pointer (some ⟨b,0,none⟩)] w fun e w'=>EndsV b A c ts ne f ItemV w (modeItemO ts k) e w':=by
 have HP:=Lib.hid h
 have HE:=Lib.hid hE
 have hfw:=h.few
 have hbw:=h.lt
 unfold modeItemO
 clear h hE
 have H1:=Lib.hid (fun w h hE=>nameV_any w b A c ts k ne f h (by omega) hE)
 cases q1:nameO ts k with
 | no i =>
  rw [q1] at H1
  go_enter Tryz.func127,Tryz.ntmps127
  go_wp2_with fail
  go_at_call 113
  refine (H1.out _ (HP.out.alloc _) (HE.out.move ((PFr.refl b w).alloc _))).mono ?_
  rintro e w1 ⟨rfl,h2,h3⟩
  go_wp2_with fail
  exact ⟨rfl,rfl,h2,((PFr.refl b w).alloc _).trans h3⟩
 | ok s k1 =>
  rw [q1] at H1
  have hk1:=nameO_fwd ts _ _ _ q1
  clear q1
  have H2:=Lib.hid (fun w h hE=>argsBo_any b A c ts ne f boolV boolV.stable boolV.this (wayO ts) (wayO_fwd ts) (Lib.hid (fun w k h hE hk=>way_any w b A c ts k ne f h hk hE)) w k1 h hE hk1.2)
  show Calls _ _ _ _ fun e w'=>EndsV b A c ts ne f ItemV w (match argsO (wayO ts) ts k1 with | .no i=>.no i | .ok ws k2=>match expO ts k2 [105,115] with | .no i=>.no i | .ok _ k3=>match detO ts k3 with | .no i=>.no i | .ok d k4=>.ok ⟨3,s,[],[],[],ws,d,[],zeroG⟩ k4) e w'
  cases q2:argsO (wayO ts) ts k1 with
  | no i =>
   rw [q2] at H2
   go_enter Tryz.func127,Tryz.ntmps127
   go_wp2_with fail
   go_at_call 113
   refine (H1.out _ (HP.out.alloc _) (HE.out.move ((PFr.refl b w).alloc _))).mono ?_
   rintro e w1 ⟨v1,rfl,rfl,hp1,hf1⟩
   go_wp2_with fail
   go_at_call 146
   refine (H2.out _ hp1 ((HE.out.move ((PFr.refl b w).alloc _)).move hf1)).mono ?_
   rintro e w2 ⟨rfl,h2,h3⟩
   go_wp2_with fail
   exact ⟨rfl,rfl,h2,((PFr.refl b w).alloc _).trans (hf1.trans h3)⟩
  | ok ws k2 =>
   rw [q2] at H2
   have hk2:=argsO_fwd (wayO_fwd ts) q2 hk1.2
   clear q2
   have H3:=Lib.hid (fun w h hE=>expect_any w b A c ts k2 ne f ⟨#[105,115]⟩ h (by omega) hE)
   rw [expO_eq,show (ByteArray.mk #[105,115]).data.toList=[105,115] from rfl] at H3
   show Calls _ _ _ _ fun e w'=>EndsV b A c ts ne f ItemV w (match expO ts k2 [105,115] with | .no i=>.no i | .ok _ k3=>match detO ts k3 with | .no i=>.no i | .ok d k4=>.ok ⟨3,s,[],[],[],ws,d,[],zeroG⟩ k4) e w'
   cases q3:expO ts k2 [105,115] with
   | no i =>
    rw [q3] at H3
    go_enter Tryz.func127,Tryz.ntmps127
    go_wp2_with fail
    go_at_call 113
    refine (H1.out _ (HP.out.alloc _) (HE.out.move ((PFr.refl b w).alloc _))).mono ?_
    rintro e w1 ⟨v1,rfl,rfl,hp1,hf1⟩
    go_wp2_with fail
    go_at_call 146
    refine (H2.out _ hp1 ((HE.out.move ((PFr.refl b w).alloc _)).move hf1)).mono ?_
    rintro e w2 ⟨v2,rfl,hv2,hp2,hf2⟩
    obtain ⟨s1,s2,s3,rfl⟩:=hv2.slice
    have HV2:=Lib.hid hv2
    clear hv2
    have hs01:w.heap.size < w1.heap.size:=(by have:=hf1.size;simp at this;omega)
    have hs12:w1.heap.size≤w2.heap.size:=hf2.size
    have hsn1:¬ w.heap.size=w2.heap.size:=(by omega)
    have hsn2:¬ w2.heap.size=w.heap.size:=(by omega)
    rename_i hKK
    refine hKK _ _ ?_
    clear hKK
    refine wpList_plain rfl fun _ hKK=>?_
    have HKK:=Lib.hid hKK
    clear hKK
    go_simp
    refine HKK.out _ _ ?_
    clear HKK
    refine wpList_plain rfl fun _ hKK=>?_
    have HKK:=Lib.hid hKK
    clear hKK
    go_simp
    refine HKK.out _ _ ?_
    clear HKK
    have hal:(w2.alloc (.cells #[.int .i64 0,.string ⟨#[]⟩,.slice none 0 0,.slice none 0 0,.slice none 0 0,.slice none 0 0,.int .i64 0,.slice none 0 0,.int .i64 0,.int .i64 0,.string ⟨#[]⟩,.int .i64 0,.slice none 0 0,.int .i64 0,.string ⟨#[]⟩,.int .i64 0,.slice none 0 0,.string ⟨#[]⟩,.slice none 0 0,.slice none 0 0] 33)).there w2.heap.size 0 20:=there_all (heap_alloc_new w2 _)
    refine wpList_store_mid rfl 33 (.tmp 3) (.tmp 10) rfl w2.heap.size 0 #[.int .i64 3,.string (bs s),.slice none 0 0,.slice none 0 0,.slice none 0 0,.slice s1 s2 s3,.int .i64 0,.slice none 0 0,.int .i64 0,.int .i64 0,.string ⟨#[]⟩,.int .i64 0,.slice none 0 0,.int .i64 0,.string ⟨#[]⟩,.int .i64 0,.slice none 0 0,.string ⟨#[]⟩,.slice none 0 0,.slice none 0 0] rfl rfl hal infoItem (by simp [Value.oneCell']) ?_
    clear hal
    obtain ⟨u1,u2,u3,u4⟩:=newAll (T:=33) hp2 #[.int .i64 0,.string ⟨#[]⟩,.slice none 0 0,.slice none 0 0,.slice none 0 0,.slice none 0 0,.int .i64 0,.slice none 0 0,.int .i64 0,.int .i64 0,.string ⟨#[]⟩,.int .i64 0,.slice none 0 0,.int .i64 0,.string ⟨#[]⟩,.int .i64 0,.slice none 0 0,.string ⟨#[]⟩,.slice none 0 0,.slice none 0 0] #[.int .i64 3,.string (bs s),.slice none 0 0,.slice none 0 0,.slice none 0 0,.slice s1 s2 s3,.int .i64 0,.slice none 0 0,.int .i64 0,.int .i64 0,.string ⟨#[]⟩,.int .i64 0,.slice none 0 0,.int .i64 0,.string ⟨#[]⟩,.int .i64 0,.slice none 0 0,.string ⟨#[]⟩,.slice none 0 0,.slice none 0 0] rfl
    generalize World.setCells _ _ _ _=X at u1 u2 u3 u4 ⊢
    go_wp2_with fail
    go_at_call 96
    refine (H3.out _ u2 ((HE.out.move ((PFr.refl b w).alloc _)).move ((hf1.trans hf2).trans u3))).mono ?_
    rintro e w3 ⟨rfl,h2,h3⟩
    go_wp2_with fail
    exact ⟨rfl,rfl,h2,((PFr.refl b w).alloc _).trans (((hf1.trans hf2).trans u3).trans h3)⟩
   | ok u k3 =>
    rw [q3] at H3
    have hk3:=expO_fwd (ts:=ts) (s:=[105,115]) (by decide) _ _ _ q3
    clear q3
    have H4:=Lib.hid (fun w h hE=>det_any w b A c ts k3 ne f h hk3.2 hE)
    show Calls _ _ _ _ fun e w'=>EndsV b A c ts ne f ItemV w (match detO ts k3 with | .no i=>.no i | .ok d k4=>.ok ⟨3,s,[],[],[],ws,d,[],zeroG⟩ k4) e w'
    cases q4:detO ts k3 with
    | no i =>
     rw [q4] at H4
     go_enter Tryz.func127,Tryz.ntmps127
     go_wp2_with fail
     go_at_call 113
     refine (H1.out _ (HP.out.alloc _) (HE.out.move ((PFr.refl b w).alloc _))).mono ?_
     rintro e w1 ⟨v1,rfl,rfl,hp1,hf1⟩
     go_wp2_with fail
     go_at_call 146
     refine (H2.out _ hp1 ((HE.out.move ((PFr.refl b w).alloc _)).move hf1)).mono ?_
     rintro e w2 ⟨v2,rfl,hv2,hp2,hf2⟩
     obtain ⟨s1,s2,s3,rfl⟩:=hv2.slice
     have HV2:=Lib.hid hv2
     clear hv2
     have hs01:w.heap.size < w1.heap.size:=(by have:=hf1.size;simp at this;omega)
     have hs12:w1.heap.size≤w2.heap.size:=hf2.size
     have hsn1:¬ w.heap.size=w2.heap.size:=(by omega)
     have hsn2:¬ w2.heap.size=w.heap.size:=(by omega)
     rename_i hKK
     refine hKK _ _ ?_
     clear hKK
     refine wpList_plain rfl fun _ hKK=>?_
     have HKK:=Lib.hid hKK
     clear hKK
     go_simp
     refine HKK.out _ _ ?_
     clear HKK
     refine wpList_plain rfl fun _ hKK=>?_
     have HKK:=Lib.hid hKK
     clear hKK
     go_simp
     refine HKK.out _ _ ?_
     clear HKK
     have hal:(w2.alloc (.cells #[.int .i64 0,.string ⟨#[]⟩,.slice none 0 0,.slice none 0 0,.slice none 0 0,.slice none 0 0,.int .i64 0,.slice none 0 0,.int .i64 0,.int .i64 0,.string ⟨#[]⟩,.int .i64 0,.slice none 0 0,.int .i64 0,.string ⟨#[]⟩,.int .i64 0,.slice none 0 0,.string ⟨#[]⟩,.slice none 0 0,.slice none 0 0] 33)).there w2.heap.size 0 20:=there_all (heap_alloc_new w2 _)
     refine wpList_store_mid rfl 33 (.tmp 3) (.tmp 10) rfl w2.heap.size 0 #[.int .i64 3,.string (bs s),.slice none 0 0,.slice none 0 0,.slice none 0 0,.slice s1 s2 s3,.int .i64 0,.slice none 0 0,.int .i64 0,.int .i64 0,.string ⟨#[]⟩,.int .i64 0,.slice none 0 0,.int .i64 0,.string ⟨#[]⟩,.int .i64 0,.slice none 0 0,.string ⟨#[]⟩,.slice none 0 0,.slice none 0 0] rfl rfl hal infoItem (by simp [Value.oneCell']) ?_
     clear hal
     obtain ⟨u1,u2,u3,u4⟩:=newAll (T:=33) hp2 #[.int .i64 0,.string ⟨#[]⟩,.slice none 0 0,.slice none 0 0,.slice none 0 0,.slice none 0 0,.int .i64 0,.slice none 0 0,.int .i64 0,.int .i64 0,.string ⟨#[]⟩,.int .i64 0,.slice none 0 0,.int .i64 0,.string ⟨#[]⟩,.int .i64 0,.slice none 0 0,.string ⟨#[]⟩,.slice none 0 0,.slice none 0 0] #[.int .i64 3,.string (bs s),.slice none 0 0,.slice none 0 0,.slice none 0 0,.slice s1 s2 s3,.int .i64 0,.slice none 0 0,.int .i64 0,.int .i64 0,.string ⟨#[]⟩,.int .i64 0,.slice none 0 0,.int .i64 0,.string ⟨#[]⟩,.int .i64 0,.slice none 0 0,.string ⟨#[]⟩,.slice none 0 0,.slice none 0 0] rfl
     generalize World.setCells _ _ _ _=X at u1 u2 u3 u4 ⊢
     go_wp2_with fail
     go_at_call 96
     refine (H3.out _ u2 ((HE.out.move ((PFr.refl b w).alloc _)).move ((hf1.trans hf2).trans u3))).mono ?_
     rintro e w3 ⟨v3,rfl,rfl,hp3,hf3⟩
     go_wp2_with fail
     go_at_call 148
     refine (H4.out _ hp3 ((HE.out.move ((PFr.refl b w).alloc _)).move (((hf1.trans hf2).trans u3).trans hf3))).mono ?_
     rintro e w4 ⟨rfl,h2,h3⟩
     go_wp2_with fail
     exact ⟨rfl,rfl,h2,((PFr.refl b w).alloc _).trans (((hf1.trans hf2).trans u3).trans (hf3.trans h3))⟩
    | ok d k4 =>
     rw [q4] at H4
     go_enter Tryz.func127,Tryz.ntmps127
     go_wp2_with fail
     go_at_call 113
     refine (H1.out _ (HP.out.alloc _) (HE.out.move ((PFr.refl b w).alloc _))).mono ?_
     rintro e w1 ⟨v1,rfl,rfl,hp1,hf1⟩
     go_wp2_with fail
     go_at_call 146
     refine (H2.out _ hp1 ((HE.out.move ((PFr.refl b w).alloc _)).move hf1)).mono ?_
     rintro e w2 ⟨v2,rfl,hv2,hp2,hf2⟩
     obtain ⟨s1,s2,s3,rfl⟩:=hv2.slice
     have HV2:=Lib.hid hv2
     clear hv2
     have hs01:w.heap.size < w1.heap.size:=(by have:=hf1.size;simp at this;omega)
     have hs12:w1.heap.size≤w2.heap.size:=hf2.size
     have hsn1:¬ w.heap.size=w2.heap.size:=(by omega)
     have hsn2:¬ w2.heap.size=w.heap.size:=(by omega)
     rename_i hKK
     refine hKK _ _ ?_
     clear hKK
     refine wpList_plain rfl fun _ hKK=>?_
     have HKK:=Lib.hid hKK
     clear hKK
     go_simp
     refine HKK.out _ _ ?_
     clear HKK
     refine wpList_plain rfl fun _ hKK=>?_
     have HKK:=Lib.hid hKK
     clear hKK
     go_simp
     refine HKK.out _ _ ?_
     clear HKK
     have hal:(w2.alloc (.cells #[.int .i64 0,.string ⟨#[]⟩,.slice none 0 0,.slice none 0 0,.slice none 0 0,.slice none 0 0,.int .i64 0,.slice none 0 0,.int .i64 0,.int .i64 0,.string ⟨#[]⟩,.int .i64 0,.slice none 0 0,.int .i64 0,.string ⟨#[]⟩,.int .i64 0,.slice none 0 0,.string ⟨#[]⟩,.slice none 0 0,.slice none 0 0] 33)).there w2.heap.size 0 20:=there_all (heap_alloc_new w2 _)
     refine wpList_store_mid rfl 33 (.tmp 3) (.tmp 10) rfl w2.heap.size 0 #[.int .i64 3,.string (bs s),.slice none 0 0,.slice none 0 0,.slice none 0 0,.slice s1 s2 s3,.int .i64 0,.slice none 0 0,.int .i64 0,.int .i64 0,.string ⟨#[]⟩,.int .i64 0,.slice none 0 0,.int .i64 0,.string ⟨#[]⟩,.int .i64 0,.slice none 0 0,.string ⟨#[]⟩,.slice none 0 0,.slice none 0 0] rfl rfl hal infoItem (by simp [Value.oneCell']) ?_
     clear hal
     obtain ⟨u1,u2,u3,u4⟩:=newAll (T:=33) hp2 #[.int .i64 0,.string ⟨#[]⟩,.slice none 0 0,.slice none 0 0,.slice none 0 0,.slice none 0 0,.int .i64 0,.slice none 0 0,.int .i64 0,.int .i64 0,.string ⟨#[]⟩,.int .i64 0,.slice none 0 0,.int .i64 0,.string ⟨#[]⟩,.int .i64 0,.slice none 0 0,.string ⟨#[]⟩,.slice none 0 0,.slice none 0 0] #[.int .i64 3,.string (bs s),.slice none 0 0,.slice none 0 0,.slice none 0 0,.slice s1 s2 s3,.int .i64 0,.slice none 0 0,.int .i64 0,.int .i64 0,.string ⟨#[]⟩,.int .i64 0,.slice none 0 0,.int .i64 0,.string ⟨#[]⟩,.int .i64 0,.slice none 0 0,.string ⟨#[]⟩,.slice none 0 0,.slice none 0 0] rfl
     generalize World.setCells _ _ _ _=X at u1 u2 u3 u4 ⊢
     go_wp2_with fail
     go_at_call 96
     refine (H3.out _ u2 ((HE.out.move ((PFr.refl b w).alloc _)).move ((hf1.trans hf2).trans u3))).mono ?_
     rintro e w3 ⟨v3,rfl,rfl,hp3,hf3⟩
     go_wp2_with fail
     go_at_call 148
     refine (H4.out _ hp3 ((HE.out.move ((PFr.refl b w).alloc _)).move (((hf1.trans hf2).trans u3).trans hf3))).mono ?_
     rintro e w4 ⟨v4,rfl,rfl,hp4,hf4⟩
     have hgb:=((hf3.trans hf4).block w2.heap.size (by omega) (by omega)).trans u1
     have e6:=(Lib.cell_of_heap hgb 6).trans rfl
     have fz6:=Lib.frozen_of_heap hgb 6
     have hszi:w2.heap.size < w4.heap.size:=(Array.getElem?_eq_some_iff.1 hgb).1
     have HG:=Lib.hid hgb
     clear hgb
     have HB:=Lib.hid (boxI (((hf1.trans hf2).trans u3).trans (hf3.trans hf4)) hbw (heap_alloc_new w _))
     go_upto_region 4 with fail
     have hs23:=hf3.size
     have hs34:=hf4.size
     have hfi:PFr b (w.alloc (.cells #[.int .i64 0,.string ⟨#[]⟩,.slice none 0 0,.slice none 0 0,.slice none 0 0,.slice none 0 0,.int .i64 0,.slice none 0 0,.int .i64 0,.int .i64 0,.string ⟨#[]⟩,.int .i64 0,.slice none 0 0,.int .i64 0,.string ⟨#[]⟩,.int .i64 0,.slice none 0 0,.string ⟨#[]⟩,.slice none 0 0,.slice none 0 0] 33)) (w4.setCell ⟨w2.heap.size,6,none⟩ (.int .i64 d)):=((((hf1.trans hf2).trans u3).trans (hf3.trans hf4)).putNew (by simp;omega) 6 (.int .i64 d))
     have hall:∀ j,j ≠ w2.heap.size→(w4.setCell ⟨w2.heap.size,6,none⟩ (.int .i64 d)).heap[j]?=w4.heap[j]?:=fun j hj=>by rw [Below.heap_setCell _ _ _ j hj]
     have hsi:(w4.setCell ⟨w2.heap.size,6,none⟩ (.int .i64 d)).heap.size=w4.heap.size:=by simp [World.setCell]
     have hpi:Par (w4.setCell ⟨w2.heap.size,6,none⟩ (.int .i64 d)) b A c ts _ ne:=HP.out.fromFr (((PFr.refl b w).alloc _).trans hfi) hp4 (hall b (by omega))
     have hgi:(w4.setCell ⟨w2.heap.size,6,none⟩ (.int .i64 d)).heap[w2.heap.size]?=some (.cells #[.int .i64 3,.string (bs s),.slice none 0 0,.slice none 0 0,.slice none 0 0,.slice s1 s2 s3,.int .i64 d,.slice none 0 0,.int .i64 0,.int .i64 0,.string ⟨#[]⟩,.int .i64 0,.slice none 0 0,.int .i64 0,.string ⟨#[]⟩,.int .i64 0,.slice none 0 0,.string ⟨#[]⟩,.slice none 0 0,.slice none 0 0] 33 (0,0)):=(blk_put _ _ 6 (.int .i64 d) HG.out (by show 6 < 20;decide))
     have hbi:(w4.setCell ⟨w2.heap.size,6,none⟩ (.int .i64 d)).heap[w.heap.size]?=some (.cells #[.int .i64 0,.string ⟨#[]⟩,.slice none 0 0,.slice none 0 0,.slice none 0 0,.slice none 0 0,.int .i64 0,.slice none 0 0,.int .i64 0,.int .i64 0,.string ⟨#[]⟩,.int .i64 0,.slice none 0 0,.int .i64 0,.string ⟨#[]⟩,.int .i64 0,.slice none 0 0,.string ⟨#[]⟩,.slice none 0 0,.slice none 0 0] 33 (0,0)):=(hall w.heap.size hsn1).trans HB.out
     obtain ⟨t1,t2,t3,t4,t5⟩:=putAll (T:=33) HP.out hfi hpi hbi #[.int .i64 3,.string (bs s),.slice none 0 0,.slice none 0 0,.slice none 0 0,.slice s1 s2 s3,.int .i64 d,.slice none 0 0,.int .i64 0,.int .i64 0,.string ⟨#[]⟩,.int .i64 0,.slice none 0 0,.int .i64 0,.string ⟨#[]⟩,.int .i64 0,.slice none 0 0,.string ⟨#[]⟩,.slice none 0 0,.slice none 0 0] rfl
     have hth:(w4.setCell ⟨w2.heap.size,6,none⟩ (.int .i64 d)).there w.heap.size 0 20:=there_all hbi
     refine wp_region_list ?_
     refine wpList_load_mid rfl 33 (.tmp 3) rfl w2.heap.size 0 rfl _ _ (range_all hgi) Tryz.underlying33 rfl infoItem ?_
     refine wpList_store_mid rfl 33 (.tmp 2) (.tmp 16) rfl w.heap.size 0 #[.int .i64 3,.string (bs s),.slice none 0 0,.slice none 0 0,.slice none 0 0,.slice s1 s2 s3,.int .i64 d,.slice none 0 0,.int .i64 0,.int .i64 0,.string ⟨#[]⟩,.int .i64 0,.slice none 0 0,.int .i64 0,.string ⟨#[]⟩,.int .i64 0,.slice none 0 0,.string ⟨#[]⟩,.slice none 0 0,.slice none 0 0] rfl rfl hth infoItem (by simp [Value.oneCell']) ?_
     generalize World.setCells _ _ _ _=X at t1 t2 t3 t4 t5 ⊢
     clear hgi hbi
     go_wp2
     refine bodyPost_ret (v:=.agg #[.int .i64 3,.string (bs s),.slice none 0 0,.slice none 0 0,.slice none 0 0,.slice s1 s2 s3,.int .i64 d,.slice none 0 0,.int .i64 0,.int .i64 0,.string ⟨#[]⟩,.int .i64 0,.slice none 0 0,.int .i64 0,.string ⟨#[]⟩,.int .i64 0,.slice none 0 0,.string ⟨#[]⟩,.slice none 0 0,.slice none 0 0]) (results_cell_row Tryz.results127 _ X w.heap.size 33 #[.int .i64 3,.string (bs s),.slice none 0 0,.slice none 0 0,.slice none 0 0,.slice s1 s2 s3,.int .i64 d,.slice none 0 0,.int .i64 0,.int .i64 0,.string ⟨#[]⟩,.int .i64 0,.slice none 0 0,.int .i64 0,.string ⟨#[]⟩,.int .i64 0,.slice none 0 0,.string ⟨#[]⟩,.slice none 0 0,.slice none 0 0] (0,0) _ rfl t1 Tryz.underlying33 rfl infoItem) rfl ⟨_,rfl,?_,t2,t3⟩
     have hsl:w2.heap.size < w3.heap.size:=by omega
     refine ⟨_,_,_,_,_,_,_,_,_,_,_,_,_,_,_,_,_,rfl,.inl ⟨rfl,rfl⟩,.inl ⟨rfl,rfl⟩,.inl ⟨rfl,rfl⟩,?_,.inl ⟨rfl,rfl⟩,zeroG_holds _ _ _⟩
     refine ArgsV.wide (ArgsV.stable _ _ boolV.stable _ _ _ _ _ _ HV2.out (fun j j1 j2=>?_)) (by omega) (by rw [t5,hsi];omega)
     exact (t4 j (by omega)).trans ((hall j (by omega)).trans (((hf3.trans hf4).block j (by omega) (by omega)).trans (u3.block j j2 (by omega))))
end Lx
end Go.Proofs.YtiljemkglhloeaaGreatDoor
