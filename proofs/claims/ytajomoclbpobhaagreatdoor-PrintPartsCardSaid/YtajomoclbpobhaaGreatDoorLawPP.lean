/- The walk of the statement PrintParts: it returns true. Conditions: the error variables and the tables of words hold what they should. -/
import Derived.Test.YtajomoclbpobhaaGreatDoorPRt
import Derived.Test.YtajomoclbpobhaaGreatDoorPrN
import Derived.Test.YtajomoclbpobhaaGreatDoorTextT
import Derived.Test.YtajomoclbpobhaaGreatDoorTextG
import Derived.Test.YtajomoclbpobhaaGreatDoorTextY
import Derived.Test.YtajomoclbpobhaaGreatDoorSameA
import Derived.Deep.Cut
namespace Go.Proofs.YtajomoclbpobhaaGreatDoor
set_option linter.unusedSimpArgs false
set_option linter.unusedVariables false
namespace Lx
open Go Go.RowKit
theorem eqlP_same (a:Addr) (W:World):(binOp .eql 46 (errP a) (errP a)).run Tryz.prog W=.ok (.bool true) W:=by
 obtain ⟨i,hi,hc⟩:∃ i,Tryz.prog.info? 203=some i∧i.comparable=true:=by
  have h:(Tryz.prog.info? 203).map (·.comparable)=some true:=by kernel_rfl
  cases h2:Tryz.prog.info? 203 with
  | none=>rw [h2] at h;cases h
  | some i=>rw [h2] at h;exact ⟨i,rfl,by simpa using h⟩
 obtain ⟨j,hj⟩:∃ j,Tryz.prog.info? 205=some j:=by
  have h:(Tryz.prog.info? 205).isSome=true:=by kernel_rfl
  exact Option.isSome_iff_exists.1 h
 exact run_eql_iface_ptr_same W a Tryz.underlying46 Tryz.underlying203 hi hc hj
theorem neqS_same (a:Addr) (W:World):(binOp .neq 46 (errP a) (errP a)).run Tryz.prog W=.ok (.bool false) W:=by
 have h:=eqlP_same a W
 simp only [binOp,Sem.run_bind,Sem.run_pure] at h ⊢
 generalize Sem.run Tryz.prog (Op.equal 46 (errP a) (errP a)) W=r at h ⊢
 cases r <;> simp_all [Result.andThen]
/-- What a text comes to, read once: an error, and the value of no shape but its own; or a thing, and no error. -/
theorem textTe_two {f:Nat→Addr} {w w':World} {v er:Value} {s:ByteArray} (h:TextR f (TermV 66) (.agg #[.int .i64 0,.string ⟨#[]⟩,.int .i64 0,.slice none 0 0]) w w' v er (textO rdTe s)):(∃ a1 a2 a3 a4 a5 a6,v=.agg #[.int .i64 a1,.string a2,.int .i64 a3,.slice a4 a5 a6])∧((∃ i,textO rdTe s=.no i∧er=errP (f i)) ∨ ∃ x k,textO rdTe s=.ok x k∧er=.nilIface∧TermV 66 x v w.heap.size w'.heap.size w'):=by
 cases ho:textO rdTe s with
 | no i =>
  rw [ho] at h
  obtain ⟨rfl,rfl⟩:=h
  exact ⟨⟨_,_,_,_,_,_,rfl⟩,.inl ⟨i,rfl,rfl⟩⟩
 | ok x k =>
  rw [ho] at h
  obtain ⟨rfl,hv⟩:=h
  exact ⟨TermV.thisTe 66 _ _ _ _ _ hv,.inr ⟨x,k,rfl,rfl,hv⟩⟩
/-- What a text comes to, read once: an error, and the value of no shape but its own; or a thing, and no error. -/
theorem textGo_two {f:Nat→Addr} {w w':World} {v er:Value} {s:ByteArray} (h:TextR f (GoalV 134) (.agg #[.int .i64 0,.int .i64 0,.string ⟨#[]⟩,.int .i64 0,.slice none 0 0,.int .i64 0,.string ⟨#[]⟩,.int .i64 0,.slice none 0 0,.string ⟨#[]⟩,.slice none 0 0,.slice none 0 0]) w w' v er (textO rdGo s)):(∃ a1 a2 a3 a4 a5 a6 a7 a8 a9 a10 a11 a12 a13 a14 a15 a16 a17 a18 a19 a20,v=.agg #[.int .i64 a1,.int .i64 a2,.string a3,.int .i64 a4,.slice a5 a6 a7,.int .i64 a8,.string a9,.int .i64 a10,.slice a11 a12 a13,.string a14,.slice a15 a16 a17,.slice a18 a19 a20])∧((∃ i,textO rdGo s=.no i∧er=errP (f i)) ∨ ∃ x k,textO rdGo s=.ok x k∧er=.nilIface∧GoalV 134 x v w.heap.size w'.heap.size w'):=by
 cases ho:textO rdGo s with
 | no i =>
  rw [ho] at h
  obtain ⟨rfl,rfl⟩:=h
  exact ⟨⟨_,_,_,_,_,_,_,_,_,_,_,_,_,_,_,_,_,_,_,_,rfl⟩,.inl ⟨i,rfl,rfl⟩⟩
 | ok x k =>
  rw [ho] at h
  obtain ⟨rfl,hv⟩:=h
  exact ⟨GoalV.this 134 _ _ _ _ _ hv,.inr ⟨x,k,rfl,rfl,hv⟩⟩
/-- What a text comes to, read once: an error, and the value of no shape but its own; or a thing, and no error. -/
theorem textTy_two {f:Nat→Addr} {w w':World} {v er:Value} {s:ByteArray} (h:TextR f (TypeV 66) (.agg #[.bool false,.string ⟨#[]⟩,.slice none 0 0]) w w' v er (textO rdTy s)):(∃ a1 a2 a3 a4 a5,v=.agg #[.bool a1,.string a2,.slice a3 a4 a5])∧((∃ i,textO rdTy s=.no i∧er=errP (f i)) ∨ ∃ x k,textO rdTy s=.ok x k∧er=.nilIface∧TypeV 66 x v w.heap.size w'.heap.size w'):=by
 cases ho:textO rdTy s with
 | no i =>
  rw [ho] at h
  obtain ⟨rfl,rfl⟩:=h
  exact ⟨⟨_,_,_,_,_,rfl⟩,.inl ⟨i,rfl,rfl⟩⟩
 | ok x k =>
  rw [ho] at h
  obtain ⟨rfl,hv⟩:=h
  exact ⟨TypeV.thisTy 66 _ _ _ _ _ hv,.inr ⟨x,k,rfl,rfl,hv⟩⟩
theorem eqn_err (a:Addr) (W:World):(binOp .eql 46 (errP a) .nilIface).run Tryz.prog W=.ok (.bool false) W:=by
 first | (go_simp;done) | kernel_rfl | rfl
theorem eqn_errR (a:Addr) (W:World):(binOp .eql 46 .nilIface (errP a)).run Tryz.prog W=.ok (.bool false) W:=by
 first | (go_simp;done) | kernel_rfl | rfl
theorem eqg_err (a:Addr) (n:Nat) (W:World):(eqGuard .eql 46 (.tmp n) (.const .nilIface) (errP a) .nilIface).run Tryz.prog W=.ok () W:=by
 first | (go_simp;done) | kernel_rfl | rfl
theorem eqg_nil (n:Nat) (W:World):(eqGuard .eql 46 (.tmp n) (.const .nilIface) .nilIface .nilIface).run Tryz.prog W=.ok () W:=by
 first | (go_simp;done) | kernel_rfl | rfl
theorem eqn_nil (W:World):(binOp .eql 46 .nilIface .nilIface).run Tryz.prog W=.ok (.bool true) W:=by
 first | (go_simp;done) | kernel_rfl | rfl
set_option maxRecDepth 100000 in
set_option maxHeartbeats 2000000 in
theorem lawPrParts_any (s:ByteArray) (w:World) (h:PEnv w) (f:Nat→Addr) (h4:Errs4 w f) :
  Calls Tryz.prog 5 #[.string s] w fun e w'=>e=.returned (.bool true)∧Below w.heap.size w w':=by
 have HA:=Lib.hid (palive_any w h f h4)
 have HW:=Lib.hid h
 have HE:=Lib.hid h4
 have HTe:=Lib.hid (fun s w hE h4=>textTe_any s w hE f h4)
 have HGo:=Lib.hid (fun s w hE h4=>textGo_any s w hE f h4)
 have HTy:=Lib.hid (fun s w hE h4=>textTy_any s w hE f h4)
 clear h h4
 go_enter Tryz.func5,Tryz.ntmps5
 go_wp2_with fail
 go_at_call 9
 refine HA.out.mono ?_
 rintro e w1 ⟨rfl,hb1⟩
 have HB1:=Lib.hid hb1
 clear hb1 HA
 go_wp2_with fail
 go_at_call 22
 refine (HTe.out s _ (HW.out.below HB1.out).env (HE.out.below HB1.out)).mono ?_
 rintro e w2 ⟨v,er,rfl,hb,ht⟩
 obtain ⟨⟨a1,a2,a3,a4,a5,a6,rfl⟩,h2⟩:=textTe_two ht
 have HB2:=Lib.hid (HB1.out.trans (hb.mono HB1.out.size))
 have hs2:=hb.size
 clear hb ht
 obtain ⟨cb,hcb,hgd,hq⟩:∃ cb,((cb=true∧er=.nilIface) ∨ (cb=false∧er ≠ .nilIface))∧(∀ n W,(eqGuard .eql 46 (.tmp n) (.const .nilIface) er .nilIface).run Tryz.prog W=.ok () W)∧∀ W,(binOp .eql 46 er .nilIface).run Tryz.prog W=.ok (.bool cb) W:=by
  rcases h2 with ⟨i,_,rfl⟩ | ⟨x,k,_,rfl,_⟩
  ·exact ⟨false,.inr ⟨rfl,by simp⟩,fun n W=>eqg_err (f i) n W,fun W=>eqn_err (f i) W⟩
  ·exact ⟨true,.inl ⟨rfl,rfl⟩,fun n W=>eqg_nil n W,fun W=>eqn_nil W⟩
 have HBZ:=Lib.hid (HB2.out.alloc (HB2.out.size) (.cells #[.int .i64 a1,.string a2,.int .i64 a3,.slice a4 a5 a6] 28))
 go_upto_if 23 with fail
 go_cut [] from 3 (fun wc=>Hid (Below w.heap.size w wc))
 case first =>
  rcases hcb with ⟨rfl,rfl⟩ | ⟨rfl,hne⟩
  ·rcases h2 with ⟨i,_,hx⟩ | ⟨x,k,ho,_,hv⟩
   ·cases hx
   ·clear HBZ hq hgd
    have hrd:=term_round ho
    obtain ⟨hok,hr⟩:=hrd
    have HBA:=Lib.hid (HB2.out.alloc (HB2.out.size) (.cells #[.int .i64 a1,.string a2,.int .i64 a3,.slice a4 a5 a6] 28))
    have HVA:=Lib.hid (stays (TermV.stable 66) hv ((Below.refl w2.heap.size w2).alloc (Nat.le_refl _) (.cells #[.int .i64 a1,.string a2,.int .i64 a3,.slice a4 a5 a6] 28)) (Nat.le_refl _))
    have hz:(w2.alloc (.cells #[.int .i64 a1,.string a2,.int .i64 a3,.slice a4 a5 a6] 28)).heap.size=w2.heap.size+1:=by simp
    have HR:=Lib.hid hr
    clear hv hr
    go_wp2_with fail
    go_at_call 14
    refine (printTe_any x _ _ _ _ (HW.out.below HBA.out) HVA.out hok (by omega) (by have:=HR.out.short;omega) HR.out.some).mono ?_
    rintro e w3 ⟨rfl,hb⟩
    have HB3:=Lib.hid (HBA.out.trans (hb.mono HBA.out.size))
    have HX3:=Lib.hid ((hb.block w2.heap.size (by omega)).trans (heap_alloc_new w2 _))
    have HV3:=Lib.hid (stays (TermV.stable 66) HVA.out hb (by omega))
    have hs3:=hb.size
    clear hb HVA HBA
    go_wp2_with fail
    go_at_call 22
    refine (HTe.out _ _ (HW.out.below HB3.out).env (HE.out.below HB3.out)).mono ?_
    rintro e w4 ⟨v2,er2,rfl,hb,ht⟩
    have HB4:=Lib.hid (HB3.out.trans (hb.mono HB3.out.size))
    have HX4:=Lib.hid ((hb.block w2.heap.size (by omega)).trans HX3.out)
    have HV4:=Lib.hid (stays (TermV.stable 66) HV3.out hb (by omega))
    have hs4:=hb.size
    have hcl:=(HE.out.below HB4.out).large
    have hgl:=World.block_lt_of_cell? _ _ hcl
    have hcl2:∀ o,(w4.alloc o).cell? ⟨0,0,none⟩=some (errP (f 1)):=fun o=>(World.cell?_of_block (a:=⟨0,0,none⟩) (Lib.alloc_old w4 o _ hgl)).trans hcl
    have d0:w4.cell? ⟨w2.heap.size,0,none⟩=some (.int .i64 a1):=(Lib.cell_of_heap HX4.out 0).trans rfl
    have d1:w4.cell? ⟨w2.heap.size,1,none⟩=some (.string a2):=(Lib.cell_of_heap HX4.out 1).trans rfl
    have d2:w4.cell? ⟨w2.heap.size,2,none⟩=some (.int .i64 a3):=(Lib.cell_of_heap HX4.out 2).trans rfl
    have d3:w4.cell? ⟨w2.heap.size,3,none⟩=some (.slice a4 a5 a6):=(Lib.cell_of_heap HX4.out 3).trans rfl
    have hlt:w2.heap.size < w4.heap.size:=by omega
    have hne9:¬ w2.heap.size=w4.heap.size:=by omega
    have e0:∀ o,(w4.alloc o).cell? ⟨w2.heap.size,0,none⟩=some (.int .i64 a1):=fun o=>(World.cell?_of_block (a:=⟨w2.heap.size,0,none⟩) (Lib.alloc_old w4 o _ hlt)).trans d0
    have e1:∀ o,(w4.alloc o).cell? ⟨w2.heap.size,1,none⟩=some (.string a2):=fun o=>(World.cell?_of_block (a:=⟨w2.heap.size,1,none⟩) (Lib.alloc_old w4 o _ hlt)).trans d1
    have e2:∀ o,(w4.alloc o).cell? ⟨w2.heap.size,2,none⟩=some (.int .i64 a3):=fun o=>(World.cell?_of_block (a:=⟨w2.heap.size,2,none⟩) (Lib.alloc_old w4 o _ hlt)).trans d2
    have e3:∀ o,(w4.alloc o).cell? ⟨w2.heap.size,3,none⟩=some (.slice a4 a5 a6):=fun o=>(World.cell?_of_block (a:=⟨w2.heap.size,3,none⟩) (Lib.alloc_old w4 o _ hlt)).trans d3
    clear hb
    rcases Nat.lt_or_ge 16384 (termF x).length with hbig | hsml
    ·rw [HR.out.big hbig] at ht
     obtain ⟨rfl,rfl⟩:=ht
     have heq:=neqS_same (f 1)
     have heq2:=eqlP_same (f 1)
     go_wp2_with fail
     go_meet
     case rel=>exact Lib.hid (HB4.out.alloc (HB4.out.size) _)
    ·obtain ⟨k2,hk2⟩:=HR.out.back hsml
     rw [hk2] at ht
     obtain ⟨rfl,hv2⟩:=ht
     obtain ⟨b1,b2,b3,b4,b5,b6,rfl⟩:=TermV.thisTe 66 _ _ _ _ _ hv2
     have HV9:=Lib.hid (stays (TermV.stable 66) hv2 ((Below.refl w4.heap.size w4).alloc (Nat.le_refl _) (.cells #[.int .i64 b1,.string b2,.int .i64 b3,.slice b4 b5 b6] 28)) (Nat.le_refl _))
     have HV8:=Lib.hid (stays (TermV.stable 66) HV4.out ((Below.refl w4.heap.size w4).alloc (Nat.le_refl _) (.cells #[.int .i64 b1,.string b2,.int .i64 b3,.slice b4 b5 b6] 28)) (by omega))
     have HB9:=Lib.hid (HB4.out.alloc (HB4.out.size) (.cells #[.int .i64 b1,.string b2,.int .i64 b3,.slice b4 b5 b6] 28))
     have hz9:(w4.alloc (.cells #[.int .i64 b1,.string b2,.int .i64 b3,.slice b4 b5 b6] 28)).heap.size=w4.heap.size+1:=by simp
     clear hv2
     go_wp2_with fail
     go_at_call 23
     refine (sameTerm_any 66 x _ _ _ _ _ _ _ HV8.out HV9.out (by omega) (by omega)).mono ?_
     rintro e w5 ⟨rfl,hb⟩
     have HB5:=Lib.hid (HB9.out.trans (hb.mono HB9.out.size))
     clear hb
     go_wp2_with fail
     go_meet
     case rel=>exact Lib.hid HB5.out
  ·go_wp2_with fail
   go_meet
   case rel=>exact HBZ
 case rest =>
 have HB11:=hcut
 clear hcut
 generalize wc=w11 at *
 go_wp2_with fail
 go_at_call 24
 refine (HGo.out s _ (HW.out.below HB11.out).env (HE.out.below HB11.out)).mono ?_
 rintro e w12 ⟨v,er,rfl,hb,ht⟩
 obtain ⟨⟨a1,a2,a3,a4,a5,a6,a7,a8,a9,a10,a11,a12,a13,a14,a15,a16,a17,a18,a19,a20,rfl⟩,h2⟩:=textGo_two ht
 have HB12:=Lib.hid (HB11.out.trans (hb.mono HB11.out.size))
 have hs12:=hb.size
 clear hb ht
 obtain ⟨cb,hcb,hgd,hq⟩:∃ cb,((cb=true∧er=.nilIface) ∨ (cb=false∧er ≠ .nilIface))∧(∀ n W,(eqGuard .eql 46 (.tmp n) (.const .nilIface) er .nilIface).run Tryz.prog W=.ok () W)∧∀ W,(binOp .eql 46 er .nilIface).run Tryz.prog W=.ok (.bool cb) W:=by
  rcases h2 with ⟨i,_,rfl⟩ | ⟨x,k,_,rfl,_⟩
  ·exact ⟨false,.inr ⟨rfl,by simp⟩,fun n W=>eqg_err (f i) n W,fun W=>eqn_err (f i) W⟩
  ·exact ⟨true,.inl ⟨rfl,rfl⟩,fun n W=>eqg_nil n W,fun W=>eqn_nil W⟩
 have HBZ:=Lib.hid (HB12.out.alloc (HB12.out.size) (.cells #[.int .i64 a1,.int .i64 a2,.string a3,.int .i64 a4,.slice a5 a6 a7,.int .i64 a8,.string a9,.int .i64 a10,.slice a11 a12 a13,.string a14,.slice a15 a16 a17,.slice a18 a19 a20] 31))
 go_upto_if 53 with fail
 go_cut [] from 3 (fun wc=>Hid (Below w.heap.size w wc))
 case first =>
  rcases hcb with ⟨rfl,rfl⟩ | ⟨rfl,hne⟩
  ·rcases h2 with ⟨i,_,hx⟩ | ⟨x,k,ho,_,hv⟩
   ·cases hx
   ·clear HBZ hq hgd
    have hrd:=goal_round ho
    obtain ⟨hok,hr⟩:=hrd
    have HBA:=Lib.hid (HB12.out.alloc (HB12.out.size) (.cells #[.int .i64 a1,.int .i64 a2,.string a3,.int .i64 a4,.slice a5 a6 a7,.int .i64 a8,.string a9,.int .i64 a10,.slice a11 a12 a13,.string a14,.slice a15 a16 a17,.slice a18 a19 a20] 31))
    have HVA:=Lib.hid (stays (GoalV.stable 134) hv ((Below.refl w12.heap.size w12).alloc (Nat.le_refl _) (.cells #[.int .i64 a1,.int .i64 a2,.string a3,.int .i64 a4,.slice a5 a6 a7,.int .i64 a8,.string a9,.int .i64 a10,.slice a11 a12 a13,.string a14,.slice a15 a16 a17,.slice a18 a19 a20] 31)) (Nat.le_refl _))
    have hz:(w12.alloc (.cells #[.int .i64 a1,.int .i64 a2,.string a3,.int .i64 a4,.slice a5 a6 a7,.int .i64 a8,.string a9,.int .i64 a10,.slice a11 a12 a13,.string a14,.slice a15 a16 a17,.slice a18 a19 a20] 31)).heap.size=w12.heap.size+1:=by simp
    have HR:=Lib.hid hr
    clear hv hr
    go_wp2_with fail
    go_at_call 12
    refine (printGoal_any 134 x _ _ _ _ (HW.out.below HBA.out) HVA.out hok (by omega) (by have:=HR.out.short;omega) HR.out.some).mono ?_
    rintro e w13 ⟨rfl,hb⟩
    have HB13:=Lib.hid (HBA.out.trans (hb.mono HBA.out.size))
    have HX13:=Lib.hid ((hb.block w12.heap.size (by omega)).trans (heap_alloc_new w12 _))
    have HV13:=Lib.hid (stays (GoalV.stable 134) HVA.out hb (by omega))
    have hs13:=hb.size
    clear hb HVA HBA
    go_wp2_with fail
    go_at_call 24
    refine (HGo.out _ _ (HW.out.below HB13.out).env (HE.out.below HB13.out)).mono ?_
    rintro e w14 ⟨v2,er2,rfl,hb,ht⟩
    have HB14:=Lib.hid (HB13.out.trans (hb.mono HB13.out.size))
    have HX14:=Lib.hid ((hb.block w12.heap.size (by omega)).trans HX13.out)
    have HV14:=Lib.hid (stays (GoalV.stable 134) HV13.out hb (by omega))
    have hs14:=hb.size
    have hcl:=(HE.out.below HB14.out).large
    have hgl:=World.block_lt_of_cell? _ _ hcl
    have hcl2:∀ o,(w14.alloc o).cell? ⟨0,0,none⟩=some (errP (f 1)):=fun o=>(World.cell?_of_block (a:=⟨0,0,none⟩) (Lib.alloc_old w14 o _ hgl)).trans hcl
    have d0:w14.cell? ⟨w12.heap.size,0,none⟩=some (.int .i64 a1):=(Lib.cell_of_heap HX14.out 0).trans rfl
    have d1:w14.cell? ⟨w12.heap.size,1,none⟩=some (.int .i64 a2):=(Lib.cell_of_heap HX14.out 1).trans rfl
    have d2:w14.cell? ⟨w12.heap.size,2,none⟩=some (.string a3):=(Lib.cell_of_heap HX14.out 2).trans rfl
    have d3:w14.cell? ⟨w12.heap.size,3,none⟩=some (.int .i64 a4):=(Lib.cell_of_heap HX14.out 3).trans rfl
    have d4:w14.cell? ⟨w12.heap.size,4,none⟩=some (.slice a5 a6 a7):=(Lib.cell_of_heap HX14.out 4).trans rfl
    have d5:w14.cell? ⟨w12.heap.size,5,none⟩=some (.int .i64 a8):=(Lib.cell_of_heap HX14.out 5).trans rfl
    have d6:w14.cell? ⟨w12.heap.size,6,none⟩=some (.string a9):=(Lib.cell_of_heap HX14.out 6).trans rfl
    have d7:w14.cell? ⟨w12.heap.size,7,none⟩=some (.int .i64 a10):=(Lib.cell_of_heap HX14.out 7).trans rfl
    have d8:w14.cell? ⟨w12.heap.size,8,none⟩=some (.slice a11 a12 a13):=(Lib.cell_of_heap HX14.out 8).trans rfl
    have d9:w14.cell? ⟨w12.heap.size,9,none⟩=some (.string a14):=(Lib.cell_of_heap HX14.out 9).trans rfl
    have d10:w14.cell? ⟨w12.heap.size,10,none⟩=some (.slice a15 a16 a17):=(Lib.cell_of_heap HX14.out 10).trans rfl
    have d11:w14.cell? ⟨w12.heap.size,11,none⟩=some (.slice a18 a19 a20):=(Lib.cell_of_heap HX14.out 11).trans rfl
    have hlt:w12.heap.size < w14.heap.size:=by omega
    have hne9:¬ w12.heap.size=w14.heap.size:=by omega
    have e0:∀ o,(w14.alloc o).cell? ⟨w12.heap.size,0,none⟩=some (.int .i64 a1):=fun o=>(World.cell?_of_block (a:=⟨w12.heap.size,0,none⟩) (Lib.alloc_old w14 o _ hlt)).trans d0
    have e1:∀ o,(w14.alloc o).cell? ⟨w12.heap.size,1,none⟩=some (.int .i64 a2):=fun o=>(World.cell?_of_block (a:=⟨w12.heap.size,1,none⟩) (Lib.alloc_old w14 o _ hlt)).trans d1
    have e2:∀ o,(w14.alloc o).cell? ⟨w12.heap.size,2,none⟩=some (.string a3):=fun o=>(World.cell?_of_block (a:=⟨w12.heap.size,2,none⟩) (Lib.alloc_old w14 o _ hlt)).trans d2
    have e3:∀ o,(w14.alloc o).cell? ⟨w12.heap.size,3,none⟩=some (.int .i64 a4):=fun o=>(World.cell?_of_block (a:=⟨w12.heap.size,3,none⟩) (Lib.alloc_old w14 o _ hlt)).trans d3
    have e4:∀ o,(w14.alloc o).cell? ⟨w12.heap.size,4,none⟩=some (.slice a5 a6 a7):=fun o=>(World.cell?_of_block (a:=⟨w12.heap.size,4,none⟩) (Lib.alloc_old w14 o _ hlt)).trans d4
    have e5:∀ o,(w14.alloc o).cell? ⟨w12.heap.size,5,none⟩=some (.int .i64 a8):=fun o=>(World.cell?_of_block (a:=⟨w12.heap.size,5,none⟩) (Lib.alloc_old w14 o _ hlt)).trans d5
    have e6:∀ o,(w14.alloc o).cell? ⟨w12.heap.size,6,none⟩=some (.string a9):=fun o=>(World.cell?_of_block (a:=⟨w12.heap.size,6,none⟩) (Lib.alloc_old w14 o _ hlt)).trans d6
    have e7:∀ o,(w14.alloc o).cell? ⟨w12.heap.size,7,none⟩=some (.int .i64 a10):=fun o=>(World.cell?_of_block (a:=⟨w12.heap.size,7,none⟩) (Lib.alloc_old w14 o _ hlt)).trans d7
    have e8:∀ o,(w14.alloc o).cell? ⟨w12.heap.size,8,none⟩=some (.slice a11 a12 a13):=fun o=>(World.cell?_of_block (a:=⟨w12.heap.size,8,none⟩) (Lib.alloc_old w14 o _ hlt)).trans d8
    have e9:∀ o,(w14.alloc o).cell? ⟨w12.heap.size,9,none⟩=some (.string a14):=fun o=>(World.cell?_of_block (a:=⟨w12.heap.size,9,none⟩) (Lib.alloc_old w14 o _ hlt)).trans d9
    have e10:∀ o,(w14.alloc o).cell? ⟨w12.heap.size,10,none⟩=some (.slice a15 a16 a17):=fun o=>(World.cell?_of_block (a:=⟨w12.heap.size,10,none⟩) (Lib.alloc_old w14 o _ hlt)).trans d10
    have e11:∀ o,(w14.alloc o).cell? ⟨w12.heap.size,11,none⟩=some (.slice a18 a19 a20):=fun o=>(World.cell?_of_block (a:=⟨w12.heap.size,11,none⟩) (Lib.alloc_old w14 o _ hlt)).trans d11
    clear hb
    rcases Nat.lt_or_ge 16384 (goalF x).length with hbig | hsml
    ·rw [HR.out.big hbig] at ht
     obtain ⟨rfl,rfl⟩:=ht
     have heq:=neqS_same (f 1)
     have heq2:=eqlP_same (f 1)
     go_wp2_with fail
     go_meet
     case rel=>exact Lib.hid (HB14.out.alloc (HB14.out.size) _)
    ·obtain ⟨k2,hk2⟩:=HR.out.back hsml
     rw [hk2] at ht
     obtain ⟨rfl,hv2⟩:=ht
     obtain ⟨b1,b2,b3,b4,b5,b6,b7,b8,b9,b10,b11,b12,b13,b14,b15,b16,b17,b18,b19,b20,rfl⟩:=GoalV.this 134 _ _ _ _ _ hv2
     have HV9:=Lib.hid (stays (GoalV.stable 134) hv2 ((Below.refl w14.heap.size w14).alloc (Nat.le_refl _) (.cells #[.int .i64 b1,.int .i64 b2,.string b3,.int .i64 b4,.slice b5 b6 b7,.int .i64 b8,.string b9,.int .i64 b10,.slice b11 b12 b13,.string b14,.slice b15 b16 b17,.slice b18 b19 b20] 31)) (Nat.le_refl _))
     have HV8:=Lib.hid (stays (GoalV.stable 134) HV14.out ((Below.refl w14.heap.size w14).alloc (Nat.le_refl _) (.cells #[.int .i64 b1,.int .i64 b2,.string b3,.int .i64 b4,.slice b5 b6 b7,.int .i64 b8,.string b9,.int .i64 b10,.slice b11 b12 b13,.string b14,.slice b15 b16 b17,.slice b18 b19 b20] 31)) (by omega))
     have HB9:=Lib.hid (HB14.out.alloc (HB14.out.size) (.cells #[.int .i64 b1,.int .i64 b2,.string b3,.int .i64 b4,.slice b5 b6 b7,.int .i64 b8,.string b9,.int .i64 b10,.slice b11 b12 b13,.string b14,.slice b15 b16 b17,.slice b18 b19 b20] 31))
     have hz9:(w14.alloc (.cells #[.int .i64 b1,.int .i64 b2,.string b3,.int .i64 b4,.slice b5 b6 b7,.int .i64 b8,.string b9,.int .i64 b10,.slice b11 b12 b13,.string b14,.slice b15 b16 b17,.slice b18 b19 b20] 31)).heap.size=w14.heap.size+1:=by simp
     clear hv2
     go_wp2_with fail
     go_at_call 25
     refine (sameGoal_any 134 x _ _ _ _ _ _ _ HV8.out HV9.out (by omega) (by omega)).mono ?_
     rintro e w15 ⟨rfl,hb⟩
     have HB15:=Lib.hid (HB9.out.trans (hb.mono HB9.out.size))
     clear hb
     go_wp2_with fail
     go_meet
     case rel=>exact Lib.hid HB15.out
  ·go_wp2_with fail
   go_meet
   case rel=>exact HBZ
 case rest =>
 have HB21:=hcut
 clear hcut
 generalize wc=w21 at *
 go_wp2_with fail
 go_at_call 26
 refine (HTy.out s _ (HW.out.below HB21.out).env (HE.out.below HB21.out)).mono ?_
 rintro e w22 ⟨v,er,rfl,hb,ht⟩
 obtain ⟨⟨a1,a2,a3,a4,a5,rfl⟩,h2⟩:=textTy_two ht
 have HB22:=Lib.hid (HB21.out.trans (hb.mono HB21.out.size))
 have hs22:=hb.size
 clear hb ht
 rcases h2 with ⟨i,_,rfl⟩ | ⟨x,k,ho,rfl,hv⟩
 ·go_wp2_with fail
  go_ret
  exact ⟨rfl,HB22.out.alloc (HB22.out.size) _⟩
 ·skip
  have hrd:=type_round ho
  have hr:=hrd
  have HBA:=Lib.hid (HB22.out.alloc (HB22.out.size) (.cells #[.bool a1,.string a2,.slice a3 a4 a5] 35))
  have HVA:=Lib.hid (stays (TypeV.stable 66) hv ((Below.refl w22.heap.size w22).alloc (Nat.le_refl _) (.cells #[.bool a1,.string a2,.slice a3 a4 a5] 35)) (Nat.le_refl _))
  have hz:(w22.alloc (.cells #[.bool a1,.string a2,.slice a3 a4 a5] 35)).heap.size=w22.heap.size+1:=by simp
  have HR:=Lib.hid hr
  clear hv hr hrd
  go_wp2_with fail
  go_at_call 16
  refine (printType_any 66 x _ _ _ _ (HW.out.below HBA.out) HVA.out  (by omega) (by have:=HR.out.short;omega) HR.out.some).mono ?_
  rintro e w23 ⟨rfl,hb⟩
  have HB23:=Lib.hid (HBA.out.trans (hb.mono HBA.out.size))
  have HX23:=Lib.hid ((hb.block w22.heap.size (by omega)).trans (heap_alloc_new w22 _))
  have HV23:=Lib.hid (stays (TypeV.stable 66) HVA.out hb (by omega))
  have hs23:=hb.size
  clear hb HVA HBA
  go_wp2_with fail
  go_at_call 26
  refine (HTy.out _ _ (HW.out.below HB23.out).env (HE.out.below HB23.out)).mono ?_
  rintro e w24 ⟨v2,er2,rfl,hb,ht⟩
  have HB24:=Lib.hid (HB23.out.trans (hb.mono HB23.out.size))
  have HX24:=Lib.hid ((hb.block w22.heap.size (by omega)).trans HX23.out)
  have HV24:=Lib.hid (stays (TypeV.stable 66) HV23.out hb (by omega))
  have hs24:=hb.size
  have hcl:=(HE.out.below HB24.out).large
  have hgl:=World.block_lt_of_cell? _ _ hcl
  have hcl2:∀ o,(w24.alloc o).cell? ⟨0,0,none⟩=some (errP (f 1)):=fun o=>(World.cell?_of_block (a:=⟨0,0,none⟩) (Lib.alloc_old w24 o _ hgl)).trans hcl
  have d0:w24.cell? ⟨w22.heap.size,0,none⟩=some (.bool a1):=(Lib.cell_of_heap HX24.out 0).trans rfl
  have d1:w24.cell? ⟨w22.heap.size,1,none⟩=some (.string a2):=(Lib.cell_of_heap HX24.out 1).trans rfl
  have d2:w24.cell? ⟨w22.heap.size,2,none⟩=some (.slice a3 a4 a5):=(Lib.cell_of_heap HX24.out 2).trans rfl
  have hlt:w22.heap.size < w24.heap.size:=by omega
  have hne9:¬ w22.heap.size=w24.heap.size:=by omega
  have e0:∀ o,(w24.alloc o).cell? ⟨w22.heap.size,0,none⟩=some (.bool a1):=fun o=>(World.cell?_of_block (a:=⟨w22.heap.size,0,none⟩) (Lib.alloc_old w24 o _ hlt)).trans d0
  have e1:∀ o,(w24.alloc o).cell? ⟨w22.heap.size,1,none⟩=some (.string a2):=fun o=>(World.cell?_of_block (a:=⟨w22.heap.size,1,none⟩) (Lib.alloc_old w24 o _ hlt)).trans d1
  have e2:∀ o,(w24.alloc o).cell? ⟨w22.heap.size,2,none⟩=some (.slice a3 a4 a5):=fun o=>(World.cell?_of_block (a:=⟨w22.heap.size,2,none⟩) (Lib.alloc_old w24 o _ hlt)).trans d2
  clear hb
  rcases Nat.lt_or_ge 16384 (typeF x).length with hbig | hsml
  ·rw [HR.out.big hbig] at ht
   obtain ⟨rfl,rfl⟩:=ht
   have heq:=neqS_same (f 1)
   have heq2:=eqlP_same (f 1)
   go_wp2_with fail
   go_ret
   exact ⟨rfl,(HB24.out.alloc (HB24.out.size) _)⟩
  ·obtain ⟨k2,hk2⟩:=HR.out.back hsml
   rw [hk2] at ht
   obtain ⟨rfl,hv2⟩:=ht
   obtain ⟨b1,b2,b3,b4,b5,rfl⟩:=TypeV.thisTy 66 _ _ _ _ _ hv2
   have HV9:=Lib.hid (stays (TypeV.stable 66) hv2 ((Below.refl w24.heap.size w24).alloc (Nat.le_refl _) (.cells #[.bool b1,.string b2,.slice b3 b4 b5] 35)) (Nat.le_refl _))
   have HV8:=Lib.hid (stays (TypeV.stable 66) HV24.out ((Below.refl w24.heap.size w24).alloc (Nat.le_refl _) (.cells #[.bool b1,.string b2,.slice b3 b4 b5] 35)) (by omega))
   have HB9:=Lib.hid (HB24.out.alloc (HB24.out.size) (.cells #[.bool b1,.string b2,.slice b3 b4 b5] 35))
   have hz9:(w24.alloc (.cells #[.bool b1,.string b2,.slice b3 b4 b5] 35)).heap.size=w24.heap.size+1:=by simp
   clear hv2
   have heqR:=eqn_errR (f 1)
   go_wp2_with fail
   go_at_call 27
   refine (sameType_any 66 x _ _ _ _ _ _ _ HV8.out HV9.out (by omega) (by omega)).mono ?_
   rintro e w25 ⟨rfl,hb⟩
   have HB25:=Lib.hid (HB9.out.trans (hb.mono HB9.out.size))
   clear hb
   go_wp2_with fail
   go_ret
   exact ⟨rfl,HB25.out⟩
end Lx
end Go.Proofs.YtajomoclbpobhaaGreatDoor
