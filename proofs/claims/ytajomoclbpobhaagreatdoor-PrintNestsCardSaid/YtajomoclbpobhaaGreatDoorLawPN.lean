/- The walk of the statement PrintNests: it returns true. Conditions: the error variables and the tables of words hold what they should; the row of numbers stands. -/
import Derived.Test.YtajomoclbpobhaaGreatDoorPNv
import Derived.Test.YtajomoclbpobhaaGreatDoorTextG
import Derived.Great.Walk
namespace Go.Proofs.YtajomoclbpobhaaGreatDoor
set_option linter.unusedSimpArgs false
set_option linter.unusedVariables false
namespace Lx
open Go Go.RowKit
theorem there_of {w:World} {b:Nat} {C D:Array Value} {t:TypeId} (hb:w.heap[b]?=some (.cells C t (0,0))) (h:C.size=D.size):w.there b 0 D.size:=by
 rw [← h]
 exact there_all hb
/-- The row of numbers as the walk meets it. -/
def IntRow (w:World) (A:Option Addr) (zs:List Int):Prop:=zs ≠ []→∃ b off,A=some ⟨b,off,none⟩∧b < w.heap.size∧∀ j (hj:j < zs.length),w.cell? ⟨b,off+j,none⟩=some (.int .i64 zs[j])
set_option maxRecDepth 100000 in
set_option maxHeartbeats 2000000 in
theorem lawNests_any (A:Option Addr) (zs:List Int) (cap:Nat) (w:World) (hz:zs.length≤maxLen) (hA:IntRow w A zs) (h:PEnv w) (f:Nat→Addr) (h4:Errs4 w f) :
  Calls Tryz.prog 8 #[.slice A zs.length cap] w fun e w'=>e=.returned (.bool true)∧Below w.heap.size w w':=by
 have HA:=Lib.hid (palive_any w h f h4)
 have HW:=Lib.hid h
 have HE:=Lib.hid h4
 have HP:=Lib.hid (fun s w hE h4=>textGo_any s w hE f h4)
 have HZ:=Lib.hid hA
 unfold maxLen at hz
 have HCF:Hid ((Tryz.prog.info? 31).map (·.size)=some (failC.toList.length)):=Lib.hid infoGoal12
 clear h h4 hA
 go_enter Tryz.func8,Tryz.ntmps8
 go_wp2_with fail
 go_at_call 9
 refine HA.out.mono ?_
 rintro e w1 ⟨rfl,hb1⟩
 have HB1:=Lib.hid hb1
 clear hb1 HA
 go_upto_region 3 with fail
 refine wp_region_list ?_
 go_step
 go_step
 go_step
 go_step
 go_step
 obtain ⟨hs1,hs2,hs3⟩:=stored (w:=w1) (C:=callC) (Z:=#[.int .i64 0,.int .i64 0,.string ⟨#[]⟩,.int .i64 0,.slice none 0 0,.int .i64 0,.string ⟨#[]⟩,.int .i64 0,.slice none 0 0,.string ⟨#[]⟩,.slice none 0 0,.slice none 0 0]) (T:=31) rfl
 refine wpList_store_mid rfl 31 (.tmp 3) (.tmp 11) rfl w1.heap.size 0 callC rfl rfl (there_of (heap_alloc_new w1 _) rfl) HCF.out (by kernel_rfl) ?_
 have HI0:=Lib.hid (NestI.start (HB1.out.trans (hs2.mono HB1.out.size)) HB1.out.size hs3 hs1)
 clear hs1 hs2 hs3
 generalize World.setCells _ _ _ _=X at HI0 ⊢
 go_wp2_with fail
 go_loopw [14] (fun i wr=>∃ k:Nat,k≤zs.length∧k≤31∧i=.int .i64 k∧Hid (NestI w w1.heap.size k wr)) (fun i _=>zs.length - (intOf i).toNat)
 case atStart=>exact ⟨0,Nat.zero_le _,by omega,rfl,HI0⟩
 case round =>
  obtain ⟨k,hk,hk31,rfl,HI⟩:=hrel
  obtain ⟨gg,C,t4,t5,t6,t7,t8,t9⟩:=HI.out.is
  have HL:=Lib.hid (show (1+60 * k≤16384) by omega)
  by_cases hlt:k < zs.length
  ·obtain ⟨b,off,rfl,hb,hc⟩:=HZ.out (by intro e;rw [e] at hlt;simp at hlt)
   have hcz:=(HI.out.below.cell (p:=⟨b,off+k,none⟩) hb).trans (hc k hlt)
   generalize zs[k]=z at hcz
   have hdc:decide (k < zs.length)=true:=by simpa using hlt
   have hk0:(0:Int)≤(k:Int):=by omega
   have hk1:(k:Int) < (zs.length:Int):=by omega
   clear hc
   by_cases h30:k≤30
   ·have hd30:decide (30 < k)=false:=decide_eq_false (by omega)
    obtain ⟨a1,a2,a3,a4,a5,a6,a7,a8,a9,a10,a11,a12,a13,a14,a15,a16,a17,a18,a19,a20,e12⟩:=GoalV.this _ _ _ _ _ _ t5
    injection e12 with e12
    subst e12
    have HG:=Lib.hid t4
    have HV:=Lib.hid t5
    have HQ:=Lib.hid t6
    have HWf:=Lib.hid t7
    have HOK:=Lib.hid t8
    have HLn:=Lib.hid t9
    have HCG:Hid ((Tryz.prog.info? 31).map (·.size)=some (#[.int .i64 a1,.int .i64 a2,.string a3,.int .i64 a4,.slice a5 a6 a7,.int .i64 a8,.string a9,.int .i64 a10,.slice a11 a12 a13,.string a14,.slice a15 a16 a17,.slice a18 a19 a20]:Array Value).toList.length):=Lib.hid infoGoal12
    clear t4 t5 t6 t7 t8 t9
    go_upto_region 8 with fail
    obtain ⟨hs1,hs2,hs3⟩:=stored (w:=wr) (C:=failC) (Z:=#[.int .i64 0,.int .i64 0,.string ⟨#[]⟩,.int .i64 0,.slice none 0 0,.int .i64 0,.string ⟨#[]⟩,.int .i64 0,.slice none 0 0,.string ⟨#[]⟩,.slice none 0 0,.slice none 0 0]) (T:=31) rfl
    refine wp_region_list ?_
    go_step
    go_step
    go_step
    go_step
    go_step
    refine wpList_store_mid rfl 31 (.tmp 6) (.tmp 21) rfl wr.heap.size 0 failC rfl rfl (there_of (heap_alloc_new wr _) rfl) HCF.out (by kernel_rfl) ?_
    have HS1:=Lib.hid hs1
    have HS2:=Lib.hid hs2
    have HLT:=Lib.hid (Nat.lt_of_lt_of_le HI.out.lt hs2.size)
    have HGo:=Lib.hid ((hs2.block _ HI.out.lt).trans HG.out)
    clear hs1 hs2 hs3
    generalize World.setCells _ _ _ _=wo at HS1 HS2 HLT HGo ⊢
    go_upto_region 10 with fail
    generalize bits _ _ _ _=m
    have HCF2:=HCF.out
    by_cases c0:m=0
    ·subst c0
     go_upto_region 11 with fail
     refine wp_region_list ?_
     refine wpList_load_mid rfl 31 (.tmp 3) rfl w1.heap.size 0 rfl (#[.int .i64 a1,.int .i64 a2,.string a3,.int .i64 a4,.slice a5 a6 a7,.int .i64 a8,.string a9,.int .i64 a10,.slice a11 a12 a13,.string a14,.slice a15 a16 a17,.slice a18 a19 a20]:Array Value).toList _ (range_all HGo.out) Tryz.underlying31 rfl HCG.out ?_
     refine wpList_load_mid rfl 31 (.tmp 6) rfl wr.heap.size 0 rfl failC.toList _ (range_all HS1.out) Tryz.underlying31 rfl HCF.out ?_
     refine Great.wpList_buildSliceTo rfl 29 31 2 _ rfl wo.heap.size rfl (some 28) rfl Tryz.underlying29 #[.int .i64 a1,.int .i64 a2,.string a3,.int .i64 a4,.slice a5 a6 a7,.int .i64 a8,.string a9,.int .i64 a10,.slice a11 a12 a13,.string a14,.slice a15 a16 a17,.slice a18 a19 a20,.int .i64 2,.int .i64 0,.string ⟨#[]⟩,.int .i64 0,.slice none 0 0,.int .i64 0,.string ⟨#[]⟩,.int .i64 0,.slice none 0 0,.string ⟨#[]⟩,.slice none 0 0,.slice none 0 0] (by kernel_rfl) ?_
     go_step
     go_step
     go_step
     refine wpList_store_mid rfl 31 (.tmp 3) (.tmp 29) rfl w1.heap.size 0 #[.int .i64 5,.int .i64 0,.string ⟨#[]⟩,.int .i64 0,.slice none 0 0,.int .i64 0,.string ⟨#[]⟩,.int .i64 0,.slice none 0 0,.string ⟨#[]⟩,.slice none 0 0,.slice (some ⟨wo.heap.size,0,none⟩) 2 2] rfl rfl (there_of ((Below.heap_alloc _ _ _ HLT.out).trans HGo.out) rfl) HCF.out (by kernel_rfl) ?_
     have HN:=Lib.hid (NestI.nest HI.out HS2.out HG.out rfl HV.out HQ.out HWf.out HOK.out HLn.out (m:=0) (by unfold inNest;omega) (cs:=#[.int .i64 a1,.int .i64 a2,.string a3,.int .i64 a4,.slice a5 a6 a7,.int .i64 a8,.string a9,.int .i64 a10,.slice a11 a12 a13,.string a14,.slice a15 a16 a17,.slice a18 a19 a20,.int .i64 2,.int .i64 0,.string ⟨#[]⟩,.int .i64 0,.slice none 0 0,.int .i64 0,.string ⟨#[]⟩,.int .i64 0,.slice none 0 0,.string ⟨#[]⟩,.slice none 0 0,.slice none 0 0]) rfl rfl (N:=#[.int .i64 5,.int .i64 0,.string ⟨#[]⟩,.int .i64 0,.slice none 0 0,.int .i64 0,.string ⟨#[]⟩,.int .i64 0,.slice none 0 0,.string ⟨#[]⟩,.slice none 0 0,.slice (some ⟨wo.heap.size,0,none⟩) 2 2]) rfl)
     generalize World.setCells _ _ _ _=X at HN ⊢
     go_wp2_with fail
     go_roundw
     case rel=>exact ⟨k+1,by omega,by omega,by go_num,HN⟩
     case measure=>simp [intOf];omega
    by_cases c1:m=1
    ·subst c1
     go_upto_region 13 with fail
     refine wp_region_list ?_
     refine wpList_load_mid rfl 31 (.tmp 6) rfl wr.heap.size 0 rfl failC.toList _ (range_all HS1.out) Tryz.underlying31 rfl HCF.out ?_
     refine wpList_load_mid rfl 31 (.tmp 3) rfl w1.heap.size 0 rfl (#[.int .i64 a1,.int .i64 a2,.string a3,.int .i64 a4,.slice a5 a6 a7,.int .i64 a8,.string a9,.int .i64 a10,.slice a11 a12 a13,.string a14,.slice a15 a16 a17,.slice a18 a19 a20]:Array Value).toList _ (range_all HGo.out) Tryz.underlying31 rfl HCG.out ?_
     refine Great.wpList_buildSliceTo rfl 29 31 2 _ rfl wo.heap.size rfl (some 34) rfl Tryz.underlying29 #[.int .i64 2,.int .i64 0,.string ⟨#[]⟩,.int .i64 0,.slice none 0 0,.int .i64 0,.string ⟨#[]⟩,.int .i64 0,.slice none 0 0,.string ⟨#[]⟩,.slice none 0 0,.slice none 0 0,.int .i64 a1,.int .i64 a2,.string a3,.int .i64 a4,.slice a5 a6 a7,.int .i64 a8,.string a9,.int .i64 a10,.slice a11 a12 a13,.string a14,.slice a15 a16 a17,.slice a18 a19 a20] (by kernel_rfl) ?_
     go_step
     go_step
     go_step
     refine wpList_store_mid rfl 31 (.tmp 3) (.tmp 35) rfl w1.heap.size 0 #[.int .i64 5,.int .i64 0,.string ⟨#[]⟩,.int .i64 0,.slice none 0 0,.int .i64 0,.string ⟨#[]⟩,.int .i64 0,.slice none 0 0,.string ⟨#[]⟩,.slice none 0 0,.slice (some ⟨wo.heap.size,0,none⟩) 2 2] rfl rfl (there_of ((Below.heap_alloc _ _ _ HLT.out).trans HGo.out) rfl) HCF.out (by kernel_rfl) ?_
     have HN:=Lib.hid (NestI.nest HI.out HS2.out HG.out rfl HV.out HQ.out HWf.out HOK.out HLn.out (m:=1) (by unfold inNest;omega) (cs:=#[.int .i64 2,.int .i64 0,.string ⟨#[]⟩,.int .i64 0,.slice none 0 0,.int .i64 0,.string ⟨#[]⟩,.int .i64 0,.slice none 0 0,.string ⟨#[]⟩,.slice none 0 0,.slice none 0 0,.int .i64 a1,.int .i64 a2,.string a3,.int .i64 a4,.slice a5 a6 a7,.int .i64 a8,.string a9,.int .i64 a10,.slice a11 a12 a13,.string a14,.slice a15 a16 a17,.slice a18 a19 a20]) rfl rfl (N:=#[.int .i64 5,.int .i64 0,.string ⟨#[]⟩,.int .i64 0,.slice none 0 0,.int .i64 0,.string ⟨#[]⟩,.int .i64 0,.slice none 0 0,.string ⟨#[]⟩,.slice none 0 0,.slice (some ⟨wo.heap.size,0,none⟩) 2 2]) rfl)
     generalize World.setCells _ _ _ _=X at HN ⊢
     go_wp2_with fail
     go_roundw
     case rel=>exact ⟨k+1,by omega,by omega,by go_num,HN⟩
     case measure=>simp [intOf];omega
    by_cases c2:m=2
    ·subst c2
     go_upto_region 15 with fail
     refine wp_region_list ?_
     refine wpList_load_mid rfl 31 (.tmp 3) rfl w1.heap.size 0 rfl (#[.int .i64 a1,.int .i64 a2,.string a3,.int .i64 a4,.slice a5 a6 a7,.int .i64 a8,.string a9,.int .i64 a10,.slice a11 a12 a13,.string a14,.slice a15 a16 a17,.slice a18 a19 a20]:Array Value).toList _ (range_all HGo.out) Tryz.underlying31 rfl HCG.out ?_
     refine wpList_load_mid rfl 31 (.tmp 6) rfl wr.heap.size 0 rfl failC.toList _ (range_all HS1.out) Tryz.underlying31 rfl HCF.out ?_
     refine Great.wpList_buildSliceTo rfl 29 31 2 _ rfl wo.heap.size rfl (some 40) rfl Tryz.underlying29 #[.int .i64 a1,.int .i64 a2,.string a3,.int .i64 a4,.slice a5 a6 a7,.int .i64 a8,.string a9,.int .i64 a10,.slice a11 a12 a13,.string a14,.slice a15 a16 a17,.slice a18 a19 a20,.int .i64 2,.int .i64 0,.string ⟨#[]⟩,.int .i64 0,.slice none 0 0,.int .i64 0,.string ⟨#[]⟩,.int .i64 0,.slice none 0 0,.string ⟨#[]⟩,.slice none 0 0,.slice none 0 0] (by kernel_rfl) ?_
     go_step
     go_step
     go_step
     refine wpList_store_mid rfl 31 (.tmp 3) (.tmp 41) rfl w1.heap.size 0 #[.int .i64 6,.int .i64 0,.string ⟨#[]⟩,.int .i64 0,.slice none 0 0,.int .i64 0,.string ⟨#[]⟩,.int .i64 0,.slice none 0 0,.string ⟨#[]⟩,.slice none 0 0,.slice (some ⟨wo.heap.size,0,none⟩) 2 2] rfl rfl (there_of ((Below.heap_alloc _ _ _ HLT.out).trans HGo.out) rfl) HCF.out (by kernel_rfl) ?_
     have HN:=Lib.hid (NestI.nest HI.out HS2.out HG.out rfl HV.out HQ.out HWf.out HOK.out HLn.out (m:=2) (by unfold inNest;omega) (cs:=#[.int .i64 a1,.int .i64 a2,.string a3,.int .i64 a4,.slice a5 a6 a7,.int .i64 a8,.string a9,.int .i64 a10,.slice a11 a12 a13,.string a14,.slice a15 a16 a17,.slice a18 a19 a20,.int .i64 2,.int .i64 0,.string ⟨#[]⟩,.int .i64 0,.slice none 0 0,.int .i64 0,.string ⟨#[]⟩,.int .i64 0,.slice none 0 0,.string ⟨#[]⟩,.slice none 0 0,.slice none 0 0]) rfl rfl (N:=#[.int .i64 6,.int .i64 0,.string ⟨#[]⟩,.int .i64 0,.slice none 0 0,.int .i64 0,.string ⟨#[]⟩,.int .i64 0,.slice none 0 0,.string ⟨#[]⟩,.slice none 0 0,.slice (some ⟨wo.heap.size,0,none⟩) 2 2]) rfl)
     generalize World.setCells _ _ _ _=X at HN ⊢
     go_wp2_with fail
     go_roundw
     case rel=>exact ⟨k+1,by omega,by omega,by go_num,HN⟩
     case measure=>simp [intOf];omega
    by_cases c3:m=3
    ·subst c3
     go_upto_region 17 with fail
     refine wp_region_list ?_
     refine wpList_load_mid rfl 31 (.tmp 6) rfl wr.heap.size 0 rfl failC.toList _ (range_all HS1.out) Tryz.underlying31 rfl HCF.out ?_
     refine wpList_load_mid rfl 31 (.tmp 3) rfl w1.heap.size 0 rfl (#[.int .i64 a1,.int .i64 a2,.string a3,.int .i64 a4,.slice a5 a6 a7,.int .i64 a8,.string a9,.int .i64 a10,.slice a11 a12 a13,.string a14,.slice a15 a16 a17,.slice a18 a19 a20]:Array Value).toList _ (range_all HGo.out) Tryz.underlying31 rfl HCG.out ?_
     refine wpList_load_mid rfl 31 (.tmp 6) rfl wr.heap.size 0 rfl failC.toList _ (range_all HS1.out) Tryz.underlying31 rfl HCF.out ?_
     refine Great.wpList_buildSliceTo rfl 29 31 3 _ rfl wo.heap.size rfl (some 47) rfl Tryz.underlying29 #[.int .i64 2,.int .i64 0,.string ⟨#[]⟩,.int .i64 0,.slice none 0 0,.int .i64 0,.string ⟨#[]⟩,.int .i64 0,.slice none 0 0,.string ⟨#[]⟩,.slice none 0 0,.slice none 0 0,.int .i64 a1,.int .i64 a2,.string a3,.int .i64 a4,.slice a5 a6 a7,.int .i64 a8,.string a9,.int .i64 a10,.slice a11 a12 a13,.string a14,.slice a15 a16 a17,.slice a18 a19 a20,.int .i64 2,.int .i64 0,.string ⟨#[]⟩,.int .i64 0,.slice none 0 0,.int .i64 0,.string ⟨#[]⟩,.int .i64 0,.slice none 0 0,.string ⟨#[]⟩,.slice none 0 0,.slice none 0 0] (by kernel_rfl) ?_
     go_step
     go_step
     go_step
     refine wpList_store_mid rfl 31 (.tmp 3) (.tmp 48) rfl w1.heap.size 0 #[.int .i64 6,.int .i64 0,.string ⟨#[]⟩,.int .i64 0,.slice none 0 0,.int .i64 0,.string ⟨#[]⟩,.int .i64 0,.slice none 0 0,.string ⟨#[]⟩,.slice none 0 0,.slice (some ⟨wo.heap.size,0,none⟩) 3 3] rfl rfl (there_of ((Below.heap_alloc _ _ _ HLT.out).trans HGo.out) rfl) HCF.out (by kernel_rfl) ?_
     have HN:=Lib.hid (NestI.nest HI.out HS2.out HG.out rfl HV.out HQ.out HWf.out HOK.out HLn.out (m:=3) (by unfold inNest;omega) (cs:=#[.int .i64 2,.int .i64 0,.string ⟨#[]⟩,.int .i64 0,.slice none 0 0,.int .i64 0,.string ⟨#[]⟩,.int .i64 0,.slice none 0 0,.string ⟨#[]⟩,.slice none 0 0,.slice none 0 0,.int .i64 a1,.int .i64 a2,.string a3,.int .i64 a4,.slice a5 a6 a7,.int .i64 a8,.string a9,.int .i64 a10,.slice a11 a12 a13,.string a14,.slice a15 a16 a17,.slice a18 a19 a20,.int .i64 2,.int .i64 0,.string ⟨#[]⟩,.int .i64 0,.slice none 0 0,.int .i64 0,.string ⟨#[]⟩,.int .i64 0,.slice none 0 0,.string ⟨#[]⟩,.slice none 0 0,.slice none 0 0]) rfl rfl (N:=#[.int .i64 6,.int .i64 0,.string ⟨#[]⟩,.int .i64 0,.slice none 0 0,.int .i64 0,.string ⟨#[]⟩,.int .i64 0,.slice none 0 0,.string ⟨#[]⟩,.slice none 0 0,.slice (some ⟨wo.heap.size,0,none⟩) 3 3]) rfl)
     generalize World.setCells _ _ _ _=X at HN ⊢
     go_wp2_with fail
     go_roundw
     case rel=>exact ⟨k+1,by omega,by omega,by go_num,HN⟩
     case measure=>simp [intOf];omega
    by_cases c4:m=4
    ·subst c4
     go_upto_region 19 with fail
     refine wp_region_list ?_
     refine wpList_load_mid rfl 31 (.tmp 3) rfl w1.heap.size 0 rfl (#[.int .i64 a1,.int .i64 a2,.string a3,.int .i64 a4,.slice a5 a6 a7,.int .i64 a8,.string a9,.int .i64 a10,.slice a11 a12 a13,.string a14,.slice a15 a16 a17,.slice a18 a19 a20]:Array Value).toList _ (range_all HGo.out) Tryz.underlying31 rfl HCG.out ?_
     refine Great.wpList_buildSliceTo rfl 29 31 1 _ rfl wo.heap.size rfl (some 52) rfl Tryz.underlying29 #[.int .i64 a1,.int .i64 a2,.string a3,.int .i64 a4,.slice a5 a6 a7,.int .i64 a8,.string a9,.int .i64 a10,.slice a11 a12 a13,.string a14,.slice a15 a16 a17,.slice a18 a19 a20] (by kernel_rfl) ?_
     go_step
     go_step
     go_step
     refine wpList_store_mid rfl 31 (.tmp 3) (.tmp 53) rfl w1.heap.size 0 #[.int .i64 7,.int .i64 0,.string ⟨#[]⟩,.int .i64 0,.slice none 0 0,.int .i64 0,.string ⟨#[]⟩,.int .i64 0,.slice none 0 0,.string ⟨#[]⟩,.slice none 0 0,.slice (some ⟨wo.heap.size,0,none⟩) 1 1] rfl rfl (there_of ((Below.heap_alloc _ _ _ HLT.out).trans HGo.out) rfl) HCF.out (by kernel_rfl) ?_
     have HN:=Lib.hid (NestI.nest HI.out HS2.out HG.out rfl HV.out HQ.out HWf.out HOK.out HLn.out (m:=4) (by unfold inNest;omega) (cs:=#[.int .i64 a1,.int .i64 a2,.string a3,.int .i64 a4,.slice a5 a6 a7,.int .i64 a8,.string a9,.int .i64 a10,.slice a11 a12 a13,.string a14,.slice a15 a16 a17,.slice a18 a19 a20]) rfl rfl (N:=#[.int .i64 7,.int .i64 0,.string ⟨#[]⟩,.int .i64 0,.slice none 0 0,.int .i64 0,.string ⟨#[]⟩,.int .i64 0,.slice none 0 0,.string ⟨#[]⟩,.slice none 0 0,.slice (some ⟨wo.heap.size,0,none⟩) 1 1]) rfl)
     generalize World.setCells _ _ _ _=X at HN ⊢
     go_wp2_with fail
     go_roundw
     case rel=>exact ⟨k+1,by omega,by omega,by go_num,HN⟩
     case measure=>simp [intOf];omega
    by_cases c5:m=5
    ·subst c5
     go_upto_region 21 with fail
     refine wp_region_list ?_
     refine wpList_load_mid rfl 31 (.tmp 3) rfl w1.heap.size 0 rfl (#[.int .i64 a1,.int .i64 a2,.string a3,.int .i64 a4,.slice a5 a6 a7,.int .i64 a8,.string a9,.int .i64 a10,.slice a11 a12 a13,.string a14,.slice a15 a16 a17,.slice a18 a19 a20]:Array Value).toList _ (range_all HGo.out) Tryz.underlying31 rfl HCG.out ?_
     refine wpList_load_mid rfl 31 (.tmp 6) rfl wr.heap.size 0 rfl failC.toList _ (range_all HS1.out) Tryz.underlying31 rfl HCF.out ?_
     refine Great.wpList_buildSliceTo rfl 29 31 2 _ rfl wo.heap.size rfl (some 58) rfl Tryz.underlying29 #[.int .i64 a1,.int .i64 a2,.string a3,.int .i64 a4,.slice a5 a6 a7,.int .i64 a8,.string a9,.int .i64 a10,.slice a11 a12 a13,.string a14,.slice a15 a16 a17,.slice a18 a19 a20,.int .i64 2,.int .i64 0,.string ⟨#[]⟩,.int .i64 0,.slice none 0 0,.int .i64 0,.string ⟨#[]⟩,.int .i64 0,.slice none 0 0,.string ⟨#[]⟩,.slice none 0 0,.slice none 0 0] (by kernel_rfl) ?_
     go_step
     go_step
     go_step
     refine wpList_store_mid rfl 31 (.tmp 3) (.tmp 59) rfl w1.heap.size 0 #[.int .i64 9,.int .i64 0,.string ⟨#[]⟩,.int .i64 0,.slice none 0 0,.int .i64 0,.string ⟨#[]⟩,.int .i64 0,.slice none 0 0,.string ⟨#[69]⟩,.slice none 0 0,.slice (some ⟨wo.heap.size,0,none⟩) 2 2] rfl rfl (there_of ((Below.heap_alloc _ _ _ HLT.out).trans HGo.out) rfl) HCF.out (by kernel_rfl) ?_
     have HN:=Lib.hid (NestI.nest HI.out HS2.out HG.out rfl HV.out HQ.out HWf.out HOK.out HLn.out (m:=5) (by unfold inNest;omega) (cs:=#[.int .i64 a1,.int .i64 a2,.string a3,.int .i64 a4,.slice a5 a6 a7,.int .i64 a8,.string a9,.int .i64 a10,.slice a11 a12 a13,.string a14,.slice a15 a16 a17,.slice a18 a19 a20,.int .i64 2,.int .i64 0,.string ⟨#[]⟩,.int .i64 0,.slice none 0 0,.int .i64 0,.string ⟨#[]⟩,.int .i64 0,.slice none 0 0,.string ⟨#[]⟩,.slice none 0 0,.slice none 0 0]) rfl rfl (N:=#[.int .i64 9,.int .i64 0,.string ⟨#[]⟩,.int .i64 0,.slice none 0 0,.int .i64 0,.string ⟨#[]⟩,.int .i64 0,.slice none 0 0,.string ⟨#[69]⟩,.slice none 0 0,.slice (some ⟨wo.heap.size,0,none⟩) 2 2]) rfl)
     generalize World.setCells _ _ _ _=X at HN ⊢
     go_wp2_with fail
     go_roundw
     case rel=>exact ⟨k+1,by omega,by omega,by go_num,HN⟩
     case measure=>simp [intOf];omega
    by_cases c6:m=6
    ·subst c6
     go_upto_region 23 with fail
     refine wp_region_list ?_
     refine wpList_load_mid rfl 31 (.tmp 6) rfl wr.heap.size 0 rfl failC.toList _ (range_all HS1.out) Tryz.underlying31 rfl HCF.out ?_
     refine wpList_load_mid rfl 31 (.tmp 3) rfl w1.heap.size 0 rfl (#[.int .i64 a1,.int .i64 a2,.string a3,.int .i64 a4,.slice a5 a6 a7,.int .i64 a8,.string a9,.int .i64 a10,.slice a11 a12 a13,.string a14,.slice a15 a16 a17,.slice a18 a19 a20]:Array Value).toList _ (range_all HGo.out) Tryz.underlying31 rfl HCG.out ?_
     refine Great.wpList_buildSliceTo rfl 29 31 2 _ rfl wo.heap.size rfl (some 64) rfl Tryz.underlying29 #[.int .i64 2,.int .i64 0,.string ⟨#[]⟩,.int .i64 0,.slice none 0 0,.int .i64 0,.string ⟨#[]⟩,.int .i64 0,.slice none 0 0,.string ⟨#[]⟩,.slice none 0 0,.slice none 0 0,.int .i64 a1,.int .i64 a2,.string a3,.int .i64 a4,.slice a5 a6 a7,.int .i64 a8,.string a9,.int .i64 a10,.slice a11 a12 a13,.string a14,.slice a15 a16 a17,.slice a18 a19 a20] (by kernel_rfl) ?_
     go_step
     go_step
     go_step
     refine wpList_store_mid rfl 31 (.tmp 3) (.tmp 65) rfl w1.heap.size 0 #[.int .i64 9,.int .i64 0,.string ⟨#[]⟩,.int .i64 0,.slice none 0 0,.int .i64 0,.string ⟨#[]⟩,.int .i64 0,.slice none 0 0,.string ⟨#[95]⟩,.slice none 0 0,.slice (some ⟨wo.heap.size,0,none⟩) 2 2] rfl rfl (there_of ((Below.heap_alloc _ _ _ HLT.out).trans HGo.out) rfl) HCF.out (by kernel_rfl) ?_
     have HN:=Lib.hid (NestI.nest HI.out HS2.out HG.out rfl HV.out HQ.out HWf.out HOK.out HLn.out (m:=6) (by unfold inNest;omega) (cs:=#[.int .i64 2,.int .i64 0,.string ⟨#[]⟩,.int .i64 0,.slice none 0 0,.int .i64 0,.string ⟨#[]⟩,.int .i64 0,.slice none 0 0,.string ⟨#[]⟩,.slice none 0 0,.slice none 0 0,.int .i64 a1,.int .i64 a2,.string a3,.int .i64 a4,.slice a5 a6 a7,.int .i64 a8,.string a9,.int .i64 a10,.slice a11 a12 a13,.string a14,.slice a15 a16 a17,.slice a18 a19 a20]) rfl rfl (N:=#[.int .i64 9,.int .i64 0,.string ⟨#[]⟩,.int .i64 0,.slice none 0 0,.int .i64 0,.string ⟨#[]⟩,.int .i64 0,.slice none 0 0,.string ⟨#[95]⟩,.slice none 0 0,.slice (some ⟨wo.heap.size,0,none⟩) 2 2]) rfl)
     generalize World.setCells _ _ _ _=X at HN ⊢
     go_wp2_with fail
     go_roundw
     case rel=>exact ⟨k+1,by omega,by omega,by go_num,HN⟩
     case measure=>simp [intOf];omega
    have q0:(m == 0)=false:=by simpa using c0
    have q1:(m == 1)=false:=by simpa using c1
    have q2:(m == 2)=false:=by simpa using c2
    have q3:(m == 3)=false:=by simpa using c3
    have q4:(m == 4)=false:=by simpa using c4
    have q5:(m == 5)=false:=by simpa using c5
    have q6:(m == 6)=false:=by simpa using c6
    go_wp2_with fail
    go_roundw
    case rel=>exact ⟨k+1,by omega,by omega,by go_num,Lib.hid (HI.out.skip HS2.out)⟩
    case measure=>simp [intOf];omega
   ·have hd30:decide (30 < k)=true:=decide_eq_true (by omega)
    clear t4 t5 t6 t7 t8 t9 C gg
    obtain ⟨gg,C,t4,t5,t6,t7,t8,t9⟩:=HI.out.is
    obtain ⟨a1,a2,a3,a4,a5,a6,a7,a8,a9,a10,a11,a12,a13,a14,a15,a16,a17,a18,a19,a20,e12⟩:=GoalV.this _ _ _ _ _ _ t5
    injection e12 with e12
    subst e12
    have hlen:(goalF gg).length≤16384:=by have:=HL.out;omega
    have hrd:=nest_round t6 t7 (by omega) (by omega)
    have HR:=Lib.hid hrd
    have HV:=Lib.hid (GoalV.up (d':=134) (by omega) t5)
    have HOK:=Lib.hid t8
    have HBB:=Lib.hid HI.out.below
    have HG:=Lib.hid t4
    have hlt0:=HI.out.lt
    have d0:wr.cell? ⟨w1.heap.size,0,none⟩=some (.int .i64 a1):=(Lib.cell_of_heap t4 0).trans rfl
    have d1:wr.cell? ⟨w1.heap.size,1,none⟩=some (.int .i64 a2):=(Lib.cell_of_heap t4 1).trans rfl
    have d2:wr.cell? ⟨w1.heap.size,2,none⟩=some (.string a3):=(Lib.cell_of_heap t4 2).trans rfl
    have d3:wr.cell? ⟨w1.heap.size,3,none⟩=some (.int .i64 a4):=(Lib.cell_of_heap t4 3).trans rfl
    have d4:wr.cell? ⟨w1.heap.size,4,none⟩=some (.slice a5 a6 a7):=(Lib.cell_of_heap t4 4).trans rfl
    have d5:wr.cell? ⟨w1.heap.size,5,none⟩=some (.int .i64 a8):=(Lib.cell_of_heap t4 5).trans rfl
    have d6:wr.cell? ⟨w1.heap.size,6,none⟩=some (.string a9):=(Lib.cell_of_heap t4 6).trans rfl
    have d7:wr.cell? ⟨w1.heap.size,7,none⟩=some (.int .i64 a10):=(Lib.cell_of_heap t4 7).trans rfl
    have d8:wr.cell? ⟨w1.heap.size,8,none⟩=some (.slice a11 a12 a13):=(Lib.cell_of_heap t4 8).trans rfl
    have d9:wr.cell? ⟨w1.heap.size,9,none⟩=some (.string a14):=(Lib.cell_of_heap t4 9).trans rfl
    have d10:wr.cell? ⟨w1.heap.size,10,none⟩=some (.slice a15 a16 a17):=(Lib.cell_of_heap t4 10).trans rfl
    have d11:wr.cell? ⟨w1.heap.size,11,none⟩=some (.slice a18 a19 a20):=(Lib.cell_of_heap t4 11).trans rfl
    clear t4 t5 t6 t7 t8 t9 hrd
    go_wp2_with fail
    go_at_call 12
    refine (printGoal_any 134 gg _ _ _ _ (HW.out.below HBB.out) HV.out HOK.out (Nat.le_refl _) (by have:=HR.out.short;omega) HR.out.some).mono ?_
    rintro e w3 ⟨rfl,hb⟩
    have HB3:=Lib.hid (HBB.out.trans (hb.mono HBB.out.size))
    have HX3:=Lib.hid ((hb.block _ hlt0).trans HG.out)
    have HV3:=Lib.hid (stays (GoalV.stable 134) HV.out hb (Nat.le_refl _))
    have hs3:=hb.size
    clear hb HV d0 d1 d2 d3 d4 d5 d6 d7 d8 d9 d10 d11
    go_wp2_with fail
    go_at_call 24
    refine (HP.out _ _ (HW.out.below HB3.out).env (HE.out.below HB3.out)).mono ?_
    rintro e w4 ⟨v2,er2,rfl,hb,ht⟩
    have HB4:=Lib.hid (HB3.out.trans (hb.mono HB3.out.size))
    have HX4:=Lib.hid ((hb.block w1.heap.size (by omega)).trans HX3.out)
    have HV4:=Lib.hid (stays (GoalV.stable 134) HV3.out hb (by omega))
    have hs4:=hb.size
    clear hb
    obtain ⟨k2,hk2⟩:=HR.out.back hlen
    rw [hk2] at ht
    obtain ⟨rfl,hv2⟩:=ht
    obtain ⟨b1,b2,b3,b4,b5,b6,b7,b8,b9,b10,b11,b12,b13,b14,b15,b16,b17,b18,b19,b20,rfl⟩:=GoalV.this 134 _ _ _ _ _ hv2
    have HV9:=Lib.hid (stays (GoalV.stable 134) hv2 ((Below.refl w4.heap.size w4).alloc (Nat.le_refl _) (.cells #[.int .i64 b1,.int .i64 b2,.string b3,.int .i64 b4,.slice b5 b6 b7,.int .i64 b8,.string b9,.int .i64 b10,.slice b11 b12 b13,.string b14,.slice b15 b16 b17,.slice b18 b19 b20] 31)) (Nat.le_refl _))
    have HV8:=Lib.hid (stays (GoalV.stable 134) HV4.out ((Below.refl w4.heap.size w4).alloc (Nat.le_refl _) (.cells #[.int .i64 b1,.int .i64 b2,.string b3,.int .i64 b4,.slice b5 b6 b7,.int .i64 b8,.string b9,.int .i64 b10,.slice b11 b12 b13,.string b14,.slice b15 b16 b17,.slice b18 b19 b20] 31)) (by omega))
    have HB9:=Lib.hid (HB4.out.alloc (HB4.out.size) (.cells #[.int .i64 b1,.int .i64 b2,.string b3,.int .i64 b4,.slice b5 b6 b7,.int .i64 b8,.string b9,.int .i64 b10,.slice b11 b12 b13,.string b14,.slice b15 b16 b17,.slice b18 b19 b20] 31))
    have hz9:(w4.alloc (.cells #[.int .i64 b1,.int .i64 b2,.string b3,.int .i64 b4,.slice b5 b6 b7,.int .i64 b8,.string b9,.int .i64 b10,.slice b11 b12 b13,.string b14,.slice b15 b16 b17,.slice b18 b19 b20] 31)).heap.size=w4.heap.size+1:=by simp
    have hlt:w1.heap.size < w4.heap.size:=by omega
    have hne9:¬ w1.heap.size=w4.heap.size:=by omega
    have d0:w4.cell? ⟨w1.heap.size,0,none⟩=some (.int .i64 a1):=(Lib.cell_of_heap HX4.out 0).trans rfl
    have d1:w4.cell? ⟨w1.heap.size,1,none⟩=some (.int .i64 a2):=(Lib.cell_of_heap HX4.out 1).trans rfl
    have d2:w4.cell? ⟨w1.heap.size,2,none⟩=some (.string a3):=(Lib.cell_of_heap HX4.out 2).trans rfl
    have d3:w4.cell? ⟨w1.heap.size,3,none⟩=some (.int .i64 a4):=(Lib.cell_of_heap HX4.out 3).trans rfl
    have d4:w4.cell? ⟨w1.heap.size,4,none⟩=some (.slice a5 a6 a7):=(Lib.cell_of_heap HX4.out 4).trans rfl
    have d5:w4.cell? ⟨w1.heap.size,5,none⟩=some (.int .i64 a8):=(Lib.cell_of_heap HX4.out 5).trans rfl
    have d6:w4.cell? ⟨w1.heap.size,6,none⟩=some (.string a9):=(Lib.cell_of_heap HX4.out 6).trans rfl
    have d7:w4.cell? ⟨w1.heap.size,7,none⟩=some (.int .i64 a10):=(Lib.cell_of_heap HX4.out 7).trans rfl
    have d8:w4.cell? ⟨w1.heap.size,8,none⟩=some (.slice a11 a12 a13):=(Lib.cell_of_heap HX4.out 8).trans rfl
    have d9:w4.cell? ⟨w1.heap.size,9,none⟩=some (.string a14):=(Lib.cell_of_heap HX4.out 9).trans rfl
    have d10:w4.cell? ⟨w1.heap.size,10,none⟩=some (.slice a15 a16 a17):=(Lib.cell_of_heap HX4.out 10).trans rfl
    have d11:w4.cell? ⟨w1.heap.size,11,none⟩=some (.slice a18 a19 a20):=(Lib.cell_of_heap HX4.out 11).trans rfl
    have e0:∀ o,(w4.alloc o).cell? ⟨w1.heap.size,0,none⟩=some (.int .i64 a1):=fun o=>(World.cell?_of_block (a:=⟨w1.heap.size,0,none⟩) (Lib.alloc_old w4 o _ hlt)).trans d0
    have e1:∀ o,(w4.alloc o).cell? ⟨w1.heap.size,1,none⟩=some (.int .i64 a2):=fun o=>(World.cell?_of_block (a:=⟨w1.heap.size,1,none⟩) (Lib.alloc_old w4 o _ hlt)).trans d1
    have e2:∀ o,(w4.alloc o).cell? ⟨w1.heap.size,2,none⟩=some (.string a3):=fun o=>(World.cell?_of_block (a:=⟨w1.heap.size,2,none⟩) (Lib.alloc_old w4 o _ hlt)).trans d2
    have e3:∀ o,(w4.alloc o).cell? ⟨w1.heap.size,3,none⟩=some (.int .i64 a4):=fun o=>(World.cell?_of_block (a:=⟨w1.heap.size,3,none⟩) (Lib.alloc_old w4 o _ hlt)).trans d3
    have e4:∀ o,(w4.alloc o).cell? ⟨w1.heap.size,4,none⟩=some (.slice a5 a6 a7):=fun o=>(World.cell?_of_block (a:=⟨w1.heap.size,4,none⟩) (Lib.alloc_old w4 o _ hlt)).trans d4
    have e5:∀ o,(w4.alloc o).cell? ⟨w1.heap.size,5,none⟩=some (.int .i64 a8):=fun o=>(World.cell?_of_block (a:=⟨w1.heap.size,5,none⟩) (Lib.alloc_old w4 o _ hlt)).trans d5
    have e6:∀ o,(w4.alloc o).cell? ⟨w1.heap.size,6,none⟩=some (.string a9):=fun o=>(World.cell?_of_block (a:=⟨w1.heap.size,6,none⟩) (Lib.alloc_old w4 o _ hlt)).trans d6
    have e7:∀ o,(w4.alloc o).cell? ⟨w1.heap.size,7,none⟩=some (.int .i64 a10):=fun o=>(World.cell?_of_block (a:=⟨w1.heap.size,7,none⟩) (Lib.alloc_old w4 o _ hlt)).trans d7
    have e8:∀ o,(w4.alloc o).cell? ⟨w1.heap.size,8,none⟩=some (.slice a11 a12 a13):=fun o=>(World.cell?_of_block (a:=⟨w1.heap.size,8,none⟩) (Lib.alloc_old w4 o _ hlt)).trans d8
    have e9:∀ o,(w4.alloc o).cell? ⟨w1.heap.size,9,none⟩=some (.string a14):=fun o=>(World.cell?_of_block (a:=⟨w1.heap.size,9,none⟩) (Lib.alloc_old w4 o _ hlt)).trans d9
    have e10:∀ o,(w4.alloc o).cell? ⟨w1.heap.size,10,none⟩=some (.slice a15 a16 a17):=fun o=>(World.cell?_of_block (a:=⟨w1.heap.size,10,none⟩) (Lib.alloc_old w4 o _ hlt)).trans d10
    have e11:∀ o,(w4.alloc o).cell? ⟨w1.heap.size,11,none⟩=some (.slice a18 a19 a20):=fun o=>(World.cell?_of_block (a:=⟨w1.heap.size,11,none⟩) (Lib.alloc_old w4 o _ hlt)).trans d11
    clear hv2
    go_wp2_with fail
    go_at_call 25
    refine (sameGoal_any 134 gg _ _ _ _ _ _ _ HV9.out HV8.out (by omega) (by omega)).mono ?_
    rintro e w5 ⟨rfl,hb⟩
    have HB5:=Lib.hid (HB9.out.trans (hb.mono HB9.out.size))
    clear hb
    go_wp2_with fail
    go_ret
    exact ⟨rfl,HB5.out⟩
  ·have hdc:decide (k < zs.length)=false:=decide_eq_false hlt
   clear t4 t5 t6 t7 t8 t9 C gg
   obtain ⟨gg,C,t4,t5,t6,t7,t8,t9⟩:=HI.out.is
   obtain ⟨a1,a2,a3,a4,a5,a6,a7,a8,a9,a10,a11,a12,a13,a14,a15,a16,a17,a18,a19,a20,e12⟩:=GoalV.this _ _ _ _ _ _ t5
   injection e12 with e12
   subst e12
   have hlen:(goalF gg).length≤16384:=by have:=HL.out;omega
   have hrd:=nest_round t6 t7 (by omega) (by omega)
   have HR:=Lib.hid hrd
   have HV:=Lib.hid (GoalV.up (d':=134) (by omega) t5)
   have HOK:=Lib.hid t8
   have HBB:=Lib.hid HI.out.below
   have HG:=Lib.hid t4
   have hlt0:=HI.out.lt
   have d0:wr.cell? ⟨w1.heap.size,0,none⟩=some (.int .i64 a1):=(Lib.cell_of_heap t4 0).trans rfl
   have d1:wr.cell? ⟨w1.heap.size,1,none⟩=some (.int .i64 a2):=(Lib.cell_of_heap t4 1).trans rfl
   have d2:wr.cell? ⟨w1.heap.size,2,none⟩=some (.string a3):=(Lib.cell_of_heap t4 2).trans rfl
   have d3:wr.cell? ⟨w1.heap.size,3,none⟩=some (.int .i64 a4):=(Lib.cell_of_heap t4 3).trans rfl
   have d4:wr.cell? ⟨w1.heap.size,4,none⟩=some (.slice a5 a6 a7):=(Lib.cell_of_heap t4 4).trans rfl
   have d5:wr.cell? ⟨w1.heap.size,5,none⟩=some (.int .i64 a8):=(Lib.cell_of_heap t4 5).trans rfl
   have d6:wr.cell? ⟨w1.heap.size,6,none⟩=some (.string a9):=(Lib.cell_of_heap t4 6).trans rfl
   have d7:wr.cell? ⟨w1.heap.size,7,none⟩=some (.int .i64 a10):=(Lib.cell_of_heap t4 7).trans rfl
   have d8:wr.cell? ⟨w1.heap.size,8,none⟩=some (.slice a11 a12 a13):=(Lib.cell_of_heap t4 8).trans rfl
   have d9:wr.cell? ⟨w1.heap.size,9,none⟩=some (.string a14):=(Lib.cell_of_heap t4 9).trans rfl
   have d10:wr.cell? ⟨w1.heap.size,10,none⟩=some (.slice a15 a16 a17):=(Lib.cell_of_heap t4 10).trans rfl
   have d11:wr.cell? ⟨w1.heap.size,11,none⟩=some (.slice a18 a19 a20):=(Lib.cell_of_heap t4 11).trans rfl
   clear t4 t5 t6 t7 t8 t9 hrd
   go_wp2_with fail
   go_at_call 12
   refine (printGoal_any 134 gg _ _ _ _ (HW.out.below HBB.out) HV.out HOK.out (Nat.le_refl _) (by have:=HR.out.short;omega) HR.out.some).mono ?_
   rintro e w3 ⟨rfl,hb⟩
   have HB3:=Lib.hid (HBB.out.trans (hb.mono HBB.out.size))
   have HX3:=Lib.hid ((hb.block _ hlt0).trans HG.out)
   have HV3:=Lib.hid (stays (GoalV.stable 134) HV.out hb (Nat.le_refl _))
   have hs3:=hb.size
   clear hb HV d0 d1 d2 d3 d4 d5 d6 d7 d8 d9 d10 d11
   go_wp2_with fail
   go_at_call 24
   refine (HP.out _ _ (HW.out.below HB3.out).env (HE.out.below HB3.out)).mono ?_
   rintro e w4 ⟨v2,er2,rfl,hb,ht⟩
   have HB4:=Lib.hid (HB3.out.trans (hb.mono HB3.out.size))
   have HX4:=Lib.hid ((hb.block w1.heap.size (by omega)).trans HX3.out)
   have HV4:=Lib.hid (stays (GoalV.stable 134) HV3.out hb (by omega))
   have hs4:=hb.size
   clear hb
   obtain ⟨k2,hk2⟩:=HR.out.back hlen
   rw [hk2] at ht
   obtain ⟨rfl,hv2⟩:=ht
   obtain ⟨b1,b2,b3,b4,b5,b6,b7,b8,b9,b10,b11,b12,b13,b14,b15,b16,b17,b18,b19,b20,rfl⟩:=GoalV.this 134 _ _ _ _ _ hv2
   have HV9:=Lib.hid (stays (GoalV.stable 134) hv2 ((Below.refl w4.heap.size w4).alloc (Nat.le_refl _) (.cells #[.int .i64 b1,.int .i64 b2,.string b3,.int .i64 b4,.slice b5 b6 b7,.int .i64 b8,.string b9,.int .i64 b10,.slice b11 b12 b13,.string b14,.slice b15 b16 b17,.slice b18 b19 b20] 31)) (Nat.le_refl _))
   have HV8:=Lib.hid (stays (GoalV.stable 134) HV4.out ((Below.refl w4.heap.size w4).alloc (Nat.le_refl _) (.cells #[.int .i64 b1,.int .i64 b2,.string b3,.int .i64 b4,.slice b5 b6 b7,.int .i64 b8,.string b9,.int .i64 b10,.slice b11 b12 b13,.string b14,.slice b15 b16 b17,.slice b18 b19 b20] 31)) (by omega))
   have HB9:=Lib.hid (HB4.out.alloc (HB4.out.size) (.cells #[.int .i64 b1,.int .i64 b2,.string b3,.int .i64 b4,.slice b5 b6 b7,.int .i64 b8,.string b9,.int .i64 b10,.slice b11 b12 b13,.string b14,.slice b15 b16 b17,.slice b18 b19 b20] 31))
   have hz9:(w4.alloc (.cells #[.int .i64 b1,.int .i64 b2,.string b3,.int .i64 b4,.slice b5 b6 b7,.int .i64 b8,.string b9,.int .i64 b10,.slice b11 b12 b13,.string b14,.slice b15 b16 b17,.slice b18 b19 b20] 31)).heap.size=w4.heap.size+1:=by simp
   have hlt:w1.heap.size < w4.heap.size:=by omega
   have hne9:¬ w1.heap.size=w4.heap.size:=by omega
   have d0:w4.cell? ⟨w1.heap.size,0,none⟩=some (.int .i64 a1):=(Lib.cell_of_heap HX4.out 0).trans rfl
   have d1:w4.cell? ⟨w1.heap.size,1,none⟩=some (.int .i64 a2):=(Lib.cell_of_heap HX4.out 1).trans rfl
   have d2:w4.cell? ⟨w1.heap.size,2,none⟩=some (.string a3):=(Lib.cell_of_heap HX4.out 2).trans rfl
   have d3:w4.cell? ⟨w1.heap.size,3,none⟩=some (.int .i64 a4):=(Lib.cell_of_heap HX4.out 3).trans rfl
   have d4:w4.cell? ⟨w1.heap.size,4,none⟩=some (.slice a5 a6 a7):=(Lib.cell_of_heap HX4.out 4).trans rfl
   have d5:w4.cell? ⟨w1.heap.size,5,none⟩=some (.int .i64 a8):=(Lib.cell_of_heap HX4.out 5).trans rfl
   have d6:w4.cell? ⟨w1.heap.size,6,none⟩=some (.string a9):=(Lib.cell_of_heap HX4.out 6).trans rfl
   have d7:w4.cell? ⟨w1.heap.size,7,none⟩=some (.int .i64 a10):=(Lib.cell_of_heap HX4.out 7).trans rfl
   have d8:w4.cell? ⟨w1.heap.size,8,none⟩=some (.slice a11 a12 a13):=(Lib.cell_of_heap HX4.out 8).trans rfl
   have d9:w4.cell? ⟨w1.heap.size,9,none⟩=some (.string a14):=(Lib.cell_of_heap HX4.out 9).trans rfl
   have d10:w4.cell? ⟨w1.heap.size,10,none⟩=some (.slice a15 a16 a17):=(Lib.cell_of_heap HX4.out 10).trans rfl
   have d11:w4.cell? ⟨w1.heap.size,11,none⟩=some (.slice a18 a19 a20):=(Lib.cell_of_heap HX4.out 11).trans rfl
   have e0:∀ o,(w4.alloc o).cell? ⟨w1.heap.size,0,none⟩=some (.int .i64 a1):=fun o=>(World.cell?_of_block (a:=⟨w1.heap.size,0,none⟩) (Lib.alloc_old w4 o _ hlt)).trans d0
   have e1:∀ o,(w4.alloc o).cell? ⟨w1.heap.size,1,none⟩=some (.int .i64 a2):=fun o=>(World.cell?_of_block (a:=⟨w1.heap.size,1,none⟩) (Lib.alloc_old w4 o _ hlt)).trans d1
   have e2:∀ o,(w4.alloc o).cell? ⟨w1.heap.size,2,none⟩=some (.string a3):=fun o=>(World.cell?_of_block (a:=⟨w1.heap.size,2,none⟩) (Lib.alloc_old w4 o _ hlt)).trans d2
   have e3:∀ o,(w4.alloc o).cell? ⟨w1.heap.size,3,none⟩=some (.int .i64 a4):=fun o=>(World.cell?_of_block (a:=⟨w1.heap.size,3,none⟩) (Lib.alloc_old w4 o _ hlt)).trans d3
   have e4:∀ o,(w4.alloc o).cell? ⟨w1.heap.size,4,none⟩=some (.slice a5 a6 a7):=fun o=>(World.cell?_of_block (a:=⟨w1.heap.size,4,none⟩) (Lib.alloc_old w4 o _ hlt)).trans d4
   have e5:∀ o,(w4.alloc o).cell? ⟨w1.heap.size,5,none⟩=some (.int .i64 a8):=fun o=>(World.cell?_of_block (a:=⟨w1.heap.size,5,none⟩) (Lib.alloc_old w4 o _ hlt)).trans d5
   have e6:∀ o,(w4.alloc o).cell? ⟨w1.heap.size,6,none⟩=some (.string a9):=fun o=>(World.cell?_of_block (a:=⟨w1.heap.size,6,none⟩) (Lib.alloc_old w4 o _ hlt)).trans d6
   have e7:∀ o,(w4.alloc o).cell? ⟨w1.heap.size,7,none⟩=some (.int .i64 a10):=fun o=>(World.cell?_of_block (a:=⟨w1.heap.size,7,none⟩) (Lib.alloc_old w4 o _ hlt)).trans d7
   have e8:∀ o,(w4.alloc o).cell? ⟨w1.heap.size,8,none⟩=some (.slice a11 a12 a13):=fun o=>(World.cell?_of_block (a:=⟨w1.heap.size,8,none⟩) (Lib.alloc_old w4 o _ hlt)).trans d8
   have e9:∀ o,(w4.alloc o).cell? ⟨w1.heap.size,9,none⟩=some (.string a14):=fun o=>(World.cell?_of_block (a:=⟨w1.heap.size,9,none⟩) (Lib.alloc_old w4 o _ hlt)).trans d9
   have e10:∀ o,(w4.alloc o).cell? ⟨w1.heap.size,10,none⟩=some (.slice a15 a16 a17):=fun o=>(World.cell?_of_block (a:=⟨w1.heap.size,10,none⟩) (Lib.alloc_old w4 o _ hlt)).trans d10
   have e11:∀ o,(w4.alloc o).cell? ⟨w1.heap.size,11,none⟩=some (.slice a18 a19 a20):=fun o=>(World.cell?_of_block (a:=⟨w1.heap.size,11,none⟩) (Lib.alloc_old w4 o _ hlt)).trans d11
   clear hv2
   go_wp2_with fail
   go_at_call 25
   refine (sameGoal_any 134 gg _ _ _ _ _ _ _ HV9.out HV8.out (by omega) (by omega)).mono ?_
   rintro e w5 ⟨rfl,hb⟩
   have HB5:=Lib.hid (HB9.out.trans (hb.mono HB9.out.size))
   clear hb
   go_wp2_with fail
   go_ret
   exact ⟨rfl,HB5.out⟩
end Lx
end Go.Proofs.YtajomoclbpobhaaGreatDoor
