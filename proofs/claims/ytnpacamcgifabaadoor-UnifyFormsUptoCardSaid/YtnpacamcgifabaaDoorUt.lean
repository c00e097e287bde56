/- The walk of the statement UnifySelf: it returns true. Conditions: the error variables hold their errors; the type is one that memory holds. -/
import Derived.Test.YtnpacamcgifabaaDoorUs
import Derived.Laws.MakeOwn
namespace Go.Proofs.YtnpacamcgifabaaDoor
set_option linter.unusedSimpArgs false
set_option linter.unusedVariables false
namespace Lx
open Go Go.RowKit
set_option maxRecDepth 100000 in
set_option maxHeartbeats 4000000 in
theorem lawSelf_any (f:Nat→Addr) (d:Nat) (x:TyT) (u:Int) (v:Value) (w:World) (hv:TyW d (fun _=>False) x v w) (hf:fewT x) (he:ErrU f w) :
  Calls Tryd.prog 7 #[.int .i64 u,v] w fun e w'=>e=.returned (.bool true)∧Below w.heap.size w w':=by
 obtain ⟨A1,l1,c1,rfl⟩:=hv.this
 obtain ⟨n,hn12,hn⟩:∃ n:Nat,n < 12∧Int.tmod (Int.tmod u 12+12) 12=(n:Int):=by
  have h1:0≤Int.tmod (Int.tmod u 12+12) 12:=Int.tmod_nonneg 12 (by have:=Int.lt_tmod_of_pos u (show (0:Int) < 12 by decide);omega)
  have h2:Int.tmod (Int.tmod u 12+12) 12 < 12:=Int.tmod_lt_of_pos _ (by decide)
  exact ⟨(Int.tmod (Int.tmod u 12+12) 12).toNat,by omega,by omega⟩
 have hlo:-12 < Int.tmod u 12:=by have:=Int.lt_tmod_of_pos u (show (0:Int) < 12 by decide);omega
 have hhi:Int.tmod u 12 < 12:=Int.tmod_lt_of_pos _ (by decide)
 have hb0:=below_alloc w (.cells #[.int .i64 x.kind,.string x.name,.int .i64 x.var,.slice A1 l1 c1] 32)
 have HB0:=Lib.hid hb0
 have HBX:=Lib.hid (heap_alloc_new w (.cells #[.int .i64 x.kind,.string x.name,.int .i64 x.var,.slice A1 l1 c1] 32))
 have HV:=Lib.hid hv
 have HF:=Lib.hid hf
 have HE:=Lib.hid he
 have HAL:=Lib.hid (alive_any f _ (ErrU.stay f _ _ he hb0))
 clear hb0 hv hf he
 go_enter Tryd.func7,Tryd.ntmps7
 go_wp2_with fail
 refine HAL.out.mono ?_
 rintro e w1 ⟨rfl,hb1⟩
 have HB1:=Lib.hid (HB0.out.trans (hb1.mono HB0.out.size))
 have HX1:=Lib.hid ((hb1.block w.heap.size (by simp)).trans HBX.out)
 clear hb1 HAL HB0 HBX
 go_wp2_with fail
 refine (new_any w1).mono ?_
 rintro e w2 ⟨rfl,hT2,hb2⟩
 have HT2:=Lib.hid hT2
 have HB2:=Lib.hid hb2
 have HZ1:=Lib.hid (Array.getElem?_eq_some_iff.1 HX1.out).1
 clear hT2 hb2
 go_wp2_with fail
 go_loopw [19] (fun t wr=>∃ (q:Nat) (A:Option Addr) (c:Nat),q≤n∧t=.int .i64 q∧Hid (TabF w1.heap.size w1.heap.size q A c wr)∧Hid (Below w1.heap.size w1 wr)) (fun t _=>n - (intOf t).toNat)
 case atStart=>exact ⟨0,none,0,Nat.zero_le _,rfl,HT2,HB2⟩
 case round =>
  obtain ⟨q,A,c,hq,rfl,HT,HB⟩:=hrel
  by_cases hlt:q < n
  ·have hdc:decide ((q:Int) < (n:Int))=true:=by simpa using hlt
   have HFR:=Lib.hid (fresh_any w1.heap.size w1.heap.size q A c wr HT.out (by omega) HB.out.size)
   go_wp2_with (go_at_call 15;refine HFR.out.mono ?_;rintro e w3 ⟨rfl,⟨A',c',hT3⟩,hb3⟩;have HT3:=Lib.hid hT3;have HB3:=Lib.hid (HB.out.trans hb3);clear hT3 hb3)
   go_roundw
   case rel=>exact ⟨q+1,A',c',by omega,by go_num,HT3,HB3⟩
   case measure=>simp [intOf];omega
  ·obtain rfl:q=n:=by omega
   have hdc:decide ((q:Int) < (q:Int))=false:=by simp
   obtain ⟨C,hmk⟩:∃ C:Array Value,∀ W:World,(Instr.makeSlice 27 (.int .i64 (q:Int)) (.int .i64 (q:Int))).run Tryd.prog W=.ok (.slice (some ⟨W.heap.size,0,none⟩) q q) (W.alloc (.cells C 32)):=by
    obtain ⟨i0,hi0,hz0,hz1,hz2⟩:=info_parts infoTy
    exact ⟨_,fun W=>run_makeSlice (P:=Tryd.prog) W 27 32 i0 _ Tryd.underlying27 hi0 hz0 .i64 .i64 q q (by omega) (by omega) (by rw [hz1];omega) (by rw [hz2];omega) (by omega)⟩
   have hB9:Below wr.heap.size wr ((wr.alloc (.cells C 32)).alloc (.cells #[.slice (some ⟨wr.heap.size,0,none⟩) q q] 29)):=(below_alloc _ _).alloc (by simp) _
   have htm:TabC (wr.heap.size+1) q ((wr.alloc (.cells C 32)).alloc (.cells #[.slice (some ⟨wr.heap.size,0,none⟩) q q] 29)):=by
    have h:=heap_alloc_new (wr.alloc (.cells C 32)) (.cells #[.slice (some ⟨wr.heap.size,0,none⟩) q q] 29)
    rw [show (wr.alloc (.cells C 32)).heap.size=wr.heap.size+1 by simp] at h
    exact ⟨(Array.getElem?_eq_some_iff.1 h).1,_,_,(cellH h 0).trans rfl⟩
   have HWR:=Lib.hid (HB1.out.trans (HB.out.mono HB1.out.size))
   have HTR:=Lib.hid (TabR.stay w1.heap.size q _ _ (HT.out.free (by omega)) hB9)
   have HTM:=Lib.hid htm
   have HW9:=Lib.hid (HWR.out.trans (hB9.mono HWR.out.size))
   have HX9:=Lib.hid ((hB9.block w.heap.size (by have:=HZ1.out;have:=HB.out.size;omega)).trans ((HB.out.block w.heap.size HZ1.out).trans HX1.out))
   have hmk1:=hmk wr
   clear hB9 htm hmk HT HB HT2 HB2 HX1
   have a0:=(cellH HX9.out 0).trans rfl
   have a1:=(cellH HX9.out 1).trans rfl
   have a2:=(cellH HX9.out 2).trans rfl
   have a3:=(cellH HX9.out 3).trans rfl
   go_wp2_with fail
   clear a0 a1 a2 a3 hmk1
   generalize ((wr.alloc (.cells C 32)).alloc (.cells #[.slice (some ⟨wr.heap.size,0,none⟩) q q] 29))=W9 at HTR HTM HW9 HX9 ⊢
   refine (unifySelf_any f w1.heap.size q d (fun _=>False) x _ W9 ((TyW.step d).below HV.out HW9.out) HF.out (fun k e=>e.elim) HTR.out (ErrU.stay f _ _ HE.out HW9.out)).mono ?_
   rintro e w4 ⟨rfl,hb4⟩
   have HW4:=Lib.hid (HW9.out.trans (hb4.mono HW9.out.size))
   have HX4:=Lib.hid ((hb4.block w.heap.size (Array.getElem?_eq_some_iff.1 HX9.out).1).trans HX9.out)
   have HTR4:=Lib.hid (TabR.stay w1.heap.size q _ _ HTR.out hb4)
   have HTM4:=Lib.hid (TabC.stay (wr.heap.size+1) q _ _ HTM.out hb4)
   clear hb4 HX9 HTR HTM HW9
   have a0:=(cellH HX4.out 0).trans rfl
   have a1:=(cellH HX4.out 1).trans rfl
   have a2:=(cellH HX4.out 2).trans rfl
   have a3:=(cellH HX4.out 3).trans rfl
   have HKN:=Lib.hid (known_any (wr.heap.size+1) q d (fun _=>False) x _ w4 ((TyW.step d).below HV.out HW4.out) HTM4.out)
   have heq:=fun i=>eqlE_same (f i)
   cases hs:strange (q:Int) x
   ·rw [hs] at HKN
    have HND:=Lib.hid (fun W hb=>refNodes_any d (fun _=>False) x _ W ((TyW.step d).below HV.out hb))
    cases hl:largeT x
    ·rw [show refuseV f q [x,x]=.nilIface by simp [refuseV,hs,hl]]
     have hq:decide (IntKind.i64.wrap (nodesZ x) > 200)=false:=hl
     generalize IntKind.i64.wrap (nodesZ x)=z at HND hq
     clear hs hl
     go_wp2_with (go_at_call 34;refine HKN.out.mono ?_;rintro e w5 ⟨rfl,hb5⟩;have HW5:=Lib.hid (HW4.out.trans (hb5.mono HW4.out.size));have HX5:=Lib.hid ((hb5.block w.heap.size (Array.getElem?_eq_some_iff.1 HX4.out).1).trans HX4.out);have HTR5:=Lib.hid (TabR.stay w1.heap.size q _ _ HTR4.out hb5);clear hb5;have b0:=(cellH HX5.out 0).trans rfl;have b1:=(cellH HX5.out 1).trans rfl;have b2:=(cellH HX5.out 2).trans rfl;have b3:=(cellH HX5.out 3).trans rfl)
     go_at_call 35
     refine (HND.out _ HW5.out).mono ?_
     rintro e w6 ⟨rfl,hb6⟩
     have HW6:=Lib.hid (HW5.out.trans (hb6.mono HW5.out.size))
     have HTR6:=Lib.hid (TabR.stay w1.heap.size q _ _ HTR5.out hb6)
     clear hb6 a0 a1 a2 a3 b0 b1 b2 b3 HX5 HTR5 HW5 HX4 HTR4 HTM4 HW4 HKN HND
     have HFA:=Lib.hid free_any
     have HSF:=Lib.hid sameFree
     clear heq
     go_wp2_with fail
     go_loopw [8] (fun t wr=>∃ i:Nat,i≤q∧t=.int .i64 i∧Hid (Below w.heap.size w wr)∧Hid (TabR w1.heap.size q wr)) (fun t _=>q - (intOf t).toNat)
     case atStart=>exact ⟨0,Nat.zero_le _,rfl,HW6,HTR6⟩
     case round =>
      obtain ⟨i,hi,rfl,HB,HT⟩:=hrel
      by_cases hlt2:i < q
      ·have hdc2:decide ((i:Int) < (q:Int))=true:=by simpa using hlt2
       have HRS:=Lib.hid (fun W (hb:Below wr.heap.size wr W)=>resolve_free f w1.heap.size q i 4 i ⟨#[]⟩ none 0 W hlt2 ((TabR.stay w1.heap.size q _ _ HT.out hb).cell hlt2 4 (by decide)) (ErrU.stay f _ _ HE.out (HB.out.trans (hb.mono HB.out.size))) (Lib.hid (fun X hX=>head_free w1.heap.size q i ⟨#[]⟩ none 0 0 X ((TabR.stay w1.heap.size q _ _ (TabR.stay w1.heap.size q _ _ HT.out hb) hX).cell hlt2 0 (by decide)) hlt2)))
       go_wp2_with fail
       refine (HFA.out _ _).mono ?_
       rintro e w7 ⟨rfl,hb7⟩
       have HB7:=Lib.hid hb7
       clear hb7
       go_wp2_with fail
       refine (HRS.out w7 HB7.out).mono ?_
       rintro e w8 ⟨rfl,hb8⟩
       have HB8:=Lib.hid (HB7.out.trans (hb8.mono HB7.out.size))
       clear hb8 HRS HB7
       go_upto_region 19 with fail
       have HB9:=Lib.hid (HB8.out.trans ((below_alloc w8 (.cells #[.int .i64 4,.string ⟨#[]⟩,.int .i64 (i:Int),.slice none 0 0] 32)).mono HB8.out.size))
       have HN9:=Lib.hid (heap_alloc_new w8 (.cells #[.int .i64 4,.string ⟨#[]⟩,.int .i64 (i:Int),.slice none 0 0] 32))
       generalize hY:(w8.alloc (.cells #[.int .i64 4,.string ⟨#[]⟩,.int .i64 (i:Int),.slice none 0 0] 32))=Y at HB9 HN9 ⊢
       have hys:w8.heap.size < Y.heap.size:=by rw [← hY];simp
       have HYS:=Lib.hid hys
       clear hY hys
       have HNY:Hid (Y.drew.heap[w8.heap.size]?=_):=HN9
       have HBY:Hid (Below wr.heap.size wr Y.drew):=Lib.hid (below_drw HB9.out)
       have HYY:Hid (w8.heap.size < Y.drew.heap.size):=HYS
       clear HN9 HB9 HYS
       have c0:=(cellH HNY.out 0).trans rfl
       have c1:=(cellH HNY.out 1).trans rfl
       have c2:=(cellH HNY.out 2).trans rfl
       have c3:=(cellH HNY.out 3).trans rfl
       go_region_with (first
        | (go_at_call 21;refine (HFA.out _ _).mono ?_;rintro e wA ⟨rfl,hbA⟩;have HNA:=Lib.hid ((hbA.block w8.heap.size HYY.out).trans HNY.out);have HBA:=Lib.hid (HBY.out.trans (hbA.mono HBY.out.size));have d0:=(cellH HNA.out 0).trans rfl;have d1:=(cellH HNA.out 1).trans rfl;have d2:=(cellH HNA.out 2).trans rfl;have d3:=(cellH HNA.out 3).trans rfl;clear hbA)
        | (go_at_call 14;refine (HSF.out _ _).mono ?_;rintro e wB ⟨rfl,hbB⟩;have HBB:=Lib.hid (HBA.out.trans (hbB.mono HBA.out.size));clear hbB))
       all_goals
        clear c0 c1 c2 c3 d0 d1 d2 d3
        go_wp2_with fail
        go_roundw
        case rel=>exact ⟨i+1,by omega,by go_num,Lib.hid (HB.out.trans (HBB.out.mono HB.out.size)),Lib.hid (TabR.stay w1.heap.size q _ _ HT.out HBB.out)⟩
        case measure=>simp [intOf];omega
      ·obtain rfl:i=q:=by omega
       have hdc2:decide ((i:Int) < (i:Int))=false:=by simp
       have HL:=Lib.hid (len_any w1.heap.size i wr HT.out.tab)
       go_wp2_with (go_at_call 23;refine HL.out.mono ?_;rintro e w9 ⟨rfl,rfl⟩)
       go_ret
       exact ⟨rfl,HB.out⟩
    ·rw [show refuseV f q [x,x]=errP (f 0) by simp [refuseV,hs,hl]]
     have hq:decide (IntKind.i64.wrap (nodesZ x) > 200)=true:=hl
     generalize IntKind.i64.wrap (nodesZ x)=z at HND hq
     clear hs hl
     go_wp2_with (go_at_call 34;refine HKN.out.mono ?_;rintro e w5 ⟨rfl,hb5⟩;have HW5:=Lib.hid (HW4.out.trans (hb5.mono HW4.out.size));have HX5:=Lib.hid ((hb5.block w.heap.size (Array.getElem?_eq_some_iff.1 HX4.out).1).trans HX4.out);clear hb5;have b0:=(cellH HX5.out 0).trans rfl;have b1:=(cellH HX5.out 1).trans rfl;have b2:=(cellH HX5.out 2).trans rfl;have b3:=(cellH HX5.out 3).trans rfl)
     go_at_call 35
     refine (HND.out _ HW5.out).mono ?_
     rintro e w6 ⟨rfl,hb6⟩
     have HW6:=Lib.hid (HW5.out.trans (hb6.mono HW5.out.size))
     have hlg:=(ErrU.stay f _ _ HE.out HW6.out).large
     have heq0:=heq 0
     clear hb6 a0 a1 a2 a3 b0 b1 b2 b3
     go_wp2_with fail
     go_ret
     exact ⟨rfl,HW6.out⟩
   ·rw [hs] at HKN
    rw [show refuseV f q [x,x]=errP (f 1) by simp [refuseV,hs]]
    clear hs
    have heq1:=heq 1
    go_wp2_with (go_at_call 34;refine HKN.out.mono ?_;rintro e w5 ⟨rfl,hb5⟩;have HW5:=Lib.hid (HW4.out.trans (hb5.mono HW4.out.size));clear hb5;have hst:=(ErrU.stay f _ _ HE.out HW5.out).state)
    go_ret
    exact ⟨rfl,HW5.out⟩
end Lx
end Go.Proofs.YtnpacamcgifabaaDoor
