/- Data: the depth, and whether data are good, of the program and of the reference. Conditions: as each states. -/
import Derived.Test.YtnpacamcgifabaaDoorDa
namespace Go.Proofs.YtnpacamcgifabaaDoor
set_option linter.unusedSimpArgs false
set_option linter.unusedVariables false
namespace Lx
open Go Go.RowKit
def DepC (d:Nat):Prop:=∀ (Vol:Nat→Prop) (x:DaT) (v:Value) (w:World),DaW d Vol x v w→sizeD x≤4096 →
 Calls Tryd.prog 81 #[v] w fun e w'=>e=.returned (.int .i64 (depD x:Int))∧Below w.heap.size w w'
set_option maxRecDepth 100000 in
set_option maxHeartbeats 4000000 in
theorem dep_step (d:Nat) (HC:Hid (DepC d)):DepC (d+1):=by
 intro Vol x v w hv hk
 obtain ⟨A0,l0,c0,rfl⟩:=hv.this
 have hb:=below_alloc w (.cells #[.bool x.ctor,.int .i64 x.int,.string x.name,.slice A0 l0 c0] 68)
 have HB:=Lib.hid hb
 have HP:=Lib.hid (parts_any d Vol x _ _ ((DaW.step (d+1)).below hv hb))
 have HX:=Lib.hid (heap_alloc_new w (.cells #[.bool x.ctor,.int .i64 x.int,.string x.name,.slice A0 l0 c0] 68))
 have HSZ:=Lib.hid (depD_parts x)
 have hsz:sizeDs (partsD x)≤4096:=by have:=sizeD_parts x;omega
 have hdz:=deps_size (partsD x)
 clear hv hb hk
 go_enter Tryd.func81,Tryd.ntmps81
 have x0:=(cellH HX.out 0).trans rfl
 have x1:=(cellH HX.out 1).trans rfl
 have x2:=(cellH HX.out 2).trans rfl
 have x3:=(cellH HX.out 3).trans rfl
 go_wp2_with fail
 clear x0 x1 x2 x3
 generalize (w.alloc (.cells #[.bool x.ctor,.int .i64 x.int,.string x.name,.slice A0 l0 c0] 68))=W at HB HP HX ⊢
 try go_at_call 100
 refine HP.out.mono ?_
 rintro e w1 ⟨pv,rfl,hr,hb1⟩
 have HB1:=Lib.hid (HB.out.trans (hb1.mono HB.out.size))
 have HR:=Lib.hid hr
 clear hb1 HP HX HB
 obtain ⟨A,c,rfl⟩:=hr.slice
 have hfew:=hr.few
 unfold maxLen at hfew
 clear hr
 generalize partsD x=l at HR HSZ hfew hsz hdz ⊢
 have HS4:=Lib.hid hsz
 have HDZ:=Lib.hid hdz
 clear hsz hdz
 go_wp2_with fail
 go_loopw [3,9] (fun u t wr=>∃ i:Nat,i≤l.length∧t=.int .i64 i∧u=.int .i64 (depDs (l.take i):Int)∧Hid (Below w1.heap.size w1 wr)) (fun _ t _=>l.length - (intOf t).toNat)
 case atStart=>exact ⟨0,Nat.zero_le _,rfl,by rw [List.take_zero,depDs];rfl,Lib.hid (Below.refl _ _)⟩
 case round =>
  obtain ⟨i,hi,rfl,rfl,HBR⟩:=hrel
  by_cases hlt:i < l.length
  ·obtain ⟨gg,o,vi,rfl,hg,_,hvi,hc⟩:=RowW.at ((RowW.step (DaW.step d)).below HR.out HBR.out) i hlt
   obtain ⟨B1,n1,m1,rfl⟩:=hvi.this
   have a0:=(hc 0 (by decide)).trans rfl
   have a1:=(hc 1 (by decide)).trans rfl
   have a2:=(hc 2 (by decide)).trans rfl
   have a3:=(hc 3 (by decide)).trans rfl
   simp only [cellsL,Value.cells,List.getElem?_cons_zero,List.getElem?_cons_succ,Nat.add_zero] at a0 a1 a2 a3
   have hi0:(0:Int)≤(i:Int):=by omega
   have hi1:(i:Int) < (l.length:Int):=by omega
   have hdc:decide (i < l.length)=true:=by simpa using hlt
   have hst:=depDs_take hlt
   have hsp:=deps_size (l.take i)
   have hsq:=sizeDs_part l i
   have hsm:=sizeDs_mem hlt
   have HLT:=Lib.hid hlt
   generalize hyy:l[i]=y at hvi a0 a1 a2 a3 hst hsm
   have hbx:=below_alloc wr (.cells #[.bool y.ctor,.int .i64 y.int,.string y.name,.slice B1 n1 m1] 68)
   have HVI:=Lib.hid ((DaW.step d).below hvi hbx)
   have HXB:=Lib.hid (heap_alloc_new wr (.cells #[.bool y.ctor,.int .i64 y.int,.string y.name,.slice B1 n1 m1] 68))
   have HBX:=Lib.hid (HBR.out.trans (hbx.mono HBR.out.size))
   have HST:=Lib.hid hst
   have HSP:Hid (depDs (l.take i)≤4096):=Lib.hid (by have:=HS4.out;omega)
   have HSM:Hid (sizeD y≤4096):=Lib.hid (by have:=HS4.out;omega)
   clear hsq hsm
   obtain ⟨N,hN⟩:∃ N:Nat,depDs (l.take i)=N:=⟨_,rfl⟩
   rw [hN] at hst HSP
   have HST:=Lib.hid hst
   rw [hN]
   clear hvi hbx hst hsp hyy hlt hc hN
   have b0:=(cellH HXB.out 0).trans rfl
   have b1:=(cellH HXB.out 1).trans rfl
   have b2:=(cellH HXB.out 2).trans rfl
   have b3:=(cellH HXB.out 3).trans rfl
   go_wp2_with fail
   clear a0 a1 a2 a3 b0 b1 b2 b3 hdc
   try go_at_call 81
   refine (HC.out Vol y _ _ HVI.out HSM.out).mono ?_
   rintro e w3 ⟨rfl,hb3⟩
   have HB3:=Lib.hid (HBX.out.trans (hb3.mono HBX.out.size))
   have hdy:=dep_size y
   have hsy:=HSM.out
   clear hb3
   go_wp2_with fail
   go_roundw
   case rel=>exact ⟨i+1,by have:=HLT.out;omega,by go_num,by rw [HST.out];congr 1;omega,HB3⟩
   case measure=>have:=HLT.out;simp [intOf];omega
  ·obtain rfl:i=l.length:=by omega
   have hdc:decide (l.length < l.length)=false:=by simp
   rw [List.take_length]
   have h1:=HDZ.out
   have h2:=HS4.out
   go_wp2_with fail
   go_ret
   rw [HSZ.out]
   exact ⟨by first | rfl | (congr 2;omega),HB1.out.trans (HBR.out.mono HB1.out.size)⟩
theorem dep_any:∀ d,DepC d
 | 0=>fun _ _ _ _ h _=>h.elim
 | d+1=>dep_step d (Lib.hid (dep_any d))
set_option maxRecDepth 100000 in
set_option maxHeartbeats 1000000 in
theorem nodes_any (d:Nat) (Vol:Nat→Prop) (x:DaT) (v:Value) (w:World) (hv:DaW d Vol x v w) :
  Calls Tryd.prog 46 #[v] w fun e w'=>e=.returned (.int .i64 ((min (sizeD x) 4097:Nat):Int))∧Below w.heap.size w w':=by
 obtain ⟨A0,l0,c0,rfl⟩:=hv.this
 have hb:=below_alloc w (.cells #[.bool x.ctor,.int .i64 x.int,.string x.name,.slice A0 l0 c0] 68)
 have HB:=Lib.hid hb
 have h:=count_any d Vol 0 x _ _ ((DaW.step d).below hv hb) (by omega)
 rw [Nat.zero_add] at h
 have HP:=Lib.hid h
 have HX:=Lib.hid (heap_alloc_new w (.cells #[.bool x.ctor,.int .i64 x.int,.string x.name,.slice A0 l0 c0] 68))
 clear hv hb h
 go_enter Tryd.func46,Tryd.ntmps46
 have x0:=(cellH HX.out 0).trans rfl
 have x1:=(cellH HX.out 1).trans rfl
 have x2:=(cellH HX.out 2).trans rfl
 have x3:=(cellH HX.out 3).trans rfl
 go_wp2_with fail
 clear x0 x1 x2 x3
 try go_at_call 80
 refine HP.out.mono ?_
 rintro e w1 ⟨rfl,hb1⟩
 have HB1:=Lib.hid (HB.out.trans (hb1.mono HB.out.size))
 clear hb1
 go_wp2_with fail
 go_ret
 exact ⟨rfl,HB1.out⟩
set_option maxRecDepth 100000 in
set_option maxHeartbeats 1000000 in
theorem good_any (d:Nat) (Vol:Nat→Prop) (x:DaT) (v:Value) (w:World) (hv:DaW d Vol x v w) :
  Calls Tryd.prog 47 #[v] w fun e w'=>e=.returned (.bool (goodD x))∧Below w.heap.size w w':=by
 obtain ⟨A0,l0,c0,rfl⟩:=hv.this
 have hb:=below_alloc w (.cells #[.bool x.ctor,.int .i64 x.int,.string x.name,.slice A0 l0 c0] 68)
 have HB:=Lib.hid hb
 have HV:=Lib.hid ((DaW.step d).below hv hb)
 have HX:=Lib.hid (heap_alloc_new w (.cells #[.bool x.ctor,.int .i64 x.int,.string x.name,.slice A0 l0 c0] 68))
 clear hv hb
 go_enter Tryd.func47,Tryd.ntmps47
 have x0:=(cellH HX.out 0).trans rfl
 have x1:=(cellH HX.out 1).trans rfl
 have x2:=(cellH HX.out 2).trans rfl
 have x3:=(cellH HX.out 3).trans rfl
 go_wp2_with fail
 clear x0 x1 x2 x3
 generalize (w.alloc (.cells #[.bool x.ctor,.int .i64 x.int,.string x.name,.slice A0 l0 c0] 68))=W at HB HV HX ⊢
 generalize w.heap.size=X at HX ⊢
 try go_at_call 46
 refine (nodes_any d Vol x _ W HV.out).mono ?_
 rintro e w1 ⟨rfl,hb1⟩
 have HB1:=Lib.hid hb1
 have HX1:=Lib.hid ((hb1.block X (Array.getElem?_eq_some_iff.1 HX.out).1).trans HX.out)
 have HV1:=Lib.hid ((DaW.step d).below HV.out hb1)
 clear hb1
 by_cases hs:sizeD x≤4096
 ·have e1:min (sizeD x) 4097=sizeD x:=by omega
  have HDP:=Lib.hid (dep_any d Vol x _ w1 HV1.out hs)
  have e2:goodD x=decide (depD x≤200):=by simp [goodD,hs]
  have E2:=Lib.hid e2
  rw [e1]
  clear e2 e1
  generalize sizeD x=n at hs ⊢
  have hd1:decide (n≤4096)=true:=by simpa using hs
  have hd2:decide ((n:Int)≤(4096:Int))=true:=by simp;omega
  have x0:=(cellH HX1.out 0).trans rfl
  have x1:=(cellH HX1.out 1).trans rfl
  have x2:=(cellH HX1.out 2).trans rfl
  have x3:=(cellH HX1.out 3).trans rfl
  go_wp2_with fail
  clear x0 x1 x2 x3
  try go_at_call 81
  refine HDP.out.mono ?_
  rintro e w2 ⟨rfl,hb2⟩
  have HB2:=Lib.hid (HB1.out.trans (hb2.mono HB1.out.size))
  clear hb2
  go_wp2_with fail
  go_ret
  exact ⟨by rw [E2.out];congr 2;simp;omega,HB.out.trans (HB2.out.mono HB.out.size)⟩
 ·have e1:min (sizeD x) 4097=4097:=by omega
  have e2:goodD x=false:=by simp [goodD,hs]
  have E2:=Lib.hid e2
  rw [e1]
  clear e2 e1
  go_wp2_with fail
  go_ret
  exact ⟨by rw [E2.out];rfl,HB.out.trans (HB1.out.mono HB.out.size)⟩
end Lx
end Go.Proofs.YtnpacamcgifabaaDoor
