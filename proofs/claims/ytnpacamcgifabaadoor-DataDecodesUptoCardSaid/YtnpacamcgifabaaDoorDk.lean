/- The program: Compare of data. Conditions: as each states. -/
import Derived.Test.YtnpacamcgifabaaDoorDj
namespace Go.Proofs.YtnpacamcgifabaaDoor
set_option linter.unusedSimpArgs false
set_option linter.unusedVariables false
namespace Lx
open Go Go.RowKit
theorem bne_selfS (a:ByteArray):(!(a.toList == a.toList))=false:=by rw [Bool.not_eq_false'];exact beq_self_eq_true _
theorem bne_otherS {a b:ByteArray} (h:¬ a.toList=b.toList):(!(a.toList == b.toList))=true:=by rw [beq_eq_false_iff_ne.2 h];rfl
set_option maxRecDepth 100000 in
set_option maxHeartbeats 1000000 in
theorem nan_int (a:Int) (w:World):Calls Tryd.prog 102 #[.int .i64 a] w fun e w'=>e=.returned (.bool false)∧w'=w:=by
 have h:(a != a)=false:=by simp
 go_enter Tryd.func102,Tryd.ntmps102
 go_wp2_with fail
 go_ret
 exact ⟨by first | rfl | simp,rfl⟩
set_option maxRecDepth 100000 in
set_option maxHeartbeats 1000000 in
theorem nan_str (a:ByteArray) (w:World):Calls Tryd.prog 103 #[.string a] w fun e w'=>e=.returned (.bool false)∧w'=w:=by
 have h:=bne_selfS a
 go_enter Tryd.func103,Tryd.ntmps103
 go_wp2_with fail
 go_ret
 exact ⟨by first | rfl | rw [h],rfl⟩
set_option maxRecDepth 100000 in
set_option maxHeartbeats 1000000 in
theorem cmp_int (a b:Int) (w:World):Calls Tryd.prog 77 #[.int .i64 a,.int .i64 b] w fun e w'=>e=.returned (.int .i64 (cmpI a b))∧w'=w:=by
 have hN:=Lib.hid nan_int
 by_cases h1:a < b
 ·have hd:decide (a < b)=true:=by simpa using h1
  have e:cmpI a b=-1:=if_pos h1
  have HE:=Lib.hid e
  clear e
  go_enter Tryd.func77,Tryd.ntmps77
  go_wp2_with (go_at_call 102;refine (hN.out _ _).mono ?_;rintro e w3 ⟨rfl,rfl⟩)
  go_ret
  exact ⟨by rw [HE.out];rfl,rfl⟩
 ·have hd:decide (a < b)=false:=by simpa using h1
  by_cases h2:b < a
  ·have hd2:decide (b < a)=true:=by simpa using h2
   have e:cmpI a b=1:=by unfold cmpI;rw [if_neg h1,if_pos h2]
   have HE:=Lib.hid e
   clear e
   go_enter Tryd.func77,Tryd.ntmps77
   go_wp2_with (go_at_call 102;refine (hN.out _ _).mono ?_;rintro e w3 ⟨rfl,rfl⟩)
   go_ret
   exact ⟨by rw [HE.out];rfl,rfl⟩
  ·have hd2:decide (b < a)=false:=by simpa using h2
   have e:cmpI a b=0:=by unfold cmpI;rw [if_neg h1,if_neg h2]
   have HE:=Lib.hid e
   clear e
   go_enter Tryd.func77,Tryd.ntmps77
   go_wp2_with (go_at_call 102;refine (hN.out _ _).mono ?_;rintro e w3 ⟨rfl,rfl⟩)
   go_ret
   exact ⟨by rw [HE.out];rfl,rfl⟩
set_option maxRecDepth 100000 in
set_option maxHeartbeats 1000000 in
theorem cmp_str (a b:ByteArray) (w:World):Calls Tryd.prog 78 #[.string a,.string b] w fun e w'=>e=.returned (.int .i64 (cmpS a b))∧w'=w:=by
 have hN:=Lib.hid nan_str
 obtain ⟨L,hL⟩:∃ L,Op.bytesLess a.toList b.toList=L:=⟨_,rfl⟩
 obtain ⟨E,hE⟩:∃ E,(a.toList == b.toList)=E:=⟨_,rfl⟩
 have HS:Hid (cmpS a b=if L=true then -1 else if E=true then 0 else 1):=Lib.hid (by unfold cmpS;rw [hL,hE])
 cases L
 ·cases E
  ·go_enter Tryd.func78,Tryd.ntmps78
   go_wp2_with (go_at_call 103;refine (hN.out _ _).mono ?_;rintro e w3 ⟨rfl,rfl⟩)
   go_ret
   exact ⟨by rw [HS.out];rfl,rfl⟩
  ·go_enter Tryd.func78,Tryd.ntmps78
   go_wp2_with (go_at_call 103;refine (hN.out _ _).mono ?_;rintro e w3 ⟨rfl,rfl⟩)
   go_ret
   exact ⟨by rw [HS.out];rfl,rfl⟩
 ·go_enter Tryd.func78,Tryd.ntmps78
  go_wp2_with (go_at_call 103;refine (hN.out _ _).mono ?_;rintro e w3 ⟨rfl,rfl⟩)
  go_ret
  exact ⟨by rw [HS.out];rfl,rfl⟩
def CmpC (d:Nat):Prop:=∀ (Vol Vol2:Nat→Prop) (x y:DaT) (v1 v2:Value) (w:World),DaW d Vol x v1 w→DaW d Vol2 y v2 w→Calls Tryd.prog 44 #[v1,v2] w fun e w'=>e=.returned (.int .i64 (cmpD x y))∧Below w.heap.size w w'
set_option maxRecDepth 100000 in
set_option maxHeartbeats 4000000 in
theorem cmpf_of (d:Nat) (HC:Hid (CmpC d)) (Vol Vol2:Nat→Prop) (l l':List DaT) (v1 v2:Value) (w:World) (h1:RowW 4 (DaW d) Vol l v1 w) (h2:RowW 4 (DaW d) Vol2 l' v2 w) (hl:l.length=l'.length) :
  Calls Tryd.prog 79 #[v1,v2,.func (.func 44) #[] #[]] w fun e w'=>e=.returned (.int .i64 (cmpDs l l'))∧Below w.heap.size w w':=by
 obtain ⟨A1,c1,rfl⟩:=h1.slice
 obtain ⟨A2,c2,rfl⟩:=h2.slice
 have hf1:=h1.few
 have hf2:=h2.few
 unfold maxLen at hf1 hf2
 have H1:=Lib.hid h1
 have H2:=Lib.hid h2
 rw [← hl]
 have HLL:=Lib.hid hl
 clear h1 h2 hl
 go_enter Tryd.func79,Tryd.ntmps79
 go_wp2_with fail
 go_loopw [13] (fun t wr=>∃ i:Nat,i≤l.length∧t=.int .i64 i∧Hid (cmpDs l l'=cmpDs (l.drop i) (l'.drop i))∧Hid (Below w.heap.size w wr)) (fun t _=>l.length - (intOf t).toNat)
 case atStart=>exact ⟨0,Nat.zero_le _,rfl,Lib.hid rfl,Lib.hid (Below.refl _ _)⟩
 case round =>
  obtain ⟨i,hi,rfl,HD,HB⟩:=hrel
  by_cases hlt:i < l.length
  ·have hlt2:i < l'.length:=by rw [← HLL.out];exact hlt
   obtain ⟨g1,o1,u1,rfl,hg1,_,hv1,hc1⟩:=RowW.at ((RowW.step (DaW.step d)).below H1.out HB.out) i hlt
   obtain ⟨g2,o2,u2,rfl,hg2,_,hv2,hc2⟩:=RowW.at ((RowW.step (DaW.step d)).below H2.out HB.out) i hlt2
   obtain ⟨B1,n1,m1,rfl⟩:=hv1.this
   obtain ⟨B2,n2,m2,rfl⟩:=hv2.this
   have a0:=(hc1 0 (by decide)).trans rfl
   have a1:=(hc1 1 (by decide)).trans rfl
   have a2:=(hc1 2 (by decide)).trans rfl
   have a3:=(hc1 3 (by decide)).trans rfl
   have b0:=(hc2 0 (by decide)).trans rfl
   have b1:=(hc2 1 (by decide)).trans rfl
   have b2:=(hc2 2 (by decide)).trans rfl
   have b3:=(hc2 3 (by decide)).trans rfl
   simp only [cellsL,Value.cells,List.getElem?_cons_zero,List.getElem?_cons_succ,Nat.add_zero] at a0 a1 a2 a3 b0 b1 b2 b3
   have hi0:(0:Int)≤(i:Int):=by omega
   have hi1:(i:Int) < (l.length:Int):=by omega
   have hdc:decide (i < l.length)=true:=by simpa using hlt
   have hdn:decide (l.length≤i)=false:=by simpa using hlt
   have hdq:cmpDs l l'=lx (cmpD l[i] l'[i]) (cmpDs (l.drop (i+1)) (l'.drop (i+1))):=by
    rw [HD.out,List.drop_eq_getElem_cons hlt,List.drop_eq_getElem_cons hlt2,cmpDs]
   have HLT:=Lib.hid hlt
   generalize hxx:l[i]=x at hv1 a0 a1 a2 a3 hdq
   generalize hyy:l'[i]=y at hv2 b0 b1 b2 b3 hdq
   have hbx:=below_alloc wr (.cells #[.bool x.ctor,.int .i64 x.int,.string x.name,.slice B1 n1 m1] 68)
   have hby:=below_alloc (wr.alloc (.cells #[.bool x.ctor,.int .i64 x.int,.string x.name,.slice B1 n1 m1] 68)) (.cells #[.bool y.ctor,.int .i64 y.int,.string y.name,.slice B2 n2 m2] 68)
   have hbb:=hbx.trans (hby.mono hbx.size)
   have HV1:=Lib.hid ((DaW.step d).below hv1 hbb)
   have HV2:=Lib.hid ((DaW.step d).below hv2 hbb)
   have HX1:=Lib.hid (hby.block wr.heap.size (by simp) |>.trans (heap_alloc_new wr (.cells #[.bool x.ctor,.int .i64 x.int,.string x.name,.slice B1 n1 m1] 68)))
   have hx2:=heap_alloc_new (wr.alloc (.cells #[.bool x.ctor,.int .i64 x.int,.string x.name,.slice B1 n1 m1] 68)) (.cells #[.bool y.ctor,.int .i64 y.int,.string y.name,.slice B2 n2 m2] 68)
   rw [show (wr.alloc (.cells #[.bool x.ctor,.int .i64 x.int,.string x.name,.slice B1 n1 m1] 68)).heap.size=wr.heap.size+1 by simp] at hx2
   have HX2:=Lib.hid hx2
   have HBB:=Lib.hid (HB.out.trans (hbb.mono HB.out.size))
   have HDQ:=Lib.hid hdq
   have HL1:=Lib.hid hg1
   have HL2:=Lib.hid hg2
   have b0':=(World.cell?_of_block (hbx.block g2 hg2)).trans b0
   have b1':=(World.cell?_of_block (hbx.block g2 hg2)).trans b1
   have b2':=(World.cell?_of_block (hbx.block g2 hg2)).trans b2
   have b3':=(World.cell?_of_block (hbx.block g2 hg2)).trans b3
   clear hv1 hv2 hbx hby hbb hx2 hdq hxx hyy hlt hlt2 hc1 hc2
   have x0:=(cellH HX1.out 0).trans rfl
   have x1:=(cellH HX1.out 1).trans rfl
   have x2:=(cellH HX1.out 2).trans rfl
   have x3:=(cellH HX1.out 3).trans rfl
   have y0:=(cellH HX2.out 0).trans rfl
   have y1:=(cellH HX2.out 1).trans rfl
   have y2:=(cellH HX2.out 2).trans rfl
   have y3:=(cellH HX2.out 3).trans rfl
   go_wp2_with fail
   clear a0 a1 a2 a3 b0 b1 b2 b3 b0' b1' b2' b3' x0 x1 x2 x3 y0 y1 y2 y3 hdc hdn
   try go_at_call 44
   refine (HC.out Vol Vol2 x y _ _ _ HV1.out HV2.out).mono ?_
   rintro e w3 ⟨rfl,hb3⟩
   have HB3:=Lib.hid (HBB.out.trans (hb3.mono HBB.out.size))
   clear hb3
   by_cases hz:cmpD x y=0
   ·have HQ:Hid (cmpDs l l'=cmpDs (l.drop (i+1)) (l'.drop (i+1))):=Lib.hid (by rw [HDQ.out,lx,if_pos hz])
    rw [hz]
    go_wp2_with fail
    go_roundw
    case rel=>exact ⟨i+1,by have:=HLT.out;omega,by go_num,HQ,HB3⟩
    case measure=>have:=HLT.out;simp [intOf];omega
   ·have HQ:Hid (cmpDs l l'=cmpD x y):=Lib.hid (by rw [HDQ.out,lx,if_neg hz])
    generalize cmpD x y=q at hz HQ ⊢
    have hq1:(q != 0)=true:=by simpa using hz
    have hq2:(q == 0)=false:=by simpa using hz
    go_wp2_with fail
    go_ret
    exact ⟨by rw [HQ.out];rfl,HB3.out⟩
  ·obtain rfl:i=l.length:=by omega
   have hdc:decide (l.length < l.length)=false:=by simp
   have HQ:Hid (cmpDs l l'=0):=Lib.hid (by rw [HD.out,List.drop_length,cmpDs])
   go_wp2_with fail
   go_ret
   exact ⟨by rw [HQ.out];rfl,HB.out⟩
end Lx
end Go.Proofs.YtnpacamcgifabaaDoor
