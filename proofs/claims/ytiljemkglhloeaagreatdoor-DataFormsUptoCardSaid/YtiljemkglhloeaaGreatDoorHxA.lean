/- The reference's Nodes of data: how many, 4097 at most. No conditions. -/
/- The reference's Text of data: its bytes; they are the form of data's term. Conditions: the numbers are a machine's; the text fits a string. -/
/- The reference's Encode of data: its bytes, or the error's number. Conditions: as each states. -/
/- Package print's Term at a term whose form is empty: no name, no arguments. No conditions. -/
import Derived.Test.YtiljemkglhloeaaGreatDoorDxA
import Derived.Test.YtiljemkglhloeaaGreatDoorGxK
import Derived.Test.YtiljemkglhloeaaGreatDoorQaA
import Derived.Test.YtiljemkglhloeaaGreatDoorDxT
import Derived.Test.YtiljemkglhloeaaGreatDoorGxB
namespace Go.Proofs.YtiljemkglhloeaaGreatDoor
set_option linter.unusedSimpArgs false
set_option linter.unusedVariables false
namespace Lx
open Go Go.RowKit
def RNodC (d:Nat):Prop:=∀ (Vol:Nat→Prop) (x:DaT) (v:Value) (w:World),DaW d Vol x v w →
 Calls Tryz.prog 21 #[v] w fun e w'=>e=.returned (.int .i64 ((min (sizeD x) 4097:Nat):Int))∧Below w.heap.size w w'
set_option maxRecDepth 100000 in
set_option maxHeartbeats 4000000 in
theorem rnod_step (d:Nat) (HC:Hid (RNodC d)):RNodC (d+1):=by
 rintro Vol ⟨c,n,s,l⟩ v w ⟨va,rfl,hr⟩
 obtain ⟨A,k,rfl⟩:=hr.slice
 have hfew:=hr.few
 unfold maxLen at hfew
 have hb:=below_alloc w (.cells #[.bool c,.int .i64 n,.string s,.slice A l.length k] 46)
 have HB:=Lib.hid hb
 have HR:=Lib.hid ((RowW.step (DaW.step d)).below hr hb)
 have HX:=Lib.hid (heap_alloc_new w (.cells #[.bool c,.int .i64 n,.string s,.slice A l.length k] 46))
 clear hr hb
 cases c
 ·have HSZ:=Lib.hid (show min (sizeD (.mk false n s l)) 4097=1 by rw [sizeD,if_neg (by decide)];rfl)
  go_enter Tryz.func21,Tryz.ntmps21
  go_wp2_with fail
  generalize (w.alloc (.cells #[.bool false,.int .i64 n,.string s,.slice A l.length k] 46))=W at HB HR HX ⊢
  go_loopw [3,4] (fun u t wr=>u=.int .i64 1∧t=.int .i64 0∧wr=W) (fun _ _ _=>0)
  case atStart=>exact ⟨rfl,rfl,rfl⟩
  case round =>
   obtain ⟨rfl,rfl,rfl⟩:=hrel
   have x0:=(cellH HX.out 0).trans rfl
   go_wp2_with fail
   go_ret
   rw [HSZ.out]
   exact ⟨rfl,HB.out⟩
 ·have HSZ:=Lib.hid (show sizeD (.mk true n s l)=1+sizeDs l by rw [sizeD,if_pos rfl])
  go_enter Tryz.func21,Tryz.ntmps21
  go_wp2_with fail
  generalize (w.alloc (.cells #[.bool true,.int .i64 n,.string s,.slice A l.length k] 46))=W at HB HR HX ⊢
  obtain ⟨N0,hN0⟩:∃ N0,w.heap.size=N0:=⟨_,rfl⟩
  rw [hN0] at HX
  try rw [hN0]
  go_loopw [3,4] (fun u t wr=>∃ (m i:Nat),i≤l.length∧m≤8193∧u=.int .i64 m∧t=.int .i64 i∧Hid (m=1+sizeDs (l.take i) ∨ (4096 < m∧4096 < 1+sizeDs (l.take i)))∧Hid (Below W.heap.size W wr)) (fun _ t _=>l.length - (intOf t).toNat)
  case atStart=>exact ⟨1,0,Nat.zero_le _,by omega,rfl,rfl,Lib.hid (.inl (by rw [List.take_zero,sizeDs])),Lib.hid (Below.refl _ _)⟩
  case round =>
   obtain ⟨m,i,hi,hm,rfl,rfl,HM,HBR⟩:=hrel
   have HXR:=Lib.hid ((HBR.out.block _ (Array.getElem?_eq_some_iff.1 HX.out).1).trans HX.out)
   have x0:=(cellH HXR.out 0).trans rfl
   have x3:=(cellH HXR.out 3).trans rfl
   by_cases hlt:i < l.length
   ·have hdc:decide (i < l.length)=true:=by simpa using hlt
    by_cases hm2:m≤4096
    ·have hd2:decide (m≤4096)=true:=by simpa using hm2
     have hd3:decide ((m:Int)≤(4096:Int))=true:=by simp;omega
     obtain ⟨gg,o,vi,rfl,hg,_,hvi,hc⟩:=RowW.at ((RowW.step (DaW.step d)).below HR.out HBR.out) i hlt
     obtain ⟨B1,n1,m1,rfl⟩:=hvi.this
     have a0:=(hc 0 (by decide)).trans rfl
     have a1:=(hc 1 (by decide)).trans rfl
     have a2:=(hc 2 (by decide)).trans rfl
     have a3:=(hc 3 (by decide)).trans rfl
     simp only [cellsL,Value.cells,List.getElem?_cons_zero,List.getElem?_cons_succ,Nat.add_zero] at a0 a1 a2 a3
     have hi0:(0:Int)≤(i:Int):=by omega
     have hi1:(i:Int) < (l.length:Int):=by omega
     have HCX:=Lib.hid (HC.out Vol l[i] _ _ hvi)
     have HST:=Lib.hid (sizeDs_take hlt)
     have HLT:=Lib.hid hlt
     have HM2:=Lib.hid hm2
     generalize l[i]=y at *
     clear hvi hc hlt hm2
     go_wp2_with fail
     clear a0 a1 a2 a3 x0 x3
     try go_at_call 21
     refine HCX.out.mono ?_
     rintro e w3 ⟨rfl,hb3⟩
     have HB3:=Lib.hid (HBR.out.trans (hb3.mono HBR.out.size))
     clear hb3 hdc hd2 hd3
     have hyp:=sizeD_pos y
     obtain ⟨r,hr⟩:∃ r,min (sizeD y) 4097=r:=⟨_,rfl⟩
     have HRR:=Lib.hid hr
     have hr2:r≤4097:=by omega
     rw [hr]
     clear hr hyp
     have hm3:=HM2.out
     go_wp2_with fail
     go_roundw
     case rel=>exact ⟨m+r,i+1,HLT.out,by omega,by go_num,by go_num,Lib.hid (by have:=HM.out;have:=HST.out;have:=HRR.out;omega),HB3⟩
     case measure=>have:=HLT.out;simp [intOf];omega
    ·have hd2:decide (m≤4096)=false:=by simpa using hm2
     have hd3:decide ((m:Int)≤(4096:Int))=false:=by simp;omega
     have hd4:decide (4096 < m)=true:=by simp;omega
     have hd5:decide ((4096:Int) < (m:Int))=true:=by simp;omega
     go_wp2_with fail
     go_ret
     have e:min (sizeD (.mk true n s l)) 4097=4097:=by have:=HM.out;have:=HSZ.out;have:=sizeDs_part l i;omega
     rw [e]
     exact ⟨rfl,HB.out.trans (HBR.out.mono HB.out.size)⟩
   ·obtain rfl:i=l.length:=by omega
    have hdc:decide (l.length < l.length)=false:=by simp
    rw [List.take_length] at HM
    by_cases hm2:m≤4096
    ·have hd4:decide (4096 < m)=false:=by simp;omega
     have hd5:decide ((4096:Int) < (m:Int))=false:=by simp;omega
     go_wp2_with fail
     go_ret
     have e:min (sizeD (.mk true n s l)) 4097=m:=by have:=HM.out;have:=HSZ.out;omega
     rw [e]
     exact ⟨rfl,HB.out.trans (HBR.out.mono HB.out.size)⟩
    ·have hd4:decide (4096 < m)=true:=by simp;omega
     have hd5:decide ((4096:Int) < (m:Int))=true:=by simp;omega
     go_wp2_with fail
     go_ret
     have e:min (sizeD (.mk true n s l)) 4097=4097:=by have:=HM.out;have:=HSZ.out;omega
     rw [e]
     exact ⟨rfl,HB.out.trans (HBR.out.mono HB.out.size)⟩
theorem rnod_any:∀ d,RNodC d
 | 0=>fun _ _ _ _ h=>h.elim
 | d+1=>rnod_step d (Lib.hid (rnod_any d))
end Lx
end Go.Proofs.YtiljemkglhloeaaGreatDoor
namespace Go.Proofs.YtiljemkglhloeaaGreatDoor
set_option linter.unusedSimpArgs false
set_option linter.unusedVariables false
namespace Lx
open Go Go.RowKit
mutual
def dtx:DaT→List UInt8
 | .mk c n s l=>if c=true then s.data.toList++(dts true l++if l.length=0 then [] else [41]) else Lib.itoa n
def dts:Bool→List DaT→List UInt8
 | _,[]=>[]
 | b,x :: l=>(if b=true then [40] else [44,32])++(dtx x++dts false l)
end
theorem dts_snoc:∀ (a:List DaT) (b:Bool) (x:DaT),dts b (a++[x])=dts b a++((if b=true∧a.length=0 then [40] else [44,32])++dtx x)
 | [],b,x=>by cases b <;> simp [dts]
 | y :: a,b,x=>by
  rw [List.cons_append,dts,dts,dts_snoc a false x]
  simp
theorem dts_take {l:List DaT} {k:Nat} (h:k < l.length):dts true (l.take (k+1))=dts true (l.take k)++((if k=0 then [40] else [44,32])++dtx l[k]):=by
 rw [List.take_succ_eq_append_getElem h,dts_snoc]
 have:(l.take k).length=k:=by rw [List.length_take];omega
 rw [this]
 simp
theorem dts_part (l:List DaT) (k:Nat):(dts true (l.take k)).length≤(dts true l).length:=by
 induction h:l.length - k generalizing k with
 | zero=>rw [List.take_of_length_le (by omega)];exact Nat.le_refl _
 | succ n ih =>
  have h1:=ih (k+1) (by omega)
  rw [dts_take (by omega:k < l.length),List.length_append] at h1
  omega
theorem numsDs_mem:∀ {l:List DaT},numsDs l→∀ {k:Nat} (h:k < l.length),numsD l[k]
 | [],_,k,h=>by simp at h
 | x :: l,hf,0,_=>hf.1
 | x :: l,hf,k+1,h=>numsDs_mem hf.2 (by simpa using h)
mutual
theorem dtx_form:∀ x:DaT,dtx x=termF (tmOf x)
 | .mk c n s l=>by
  cases c
  ·rw [dtx,if_neg (by decide),tmOf,if_neg (by decide),termF,if_pos rfl]
   simp [termsF,argsF]
  ·rw [dtx,if_pos rfl,tmOf,if_pos rfl,termF,if_neg (show ¬ (3:Int)=2 by decide),termsF_map,tmOfs_map,List.map_map]
   congr 1
   cases l with
   | nil=>simp [dts,argsF]
   | cons y l =>
    have h2:=(dts_form l).2 y (dtx_form y)
    rw [dts,if_pos rfl,if_neg (show ¬ (y :: l).length=0 by simp)]
    unfold argsF
    rw [if_neg (show ¬ List.map (termF ∘ tmOf) (y :: l)=[] by simp),List.map_cons,← h2]
    simp
theorem dts_form:∀ l:List DaT,(∀ x ∈ l,True)∧∀ y:DaT,dtx y=(termF ∘ tmOf) y→dtx y++dts false l=joinF [44,32] ((termF ∘ tmOf) y :: l.map (termF ∘ tmOf))
 | []=>⟨by simp,fun y hy=>by rw [dts,List.append_nil,List.map_nil,joinF,hy]⟩
 | z :: l=>⟨by simp,fun y hy=>by
   rw [dts,if_neg (by decide),List.map_cons,joinF,← (dts_form l).2 z (dtx_form z),hy]⟩
end
theorem str_add (a b:List UInt8) (h:a.length+b.length≤9000000000000000000):∀ W:World,(Op.stringOp .add (bs a) (bs b)).run Tryz.prog W=.ok (.string (bs (a++b))) W:=fun W=>by
 rw [run_string_add_sum (P:=Tryz.prog) W (bs a) (bs b) (by rw [bs_len,bs_len];omega),bs_app]
def RTxtC (d:Nat):Prop:=∀ (Vol:Nat→Prop) (x:DaT) (v:Value) (w:World),DaW d Vol x v w→numsD x→(dtx x).length≤4000000000000000000 →
 Calls Tryz.prog 24 #[v] w fun e w'=>e=.returned (.string (bs (dtx x)))∧Below w.heap.size w w'
set_option maxRecDepth 100000 in
set_option maxHeartbeats 4000000 in
theorem rtxt_step (d:Nat) (HC:Hid (RTxtC d)):RTxtC (d+1):=by
 rintro Vol ⟨c,n,s,l⟩ v w ⟨va,rfl,hr⟩ hw hlen
 obtain ⟨A1,c1,rfl⟩:=hr.slice
 cases c
 ·rw [numsD,if_neg (by decide)] at hw
  have HB0:=Lib.hid (below_alloc w (.cells #[.bool false,.int .i64 n,.string s,.slice A1 l.length c1] 46))
  have HD:=Lib.hid (fun W=>r3dec_any n hw.1 hw.2 W)
  have HEQ:=Lib.hid (show dtx (.mk false n s l)=Lib.itoa n by rw [dtx,if_neg (by decide)])
  have HX0:=Lib.hid (heap_alloc_new w (.cells #[.bool false,.int .i64 n,.string s,.slice A1 l.length c1] 46))
  clear hr hw hlen
  go_enter Tryz.func24,Tryz.ntmps24
  have x0:=(cellH HX0.out 0).trans rfl
  have x1:=(cellH HX0.out 1).trans rfl
  go_wp2_with fail
  go_at_call 40
  refine (HD.out _).mono ?_
  rintro e w3 ⟨rfl,hb3⟩
  have HB3:=Lib.hid (HB0.out.trans (hb3.mono HB0.out.size))
  clear hb3
  go_wp2_with fail
  go_ret
  exact ⟨by rw [HEQ.out];rfl,HB3.out⟩
 ·have HB0:=Lib.hid (below_alloc w (.cells #[.bool true,.int .i64 n,.string s,.slice A1 l.length c1] 46))
  have HW:=Lib.hid (show numsDs l by rw [numsD,if_pos rfl] at hw;exact hw)
  have HEQ:=Lib.hid (show dtx (.mk true n s l)=s.data.toList++(dts true l++if l.length=0 then [] else [41]) by rw [dtx,if_pos rfl])
  rw [HEQ.out] at hlen
  have hl2:s.data.toList.length+((dts true l).length+(if l.length=0 then ([]:List UInt8) else [41]).length)≤4000000000000000000:=by rw [← List.length_append,← List.length_append];exact hlen
  have HLN:=Lib.hid (show s.data.toList.length+(dts true l).length+1≤4000000000000000001 by omega)
  have HV:=Lib.hid hr
  have hfew:=hr.few
  unfold maxLen at hfew
  have HSB:=Lib.hid (bs_back s)
  clear hr hw hlen hl2
  go_enter Tryz.func24,Tryz.ntmps24
  go_upto_region 3 with fail
  have HX0:=Lib.hid (heap_alloc_new w (.cells #[.bool true,.int .i64 n,.string s,.slice A1 l.length c1] 46))
  have HV1:=Lib.hid ((RowW.step (DaW.step d)).below HV.out HB0.out)
  generalize (w.alloc (.cells #[.bool true,.int .i64 n,.string s,.slice A1 l.length c1] 46))=W at HB0 HX0 HV1 ⊢
  have a1:=(cellH HX0.out 2).trans rfl
  have a3:=(cellH HX0.out 3).trans rfl
  go_wp2_with fail
  clear a1 a3
  go_loopw [3,17] (fun u t wr=>∃ k:Nat,k≤l.length∧u=.string (bs (s.data.toList++dts true (l.take k)))∧t=.int .i64 k∧Hid (Below W.heap.size W wr)) (fun _ t _=>l.length - (intOf t).toNat)
  case atStart=>exact ⟨0,Nat.zero_le _,by rw [List.take_zero,dts,List.append_nil,HSB.out],rfl,Lib.hid (Below.refl _ _)⟩
  case round =>
   obtain ⟨k,hk,rfl,rfl,HB⟩:=hrel
   by_cases hlt:k < l.length
   ·obtain ⟨gg,o,vi,rfl,hg,_,hvi,hc⟩:=RowW.at ((RowW.step (DaW.step d)).below HV1.out HB.out) k hlt
    obtain ⟨B1,n1,c2,rfl⟩:=hvi.this
    have a0:=(hc 0 (by decide)).trans rfl
    have a1:=(hc 1 (by decide)).trans rfl
    have a2:=(hc 2 (by decide)).trans rfl
    have a3:=(hc 3 (by decide)).trans rfl
    simp only [cellsL,Value.cells,List.getElem?_cons_zero,List.getElem?_cons_succ,Nat.add_zero] at a0 a1 a2 a3
    have hk0:(0:Int)≤(k:Int):=by omega
    have hk1:(k:Int) < (l.length:Int):=by omega
    have hdc:decide (k < l.length)=true:=by simpa using hlt
    have htk:=dts_take hlt
    have hpt:=dts_part l (k+1)
    rw [htk] at hpt
    simp only [List.length_append] at hpt
    have hbz:=below_alloc wr (.cells #[.bool l[k].ctor,.int .i64 l[k].int,.string l[k].name,.slice B1 n1 c2] 46)
    have HX:=Lib.hid (HC.out Vol l[k] _ _ ((DaW.step d).below hvi hbz) (numsDs_mem HW.out hlt) (by have:=HLN.out;omega))
    have HBZ:=Lib.hid (HB.out.trans (hbz.mono HB.out.size))
    have HTK:=Lib.hid htk
    have HLT:=Lib.hid hlt
    generalize hsep:(if k=0 then ([40]:List UInt8) else [44,32])=sep at hpt HTK
    have HXB:=Lib.hid (heap_alloc_new wr (.cells #[.bool l[k].ctor,.int .i64 l[k].int,.string l[k].name,.slice B1 n1 c2] 46))
    have hla:(s.data.toList++dts true (l.take k)).length+sep.length+(dtx l[k]).length≤4000000000000000001:=by
     have:=HLN.out
     rw [List.length_append]
     omega
    have hnext:s.data.toList++dts true (l.take (k+1))=((s.data.toList++dts true (l.take k))++sep)++dtx l[k]:=by rw [HTK.out,List.append_assoc,List.append_assoc];rfl
    have HNEXT:=Lib.hid hnext
    clear hc hvi hbz hpt htk hnext
    generalize hacc:s.data.toList++dts true (l.take k)=acc at hla HNEXT ⊢
    generalize hxx:l[k]=x at hla HNEXT HX HBZ HXB a0 a1 a2 ⊢
    have HA1:=Lib.hid (str_add acc sep (by omega))
    have HA2:=Lib.hid (str_add (acc++sep) (dtx x) (by rw [List.length_append];omega))
    clear hacc hxx hla
    by_cases h0:k=0
    ·have he0:((k:Int) == 0)=true:=by simp [h0]
     rw [if_pos h0] at hsep
     subst hsep
     have ha1:∀ W:World,(Op.stringOp .add (bs acc) ⟨#[40]⟩).run Tryz.prog W=.ok (.string (bs (acc++[40]))) W:=HA1.out
     clear h0
     go_wp2_with (go_at_call 24;have hxq:=HX.out;with_reducible refine hxq.mono ?_;clear hxq;rintro e w5 ⟨rfl,hb5⟩;have HB5:=Lib.hid (HBZ.out.trans (hb5.mono HBZ.out.size));have ha2:=HA2.out;clear hb5)
     go_roundw
     case rel=>exact ⟨k+1,by have:=HLT.out;omega,by rw [HNEXT.out];simp,by go_num,HB5⟩
     case measure=>have:=HLT.out;simp [intOf];omega
    ·have he0:((k:Int) == 0)=false:=beq_eq_false_iff_ne.2 (by omega)
     rw [if_neg h0] at hsep
     subst hsep
     have ha1:∀ W:World,(Op.stringOp .add (bs acc) ⟨#[44,32]⟩).run Tryz.prog W=.ok (.string (bs (acc++[44,32]))) W:=HA1.out
     clear h0
     go_wp2_with (go_at_call 24;have hxq:=HX.out;with_reducible refine hxq.mono ?_;clear hxq;rintro e w5 ⟨rfl,hb5⟩;have HB5:=Lib.hid (HBZ.out.trans (hb5.mono HBZ.out.size));have ha2:=HA2.out;clear hb5)
     go_roundw
     case rel=>exact ⟨k+1,by have:=HLT.out;omega,by rw [HNEXT.out];simp,by go_num,HB5⟩
     case measure=>have:=HLT.out;simp [intOf];omega
   ·obtain rfl:k=l.length:=by omega
    have hdc:decide (l.length < l.length)=false:=by simp
    rw [List.take_length]
    have hx0:=(HB.out.block _ (Array.getElem?_eq_some_iff.1 HX0.out).1).trans HX0.out
    have a3:=(cellH hx0 3).trans rfl
    have HBE:=Lib.hid (HB0.out.trans (HB.out.mono HB0.out.size))
    by_cases h0:l.length=0
    ·rw [if_pos h0,List.append_nil] at HEQ
     have hdl:decide (0 < l.length)=false:=by simp [h0]
     clear hx0 h0
     go_wp2_with fail
     go_ret
     exact ⟨by rw [HEQ.out];rfl,HBE.out⟩
    ·rw [if_neg h0] at HEQ
     have hdl:decide (0 < l.length)=true:=by simp only [decide_eq_true_eq];omega
     have HA1:=Lib.hid (str_add (s.data.toList++dts true l) [41] (by have:=HLN.out;simp only [List.length_append,List.length_cons,List.length_nil];omega))
     have ha1:∀ W:World,(Op.stringOp .add (bs (s.data.toList++dts true l)) ⟨#[41]⟩).run Tryz.prog W=.ok (.string (bs ((s.data.toList++dts true l)++[41]))) W:=HA1.out
     generalize hacc:s.data.toList++dts true l=acc at ha1 ⊢
     clear hx0 h0
     go_wp2_with fail
     go_ret
     exact ⟨by rw [HEQ.out,← List.append_assoc,hacc];rfl,HBE.out⟩
theorem rtxt_any:∀ d,RTxtC d
 | 0=>fun _ _ _ _ h=>h.elim
 | d+1=>rtxt_step d (Lib.hid (rtxt_any d))
end Lx
end Go.Proofs.YtiljemkglhloeaaGreatDoor
namespace Go.Proofs.YtiljemkglhloeaaGreatDoor
set_option linter.unusedSimpArgs false
set_option linter.unusedVariables false
namespace Lx
open Go Go.RowKit
theorem u64_byte (n:Int) (i:Nat) (hi:i < 8):(((n % 18446744073709551616).toNat / 256 ^ i % 256:Nat):Int)=((byteZ (n / 2 ^ (8 * i))).toNat:Int):=by
 rw [byteZ_nat]
 match i,hi with
 | 0,_=>simp only [Nat.mul_zero,Int.pow_zero,Nat.pow_zero];omega
 | 1,_=>simp only [Nat.reduceMul,Int.reducePow,Nat.reducePow];omega
 | 2,_=>simp only [Nat.reduceMul,Int.reducePow,Nat.reducePow];omega
 | 3,_=>simp only [Nat.reduceMul,Int.reducePow,Nat.reducePow];omega
 | 4,_=>simp only [Nat.reduceMul,Int.reducePow,Nat.reducePow];omega
 | 5,_=>simp only [Nat.reduceMul,Int.reducePow,Nat.reducePow];omega
 | 6,_=>simp only [Nat.reduceMul,Int.reducePow,Nat.reducePow];omega
 | 7,_=>simp only [Nat.reduceMul,Int.reducePow,Nat.reducePow];omega
theorem u64_next (M i:Nat):M / 256 ^ i / 256=M / 256 ^ (i+1):=by rw [Nat.div_div_eq_div_mul,Nat.pow_succ]
theorem u64_wrap (n:Int):IntKind.u64.wrap n=(((n % 18446744073709551616).toNat:Nat):Int):=by
 have h:IntKind.u64.wrap n=n % 18446744073709551616:=by first | rfl | simp [IntKind.wrap]
 rw [h,Int.toNat_of_nonneg (Int.emod_nonneg _ (by decide))]
/-- What put gives, at data held so deep. -/
def PutR2 (B:Nat) (x:DaT) (w:World):Ending→World→Prop:=fun e w'=>Below B w w' ∧
 ((fitD x=true∧∃ A m c,e=.returned (.tuple #[.slice A m c,.bool true])∧OwnB B (encD x) (.slice A m c) w') ∨ (fitD x=false∧e=.returned (.tuple #[.slice none 0 0,.bool false])))
def PutC (d:Nat):Prop:=∀ (Vol:Nat→Prop) (x:DaT) (v:Value) (w:World),DaW d Vol x v w→sizeD x≤4096 →
 Calls Tryz.prog 44 #[v] w (PutR2 w.heap.size x w)
set_option maxRecDepth 100000 in
set_option maxHeartbeats 8000000 in
theorem put_int (d:Nat) (n:Int) (s:ByteArray) (l:List DaT) (Vol:Nat→Prop) (v:Value) (w:World) (hv:DaW (d+1) Vol (.mk false n s l) v w) :
  Calls Tryz.prog 44 #[v] w (PutR2 w.heap.size (.mk false n s l) w):=by
 obtain ⟨va,rfl,hr⟩:=hv
 obtain ⟨A,k,rfl⟩:=hr.slice
 have hb:=below_alloc w (.cells #[.bool false,.int .i64 n,.string s,.slice A l.length k] 46)
 have hx:=heap_alloc_new w (.cells #[.bool false,.int .i64 n,.string s,.slice A l.length k] 46)
 have hb2:=below_alloc (w.alloc (.cells #[.bool false,.int .i64 n,.string s,.slice A l.length k] 46)) (.cells #[.int .u8 0] 5)
 have HB0:=Lib.hid (hb.trans (hb2.mono hb.size))
 have HO0:Hid (OwnB w.heap.size ([0]++(le8 n).take 0) (.slice (some ⟨(w.alloc (.cells #[.bool false,.int .i64 n,.string s,.slice A l.length k] 46)).heap.size,0,none⟩) 1 1) ((w.alloc (.cells #[.bool false,.int .i64 n,.string s,.slice A l.length k] 46)).alloc (.cells #[.int .u8 0] 5))):=Lib.hid (World.ownsRow_lit _ #[.int .u8 0] 1 hb.size (by decide) rfl)
 have HEN:=Lib.hid (show encD (.mk false n s l)=[0]++le8 n by rw [encD];simp)
 have HFT:=Lib.hid (show fitD (.mk false n s l)=true by rw [fitD_parts,partsD,if_neg (by decide)];rfl)
 have x0:=(cellH hx 0).trans rfl
 have x1:=(cellH ((hb2.block _ (Array.getElem?_eq_some_iff.1 hx).1).trans hx) 1).trans rfl
 clear hr hb hb2 hx
 go_enter Tryz.func44,Tryz.ntmps44
 go_wp2_with fail
 rw [u64_wrap]
 obtain ⟨M,hM⟩:∃ M:Nat,(n % 18446744073709551616).toNat=M:=⟨_,rfl⟩
 have hM64:M < 18446744073709551616:=by omega
 rw [hM]
 have HM:=Lib.hid hM
 clear hM x0 x1
 generalize ((w.alloc (.cells #[.bool false,.int .i64 n,.string s,.slice A l.length k] 46)).alloc (.cells #[.int .u8 0] 5))=W at HB0 HO0 ⊢
 have hzz:(w.alloc (.cells #[.bool false,.int .i64 n,.string s,.slice A l.length k] 46)).heap.size=w.heap.size+1:=by simp
 rw [hzz] at HO0
 clear hzz
 go_loopw [4,5,6] (fun b q t wr=>∃ (i:Nat) (A:Option Addr) (m c q0:Nat),i≤8∧t=.int .i64 i∧b=.slice A m c∧q=.int .u64 q0∧q0 < 18446744073709551616∧Hid (q0=M / 256 ^ i)∧Hid (OwnB w.heap.size ([0]++(le8 n).take i) b wr)∧Hid (Below w.heap.size w wr)) (fun _ _ t _=>8 - (intOf t).toNat)
 case atStart=>exact ⟨0,_,_,_,M,Nat.zero_le _,rfl,rfl,rfl,hM64,Lib.hid (by simp),HO0,HB0⟩
 case round =>
  obtain ⟨i,A,m,c,q0,hi,rfl,rfl,rfl,hq0,HQ,HOR,HBR⟩:=hrel
  by_cases hlt:i < 8
  ·have hdc:decide (i < 8)=true:=by simpa using hlt
   have hd2:decide ((i:Int) < (8:Int))=true:=by simp;omega
   have hle:([0]++(le8 n).take i).length≤100000000000000:=by
    simp only [List.length_append,List.length_take,List.length_cons,List.length_nil]
    omega
   have hnx:(le8 n).take (i+1)=(le8 n).take i++[byteZ (n / 2 ^ (8 * i))]:=by
    have h8:i < (le8 n).length:=by simp [le8];omega
    rw [List.take_succ_eq_append_getElem h8]
    simp [le8]
   have HNX:=Lib.hid hnx
   have HLE:=Lib.hid hle
   have HBY:=Lib.hid (show ((q0:Int) % 256)=((byteZ (n / 2 ^ (8 * i))).toNat:Int) by
    have h:=u64_byte n i hlt
    rw [HM.out,← HQ.out] at h
    rw [← h]
    rfl)
   have hs:=HBR.out.size
   clear hnx hle
   go_wp2_with (at_builtin;refine append_byte rfl _ _ rfl w.heap.size ([0]++(le8 n).take i) _ rfl (OwnB.below HOR.out (below_alloc _ _)) wr.heap.size (byteZ (n / 2 ^ (8 * i))) rfl (by rw [← HBY.out];exact heap_alloc_new wr _) HLE.out (by simp;omega) ?_;intro A3 m3 c3 w6 hown6 hg6;have HO6:=Lib.hid hown6;have HG6:=Lib.hid hg6;clear hown6 hg6)
   have HB6:Hid (Below w.heap.size w w6):=Lib.hid (below_grownB (HBR.out.trans ((below_alloc wr (.cells #[.int .u8 ((q0:Int) % 256)] 5)).mono (by omega))) HG6.out (fun k e=>(HOR.out.lt k e).1) (by simp;omega))
   go_roundw
   case rel=>exact ⟨i+1,A3,m3,c3,q0 / 256,by omega,by go_num,rfl,rfl,by omega,Lib.hid (by rw [HQ.out];exact u64_next M i),by rw [HNX.out,← List.append_assoc];exact HO6,HB6⟩
   case measure=>simp [intOf];omega
  ·obtain rfl:i=8:=by omega
   have HT:Hid ((le8 n).take 8=le8 n):=Lib.hid (List.take_of_length_le (by simp [le8]))
   rw [HT.out] at HOR
   go_wp2_with fail
   exact bodyPost_ret (v:=.tuple #[.slice A m c,.bool true]) (by simp [results,Tryz.results44,go_sem]) rfl ⟨HBR.out,.inl ⟨HFT.out,A,m,c,rfl,by rw [HEN.out];exact HOR.out⟩⟩
set_option maxRecDepth 100000 in
set_option maxHeartbeats 8000000 in
theorem put_bad (d:Nat) (n:Int) (s:ByteArray) (l:List DaT) (Vol:Nat→Prop) (v:Value) (w:World) (hv:DaW (d+1) Vol (.mk true n s l) v w) (hok:¬ (1≤s.size∧s.size≤32∧l.length≤8)) :
  Calls Tryz.prog 44 #[v] w (PutR2 w.heap.size (.mk true n s l) w):=by
 obtain ⟨va,rfl,hr⟩:=hv
 obtain ⟨A,k,rfl⟩:=hr.slice
 have hfew:=hr.few
 unfold maxLen at hfew
 have HB0:=Lib.hid (below_alloc w (.cells #[.bool true,.int .i64 n,.string s,.slice A l.length k] 46))
 have hx:=heap_alloc_new w (.cells #[.bool true,.int .i64 n,.string s,.slice A l.length k] 46)
 have HFT:Hid (fitD (.mk true n s l)=false):=Lib.hid (by
  rw [fitD_parts]
  have e:((decide (1≤s.size) && decide (s.size≤32)) && decide (l.length≤8))=false:=by
   rw [← Bool.not_eq_true]
   simp only [Bool.and_eq_true,decide_eq_true_eq]
   exact fun h=>hok ⟨h.1.1,h.1.2,h.2⟩
  show (!(true && !((decide (1≤s.size) && decide (s.size≤32)) && decide (l.length≤8))) && fitDs (partsD (.mk true n s l)))=false
  rw [e]
  rfl)
 have x0:=(cellH hx 0).trans rfl
 have x2:=(cellH hx 2).trans rfl
 have x3:=(cellH hx 3).trans rfl
 clear hr hx
 rcases Nat.lt_or_ge s.size 1 with h1 | h1
 ·have hs0:s.size=0:=by omega
  have hq:((s.size:Int) == 0)=true:=by rw [hs0];rfl
  have hq2:(s.size == 0)=true:=by rw [hs0];rfl
  clear hs0
  clear h1 hok
  go_enter Tryz.func44,Tryz.ntmps44
  go_wp2_with fail
  exact bodyPost_ret (v:=.tuple #[.slice none 0 0,.bool false]) (by simp [results,Tryz.results44,go_sem]) rfl ⟨HB0.out,.inr ⟨HFT.out,rfl⟩⟩
 ·have hq:((s.size:Int) == 0)=false:=beq_eq_false_iff_ne.2 (by omega)
  have hq2:(s.size == 0)=false:=beq_eq_false_iff_ne.2 (by omega)
  rcases Nat.lt_or_ge 32 s.size with h2 | h2
  ·have hd:decide (32 < s.size)=true:=by simpa using h2
   have hd2:decide ((32:Int) < (s.size:Int))=true:=by simp;omega
   clear h1 h2 hok
   go_enter Tryz.func44,Tryz.ntmps44
   go_wp2_with fail
   exact bodyPost_ret (v:=.tuple #[.slice none 0 0,.bool false]) (by simp [results,Tryz.results44,go_sem]) rfl ⟨HB0.out,.inr ⟨HFT.out,rfl⟩⟩
  ·have h3:8 < l.length:=by omega
   have hd:decide (32 < s.size)=false:=by simp;omega
   have hd2:decide ((32:Int) < (s.size:Int))=false:=by simp;omega
   have hd3:decide (8 < l.length)=true:=by simpa using h3
   have hd4:decide ((8:Int) < (l.length:Int))=true:=by simp;omega
   clear h1 h2 h3 hok
   go_enter Tryz.func44,Tryz.ntmps44
   go_wp2_with fail
   exact bodyPost_ret (v:=.tuple #[.slice none 0 0,.bool false]) (by simp [results,Tryz.results44,go_sem]) rfl ⟨HB0.out,.inr ⟨HFT.out,rfl⟩⟩
theorem own_nil {B:Nat} {l:List UInt8} {v:Value} {w:World} (h:OwnB B l v w) {n c:Nat} (e:v=.slice none n c):c=0:=by
 subst e
 rcases h.2 with ⟨e,_⟩ | ⟨g,cap,cur,e,_⟩
 ·injection e with _ _ e3
 ·injection e with e1
  cases e1
theorem own_base {B C:Nat} {l:List UInt8} {v:Value} {w:World} (h:OwnB C l v w) (hB:B≤C):OwnB B l v w:=by
 refine ⟨h.1,?_⟩
 rcases h.2 with h1 | ⟨g,cap,cur,e,h2,h3⟩
 ·exact .inl h1
 ·exact .inr ⟨g,cap,cur,e,Nat.le_trans hB h2,h3⟩
theorem kbX {X:Nat} {w wr:World} (hX:w.heap.size=X) (hb:Below X w wr):Kb (fun j=>X≤j) w wr:=Kb.of_below (by rw [hX];exact hb)
theorem fitDs_take {l:List DaT} {k:Nat} (h:k < l.length):fitDs (l.take (k+1))=(fitDs (l.take k) && fitD l[k]):=by
 rw [List.take_succ_eq_append_getElem h,fitDs_any,fitDs_any,List.any_append]
 simp
theorem fitDs_all {l:List DaT} (h:fitDs l=true) (k:Nat):fitDs (l.take k)=true:=by
 rw [fitDs_any,Bool.not_eq_true'] at h ⊢
 rw [List.any_eq_false] at h ⊢
 exact fun x hx=>h x (List.mem_of_mem_take hx)
set_option maxRecDepth 100000 in
set_option maxHeartbeats 8000000 in
theorem put_ctor (d:Nat) (HC:Hid (PutC d)) (n:Int) (s:ByteArray) (l:List DaT) (Vol:Nat→Prop) (v:Value) (w:World) (hv:DaW (d+1) Vol (.mk true n s l) v w) (hsz:sizeD (.mk true n s l)≤4096) (hok:1≤s.size∧s.size≤32∧l.length≤8) :
  Calls Tryz.prog 44 #[v] w (PutR2 w.heap.size (.mk true n s l) w):=by
 obtain ⟨va,rfl,hr⟩:=hv
 obtain ⟨A,k,rfl⟩:=hr.slice
 rw [sizeD,if_pos rfl] at hsz
 have hb:=below_alloc w (.cells #[.bool true,.int .i64 n,.string s,.slice A l.length k] 46)
 have HB0:=Lib.hid hb
 have HX:=Lib.hid (heap_alloc_new w (.cells #[.bool true,.int .i64 n,.string s,.slice A l.length k] 46))
 have HR:=Lib.hid (RowW.step (DaW.step d) _ (fun j=>w.heap.size≤j) _ _ _ _ hr (Kb.of_below hb) (fun j hj e=>by omega))
 have HRW:=Lib.hid (RowW.step (DaW.step d) _ (fun j=>w.heap.size≤j) _ _ _ _ hr (Kb.refl _ w) (fun j hj e=>by omega))
 have HBS:=Lib.hid hb.size
 have HSZ:=Lib.hid (show sizeDs l≤4095 by omega)
 have HFT:Hid (fitD (.mk true n s l)=fitDs l):=Lib.hid (by
  rw [fitD_parts]
  have e:((decide (1≤s.size) && decide (s.size≤32)) && decide (l.length≤8))=true:=by
   simp only [Bool.and_eq_true,decide_eq_true_eq]
   exact ⟨⟨hok.1,hok.2.1⟩,hok.2.2⟩
  show (!(true && !((decide (1≤s.size) && decide (s.size≤32)) && decide (l.length≤8))) && fitDs (partsD (.mk true n s l)))=_
  rw [e,partsD,if_pos rfl]
  rfl)
 have HEN:=Lib.hid (show encD (.mk true n s l)=(([1,byteZ s.size]++s.data.toList)++[byteZ l.length])++encDs l by rw [encD];simp)
 have HSL:=Lib.hid (show s.data.toList.length=s.size by simp)
 obtain ⟨h1,h2,h3⟩:=hok
 have hq:((s.size:Int) == 0)=false:=beq_eq_false_iff_ne.2 (by omega)
 have hq2:(s.size == 0)=false:=beq_eq_false_iff_ne.2 (by omega)
 have hd:decide (32 < s.size)=false:=by simp;omega
 have hd2:decide ((32:Int) < (s.size:Int))=false:=by simp;omega
 have hd3:decide (8 < l.length)=false:=by simp;omega
 have hd4:decide ((8:Int) < (l.length:Int))=false:=by simp;omega
 have H2:=Lib.hid h2
 have H3:=Lib.hid h3
 clear hr hb hsz h1 h2 h3
 go_enter Tryz.func44,Tryz.ntmps44
 have x0:=(cellH HX.out 0).trans rfl
 have x2:=(cellH HX.out 2).trans rfl
 have x3:=(cellH HX.out 3).trans rfl
 go_upto_region 12 with fail
 clear x0 x2 x3 hq hq2 hd hd2 hd3 hd4
 generalize (w.alloc (.cells #[.bool true,.int .i64 n,.string s,.slice A l.length k] 46))=W at HB0 HR HX HBS ⊢
 generalize hXX:w.heap.size=X at HX HB0 HBS HR HRW ⊢
 have HXX:=Lib.hid hXX
 clear hXX
 have hb1:=below_alloc W (.cells #[.int .u8 1,.int .u8 ((s.size:Int) % 256)] 5)
 have HO1:Hid (OwnB X [1,byteZ s.size] (.slice (some ⟨W.heap.size,0,none⟩) 2 2) (W.alloc (.cells #[.int .u8 1,.int .u8 ((s.size:Int) % 256)] 5))):=Lib.hid (by
  have h:=World.ownsRow_lit (e:=5) (size:=1) W #[.int .u8 1,.int .u8 ((s.size:Int) % 256)] 2 (base:=X) HBS.out (by decide) rfl
  have e:(#[.int .u8 1,.int .u8 ((s.size:Int) % 256)]:Array Value).toList=Lib.byteCells [1,byteZ s.size]:=by
   simp [Lib.byteCells,byteZ_nat]
  rw [e] at h
  exact h)
 have HX1:=Lib.hid ((hb1.block X (Array.getElem?_eq_some_iff.1 HX.out).1).trans HX.out)
 have HB1:=Lib.hid (HB0.out.trans (hb1.mono HBS.out))
 have HBS1:Hid (X≤(W.alloc (.cells #[.int .u8 1,.int .u8 ((s.size:Int) % 256)] 5)).heap.size):=Lib.hid (Nat.le_trans HBS.out hb1.size)
 clear hb1
 have x2:=(cellH HX.out 2).trans rfl
 have y2:=(cellH HX1.out 2).trans rfl
 go_upto_region 13 with (at_builtin;refine append_text rfl _ _ rfl X [1,byteZ s.size] _ rfl HO1.out s.data.toList (by rw [bs_back];rfl) (by have:=H2.out;have:=HSL.out;simp only [List.length_append,List.length_cons,List.length_nil];omega) HBS1.out ?_;intro A4 n4 c4 W4 hown4 hg4;have HO4:=Lib.hid hown4;have HG4:=Lib.hid hg4;clear hown4 hg4)
 clear x2 y2
 have HX4:=Lib.hid (KeepD.grown HO1.out HG4.out _ _ _ HX1.out)
 have HB4:=Lib.hid (below_grownB HB1.out HG4.out (fun k e=>(HO1.out.lt k e).1) HBS1.out)
 have HBS4:Hid (X≤W4.heap.size):=Lib.hid (Nat.le_trans HBS1.out HG4.out.size)
 clear HG4
 have x3:=(cellH HX4.out 3).trans rfl
 go_upto_region 14 with (at_builtin;refine append_byte rfl _ _ rfl X ([1,byteZ s.size]++s.data.toList) _ rfl (OwnB.below HO4.out (below_alloc W4 _)) W4.heap.size (byteZ l.length) rfl (by rw [byteZ_nat];exact heap_alloc_new W4 _) (by have:=H2.out;have:=HSL.out;simp only [List.length_append,List.length_cons,List.length_nil];omega) (by have:=HBS4.out;simp;omega) ?_;intro A5 n5 c5 W5 hown5 hg5;have HO5:=Lib.hid hown5;have HG5:=Lib.hid hg5;clear hown5 hg5)
 clear x3
 have HX5:=Lib.hid (((KeepD.low (below_alloc W4 (.cells #[.int .u8 ((l.length:Int) % 256)] 5))).trans (KeepD.grown (OwnB.below HO4.out (below_alloc W4 _)) HG5.out)) _ _ _ HX4.out)
 have HB5:=Lib.hid (below_grownB (HB4.out.trans ((below_alloc W4 (.cells #[.int .u8 ((l.length:Int) % 256)] 5)).mono HBS4.out)) HG5.out (fun k e=>(HO4.out.lt k e).1) (by have:=HBS4.out;simp;omega))
 have HBS5:Hid (X≤W5.heap.size):=Lib.hid (by have h1:=HBS4.out;have h2:=HG5.out.size;simp at h2;omega)
 clear HG5 HX HX1 HX4 HO1 HO4
 have HR5:=HR
 generalize hac:(([1,byteZ s.size]++s.data.toList)++[byteZ l.length])=ac at HO5 HEN
 have hacl:ac.length≤35:=by
  rw [← hac]
  have:=H2.out
  have:=HSL.out
  simp only [List.length_append,List.length_cons,List.length_nil]
  omega
 have HACL:=Lib.hid hacl
 clear hac hacl
 have x3:=(cellH HX5.out 3).trans rfl
 have hfew:=H3.out
 go_wp2_with fail
 clear x3
 go_loopw [7,66] (fun u t wr=>∃ (i:Nat) (A6:Option Addr) (m6 c6:Nat),i≤l.length∧t=.int .i64 i∧u=.slice A6 m6 c6∧Hid (fitDs (l.take i)=true)∧Hid (OwnB X (ac++encDs (l.take i)) u wr)∧Hid (Below X w wr)) (fun _ t _=>l.length - (intOf t).toNat)
 case atStart=>exact ⟨0,_,_,_,Nat.zero_le _,rfl,rfl,Lib.hid (by rw [List.take_zero];rfl),by rw [List.take_zero,encDs,List.append_nil];exact HO5,HB5⟩
 case round =>
  obtain ⟨i,A6,m6,c6,hi,rfl,rfl,HFI,HOR,HBR⟩:=hrel
  have HBSR:Hid (X≤wr.heap.size):=Lib.hid (by have:=HBR.out.size;have:=HXX.out;omega)
  by_cases hlt:i < l.length
  ·obtain ⟨gg,o,vi,rfl,hg,_,hvi,hc⟩:=RowW.at (RowW.step (DaW.step d) _ _ _ _ _ _ HRW.out (kbX HXX.out HBR.out) (fun _ _ e=>e)) i hlt
   obtain ⟨B1,n1,m1,rfl⟩:=hvi.this
   have a0:=(hc 0 (by decide)).trans rfl
   have a1:=(hc 1 (by decide)).trans rfl
   have a2:=(hc 2 (by decide)).trans rfl
   have a3:=(hc 3 (by decide)).trans rfl
   simp only [cellsL,Value.cells,List.getElem?_cons_zero,List.getElem?_cons_succ,Nat.add_zero] at a0 a1 a2 a3
   have hi0:(0:Int)≤(i:Int):=by omega
   have hi1:(i:Int) < (l.length:Int):=by omega
   have hdc:decide (i < l.length)=true:=by simpa using hlt
   have HNX:=Lib.hid (encDs_take hlt)
   have HFX:=Lib.hid (fitDs_take hlt)
   have HSM:=Lib.hid (sizeDs_mem hlt)
   have HST:=Lib.hid (sizeDs_take hlt)
   have HSP:=Lib.hid (sizeDs_part l (i+1))
   have HLT:=Lib.hid hlt
   generalize l[i]=y at *
   have hbx:=below_alloc wr (.cells #[.bool y.ctor,.int .i64 y.int,.string y.name,.slice B1 n1 m1] 46)
   have HVI:=Lib.hid ((DaW.step d).below hvi hbx)
   have HBX:=Lib.hid (HBR.out.trans (hbx.mono HBSR.out))
   have HOX:=Lib.hid (HOR.out.below hbx)
   have HSX:Hid (X≤(wr.alloc (.cells #[.bool y.ctor,.int .i64 y.int,.string y.name,.slice B1 n1 m1] 46)).heap.size):=Lib.hid (Nat.le_trans HBSR.out hbx.size)
   clear hvi hbx hlt hc
   generalize y.ctor=z0 at *
   generalize y.int=z1 at *
   generalize y.name=z2 at *
   go_wp2_with fail
   clear a0 a1 a2 a3 hdc
   try go_at_call 44
   refine (HC.out _ y _ _ HVI.out (by have:=HSM.out;have:=HSZ.out;omega)).mono ?_
   rintro e w3 ⟨hb7,⟨hfy,A7,m7,c7,rfl,ho7⟩ | ⟨hfy,rfl⟩⟩
   ·have HO7:=Lib.hid ho7
    have HB7:=Lib.hid (HBX.out.trans (hb7.mono HSX.out))
    have HW7:=Lib.hid (HOX.out.below hb7)
    have HS7:Hid (X≤w3.heap.size):=Lib.hid (Nat.le_trans HSX.out hb7.size)
    have HFY:=Lib.hid hfy
    have hen:=enc_len y hfy
    have hen2:=encs_len (l.take i) HFI.out
    have HLL:Hid ((ac++encDs (l.take i)).length+(encD y).length≤100000000000):=Lib.hid (by
     have:=HST.out;have:=HSP.out;have:=HSZ.out;have:=HACL.out
     rw [List.length_append]
     omega)
    clear ho7 hb7 hfy hen hen2
    go_wp2_with (at_builtin;refine append_row (by kernel_rfl) _ _ rfl X (ac++encDs (l.take i)) _ rfl HW7.out (fun _=>False) (encD y) _ rfl HO7.out.row (fun n c e=>own_nil HO7.out e) HLL.out HS7.out ?_;intro v9 w9 hown9 hg9;obtain ⟨A9,n9,c9,rfl⟩:=OwnB.shapeN hown9;have HO9:=Lib.hid hown9;have HG9:=Lib.hid hg9;clear hown9 hg9)
    have HB9:=Lib.hid (below_grownB HB7.out HG9.out (fun k e=>(HW7.out.lt k e).1) HS7.out)
    go_roundw
    case rel=>exact ⟨i+1,A9,n9,c9,HLT.out,by go_num,rfl,Lib.hid (by rw [HFX.out,HFI.out,HFY.out];rfl),by rw [HNX.out,← List.append_assoc];exact HO9,HB9⟩
    case measure=>have:=HLT.out;simp [intOf];omega
   ·have HB7:=Lib.hid (HBX.out.trans (hb7.mono HSX.out))
    have HFN:Hid (fitDs l=false):=Lib.hid (by
     rw [← Bool.not_eq_true]
     intro h
     have h2:=fitDs_all h (i+1)
     rw [HFX.out,hfy,Bool.and_false] at h2
     cases h2)
    clear hb7 hfy
    go_wp2_with fail
    exact bodyPost_ret (v:=.tuple #[.slice none 0 0,.bool false]) (by simp [results,Tryz.results44,go_sem]) rfl ⟨by rw [HXX.out];exact HB7.out,.inr ⟨by rw [HFT.out];exact HFN.out,rfl⟩⟩
  ·obtain rfl:i=l.length:=by omega
   have hdc:decide (l.length < l.length)=false:=by simp
   rw [List.take_length] at HOR HFI
   go_wp2_with fail
   exact bodyPost_ret (v:=.tuple #[.slice A6 m6 c6,.bool true]) (by simp [results,Tryz.results44,go_sem]) rfl ⟨by rw [HXX.out];exact HBR.out,.inl ⟨by rw [HFT.out];exact HFI.out,A6,m6,c6,rfl,by rw [HEN.out,HXX.out];exact HOR.out⟩⟩
theorem put_any2:∀ d,PutC d
 | 0=>fun _ _ _ _ h _=>h.elim
 | d+1=>fun Vol x v w hv hs=>by
  obtain ⟨c,n,s,l⟩:=x
  cases c
  ·exact put_int d n s l Vol v w hv
  ·by_cases hok:1≤s.size∧s.size≤32∧l.length≤8
   ·exact put_ctor d (Lib.hid (put_any2 d)) n s l Vol v w hv hs hok
   ·exact put_bad d n s l Vol v w hv hok
/-- What the reference's Encode gives. -/
def REncP (x:DaT) (w:World):Ending→World→Prop:=fun e w'=>Below w.heap.size w w' ∧
 ((goodD x=true∧fitD x=true∧∃ A m c,e=.returned (.tuple #[.slice A m c,.int .i64 0])∧OwnB w.heap.size (encD x) (.slice A m c) w') ∨
 (goodD x=false∧e=.returned (.tuple #[.slice none 0 0,.int .i64 4])) ∨ (goodD x=true∧fitD x=false∧e=.returned (.tuple #[.slice none 0 0,.int .i64 10])))
set_option maxRecDepth 100000 in
set_option maxHeartbeats 4000000 in
theorem rencode_any (d:Nat) (Vol:Nat→Prop) (x:DaT) (v:Value) (w:World) (hv:DaW d Vol x v w) :
  Calls Tryz.prog 17 #[v] w (REncP x w):=by
 obtain ⟨A,n,c,rfl⟩:=hv.this
 have hb:=below_alloc w (.cells #[.bool x.ctor,.int .i64 x.int,.string x.name,.slice A n c] 46)
 have HB:=Lib.hid hb
 have HV:=Lib.hid ((DaW.step d).below hv hb)
 have HX:=Lib.hid (heap_alloc_new w (.cells #[.bool x.ctor,.int .i64 x.int,.string x.name,.slice A n c] 46))
 have HS:=Lib.hid hb.size
 clear hb hv
 obtain ⟨cc,hcc⟩:∃ cc,x.ctor=cc:=⟨_,rfl⟩
 obtain ⟨zz,hzz⟩:∃ zz,x.int=zz:=⟨_,rfl⟩
 obtain ⟨ss,hss⟩:∃ ss,x.name=ss:=⟨_,rfl⟩
 rw [hcc,hzz,hss] at HB HV HX HS ⊢
 clear hcc hzz hss
 go_enter Tryz.func17,Tryz.ntmps17
 have x0:=(cellH HX.out 0).trans rfl
 have x1:=(cellH HX.out 1).trans rfl
 have x2:=(cellH HX.out 2).trans rfl
 have x3:=(cellH HX.out 3).trans rfl
 go_wp2_with fail
 clear x0 x1 x2 x3
 generalize (w.alloc (.cells #[.bool cc,.int .i64 zz,.string ss,.slice A n c] 46))=W at HB HV HX HS ⊢
 obtain ⟨N0,hN0⟩:∃ N0,w.heap.size=N0:=⟨_,rfl⟩
 have HN0:=Lib.hid hN0
 rw [hN0] at HX
 try rw [hN0]
 clear hN0
 try go_at_call 19
 refine (rgood_any d _ x _ W HV.out).mono ?_
 rintro e w1 ⟨rfl,hb1⟩
 have HB1:=Lib.hid (HB.out.trans (hb1.mono HB.out.size))
 have HX1:=Lib.hid ((hb1.block _ (Array.getElem?_eq_some_iff.1 HX.out).1).trans HX.out)
 have HV1:=Lib.hid ((DaW.step d).below HV.out hb1)
 clear hb1
 cases hg:goodD x
 ·have HG:=Lib.hid hg
  clear hg
  go_wp2_with fail
  exact bodyPost_ret (v:=.tuple #[.slice none 0 0,.int .i64 4]) (by simp [results,Tryz.results17,go_sem]) rfl ⟨HB1.out,.inr (.inl ⟨HG.out,rfl⟩)⟩
 ·have HG:=Lib.hid hg
  have HSZ:=Lib.hid (good_size hg)
  clear hg
  have x0:=(cellH HX1.out 0).trans rfl
  have x1:=(cellH HX1.out 1).trans rfl
  have x2:=(cellH HX1.out 2).trans rfl
  have x3:=(cellH HX1.out 3).trans rfl
  go_wp2_with fail
  clear x0 x1 x2 x3
  try go_at_call 44
  refine (put_any2 d _ x _ w1 HV1.out HSZ.out).mono ?_
  rintro e w2 ⟨hb2,⟨hf,A2,m2,c2,rfl,ho⟩ | ⟨hf,rfl⟩⟩
  ·have HB2:=Lib.hid (HB1.out.trans (hb2.mono HB1.out.size))
   have HF:=Lib.hid hf
   have HO:Hid (OwnB w.heap.size (encD x) (.slice A2 m2 c2) w2):=Lib.hid (own_base ho HB1.out.size)
   clear hb2 hf ho
   go_wp2_with fail
   exact bodyPost_ret (v:=.tuple #[.slice A2 m2 c2,.int .i64 0]) (by simp [results,Tryz.results17,go_sem]) rfl ⟨HB2.out,.inl ⟨HG.out,HF.out,A2,m2,c2,rfl,HO.out⟩⟩
  ·have HB2:=Lib.hid (HB1.out.trans (hb2.mono HB1.out.size))
   have HF:=Lib.hid hf
   clear hb2 hf
   go_wp2_with fail
   exact bodyPost_ret (v:=.tuple #[.slice none 0 0,.int .i64 10]) (by simp [results,Tryz.results17,go_sem]) rfl ⟨HB2.out,.inr (.inr ⟨HG.out,HF.out,rfl⟩)⟩
end Lx
end Go.Proofs.YtiljemkglhloeaaGreatDoor
namespace Go.Proofs.YtiljemkglhloeaaGreatDoor
set_option linter.unusedSimpArgs false
set_option linter.unusedVariables false
namespace Lx
open Go Go.RowKit
/-- A printer that holds nothing: fresh, and behind a first empty text. -/
def PrE (p:Option Addr) (b:Nat) (w:World):Prop:=w.heap[b]?=some (.cells #[.pointer p,.slice none 0 0] 75 (0,0))
theorem append_none_empty (W:World) (ts:Array TypeId) (ty:TypeId) (h1:ts=#[47,9]):(Builtin.append_ ts ty #[.slice none 0 0,.string ⟨#[]⟩]).run Tryz.prog W=.ok (.slice none 0 0) W:=by
 subst h1
 first | kernel_rfl | rfl
set_option maxRecDepth 100000 in
set_option maxHeartbeats 4000000 in
theorem pwriteE (b:Nat) (w:World) (h:PrE none b w) :
  Calls Tryz.prog 97 #[.pointer (some ⟨b,0,none⟩),.string ⟨#[]⟩] w fun e w'=>(∃ v,e=.returned v)∧PrE (some ⟨b,0,none⟩) b w'∧Kb (fun k=>k=b) w w':=by
 have h0:w.cell? ⟨b,0,none⟩=some (.pointer none):=(cellH h 0).trans rfl
 have hsh:w.shape? b=some (75,2):=by
  unfold PrE at h
  simp [World.shape?,h]
 have HC:=Lib.hid (pcopy_fresh b w h0 hsh (frozenH h 0))
 have HP:=Lib.hid (blk_put w b 0 (.pointer (some ⟨b,0,none⟩)) h (by show 0 < 2;decide))
 have HK:=Lib.hid ((Kb.refl (fun k=>k=b) w).put (p:=⟨b,0,none⟩) rfl (.pointer (some ⟨b,0,none⟩)))
 clear h0 hsh h
 go_enter Tryz.func97,Tryz.ntmps97
 go_wp2_with fail
 try go_at_call 129
 refine HC.out.mono ?_
 rintro e w1 ⟨rfl,rfl⟩
 generalize w.setCell ⟨b,0,none⟩ (.pointer (some ⟨b,0,none⟩))=W at HP HK ⊢
 have HP:Hid (W.heap[b]?=some (.cells #[.pointer (some ⟨b,0,none⟩),.slice none 0 0] 75 (0,0))):=HP
 have c1:=(cellH HP.out 1).trans rfl
 have f1:=frozenH HP.out 1
 have happ:=append_none_empty
 go_wp2_with fail
 go_ret2
 have hp:=blk_put W b 1 (.slice none 0 0) HP.out (by show 1 < 2;decide)
 exact ⟨⟨_,rfl⟩,hp,HK.out.trans ((Kb.refl (fun k=>k=b) W).put (p:=⟨b,1,none⟩) rfl _)⟩
set_option maxRecDepth 100000 in
set_option maxHeartbeats 2000000 in
theorem putE (b g:Nat) (w:World) (h:PrE none b w) (hg:w.heap[g]?=some (.cells #[.string ⟨#[]⟩] 9 (0,0))) (hgb:g ≠ b) :
  Calls Tryz.prog 59 #[.pointer (some ⟨b,0,none⟩),.slice (some ⟨g,0,none⟩) 1 1] w fun e w'=>e=.returned (.tuple #[])∧PrE (some ⟨b,0,none⟩) b w'∧Kb (fun k=>k=b) w w':=by
 have HP:=Lib.hid h
 have HG:=Lib.hid hg
 have HGB:=Lib.hid hgb
 clear h hg hgb
 go_enter Tryz.func59,Tryz.ntmps59
 go_wp2_with fail
 go_loopw [8] (fun i wr=>(i=.int .i64 0∧wr=w) ∨ (i=.int .i64 1∧Hid (PrE (some ⟨b,0,none⟩) b wr)∧Hid (Kb (fun k=>k=b) w wr))) (fun i _=>1 - (intOf i).toNat)
 case atStart=>exact .inl ⟨rfl,rfl⟩
 case round =>
  rcases hrel with ⟨rfl,rfl⟩ | ⟨rfl,HE,HK⟩
  ·have a0:=(cellH HG.out 0).trans rfl
   go_wp2_with (go_at_call 97;refine (pwriteE b _ HP.out).mono ?_;rintro e w2 ⟨⟨v,rfl⟩,hp2,hk2⟩)
   have HP2:=Lib.hid hp2
   have HK2:=Lib.hid hk2
   clear hp2 hk2
   go_roundw
   case rel=>exact .inr ⟨by go_num,HP2,HK2⟩
   case measure=>simp [intOf]
  ·go_wp2_with fail
   go_end0
   exact ⟨rfl,HE.out,HK.out⟩
set_option maxRecDepth 100000 in
set_option maxHeartbeats 2000000 in
theorem pargsE (A:Option Addr) (c b:Nat) (w:World) :
  Calls Tryz.prog 69 #[.pointer (some ⟨b,0,none⟩),.slice A 0 c,.func (.func 39) #[.pointer (some ⟨b,0,none⟩)] #[]] w fun e w'=>e=.returned (.tuple #[])∧w'=w:=by
 have hq:((0:Int) == 0)=true:=rfl
 go_enter Tryz.func69,Tryz.ntmps69
 go_wp2_with fail
 exact bodyPost_ret (v:=.tuple #[]) (by simp [results,Tryz.results69,go_sem]) rfl ⟨rfl,rfl⟩
set_option maxRecDepth 100000 in
set_option maxHeartbeats 2000000 in
theorem printE (k z:Int) (A:Option Addr) (c:Nat) (w:World) (hk:k ≠ 2) :
  Calls Tryz.prog 11 #[.agg #[.int .i64 k,.string ⟨#[]⟩,.int .i64 z,.slice A 0 c]] w fun e w'=>e=.returned (.string ⟨#[]⟩)∧Below w.heap.size w w':=by
 have hmf:∀ (fn:Fn) (first cap:Array Value) (w:World),(Instr.makeFunc fn first cap).run Tryz.prog w=.ok (.func fn first cap) w:=fun _ _ _ _=>rfl
 have HT:Hid (∀ (b:Nat) (w:World),b < w.heap.size→PrE none b w→Calls Tryz.prog 39 #[.pointer (some ⟨b,0,none⟩),.agg #[.int .i64 k,.string ⟨#[]⟩,.int .i64 z,.slice A 0 c]] w fun e w'=>e=.returned (.tuple #[])∧PrE (some ⟨b,0,none⟩) b w'∧Kb (fun k=>k=b) w w'):=Lib.hid (by
  intro b w hb h
  have hq:(k == 2)=false:=by simpa using hk
  have hb1:=below_alloc w (.cells #[.int .i64 k,.string ⟨#[]⟩,.int .i64 z,.slice A 0 c] 28)
  have hb2:=below_alloc (w.alloc (.cells #[.int .i64 k,.string ⟨#[]⟩,.int .i64 z,.slice A 0 c] 28)) (.cells #[.string ⟨#[]⟩] 9)
  have hp1:=(hb1.block b hb).trans h
  have HP:=Lib.hid (show PrE none b ((w.alloc (.cells #[.int .i64 k,.string ⟨#[]⟩,.int .i64 z,.slice A 0 c] 28)).alloc (.cells #[.string ⟨#[]⟩] 9)) from (hb2.block b (Array.getElem?_eq_some_iff.1 hp1).1).trans hp1)
  have HG:=Lib.hid (heap_alloc_new (w.alloc (.cells #[.int .i64 k,.string ⟨#[]⟩,.int .i64 z,.slice A 0 c] 28)) (.cells #[.string ⟨#[]⟩] 9))
  have hsz:(w.alloc (.cells #[.int .i64 k,.string ⟨#[]⟩,.int .i64 z,.slice A 0 c] 28)).heap.size=w.heap.size+1:=by simp
  rw [hsz] at HG
  have HX:=Lib.hid ((hb2.block _ (Array.getElem?_eq_some_iff.1 (heap_alloc_new w (.cells #[.int .i64 k,.string ⟨#[]⟩,.int .i64 z,.slice A 0 c] 28))).1).trans (heap_alloc_new w (.cells #[.int .i64 k,.string ⟨#[]⟩,.int .i64 z,.slice A 0 c] 28)))
  have HB:=Lib.hid (hb1.trans (hb2.mono hb1.size))
  have HBB:=Lib.hid hb
  clear h hb1 hb2 hp1 hb
  go_enter Tryz.func39,Tryz.ntmps39
  go_wp2_with fail
  try go_at_call 59
  try rw [hsz]
  refine (putE b (w.heap.size+1) _ HP.out HG.out (by have:=HBB.out;omega)).mono ?_
  rintro e w2 ⟨rfl,hp2,hk2⟩
  have HP2:=Lib.hid hp2
  have HK2:Hid (Kb (fun k=>k=b) w w2):=Lib.hid ((Kb.of_below HB.out).trans hk2)
  have HX2:=Lib.hid ((hk2.block _ (Array.getElem?_eq_some_iff.1 HX.out).1 (by have:=HBB.out;omega)).trans HX.out)
  have x3:=(cellH HX2.out 3).trans rfl
  clear hp2 hk2
  go_wp2_with fail
  try go_at_call 69
  refine (pargsE A c b w2).mono ?_
  rintro e w3 ⟨rfl,rfl⟩
  go_wp2_with fail
  go_end0
  exact ⟨rfl,HP2.out,HK2.out⟩)
 have hb1:=below_alloc w (.cells #[.int .i64 k,.string ⟨#[]⟩,.int .i64 z,.slice A 0 c] 28)
 have hb2:=below_alloc (w.alloc (.cells #[.int .i64 k,.string ⟨#[]⟩,.int .i64 z,.slice A 0 c] 28)) (.cells #[.pointer none,.slice none 0 0] 75)
 have hsz:(w.alloc (.cells #[.int .i64 k,.string ⟨#[]⟩,.int .i64 z,.slice A 0 c] 28)).heap.size=w.heap.size+1:=by simp
 have HP:Hid (PrE none (w.heap.size+1) ((w.alloc (.cells #[.int .i64 k,.string ⟨#[]⟩,.int .i64 z,.slice A 0 c] 28)).alloc (.cells #[.pointer none,.slice none 0 0] 75))):=Lib.hid (by
  have h:=heap_alloc_new (w.alloc (.cells #[.int .i64 k,.string ⟨#[]⟩,.int .i64 z,.slice A 0 c] 28)) (.cells #[.pointer none,.slice none 0 0] 75)
  rw [hsz] at h
  exact h)
 have HB:=Lib.hid (hb1.trans (hb2.mono hb1.size))
 have HSZ:Hid (w.heap.size+1 < ((w.alloc (.cells #[.int .i64 k,.string ⟨#[]⟩,.int .i64 z,.slice A 0 c] 28)).alloc (.cells #[.pointer none,.slice none 0 0] 75)).heap.size):=Lib.hid (by simp)
 clear hb1 hb2 hk
 go_enter Tryz.func11,Tryz.ntmps11
 go_wp2_with fail
 try go_at_call 39
 try rw [hsz]
 refine (HT.out (w.heap.size+1) _ HSZ.out HP.out).mono ?_
 rintro e w2 ⟨rfl,hp2,hk2⟩
 have HB2:=Lib.hid (HB.out.trans (hk2.below (B:=w.heap.size) HB.out.size (fun j e=>by omega)))
 have HP2:=Lib.hid hp2
 clear hp2 hk2
 go_wp2_with fail
 try go_at_call 32
 try rw [hsz]
 refine (pString_nil w.heap.size (w.heap.size+1) _ w2 HP2.out).mono ?_
 rintro e w3 ⟨rfl,hb3⟩
 go_wp2_with fail
 go_ret
 exact ⟨rfl,HB2.out.trans hb3⟩
end Lx
end Go.Proofs.YtiljemkglhloeaaGreatDoor
