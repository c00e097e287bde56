/- The walk of the statement PrintTokens: it returns true. Conditions: the error variables and the tables of words hold what they should. -/
import Derived.Test.YtajomoclbpobhaaGreatDoorPrK
import Derived.Test.YtajomoclbpobhaaGreatDoorPSl
import Derived.Test.YtajomoclbpobhaaGreatDoorSame
import Derived.Test.YtajomoclbpobhaaGreatDoorRefB
import Derived.Test.YtajomoclbpobhaaGreatDoorResvRef
namespace Go.Proofs.YtajomoclbpobhaaGreatDoor
set_option linter.unusedSimpArgs false
set_option linter.unusedVariables false
namespace Lx
open Go Go.RowKit
theorem bs_list (l:List UInt8):(bs l).toList=l:=by rw [ByteArray.toList_eq];rfl
theorem bs_eq (l m:List UInt8):((bs l).toList == m)=(l == m):=by rw [bs_list]
/-- A row of tokens below N. -/
def TokR (w:World) (N:Nat) (A:Option Addr) (ts:List Tok):Prop:=∀ k (hk:k < ts.length),∃ g,A=some ⟨g,0,none⟩∧g < N∧w.cell? ⟨g,k * 3,none⟩=some (.int .i64 ts[k].kind)∧w.cell? ⟨g,k * 3+1,none⟩=some (.string (bs ts[k].text))∧w.cell? ⟨g,k * 3+2,none⟩=some (.int .i64 ts[k].num)
theorem TokR.below {w w':World} {N:Nat} {A:Option Addr} {ts:List Tok} (h:TokR w N A ts) (hb:Below N w w'):TokR w' N A ts:=fun k hk=>by
 obtain ⟨g,h1,h2,h3,h4,h5⟩:=h k hk
 have e:=hb.block g h2
 exact ⟨g,h1,h2,(World.cell?_of_block (a:=⟨g,_,none⟩) e).trans h3,(World.cell?_of_block (a:=⟨g,_,none⟩) e).trans h4,(World.cell?_of_block (a:=⟨g,_,none⟩) e).trans h5⟩
theorem tokR_of {w:World} {base c:Nat} {A:Option Addr} {ts:List Tok} (h:w.ownsRow base 67 3 (.slice A ts.length c) ts.length (cellsT ts)):TokR w w.heap.size A ts:=fun k hk=>by
 obtain ⟨g,h1,h2⟩:=RowT.of_own h rfl (by intro e;rw [e] at hk;simp at hk)
 subst h1
 obtain ⟨e0,e1,e2⟩:=cellsT_at ts k hk
 refine ⟨g,rfl,(h.lt g rfl).2,?_,?_,?_⟩
 ·rw [h2 _ (by omega),show k * 3=3 * k by omega];exact e0
 ·rw [h2 _ (by omega),show k * 3+1=3 * k+1 by omega];exact e1
 ·rw [h2 _ (by omega),show k * 3+2=3 * k+2 by omega];exact e2
theorem TokR.rowT {w:World} {N:Nat} {A:Option Addr} {ts:List Tok} (h:TokR w N A ts):RowT w A ts:=fun hne=>by
 obtain ⟨g,h1,_⟩:=h 0 (List.length_pos_iff.2 hne)
 refine ⟨g,h1,fun j hj=>?_⟩
 obtain ⟨g',h1',_,c0,c1,c2⟩:=h (j / 3) (by omega)
 obtain rfl:g'=g:=by rw [h1] at h1';injection h1' with e;injection e with e;exact e.symm
 obtain ⟨e0,e1,e2⟩:=cellsT_at ts (j / 3) (by omega)
 have hm:j % 3=0 ∨ j % 3=1 ∨ j % 3=2:=by omega
 rcases hm with hm | hm | hm
 ·rw [show j=j / 3 * 3 by omega,c0,show j / 3 * 3=3 * (j / 3) by omega,e0]
 ·rw [show j=j / 3 * 3+1 by omega,c1,show j / 3 * 3+1=3 * (j / 3)+1 by omega,e1]
 ·rw [show j=j / 3 * 3+2 by omega,c2,show j / 3 * 3+2=3 * (j / 3)+2 by omega,e2]
/-- What the statement's loop has seen of the tokens ahead of k. -/
def Seen (ts:List Tok) (k:Nat):Prop:=∀ i,i < k→((peekT ts i).text=[40]→∃ j,i=j+1∧(peekT ts j).kind=1∧resv (bs (peekT ts j).text).toList=false)∧((peekT ts i).text=[58,45]→hasT ts (i+1) [116,114,117,101]=false)
theorem Seen.next {ts:List Tok} {k:Nat} (h:Seen ts k) (h1:(peekT ts k).text=[40]→∃ j,k=j+1∧(peekT ts j).kind=1∧resv (bs (peekT ts j).text).toList=false) (h2:(peekT ts k).text=[58,45]→hasT ts (k+1) [116,114,117,101]=false):Seen ts (k+1):=fun i hi=>by
 rcases Nat.lt_or_ge i k with h3 | h3
 ·exact h i h3
 ·obtain rfl:i=k:=by omega
  exact ⟨h1,h2⟩
theorem peekT_at {ts:List Tok} {k:Nat} (h:k < ts.length):peekT ts k=ts[k]:=by
 unfold peekT
 rw [List.getElem?_eq_getElem h]
 rfl
/-- What is printed of what is read without brackets has the tokens that were read. -/
theorem tokens_same {s:ByteArray} {l:List ItemT} {k:Nat} (h:textO srcG s=.ok l k):s.size≤16384∧whole s.data.toList=true∧(∀ i,i < (toks s.data.toList).length→(peekT (toks s.data.toList) i).text=[58,45]→i+1 < (toks s.data.toList).length)∧(Seen (toks s.data.toList) (toks s.data.toList).length→toks (sourceF l)=toks s.data.toList∧whole (sourceF l)=true):=by
 have hS:GoodT (toks s.data.toList):=fun t ht=>toks_good ht
 unfold textO at h
 split at h
 ·cases h
 ·rename_i hs
  split at h
  ·cases h
  ·rename_i hw
   split at h
   ·cases h
   ·rename_i x k2 e
    split at h
    ·cases h
    ·rename_i hk
     injection h with h1 h2
     subst h1
     have hend:=srcLoop_end 0 _ _ _ _ _ e (Nat.zero_le _)
     have hk2:k2=(toks s.data.toList).length:=by omega
     have hw2:whole s.data.toList=true:=by simpa using hw
     refine ⟨by omega,hw2,fun i hi ht=>?_,fun hsn=>?_⟩
     ·rcases Nat.lt_or_ge (i+1) (toks s.data.toList).length with h3 | h3
      ·exact h3
      ·exfalso
       have h4:=srcLoop_last hS _ _ _ _ _ e (fun j hj=>by omega) i (by omega)
       rw [h4] at ht
       exact absurd ht (by decide)
     ·have hN:NB (toks s.data.toList):=fun i hi ht=>(hsn i hi).1 ht
      have hT:NT (toks s.data.toList):=fun i hi ht=>(hsn i hi).2 ht
      have h3:=(srcLoop_sl hS hN hT _ _ _ _ _ e (by rw [slc_self];rfl)).2
      rw [hk2,slc_all] at h3
      rw [← h3]
      exact source_toks x (sourceO_W hS e)
set_option maxRecDepth 100000 in
set_option maxHeartbeats 2000000 in
theorem lawTokens_any (s:ByteArray) (w:World) (h:PEnv w) (f:Nat→Addr) (h4:Errs4 w f) :
  Calls Tryz.prog 7 #[.string s] w fun e w'=>e=.returned (.bool true)∧Below w.heap.size w w':=by
 have HA:=Lib.hid (palive_any w h f h4)
 have HW:=Lib.hid h
 have HR:=Lib.hid (fun w=>refSource_any s w)
 have HL:=Lib.hid (fun w=>refLex_any s w)
 have HO:=Lib.hid (fun l k (h:textO srcG s=.ok l k)=>And.intro (textO_prints h) (tokens_same h))
 clear h h4
 go_enter Tryz.func7,Tryz.ntmps7
 go_wp2_with fail
 go_at_call 9
 refine HA.out.mono ?_
 rintro e w1 ⟨rfl,hb1⟩
 have HB1:=Lib.hid hb1
 clear hb1
 go_wp2_with fail
 go_at_call 28
 refine (HR.out _).mono ?_
 rintro e w2 ⟨v,n,rfl,hb2,ht⟩
 have HB2:=Lib.hid (HB1.out.trans (hb2.mono HB1.out.size))
 clear hb2 HR HA
 cases ho:textO srcG s with
 | no i =>
  rw [ho] at ht
  obtain ⟨rfl,rfl⟩:=ht
  have hq:(erN i == 0)=false:=by simpa using erN_ne i
  generalize erN i=n at hq ⊢
  go_wp2_with fail
  go_at_call 29
  refine (HL.out _).mono ?_
  rintro e w3 ⟨hb3,hend⟩
  have HB3:=Lib.hid (HB2.out.trans (hb3.mono HB2.out.size))
  have hee:∃ v3 n3,e=.returned (.tuple #[v3,.int .i64 n3]):=by
   rcases hend with ⟨_,rfl⟩ | ⟨_,_,rfl⟩ | ⟨_,_,v,rfl,_⟩ <;> exact ⟨_,_,rfl⟩
  obtain ⟨v3,n3,rfl⟩:=hee
  clear hend hb3
  go_wp2_with fail
  go_ret
  exact ⟨rfl,HB3.out⟩
 | ok l k0 =>
  rw [ho] at ht
  obtain ⟨rfl,hv⟩:=ht
  obtain ⟨⟨hok,hlen⟩,hs1,hs2,hln,hsm⟩:=HO.out l k0 ho
  have HOK:=Lib.hid hok
  have HLE:=Lib.hid hlen
  have HLN:=Lib.hid hln
  have HSM:=Lib.hid hsm
  obtain ⟨A0,n0,c0,rfl⟩:=hv.slice
  have HV:=Lib.hid hv
  clear hv hok hlen hln hsm HO ho HB1
  go_wp2_with fail
  go_at_call 29
  refine (HL.out _).mono ?_
  rintro e w3 ⟨hb3,hend⟩
  have HB3:=Lib.hid (HB2.out.trans (hb3.mono HB2.out.size))
  have HV3:=Lib.hid (stays (ArgsV.stable _ _ ItemV.stable) HV.out hb3 (Nat.le_refl _))
  have hs23:=hb3.size
  rcases hend with ⟨q1,_⟩ | ⟨_,q1,_⟩ | ⟨_,_,v3,rfl,hown⟩
  ·omega
  ·rw [hs2] at q1
   cases q1
  have htl:=toks_len s.data.toList
  have hsl:s.data.toList.length=s.size:=by simp
  generalize toks s.data.toList=ts at *
  have hts:ts.length≤16384:=by omega
  clear hsl htl hs1 hs2 hb3 HL HV
  obtain ⟨A,c,rfl⟩:∃ A c,v3=.slice A ts.length c:=by
   rcases hown.2 with ⟨rfl,h0⟩ | ⟨g,cap,cur,rfl,_⟩
   ·exact ⟨none,0,by rw [h0]⟩
   ·exact ⟨_,_,rfl⟩
  have HTR:=Lib.hid (tokR_of hown)
  clear hown
  go_wp2_with fail
  go_loopw [27] (fun t wr=>∃ k:Nat,k≤ts.length∧t=.int .i64 k∧Hid (Below w3.heap.size w3 wr)∧Hid (Seen ts k)) (fun t _=>ts.length - (intOf t).toNat)
  case atStart=>exact ⟨0,Nat.zero_le _,rfl,Lib.hid (Below.refl _ _),Lib.hid (fun i hi=>by omega)⟩
  case round =>
   obtain ⟨k,hk,rfl,HB,HSN⟩:=hrel
   by_cases hlt:k < ts.length
   ·obtain ⟨g,rfl,hg,a0,a1,a2⟩:=(HTR.out.below HB.out) k hlt
    have hk0:(0:Int)≤(k:Int):=by omega
    have hk1:(k:Int) < (ts.length:Int):=by omega
    have hdc:decide (k < ts.length)=true:=by simpa using hlt
    have hpk:=peekT_at hlt
    have hgr:g < wr.heap.size:=by have:=HB.out.size;omega
    have hgn:¬ g=wr.heap.size:=by omega
    have hgn2:¬ wr.heap.size=g:=by omega
    have HPK:=Lib.hid hpk
    clear hpk
    by_cases h40:ts[k].text=[40]
    ·have hq1:((bs ts[k].text).toList == [40])=true:=by rw [bs_eq,h40];rfl
     have hq2:((bs ts[k].text).toList == [58,45])=false:=by rw [bs_eq,h40];rfl
     have HQ:Hid (¬ (peekT ts k).text=[58,45]):=Lib.hid (by rw [HPK.out,h40];decide)
     clear h40
     generalize bs ts[k].text=x at *
     generalize ts[k].kind=kd at *
     generalize ts[k].num=nm at *
     by_cases h0:k=0
     ·subst h0
      go_wp2_with fail
      go_ret
      exact ⟨rfl,HB3.out.trans ((HB.out.alloc (HB.out.size) _).mono HB3.out.size)⟩
     ·obtain ⟨k0,rfl⟩:∃ k0,k=k0+1:=⟨k - 1,by omega⟩
      obtain ⟨g',hg',_,b0,b1,b2⟩:=(HTR.out.below HB.out) k0 (by omega)
      injection hg' with hg'
      injection hg' with hg' _ _
      subst hg'
      have hpk0:=peekT_at (show k0 < ts.length by omega)
      have hz0:((k0+1:Nat):Int) - 1=(k0:Int):=by omega
      have hz1:((k0:Int)+1 - 1)=(k0:Int):=by omega
      have hz2:(((k0:Int)+1) == 0)=false:=by simp;omega
      have hz3:wrap64 (k0:Int)=(k0:Int):=by unfold wrap64;omega
      have hz4:(0:Int)≤(k0:Int):=by omega
      have hz5:(k0:Int) < (ts.length:Int):=by omega
      have HP0:=Lib.hid hpk0
      clear hpk0
      by_cases hkk:ts[k0].kind=1
      ·have HR2:=Lib.hid (fun W=>refReserved_any (bs ts[k0].text) W)
       have HRE:Hid (resv (bs ts[k0].text).toList=resv (bs (peekT ts k0).text).toList∧(peekT ts k0).kind=1):=Lib.hid (by rw [HP0.out];exact ⟨rfl,hkk⟩)
       rw [hkk] at b0
       clear hkk
       generalize bs ts[k0].text=x0 at *
       generalize ts[k0].num=nm0 at *
       cases hre:resv x0.toList with
       | true =>
        rw [hre] at HR2
        go_wp2_with (go_at_call 30;refine (HR2.out _).mono ?_;rintro e w4 ⟨rfl,hb4⟩)
        go_ret
        exact ⟨rfl,HB3.out.trans (((HB.out.alloc (HB.out.size) _).trans (hb4.mono (HB.out.alloc (HB.out.size) _).size)).mono HB3.out.size)⟩
       | false =>
        rw [hre] at HR2
        have HB4:Hid (∀ o w4,Below (wr.alloc o).heap.size (wr.alloc o) w4→Below w3.heap.size w3 w4):=Lib.hid (fun o w4 hb4=>(HB.out.alloc (HB.out.size) o).trans (hb4.mono (HB.out.alloc (HB.out.size) o).size))
        have HNX:Hid (Seen ts (k0+1+1)):=Lib.hid (HSN.out.next (fun _=>⟨k0,rfl,HRE.out.2,by rw [← HRE.out.1,hre]⟩) (fun e=>absurd e HQ.out))
        clear hre
        go_wp2_with (go_at_call 30;refine (HR2.out _).mono ?_;rintro e w4 ⟨rfl,hb4⟩;have hbx:=(hb4.block wr.heap.size (by simp)).trans (heap_alloc_new wr _);have d1:w4.cell? ⟨wr.heap.size,1,none⟩=some (.string x):=(Lib.cell_of_heap hbx 1).trans rfl)
        go_roundw
        case rel=>exact ⟨k0+1+1,by omega,by go_num,Lib.hid (HB4.out _ _ hb4),HNX⟩
        case measure=>simp [intOf];omega
      ·generalize bs ts[k0].text=x0 at *
       generalize ts[k0].kind=kd0 at *
       generalize ts[k0].num=nm0 at *
       go_wp2_with fail
       go_ret
       exact ⟨rfl,HB3.out.trans ((HB.out.alloc (HB.out.size) _).mono HB3.out.size)⟩
    ·have hq1:((bs ts[k].text).toList == [40])=false:=by rw [bs_eq];simpa using h40
     have HQ:Hid (¬ (peekT ts k).text=[40]):=Lib.hid (by rw [HPK.out];exact h40)
     clear h40
     have HBN:=Lib.hid (fun o=>HB.out.alloc (HB.out.size) o)
     by_cases h58:ts[k].text=[58,45]
     ·have hq2:((bs ts[k].text).toList == [58,45])=true:=by rw [bs_eq,h58];rfl
      have hin:=HLN.out k hlt (by rw [HPK.out];exact h58)
      obtain ⟨g',hg',_,b0,b1,b2⟩:=(HTR.out.below HB.out) (k+1) hin
      injection hg' with hg'
      injection hg' with hg' _ _
      subst hg'
      have hpk1:=peekT_at hin
      have hz3:wrap64 ((k:Int)+1)=(k:Int)+1:=by unfold wrap64;omega
      have hz4:(0:Int)≤(k:Int)+1:=by omega
      have hz5:(k:Int)+1 < (ts.length:Int):=by omega
      clear h58
      by_cases htr:ts[k+1].text=[116,114,117,101]
      ·have hq3:((bs ts[k+1].text).toList == [116,114,117,101])=true:=by rw [bs_eq,htr];rfl
       have hq4:(bs ts[k+1].text).toList=[116,114,117,101]:=by rw [bs_list,htr]
       clear htr hpk1
       generalize bs ts[k+1].text=x1 at *
       generalize ts[k+1].kind=kd1 at *
       generalize ts[k+1].num=nm1 at *
       generalize bs ts[k].text=x at *
       generalize ts[k].kind=kd at *
       generalize ts[k].num=nm at *
       go_wp2_with fail
       go_ret
       exact ⟨rfl,HB3.out.trans ((HB.out.alloc (HB.out.size) _).mono HB3.out.size)⟩
      ·have hq3:((bs ts[k+1].text).toList == [116,114,117,101])=false:=by rw [bs_eq];simpa using htr
       have hq4:¬ (bs ts[k+1].text).toList=[116,114,117,101]:=by rw [bs_list];exact htr
       have HNX:Hid (Seen ts (k+1)):=Lib.hid (HSN.out.next (fun e=>absurd e HQ.out) (fun _=>by unfold hasT;rw [hpk1];simpa using htr))
       clear htr hpk1
       generalize bs ts[k+1].text=x1 at *
       generalize ts[k+1].kind=kd1 at *
       generalize ts[k+1].num=nm1 at *
       generalize bs ts[k].text=x at *
       generalize ts[k].kind=kd at *
       generalize ts[k].num=nm at *
       go_wp2_with fail
       go_roundw
       case rel=>exact ⟨k+1,by omega,by go_num,Lib.hid (HBN.out _),HNX⟩
       case measure=>simp [intOf];omega
     ·have hq2:((bs ts[k].text).toList == [58,45])=false:=by rw [bs_eq];simpa using h58
      have HNX:Hid (Seen ts (k+1)):=Lib.hid (HSN.out.next (fun e=>absurd e HQ.out) (fun e=>absurd (by rw [← HPK.out];exact e) h58))
      clear h58
      generalize bs ts[k].text=x at *
      generalize ts[k].kind=kd at *
      generalize ts[k].num=nm at *
      go_wp2_with fail
      go_roundw
      case rel=>exact ⟨k+1,by omega,by go_num,Lib.hid (HBN.out _),HNX⟩
      case measure=>simp [intOf];omega
   ·obtain rfl:k=ts.length:=by omega
    have hdc:decide (ts.length < ts.length)=false:=by simp
    obtain ⟨hp1,hp2⟩:=HSM.out HSN.out
    have HPT:=Lib.hid hp1
    have HPW:=Lib.hid hp2
    have HP:=Lib.hid (printSource_any l _ _ _ wr (HW.out.below (HB3.out.trans (HB.out.mono HB3.out.size))) (stays (ArgsV.stable _ _ ItemV.stable) HV3.out HB.out hs23) HOK.out (Nat.le_trans hs23 HB.out.size) (by have:=HLE.out;omega))
    have HLP:=Lib.hid (fun w=>refLex_any (bs (sourceF l)) w)
    have hpz:=bs_size (sourceF l)
    have hdl:(bs (sourceF l)).data.toList=sourceF l:=rfl
    clear hp1 hp2
    rcases Nat.lt_or_ge 16384 (sourceF l).length with hbig | hsml
    ·have hq:decide ((16384:Int) < ((bs (sourceF l)).size:Int))=true:=by rw [hpz];simp;omega
     have hq2:decide (16384 < (bs (sourceF l)).size)=true:=by rw [hpz];simpa using hbig
     generalize bs (sourceF l)=p at *
     go_wp2_with fail
     go_at_call 19
     refine HP.out.mono ?_
     rintro e w4 ⟨rfl,hb4⟩
     have HB4:=Lib.hid (HB3.out.trans ((HB.out.trans (hb4.mono HB.out.size)).mono HB3.out.size))
     clear hb4
     go_wp2_with fail
     go_ret
     exact ⟨rfl,HB4.out⟩
    ·have hq:decide ((16384:Int) < ((bs (sourceF l)).size:Int))=false:=by rw [hpz];simp;omega
     have hq2:decide (16384 < (bs (sourceF l)).size)=false:=by rw [hpz];simpa using hsml
     have hpz2:(bs (sourceF l)).size≤16384:=by omega
     generalize bs (sourceF l)=p at *
     go_wp2_with fail
     go_at_call 19
     refine HP.out.mono ?_
     rintro e w4 ⟨rfl,hb4⟩
     have HB4:=Lib.hid (HB.out.trans (hb4.mono HB.out.size))
     have HT4:=Lib.hid (HTR.out.below HB4.out)
     clear hb4 hpz
     go_wp2_with fail
     go_at_call 29
     refine (HLP.out _).mono ?_
     rintro e w5 ⟨hb5,hend⟩
     rw [hdl,HPT.out,HPW.out] at hend
     have HB5:=Lib.hid (HB4.out.trans (hb5.mono HB4.out.size))
     rcases hend with ⟨q1,_⟩ | ⟨_,q1,_⟩ | ⟨_,_,v5,rfl,hown⟩
     ·omega
     ·cases q1
     obtain ⟨A5,c5,rfl⟩:∃ A c,v5=.slice A ts.length c:=by
      rcases hown.2 with ⟨rfl,h0⟩ | ⟨g,cap,cur,rfl,_⟩
      ·exact ⟨none,0,by rw [h0]⟩
      ·exact ⟨_,_,rfl⟩
     have hr5:=(tokR_of hown).rowT
     have hr3:=(HTR.out.below HB5.out).rowT
     have HQ:=Lib.hid (same_true w5 ts A5 A c5 c hr5 hr3 (by omega))
     clear hown hb5 hr5 hr3
     go_wp2_with fail
     go_at_call 31
     refine HQ.out.mono ?_
     rintro e w6 ⟨rfl,nq,rfl⟩
     go_wp2_with fail
     go_ret
     exact ⟨rfl,below_dN (HB3.out.trans (HB5.out.mono HB3.out.size)) nq⟩
end Lx
end Go.Proofs.YtajomoclbpobhaaGreatDoor
