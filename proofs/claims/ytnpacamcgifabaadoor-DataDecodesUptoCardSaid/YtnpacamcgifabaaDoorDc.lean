/- Data: whether data are good, by the reference. Conditions: as each states. -/
import Derived.Test.YtnpacamcgifabaaDoorDb
namespace Go.Proofs.YtnpacamcgifabaaDoor
set_option linter.unusedSimpArgs false
set_option linter.unusedVariables false
namespace Lx
open Go Go.RowKit
/-- What the reference's count gives: the nodes and the greatest depth, or one of both is too large. -/
def RCnt (dp:Nat) (x:DaT) (n m:Nat):Prop:=1≤n∧n≤4097∧m≤201∧dp≤m∧((sizeD x≤4096∧dp+depD x≤201)→n=sizeD x∧m+1=dp+depD x)∧(¬ (sizeD x≤4096∧dp+depD x≤201)→4096 < n ∨ 200 < m)
def RCs (dp:Nat) (a:List DaT) (n m:Nat):Prop:=(1≤n∧n≤4096∧dp≤m∧m≤201)∧((1+sizeDs a≤4096∧dp+depDs a≤200)→n=1+sizeDs a∧m=dp+depDs a)∧(¬ (1+sizeDs a≤4096∧dp+depDs a≤200)→200 < m)
section
variable {dp n m n' m':Nat} {a:List DaT} {x:DaT}
theorem RCs.start (h:dp≤200):RCs dp [] 1 dp:=by
 unfold RCs
 rw [sizeDs,depDs]
 omega
theorem RCs.more (h:RCs dp a n m) (k:RCnt (dp+1) x n' m') (hn:n+n'≤4096):RCs dp (a++[x]) (n+n') (max m m'):=by
 unfold RCs at h ⊢
 unfold RCnt at k
 rw [sizeDs_snoc,depDs_snoc]
 have:=sizeD_pos x
 have:=depD_pos x
 omega
theorem RCs.over (h:RCs dp (a) n m) (k:RCnt (dp+1) x n' m') (hn:4096 < n+n') {X:DaT} {l:List DaT} (hx:sizeD X=1+sizeDs l) (hd:depD X=1+depDs l) (hl:sizeDs (a++[x])≤sizeDs l) (hq:depDs (a++[x])≤depDs l):RCnt dp X 4097 (max m m'):=by
 rw [sizeDs_snoc] at hl
 rw [depDs_snoc] at hq
 unfold RCs at h
 unfold RCnt at k ⊢
 omega
theorem RCs.fin (h:RCs dp a n m) (hx:sizeD x=1+sizeDs a) (hd:depD x=1+depDs a):RCnt dp x n m:=by
 unfold RCs at h
 unfold RCnt
 omega
theorem RCnt.good (h:RCnt 1 x n m):(decide (n≤4096) && decide (m≤200))=goodD x:=by
 unfold RCnt at h
 unfold goodD
 rw [Bool.eq_iff_iff]
 simp only [Bool.and_eq_true,decide_eq_true_eq]
 omega
end
theorem depDs_part:∀ (l:List DaT) (k:Nat),depDs (l.take k)≤depDs l
 | [],k=>by simp
 | x :: l,0=>by simp [depDs]
 | x :: l,k+1=>by rw [List.take_succ_cons,depDs,depDs];have:=depDs_part l k;omega
def RCountC (d:Nat):Prop:=∀ (Vol:Nat→Prop) (dp:Nat) (x:DaT) (v:Value) (w:World),DaW d Vol x v w→dp≤201 →
 Calls Tryd.prog 76 #[v,.int .i64 dp] w fun e w'=>∃ n m:Nat,e=.returned (.tuple #[.int .i64 n,.int .i64 m])∧RCnt dp x n m∧Below w.heap.size w w'
set_option maxRecDepth 100000 in
set_option maxHeartbeats 4000000 in
theorem rcount_step (d:Nat) (HC:Hid (RCountC d)):RCountC (d+1):=by
 rintro Vol dp ⟨c,n0,s,l⟩ v w ⟨va,rfl,hr⟩ hdp
 obtain ⟨A,k,rfl⟩:=hr.slice
 have hfew:=hr.few
 unfold maxLen at hfew
 have hb:=below_alloc w (.cells #[.bool c,.int .i64 n0,.string s,.slice A l.length k] 68)
 have HB:=Lib.hid hb
 have HR:=Lib.hid ((RowW.step (DaW.step d)).below hr hb)
 have HX:=Lib.hid (heap_alloc_new w (.cells #[.bool c,.int .i64 n0,.string s,.slice A l.length k] 68))
 clear hr hb
 by_cases hbig:200 < dp
 ·have hd1:decide (200 < dp)=true:=by simpa using hbig
  have hd2:decide ((200:Int) < (dp:Int))=true:=by simp;omega
  go_enter Tryd.func76,Tryd.ntmps76
  go_wp2_with fail
  refine bodyPost_ret (v:=.tuple #[.int .i64 1,.int .i64 dp]) (by simp [results,Tryd.results76,go_sem]) rfl ⟨1,dp,rfl,?_,HB.out⟩
  have:=depD_pos (.mk c n0 s l)
  unfold RCnt
  omega
 ·have hd1:decide (200 < dp)=false:=by simpa using hbig
  have hd2:decide ((200:Int) < (dp:Int))=false:=by simp;omega
  have HDP:=Lib.hid hbig
  cases c
  ·go_enter Tryd.func76,Tryd.ntmps76
   have x0:=(cellH HX.out 0).trans rfl
   go_wp2_with fail
   exact bodyPost_ret (v:=.tuple #[.int .i64 1,.int .i64 dp]) (by simp [results,Tryd.results76,go_sem]) rfl ⟨1,dp,rfl,(RCs.start (by have:=HDP.out;omega)).fin (by rw [sizeD];simp [sizeDs]) (by rw [depD];simp [depDs]),HB.out⟩
  ·go_enter Tryd.func76,Tryd.ntmps76
   have x0:=(cellH HX.out 0).trans rfl
   have x3:=(cellH HX.out 3).trans rfl
   go_wp2_with fail
   clear x0 x3 hd1 hd2
   generalize (w.alloc (.cells #[.bool true,.int .i64 n0,.string s,.slice A l.length k] 68))=W at HB HR ⊢
   have HSX:Hid (sizeD (.mk true n0 s l)=1+sizeDs l):=Lib.hid (by rw [sizeD];simp)
   have HDX:Hid (depD (.mk true n0 s l)=1+depDs l):=Lib.hid (by rw [depD];simp)
   go_loopw [6,7,25] (fun u v t wr=>∃ i n m:Nat,i≤l.length∧t=.int .i64 i∧u=.int .i64 n∧v=.int .i64 m∧Hid (RCs dp (l.take i) n m)∧Hid (Below W.heap.size W wr)) (fun _ _ t _=>l.length - (intOf t).toNat)
   case atStart=>exact ⟨0,1,dp,Nat.zero_le _,rfl,rfl,rfl,Lib.hid (RCs.start (by omega)),Lib.hid (Below.refl _ _)⟩
   case round =>
    obtain ⟨i,n,m,hi,rfl,rfl,rfl,HRC,HBR⟩:=hrel
    by_cases hlt:i < l.length
    ·obtain ⟨gg,o,vi,rfl,hg,_,hvi,hc⟩:=RowW.at ((RowW.step (DaW.step d)).below HR.out HBR.out) i hlt
     obtain ⟨B1,n1,m1,rfl⟩:=hvi.this
     have a0:=(hc 0 (by decide)).trans rfl
     have a1:=(hc 1 (by decide)).trans rfl
     have a2:=(hc 2 (by decide)).trans rfl
     have a3:=(hc 3 (by decide)).trans rfl
     simp only [cellsL,Value.cells,List.getElem?_cons_zero,List.getElem?_cons_succ,Nat.add_zero] at a0 a1 a2 a3
     have hi0:(0:Int)≤(i:Int):=by omega
     have hi1:(i:Int) < (l.length:Int):=by omega
     have hdc:decide (i < l.length)=true:=by simpa using hlt
     have hst:=List.take_succ_eq_append_getElem hlt
     have hsp:=sizeDs_part l (i+1)
     have hdq:=depDs_part l (i+1)
     have HLT:=Lib.hid hlt
     rw [hst] at hsp hdq
     generalize hyy:l[i]=y at hvi a0 a1 a2 a3 hst hsp hdq
     have hbx:=below_alloc wr (.cells #[.bool y.ctor,.int .i64 y.int,.string y.name,.slice B1 n1 m1] 68)
     have HVI:=Lib.hid ((DaW.step d).below hvi hbx)
     have HXB:=Lib.hid (heap_alloc_new wr (.cells #[.bool y.ctor,.int .i64 y.int,.string y.name,.slice B1 n1 m1] 68))
     have HBX:=Lib.hid (HBR.out.trans (hbx.mono HBR.out.size))
     have HST:=Lib.hid hst
     have HSP:=Lib.hid hsp
     have HDQ:=Lib.hid hdq
     clear hvi hbx hst hsp hdq hyy hlt hc
     have b0:=(cellH HXB.out 0).trans rfl
     have b1:=(cellH HXB.out 1).trans rfl
     have b2:=(cellH HXB.out 2).trans rfl
     have b3:=(cellH HXB.out 3).trans rfl
     go_wp2_with fail
     clear a0 a1 a2 a3 b0 b1 b2 b3 hdc
     try go_at_call 76
     have hcall:=HC.out Vol (dp+1) y _ _ HVI.out (by omega)
     rw [show ((dp+1:Nat):Int)=(dp:Int)+1 from rfl] at hcall
     refine hcall.mono ?_
     clear hcall
     rintro e w3 ⟨n',m',rfl,hcn,hb3⟩
     have HB3:=Lib.hid (HBX.out.trans (hb3.mono HBX.out.size))
     have HCN:=Lib.hid hcn
     have hb1:1≤n∧n≤4096∧dp≤m∧m≤201:=HRC.out.1
     have hb2:1≤n'∧n'≤4097∧m'≤201:=⟨hcn.1,hcn.2.1,hcn.2.2.1⟩
     clear hb3 hcn
     obtain ⟨M,hM⟩:∃ M:Nat,M=max m m':=⟨_,rfl⟩
     have HMM:=Lib.hid hM
     by_cases hov:4096 < n+n'
     ·have HOV:=Lib.hid hov
      have hd1:decide (4096 < n+n')=true:=by simpa using hov
      have hd2:decide ((4096:Int) < (n:Int)+(n':Int))=true:=by simp;omega
      by_cases hmm:m < m'
      ·have hd3:decide (m < m')=true:=by simpa using hmm
       have hd4:decide ((m:Int) < (m':Int))=true:=by simp;omega
       go_wp2_with fail
       have hMm:M=m':=by omega
       rw [← hMm]
       exact bodyPost_ret (v:=.tuple #[.int .i64 4097,.int .i64 M]) (by simp [results,Tryd.results76,go_sem]) rfl ⟨4097,M,rfl,by rw [HMM.out];exact RCs.over HRC.out HCN.out HOV.out HSX.out HDX.out HSP.out HDQ.out,HB.out.trans (HB3.out.mono HB.out.size)⟩
      ·have hd3:decide (m < m')=false:=by simpa using hmm
       have hd4:decide ((m:Int) < (m':Int))=false:=by simp;omega
       go_wp2_with fail
       have hMm:M=m:=by omega
       rw [← hMm]
       exact bodyPost_ret (v:=.tuple #[.int .i64 4097,.int .i64 M]) (by simp [results,Tryd.results76,go_sem]) rfl ⟨4097,M,rfl,by rw [HMM.out];exact RCs.over HRC.out HCN.out HOV.out HSX.out HDX.out HSP.out HDQ.out,HB.out.trans (HB3.out.mono HB.out.size)⟩
     ·have HOV:=Lib.hid hov
      have hd1:decide (4096 < n+n')=false:=by simpa using hov
      have hd2:decide ((4096:Int) < (n:Int)+(n':Int))=false:=by simp;omega
      by_cases hmm:m < m'
      ·have hd3:decide (m < m')=true:=by simpa using hmm
       have hd4:decide ((m:Int) < (m':Int))=true:=by simp;omega
       go_wp2_with fail
       go_roundw
       case rel=>exact ⟨i+1,n+n',M,by have:=HLT.out;omega,by go_num,by go_num,by rw [show M=m' by omega],by rw [HST.out,HMM.out];exact Lib.hid (RCs.more HRC.out HCN.out (by have:=HOV.out;omega)),HB3⟩
       case measure=>have:=HLT.out;simp [intOf];omega
      ·have hd3:decide (m < m')=false:=by simpa using hmm
       have hd4:decide ((m:Int) < (m':Int))=false:=by simp;omega
       go_wp2_with fail
       go_roundw
       case rel=>exact ⟨i+1,n+n',M,by have:=HLT.out;omega,by go_num,by go_num,by rw [show M=m by omega],by rw [HST.out,HMM.out];exact Lib.hid (RCs.more HRC.out HCN.out (by have:=HOV.out;omega)),HB3⟩
       case measure=>have:=HLT.out;simp [intOf];omega
    ·obtain rfl:i=l.length:=by omega
     have hdc:decide (l.length < l.length)=false:=by simp
     rw [List.take_length] at HRC
     go_wp2_with fail
     exact bodyPost_ret (v:=.tuple #[.int .i64 n,.int .i64 m]) (by simp [results,Tryd.results76,go_sem]) rfl ⟨n,m,rfl,HRC.out.fin HSX.out HDX.out,HB.out.trans (HBR.out.mono HB.out.size)⟩
theorem rcount_any:∀ d,RCountC d
 | 0=>fun _ _ _ _ _ h _=>h.elim
 | d+1=>rcount_step d (Lib.hid (rcount_any d))
set_option maxRecDepth 100000 in
set_option maxHeartbeats 1000000 in
theorem rgood_any (d:Nat) (Vol:Nat→Prop) (x:DaT) (v:Value) (w:World) (hv:DaW d Vol x v w) :
  Calls Tryd.prog 43 #[v] w fun e w'=>e=.returned (.bool (goodD x))∧Below w.heap.size w w':=by
 obtain ⟨A0,l0,c0,rfl⟩:=hv.this
 have hb:=below_alloc w (.cells #[.bool x.ctor,.int .i64 x.int,.string x.name,.slice A0 l0 c0] 68)
 have HB:=Lib.hid hb
 have HP:=Lib.hid (rcount_any d Vol 1 x _ _ ((DaW.step d).below hv hb) (by omega))
 have HX:=Lib.hid (heap_alloc_new w (.cells #[.bool x.ctor,.int .i64 x.int,.string x.name,.slice A0 l0 c0] 68))
 clear hv hb
 go_enter Tryd.func43,Tryd.ntmps43
 have x0:=(cellH HX.out 0).trans rfl
 have x1:=(cellH HX.out 1).trans rfl
 have x2:=(cellH HX.out 2).trans rfl
 have x3:=(cellH HX.out 3).trans rfl
 go_wp2_with fail
 clear x0 x1 x2 x3
 try go_at_call 76
 refine HP.out.mono ?_
 rintro e w1 ⟨n,m,rfl,hcn,hb1⟩
 have HB1:=Lib.hid (HB.out.trans (hb1.mono HB.out.size))
 have HG:=Lib.hid hcn.good
 clear hb1 hcn
 by_cases hn:n≤4096
 ·have hd1:decide (n≤4096)=true:=by simpa using hn
  have hd2:decide ((n:Int)≤(4096:Int))=true:=by simp;omega
  by_cases hm:m≤200
  ·have hd3:decide (m≤200)=true:=by simpa using hm
   have hd4:decide ((m:Int)≤(200:Int))=true:=by simp;omega
   go_wp2_with fail
   go_ret
   exact ⟨by rw [← HG.out];simp [hn,hm],HB1.out⟩
  ·have hd3:decide (m≤200)=false:=by simpa using hm
   have hd4:decide ((m:Int)≤(200:Int))=false:=by simp;omega
   go_wp2_with fail
   go_ret
   exact ⟨by rw [← HG.out];simp [hn,hm],HB1.out⟩
 ·have hd1:decide (n≤4096)=false:=by simpa using hn
  have hd2:decide ((n:Int)≤(4096:Int))=false:=by simp;omega
  go_wp2_with fail
  go_ret
  exact ⟨by rw [← HG.out];simp [hn],HB1.out⟩
end Lx
end Go.Proofs.YtnpacamcgifabaaDoor
