/- The program's reader of bytes: number, name. Conditions: as each states. -/
import Derived.Test.YtnpacamcgifabaaDoorDo
import Derived.Test.YtnpacamcgifabaaDoorDd
import Derived.Test.YtnpacamcgifabaaDoorDe
import Derived.Lib.BufferRead
namespace Go.Proofs.YtnpacamcgifabaaDoor
set_option linter.unusedSimpArgs false
set_option linter.unusedVariables false
namespace Lx
open Go Go.RowKit
def Refd (L R:Nat) (n:Int) (w:World):Prop:=∃ rv,RdS L R [] rv n true w
theorem by_text {Vol:Nat→Prop} {l:List UInt8} {v:Value} {w:World} (h:RowW 1 ByH Vol l v w):(convert 64 9 v).run Tryd.prog w=.ok (.string (bs l)) w:=by
 obtain ⟨A,c,rfl⟩:=h.slice
 cases A with
 | none =>
  have hl:l=[]:=by
   rcases l with _ | ⟨b,l⟩
   ·rfl
   ·obtain ⟨_,_,e,_⟩:=By.at h 0 (by simp)
    cases e
  subst hl
  exact Lib.run_convert_nil_bytes w 64 9 5 c Tryd.underlying64 Tryd.underlying5 Tryd.underlying9
 | some a =>
  refine run_convert_bytes_back w 64 9 5 a c l Tryd.underlying64 Tryd.underlying5 Tryd.underlying9 (fun j hj=>?_)
  obtain ⟨b,off,e,_,_,hc⟩:=By.at h j hj
  injection e with e
  subst e
  rw [addr_add]
  exact hc
/-- What the reader makes of bytes: as its operations say. -/
def numP (l:List UInt8):Nat→Int
 | 0=>0
 | i+1=>bits .or .i64 (numP l i) (wrap64 (wrap64 ((l.getD i 0).toNat:Int) * 2 ^ (8 * i)))
def NumP (L R:Nat) (rest:List UInt8) (n:Int) (w:World):Ending→World→Prop:=fun e w'=>Kb (fun k=>k=R) w w' ∧ 
 ((rest.length < 8∧e=.returned (.int .i64 0)∧Refd L R n w') ∨ (8≤rest.length∧e=.returned (.int .i64 (numP (rest.take 8) 8))∧∃ rv',RdS L R (rest.drop 8) rv' n false w'))
set_option maxRecDepth 100000 in
set_option maxHeartbeats 2000000 in
theorem number_any (L R:Nat) (rest:List UInt8) (rv:Value) (n:Int) (ref:Bool) (w:World) (h:RdS L R rest rv n ref w) (hr:ref=true→rest=[]) :
  Calls Tryd.prog 95 #[.pointer (some ⟨R,0,none⟩)] w (NumP L R rest n w):=by
 have hcut:=cut_any L R rest rv n ref 8 w h
 rw [show ((8:Nat):Int)=8 from rfl] at hcut
 have HC:=Lib.hid hcut
 have HREF:=Lib.hid hr
 clear h hcut hr
 go_enter Tryd.func95,Tryd.ntmps95
 go_wp2_with fail
 try go_at_call 112
 refine HC.out.mono ?_
 rintro e w1 ⟨hk,⟨hlt,rfl,hrd⟩ | ⟨hge,A,rv',rfl,hrow,hrd⟩⟩
 ·have HK:=Lib.hid hk
  have HRD:=Lib.hid hrd
  have HLT:=Lib.hid hlt
  clear hk hrd hlt
  go_wp2_with fail
  go_loopw [3,9] (fun u t wr=>u=.int .i64 0∧t=.int .i64 0∧wr=w1) (fun _ _ _=>0)
  case atStart=>exact ⟨rfl,rfl,rfl⟩
  case round =>
   obtain ⟨rfl,rfl,rfl⟩:=hrel
   go_wp2_with fail
   go_ret
   exact (by unfold NumP;exact ⟨HK.out,.inl ⟨HLT.out,rfl,_,HRD.out⟩⟩)
 ·have hrf:ref=false:=by
   cases ref
   ·rfl
   ·have:=HREF.out rfl
    subst this
    simp at hge
  subst hrf
  have HK:=Lib.hid hk
  have HRD:=Lib.hid hrd
  have HGE:=Lib.hid hge
  have HROW:=Lib.hid hrow
  have hl8:(rest.take 8).length=8:=by rw [List.length_take];omega
  clear hk hrd hge hrow
  go_wp2_with fail
  obtain ⟨l,hl⟩:∃ l,rest.take 8=l:=⟨_,rfl⟩
  have HL:=Lib.hid hl
  rw [hl] at HROW hl8
  clear hl
  go_loopw [3,9] (fun u t wr=>∃ i:Nat,i≤8∧t=.int .i64 i∧u=.int .i64 (numP l i)∧wr=w1) (fun _ t _=>8 - (intOf t).toNat)
  case atStart=>exact ⟨0,Nat.zero_le _,rfl,rfl,rfl⟩
  case round =>
   obtain ⟨i,hi,rfl,rfl,rfl⟩:=hrel
   by_cases hlt:i < 8
   ·obtain ⟨g,o,rfl,hg,_,hc⟩:=By.at HROW.out i (by omega)
    have hi0:(0:Int)≤(i:Int):=by omega
    have hi1:(i:Int) < 8:=by omega
    have hdc:decide (i < 8)=true:=by simpa using hlt
    have hd2:decide ((i:Int) < (8:Int))=true:=by simp;omega
    have hnx:numP l (i+1)=bits .or .i64 (numP l i) (wrap64 (wrap64 ((l[i]'(by omega)).toNat:Int) * 2 ^ (8 * i))):=by
     have hg:l.getD i 0=l[i]'(by omega):=by simp [hl8,hlt]
     rw [numP,hg]
    have HNX:=Lib.hid hnx
    clear hnx
    go_wp2_with fail
    refine ⟨⟨i+1,by omega,by go_num,by rw [HNX.out],trivial⟩,by simp [intOf];omega⟩
   ·obtain rfl:i=8:=by omega
    go_wp2_with fail
    go_ret
    exact (by unfold NumP;exact ⟨HK.out,.inr ⟨HGE.out,by rw [HL.out];rfl,_,HRD.out⟩⟩)
/-- What a name leaves. -/
def NameP (L R:Nat) (rest:List UInt8) (n:Int) (w:World):Ending→World→Prop:=fun e w'=>Kb (fun k=>k=R) w w' ∧
 ((∃ s,e=.returned (.string s)∧Refd L R n w'∧¬ ∃ b r,rest=b :: r∧1≤b.toNat∧b.toNat≤32∧b.toNat≤r.length) ∨
  (∃ b r rv',rest=b :: r∧1≤b.toNat∧b.toNat≤32∧b.toNat≤r.length∧e=.returned (.string (bs (r.take b.toNat)))∧RdS L R (r.drop b.toNat) rv' n false w'))
set_option maxRecDepth 100000 in
set_option maxHeartbeats 4000000 in
theorem name_any (L R:Nat) (rest:List UInt8) (rv:Value) (n:Int) (w:World) (h:RdS L R rest rv n false w) :
  Calls Tryd.prog 113 #[.pointer (some ⟨R,0,none⟩)] w (NameP L R rest n w):=by
 have HS:=Lib.hid (small_any L R rest rv n false w h (fun e=>by cases e))
 have HSF:=Lib.hid size_fits
 clear h
 go_enter Tryd.func113,Tryd.ntmps113
 go_wp2_with fail
 try go_at_call 94
 refine HS.out.mono ?_
 rintro e w1 ⟨hk,⟨rfl,rfl,hrd⟩ | ⟨b,r,rv',rfl,_,rfl,hrd⟩⟩
 ·have HK:=Lib.hid hk
  have HRD:=Lib.hid hrd
  clear hk hrd
  have hsf:=HSF.out 0 w1
  rw [show ((0:Nat):Int)=0 from rfl] at hsf
  have HF:=Lib.hid hsf
  clear hsf
  go_wp2_with fail
  try go_at_call 97
  refine HF.out.mono ?_
  rintro e w2 ⟨rfl,rfl⟩
  have hd:(decide (1≤0) && decide (0≤32))=false:=rfl
  rw [hd]
  go_wp2_with fail
  try go_at_call 93
  refine (refuse_any L R _ _ n _ _ HRD.out).mono ?_
  rintro e w3 ⟨rfl,hr,hk3⟩
  have HK3:=Lib.hid (HK.out.trans hk3)
  have hcut:=cut_any L R _ _ n _ 0 _ hr
  rw [show ((0:Nat):Int)=0 from rfl] at hcut
  have HC:=Lib.hid hcut
  clear hr hk3 hcut
  go_wp2_with fail
  try go_at_call 112
  refine HC.out.mono ?_
  rintro e w4 ⟨hk4,⟨hlt,rfl,hrd4⟩ | ⟨hge,A,rv4,rfl,hrow4,hrd4⟩⟩
  ·exact absurd hlt (by simp)
  ·have hcv:=by_text hrow4
   have HK4:=Lib.hid (HK3.out.trans hk4)
   have HRD4:=Lib.hid hrd4
   clear hk4 hrd4 hrow4 hge
   go_wp2_with fail
   go_ret
   exact (by unfold NameP;exact ⟨HK4.out,.inl ⟨_,rfl,⟨_,HRD4.out⟩,fun ⟨b,r,e,_⟩=>by cases e⟩⟩)
 ·have HK:=Lib.hid hk
  have HRD:=Lib.hid hrd
  clear hk hrd
  go_wp2_with fail
  try go_at_call 97
  refine (HSF.out b.toNat w1).mono ?_
  rintro e w2 ⟨rfl,rfl⟩
  by_cases hok:1≤b.toNat∧b.toNat≤32
  ·have hd:(decide (1≤b.toNat) && decide (b.toNat≤32))=true:=by simp [hok.1,hok.2]
   have HOK:=Lib.hid hok
   rw [hd]
   go_wp2_with fail
   try go_at_call 112
   refine (cut_any L R _ _ n _ b.toNat _ HRD.out).mono ?_
   rintro e w4 ⟨hk4,⟨hlt,rfl,hrd4⟩ | ⟨hge,A,rv4,rfl,hrow4,hrd4⟩⟩
   ·have hcv:=Lib.run_convert_nil_bytes (P:=Tryd.prog) w4 64 9 5 0 Tryd.underlying64 Tryd.underlying5 Tryd.underlying9
    have HK4:=Lib.hid (HK.out.trans hk4)
    have HRD4:=Lib.hid hrd4
    have HLT:=Lib.hid hlt
    clear hk4 hrd4 hlt
    go_wp2_with fail
    go_ret
    exact (by unfold NameP;exact ⟨HK4.out,.inl ⟨_,rfl,⟨_,HRD4.out⟩,fun ⟨b',r',e,_,_,h3⟩=>by injection e with e1 e2;subst e1;subst e2;have:=HLT.out;omega⟩⟩)
   ·have hcv:=by_text hrow4
    have HK4:=Lib.hid (HK.out.trans hk4)
    have HRD4:=Lib.hid hrd4
    have HGE:=Lib.hid hge
    clear hk4 hrd4 hrow4 hge
    go_wp2_with fail
    go_ret
    exact (by unfold NameP;exact ⟨HK4.out,.inr ⟨b,r,_,rfl,HOK.out.1,HOK.out.2,HGE.out,rfl,HRD4.out⟩⟩)
  ·have hd:(decide (1≤b.toNat) && decide (b.toNat≤32))=false:=by
    rw [Bool.and_eq_false_iff,decide_eq_false_iff_not,decide_eq_false_iff_not]
    omega
   have HOK:=Lib.hid hok
   rw [hd]
   go_wp2_with fail
   try go_at_call 93
   refine (refuse_any L R _ _ n _ _ HRD.out).mono ?_
   rintro e w3 ⟨rfl,hr,hk3⟩
   have HK3:=Lib.hid (HK.out.trans hk3)
   have HR3:=Lib.hid hr
   clear hr hk3
   go_wp2_with fail
   try go_at_call 112
   refine (cut_any L R _ _ n _ b.toNat _ HR3.out).mono ?_
   rintro e w4 ⟨hk4,⟨hlt,rfl,hrd4⟩ | ⟨hge,A,rv4,rfl,hrow4,hrd4⟩⟩
   ·have hcv:=Lib.run_convert_nil_bytes (P:=Tryd.prog) w4 64 9 5 0 Tryd.underlying64 Tryd.underlying5 Tryd.underlying9
    have HK4:=Lib.hid (HK3.out.trans hk4)
    have HRD4:=Lib.hid hrd4
    clear hk4 hrd4 hlt
    go_wp2_with fail
    go_ret
    exact (by unfold NameP;exact ⟨HK4.out,.inl ⟨_,rfl,⟨_,HRD4.out⟩,fun ⟨b',r',e,h1,h2,_⟩=>by injection e with e1 e2;subst e1;exact HOK.out ⟨h1,h2⟩⟩⟩)
   ·have hcv:=by_text hrow4
    have HK4:=Lib.hid (HK3.out.trans hk4)
    have HRD4:=Lib.hid hrd4
    clear hk4 hrd4 hrow4 hge
    go_wp2_with fail
    go_ret
    exact (by unfold NameP;exact ⟨HK4.out,.inl ⟨_,rfl,⟨_,by rw [List.drop_nil] at HRD4;exact HRD4.out⟩,fun ⟨b',r',e,h1,h2,_⟩=>by injection e with e1 e2;subst e1;exact HOK.out ⟨h1,h2⟩⟩⟩)
end Lx
end Go.Proofs.YtnpacamcgifabaaDoor
