/- The program's reader of bytes: refuse, cut, small. Conditions: as each states. -/
/- The program's reader of bytes: number, name. Conditions: as each states. -/
/- Data that come in, opened to their trees. Conditions: each list of the datum is one that memory holds. -/
/- The decoder of data, purely; a row of data in the making. Conditions: as each states. -/
import Derived.Test.YtiljemkglhloeaaGreatDoorDxA
import Derived.Test.YtiljemkglhloeaaGreatDoorDxE
import Derived.Lib.BufferRead
import Derived.Test.YtiljemkglhloeaaGreatDoorCards
import Derived.Test.YtiljemkglhloeaaGreatDoorTie
import Derived.ProofKit
import Derived.OpenShut
import Derived.Deep.DeepHandedRow
import Derived.Deep.DeepWitnessRowRef
import Derived.Deep.DeepLaidRun
import Derived.Lib.LaidTab
import Derived.Stop.LaidErr
import Derived.SevenTiedAt
import Derived.Deep.Slices
import Derived.SizedLaws
namespace Go.Proofs.YtiljemkglhloeaaGreatDoor
set_option linter.unusedSimpArgs false
set_option linter.unusedVariables false
namespace Lx
open Go Go.RowKit
/-- Bytes that are only read, wherever they begin. -/
def ByH:HoldW UInt8:=fun _ x v _=>v=.int .u8 x.toNat
theorem ByH.step:StepW ByH:=fun _ _ _ _ _ _ h _ _=>h
section
variable {Vol:Nat→Prop} {l:List UInt8} {A:Option Addr} {n c:Nat} {w:World}
theorem addr_add (b o n:Nat):(⟨b,o,none⟩:Addr).add n=⟨b,o+n,none⟩:=by
 by_cases h:n=0
 ·subst h;rfl
 ·simp [Addr.add,h]
theorem By.at (h:RowW 1 ByH Vol l (.slice A n c) w) (i:Nat) (hi:i < l.length):∃ b off,A=some ⟨b,off,none⟩∧b < w.heap.size∧¬ Vol b∧w.cell? ⟨b,off+i,none⟩=some (.int .u8 l[i].toNat):=by
 obtain ⟨b,off,vi,h1,h2,h3,rfl,h5⟩:=RowW.at h i hi
 refine ⟨b,off,h1,h2,h3,?_⟩
 have:=h5 0 (by decide)
 rw [Nat.mul_one,Nat.add_zero] at this
 exact this
theorem By.make {b off:Nat} {m:List UInt8} {c:Nat} (hc:m.length≤c) (hm:c≤maxLen) (hb:b < w.heap.size) (hv:¬ Vol b) (h:∀ (i:Nat) (hi:i < m.length),w.cell? ⟨b,off+i,none⟩=some (.int .u8 m[i].toNat)):RowW 1 ByH Vol m (.slice (some ⟨b,off,none⟩) m.length c) w :=
 ⟨_,c,rfl,hc,hm,fun i hi=>⟨b,off,_,rfl,hb,hv,rfl,fun j hj=>by
  obtain rfl:j=0:=by omega
  rw [Nat.mul_one,Nat.add_zero]
  exact h i hi⟩⟩
theorem By.none (A:Option Addr) {c:Nat} (hm:c≤maxLen):RowW 1 ByH Vol [] (.slice A 0 c) w:=⟨A,c,rfl,Nat.zero_le _,hm,fun i hi=>by simp at hi⟩
def restV (A:Option Addr) (len cap size:Nat):Value:=.slice (if cap=size then A else A.map (·.add size)) (len - size) (cap - size)
theorem By.take (h:RowW 1 ByH Vol l (.slice A n c) w) {size:Nat} (hs:size≤l.length):RowW 1 ByH Vol (l.take size) (.slice A size size) w:=by
 have hl:(l.take size).length=size:=by rw [List.length_take];omega
 have hf:=h.few
 by_cases h0:size=0
 ·subst h0
  rw [List.take_zero]
  exact By.none A (Nat.zero_le _)
 ·obtain ⟨b,off,rfl,hb,hv,_⟩:=By.at h 0 (by omega)
  have:=By.make (Vol:=Vol) (w:=w) (b:=b) (off:=off) (m:=l.take size) (c:=size) (by omega) (by omega) hb hv (fun i hi=>by
   have hi2:i < l.length:=by rw [hl] at hi;omega
   obtain ⟨b',off',e,_,_,hc⟩:=By.at h i hi2
   injection e with e
   injection e with e1 e2
   subst e1
   subst e2
   rw [hc,List.getElem_take])
  rw [hl] at this
  exact this
theorem By.drop (h:RowW 1 ByH Vol l (.slice A l.length c) w) {size:Nat} (hs:size≤l.length):RowW 1 ByH Vol (l.drop size) (restV A l.length c size) w:=by
 have hl:(l.drop size).length=l.length - size:=List.length_drop
 have hcc:l.length≤c∧c≤maxLen:=by
  obtain ⟨A',c',e,h1,h2,_⟩:=h
  injection e with _ _ e3
  omega
 unfold restV
 by_cases h0:l.length - size=0
 ·have:l.drop size=[]:=List.eq_nil_of_length_eq_zero (by omega)
  rw [this,h0]
  exact By.none _ (by omega)
 ·obtain ⟨b,off,rfl,hb,hv,_⟩:=By.at h 0 (by omega)
  rw [if_neg (by omega),Option.map_some,addr_add]
  have:=By.make (Vol:=Vol) (w:=w) (b:=b) (off:=off+size) (m:=l.drop size) (c:=c - size) (by omega) (by omega) hb hv (fun i hi=>by
   have hi2:size+i < l.length:=by rw [hl] at hi;omega
   obtain ⟨b',off',e,_,_,hc⟩:=By.at h (size+i) hi2
   injection e with e
   injection e with e1 e2
   subst e1
   subst e2
   rw [Nat.add_assoc,hc,List.getElem_drop])
  rw [hl] at this
  exact this
end
/-- The reader: what is left, how many nodes began, whether it refused. -/
structure RdS (L R:Nat) (rest:List UInt8) (rv:Value) (n:Int) (ref:Bool) (w:World):Prop where
 box:w.heap[R]?=some (.cells #[rv,.int .i64 n,.bool ref] 98 (0,0))
 row:RowW 1 ByH (fun k=>L≤k) rest rv w
 lo:L≤R
theorem RdS.below {L R:Nat} {rest:List UInt8} {rv:Value} {n:Int} {ref:Bool} {w w':World} (h:RdS L R rest rv n ref w) (hb:Below w.heap.size w w'):RdS L R rest rv n ref w' :=
 ⟨(hb.block R (Array.getElem?_eq_some_iff.1 h.box).1).trans h.box,(RowW.step ByH.step).below h.row hb,h.lo⟩
theorem RdS.put {L R:Nat} {rest:List UInt8} {rv:Value} {n n':Int} {ref:Bool} {w:World} (h:RdS L R rest rv n ref w):RdS L R rest rv n' ref (w.setCell ⟨R,1,none⟩ (.int .i64 n')) :=
 ⟨by rw [blk_put w R 1 _ h.box (by simp)];rfl,RowW.step ByH.step _ _ _ _ _ _ h.row (((Kb.refl (fun k=>k=R) w).put (p:=⟨R,1,none⟩) rfl _).wider (fun _ _ e=>e ▸ h.lo)) (fun _ _ e=>e),h.lo⟩
theorem RdS.kb {L R:Nat} {rest:List UInt8} {rv:Value} {n:Int} {ref:Bool} {S:Nat→Prop} {w w':World} (h:RdS L R rest rv n ref w) (hk:Kb S w w') (hS:∀ k,k < w.heap.size→S k→L≤k) (hR:¬ S R):RdS L R rest rv n ref w' :=
 ⟨(hk.block R (Array.getElem?_eq_some_iff.1 h.box).1 hR).trans h.box,RowW.step ByH.step _ _ _ _ _ _ h.row (hk.wider hS) (fun _ _ e=>e),h.lo⟩
set_option maxRecDepth 100000 in
set_option maxHeartbeats 1000000 in
theorem refuse_any (L R:Nat) (rest:List UInt8) (rv:Value) (n:Int) (ref:Bool) (w:World) (h:RdS L R rest rv n ref w) :
  Calls Tryz.prog 81 #[.pointer (some ⟨R,0,none⟩)] w fun e w'=>e=.returned (.tuple #[])∧RdS L R [] (.slice none 0 0) n true w'∧Kb (fun k=>k=R) w w':=by
 have HB:=Lib.hid h.box
 have hfz:=frozenH h.box
 have f0:=hfz 0
 have f2:=hfz 2
 have b0:=(cellH h.box 0).trans rfl
 have b2:=(cellH h.box 2).trans rfl
 have hlt:=(Array.getElem?_eq_some_iff.1 h.box).1
 go_enter Tryz.func81,Tryz.ntmps81
 go_wp2_with fail
 have hk:=((Kb.refl (fun k=>k=R) w).put (p:=⟨R,0,none⟩) rfl (.slice none 0 0)).put (p:=⟨R,2,none⟩) rfl (.bool true)
 refine bodyPost_end (v:=.tuple #[]) (by simp [results,Tryz.results81,go_sem]) rfl ⟨rfl,⟨?_,By.none _ (Nat.zero_le _),h.lo⟩,hk⟩
 exact blk_put _ _ 2 _ (blk_put _ _ 0 _ HB.out (by show 0 < 3;decide)) (by show 2 < 3;decide)
/-- What a cut leaves. -/
def CutP (L R:Nat) (rest:List UInt8) (n:Int) (ref:Bool) (size:Nat) (w:World):Ending→World→Prop:=fun e w'=>Kb (fun k=>k=R) w w' ∧
 ((rest.length < size∧e=.returned (.slice none 0 0)∧RdS L R [] (.slice none 0 0) n true w') ∨
  (size≤rest.length∧∃ A rv',e=.returned (.slice A size size)∧RowW 1 ByH (fun k=>L≤k) (rest.take size) (.slice A size size) w'∧RdS L R (rest.drop size) rv' n ref w'))
theorem sizeBF (w:World):(sizeOf (Tryz.prog.elem 47)).run Tryz.prog w=.ok 1 w:=by kernel_rfl
theorem elB:Tryz.prog.underlying 47=some (.slice (Tryz.prog.elem 47)):=by kernel_rfl
theorem run_piece (A:Option Addr) (len cap size:Nat) (W:World) (h:size≤cap):(Instr.slice 47 (.slice A len cap) none (some (.int .i64 (size:Int))) (some (.int .i64 (size:Int)))).run Tryz.prog W=.ok (.slice A size size) W:=by
 rw [run_slice_hm W 47 A len cap elB .i64 .i64 size size (by omega) (by omega) (by omega),sizeBF]
 simp only [Result.andThen,sliced,Int.toNat_natCast,Nat.sub_zero,Nat.zero_mul]
 congr 2
 split
 ·rfl
 ·cases A with
  | none=>rfl
  | some a=>simp [Addr.add]
theorem run_rest (A:Option Addr) (len cap size:Nat) (W:World) (h:size≤len):(Instr.slice 47 (.slice A len cap) (some (.int .i64 (size:Int))) none none).run Tryz.prog W=.ok (restV A len cap size) W:=by
 rw [run_slice_l W 47 A len cap elB .i64 size (by omega) (by omega),sizeBF]
 simp only [Result.andThen,sliced,Int.toNat_natCast,Nat.mul_one]
 rfl
set_option maxRecDepth 100000 in
set_option maxHeartbeats 2000000 in
theorem cut_any (L R:Nat) (rest:List UInt8) (rv:Value) (n:Int) (ref:Bool) (size:Nat) (w:World) (h:RdS L R rest rv n ref w) :
  Calls Tryz.prog 106 #[.pointer (some ⟨R,0,none⟩),.int .i64 size] w (CutP L R rest n ref size w):=by
 obtain ⟨A,c,rfl⟩:=h.row.slice
 have hfew:=h.row.few
 unfold maxLen at hfew
 have H:=Lib.hid h
 have HB:=Lib.hid h.box
 have b0:=(cellH h.box 0).trans rfl
 have f0:=frozenH h.box 0
 have hcc:rest.length≤c:=by
  obtain ⟨A',c',e,h1,_⟩:=h.row
  injection e with _ _ e3
  omega
 clear h
 unfold CutP
 by_cases hlt:rest.length < size
 ·have hd1:decide (rest.length < size)=true:=by simpa using hlt
  have hd2:decide ((rest.length:Int) < (size:Int))=true:=by simp;omega
  go_enter Tryz.func106,Tryz.ntmps106
  go_wp2_with fail
  try go_at_call 81
  refine (refuse_any L R rest _ n ref w H.out).mono ?_
  rintro e w1 ⟨rfl,hr,hk⟩
  have HR:=Lib.hid hr
  have HK:=Lib.hid hk
  clear hr hk
  go_wp2_with fail
  go_ret
  exact ⟨HK.out,.inl ⟨by simpa using hd1,rfl,HR.out⟩⟩
 ·have hd1:decide (rest.length < size)=false:=by simpa using hlt
  have hd2:decide ((rest.length:Int) < (size:Int))=false:=by simp;omega
  have hp:=fun W=>run_piece A rest.length c size W (by omega)
  obtain ⟨A',hA'⟩:∃ A',restV A rest.length c size=.slice A' (rest.length - size) (c - size):=⟨_,rfl⟩
  have hq:=fun W=>run_rest A rest.length c size W (by omega)
  rw [hA'] at hq
  have HA:=Lib.hid hA'
  clear hA'
  have HS:=Lib.hid hlt
  go_enter Tryz.func106,Tryz.ntmps106
  go_wp2_with fail
  go_ret
  have hk:=(Kb.refl (fun k=>k=R) w).put (p:=⟨R,0,none⟩) rfl (.slice A' (rest.length - size) (c - size))
  exact ⟨hk,.inr ⟨by have:=HS.out;omega,A,_,rfl,RowW.step ByH.step _ _ _ _ _ _ (By.take H.out.row (by have:=HS.out;omega)) (hk.wider (fun _ _ e=>e ▸ H.out.lo)) (fun _ _ e=>e),⟨blk_put _ _ 0 _ HB.out (by show 0 < 3;decide),RowW.step ByH.step _ _ _ _ _ _ (by rw [← HA.out];exact By.drop H.out.row (by have:=HS.out;omega)) (hk.wider (fun _ _ e=>e ▸ H.out.lo)) (fun _ _ e=>e),H.out.lo⟩⟩⟩
/-- What a small number leaves. -/
def SmallP (L R:Nat) (rest:List UInt8) (n:Int) (ref:Bool) (w:World):Ending→World→Prop:=fun e w'=>Kb (fun k=>k=R) w w' ∧
 ((rest=[]∧e=.returned (.int .i64 0)∧RdS L R [] (.slice none 0 0) n true w') ∨
  (∃ b r rv',rest=b :: r∧ref=false∧e=.returned (.int .i64 (b.toNat:Int))∧RdS L R r rv' n false w'))
set_option maxRecDepth 100000 in
set_option maxHeartbeats 2000000 in
theorem small_any (L R:Nat) (rest:List UInt8) (rv:Value) (n:Int) (ref:Bool) (w:World) (h:RdS L R rest rv n ref w) (hr:ref=true→rest=[]) :
  Calls Tryz.prog 82 #[.pointer (some ⟨R,0,none⟩)] w (SmallP L R rest n ref w):=by
 have hcut:=cut_any L R rest rv n ref 1 w h
 rw [show ((1:Nat):Int)=1 from rfl] at hcut
 have HC:=Lib.hid hcut
 have HR0:=Lib.hid hr
 clear h hcut hr
 go_enter Tryz.func82,Tryz.ntmps82
 go_wp2_with fail
 try go_at_call 106
 refine HC.out.mono ?_
 rintro e w1 ⟨hk,⟨hlt,rfl,hrd⟩ | ⟨hge,A,rv',rfl,hrow,hrd⟩⟩
 ·have HK:=Lib.hid hk
  have HRD:=Lib.hid hrd
  have b2:=(cellH hrd.box 2).trans rfl
  have hnil:rest=[]:=List.eq_nil_of_length_eq_zero (by omega)
  have HN:=Lib.hid hnil
  clear hk hrd hnil hlt
  go_wp2_with fail
  go_ret
  exact (by unfold SmallP;exact ⟨HK.out,.inl ⟨HN.out,rfl,HRD.out⟩⟩)
 ·match rest,hge with
  | b :: r,_ =>
  have hf:ref=false:=by
   cases ref
   ·rfl
   ·exact absurd (HR0.out rfl) (by simp)
  subst hf
  obtain ⟨g,o,rfl,hg,_,hc⟩:=By.at hrow 0 (by simp)
  have HK:=Lib.hid hk
  have HRD:=Lib.hid hrd
  have b2:=(cellH hrd.box 2).trans rfl
  have hc:w1.cell? ⟨g,o,none⟩=some (.int .u8 b.toNat):=hc
  have hb1:=UInt8.toNat_lt b
  clear hk hrd hrow HC HR0
  go_wp2_with fail
  go_ret
  exact (by unfold SmallP;exact ⟨HK.out,.inr ⟨b,r,_,rfl,rfl,rfl,HRD.out⟩⟩)
end Lx
end Go.Proofs.YtiljemkglhloeaaGreatDoor
namespace Go.Proofs.YtiljemkglhloeaaGreatDoor
set_option linter.unusedSimpArgs false
set_option linter.unusedVariables false
namespace Lx
open Go Go.RowKit
def Refd (L R:Nat) (n:Int) (w:World):Prop:=∃ rv,RdS L R [] rv n true w
theorem by_text {Vol:Nat→Prop} {l:List UInt8} {v:Value} {w:World} (h:RowW 1 ByH Vol l v w):(convert 47 9 v).run Tryz.prog w=.ok (.string (bs l)) w:=by
 obtain ⟨A,c,rfl⟩:=h.slice
 cases A with
 | none =>
  have hl:l=[]:=by
   rcases l with _ | ⟨b,l⟩
   ·rfl
   ·obtain ⟨_,_,e,_⟩:=By.at h 0 (by simp)
    cases e
  subst hl
  exact Lib.run_convert_nil_bytes w 47 9 5 c Tryz.underlying47 Tryz.underlying5 Tryz.underlying9
 | some a =>
  refine run_convert_bytes_back w 47 9 5 a c l Tryz.underlying47 Tryz.underlying5 Tryz.underlying9 (fun j hj=>?_)
  obtain ⟨b,off,e,_,_,hc⟩:=By.at h j hj
  injection e with e
  subst e
  rw [addr_add]
  exact hc
/-- What the reader makes of bytes: as its operations say. -/
def numP (l:List UInt8):Nat→Int
 | 0=>0
 | i+1=>bits .or .i64 (numP l i) (wrap64 (wrap64 ((l.getD i 0).toNat:Int) * 2 ^ (8 * i)))
def NumP (L R:Nat) (rest:List UInt8) (n:Int) (w:World):Ending→World→Prop:=fun e w'=>Kb (fun k=>k=R) w w' ∧ 
 ((rest.length < 8∧e=.returned (.int .i64 0)∧Refd L R n w') ∨ (8≤rest.length∧e=.returned (.int .i64 (numP (rest.take 8) 8))∧∃ rv',RdS L R (rest.drop 8) rv' n false w'))
set_option maxRecDepth 100000 in
set_option maxHeartbeats 2000000 in
theorem numberF_any (L R:Nat) (rest:List UInt8) (rv:Value) (n:Int) (ref:Bool) (w:World) (h:RdS L R rest rv n ref w) (hr:ref=true→rest=[]) :
  Calls Tryz.prog 83 #[.pointer (some ⟨R,0,none⟩)] w (NumP L R rest n w):=by
 have hcut:=cut_any L R rest rv n ref 8 w h
 rw [show ((8:Nat):Int)=8 from rfl] at hcut
 have HC:=Lib.hid hcut
 have HREF:=Lib.hid hr
 clear h hcut hr
 go_enter Tryz.func83,Tryz.ntmps83
 go_wp2_with fail
 try go_at_call 106
 refine HC.out.mono ?_
 rintro e w1 ⟨hk,⟨hlt,rfl,hrd⟩ | ⟨hge,A,rv',rfl,hrow,hrd⟩⟩
 ·have HK:=Lib.hid hk
  have HRD:=Lib.hid hrd
  have HLT:=Lib.hid hlt
  clear hk hrd hlt
  go_wp2_with fail
  go_loopw [3,9] (fun u t wr=>u=.int .i64 0∧t=.int .i64 0∧wr=w1) (fun _ _ _=>0)
  case atStart=>exact ⟨rfl,rfl,rfl⟩
  case round =>
   obtain ⟨rfl,rfl,rfl⟩:=hrel
   go_wp2_with fail
   go_ret
   exact (by unfold NumP;exact ⟨HK.out,.inl ⟨HLT.out,rfl,_,HRD.out⟩⟩)
 ·have hrf:ref=false:=by
   cases ref
   ·rfl
   ·have:=HREF.out rfl
    subst this
    simp at hge
  subst hrf
  have HK:=Lib.hid hk
  have HRD:=Lib.hid hrd
  have HGE:=Lib.hid hge
  have HROW:=Lib.hid hrow
  have hl8:(rest.take 8).length=8:=by rw [List.length_take];omega
  clear hk hrd hge hrow
  go_wp2_with fail
  obtain ⟨l,hl⟩:∃ l,rest.take 8=l:=⟨_,rfl⟩
  have HL:=Lib.hid hl
  rw [hl] at HROW hl8
  clear hl
  go_loopw [3,9] (fun u t wr=>∃ i:Nat,i≤8∧t=.int .i64 i∧u=.int .i64 (numP l i)∧wr=w1) (fun _ t _=>8 - (intOf t).toNat)
  case atStart=>exact ⟨0,Nat.zero_le _,rfl,rfl,rfl⟩
  case round =>
   obtain ⟨i,hi,rfl,rfl,rfl⟩:=hrel
   by_cases hlt:i < 8
   ·obtain ⟨g,o,rfl,hg,_,hc⟩:=By.at HROW.out i (by omega)
    have hi0:(0:Int)≤(i:Int):=by omega
    have hi1:(i:Int) < 8:=by omega
    have hdc:decide (i < 8)=true:=by simpa using hlt
    have hd2:decide ((i:Int) < (8:Int))=true:=by simp;omega
    have hnx:numP l (i+1)=bits .or .i64 (numP l i) (wrap64 (wrap64 ((l[i]'(by omega)).toNat:Int) * 2 ^ (8 * i))):=by
     have hg:l.getD i 0=l[i]'(by omega):=by simp [hl8,hlt]
     rw [numP,hg]
    have HNX:=Lib.hid hnx
    clear hnx
    go_wp2_with fail
    refine ⟨⟨i+1,by omega,by go_num,by rw [HNX.out],trivial⟩,by simp [intOf];omega⟩
   ·obtain rfl:i=8:=by omega
    go_wp2_with fail
    go_ret
    exact (by unfold NumP;exact ⟨HK.out,.inr ⟨HGE.out,by rw [HL.out];rfl,_,HRD.out⟩⟩)
/-- What a name leaves. -/
def NameP (L R:Nat) (rest:List UInt8) (n:Int) (w:World):Ending→World→Prop:=fun e w'=>Kb (fun k=>k=R) w w' ∧
 ((∃ s,e=.returned (.string s)∧Refd L R n w'∧¬ ∃ b r,rest=b :: r∧1≤b.toNat∧b.toNat≤32∧b.toNat≤r.length) ∨
  (∃ b r rv',rest=b :: r∧1≤b.toNat∧b.toNat≤32∧b.toNat≤r.length∧e=.returned (.string (bs (r.take b.toNat)))∧RdS L R (r.drop b.toNat) rv' n false w'))
set_option maxRecDepth 100000 in
set_option maxHeartbeats 4000000 in
theorem nameF_any (L R:Nat) (rest:List UInt8) (rv:Value) (n:Int) (w:World) (h:RdS L R rest rv n false w) :
  Calls Tryz.prog 107 #[.pointer (some ⟨R,0,none⟩)] w (NameP L R rest n w):=by
 have HS:=Lib.hid (small_any L R rest rv n false w h (fun e=>by cases e))
 have HSF:=Lib.hid size_fits
 clear h
 go_enter Tryz.func107,Tryz.ntmps107
 go_wp2_with fail
 try go_at_call 82
 refine HS.out.mono ?_
 rintro e w1 ⟨hk,⟨rfl,rfl,hrd⟩ | ⟨b,r,rv',rfl,_,rfl,hrd⟩⟩
 ·have HK:=Lib.hid hk
  have HRD:=Lib.hid hrd
  clear hk hrd
  have hsf:=HSF.out 0 w1
  rw [show ((0:Nat):Int)=0 from rfl] at hsf
  have HF:=Lib.hid hsf
  clear hsf
  go_wp2_with fail
  try go_at_call 75
  refine HF.out.mono ?_
  rintro e w2 ⟨rfl,rfl⟩
  have hd:(decide (1≤0) && decide (0≤32))=false:=rfl
  rw [hd]
  go_wp2_with fail
  try go_at_call 81
  refine (refuse_any L R _ _ n _ _ HRD.out).mono ?_
  rintro e w3 ⟨rfl,hr,hk3⟩
  have HK3:=Lib.hid (HK.out.trans hk3)
  have hcut:=cut_any L R _ _ n _ 0 _ hr
  rw [show ((0:Nat):Int)=0 from rfl] at hcut
  have HC:=Lib.hid hcut
  clear hr hk3 hcut
  go_wp2_with fail
  try go_at_call 106
  refine HC.out.mono ?_
  rintro e w4 ⟨hk4,⟨hlt,rfl,hrd4⟩ | ⟨hge,A,rv4,rfl,hrow4,hrd4⟩⟩
  ·exact absurd hlt (by simp)
  ·have hcv:=by_text hrow4
   have HK4:=Lib.hid (HK3.out.trans hk4)
   have HRD4:=Lib.hid hrd4
   clear hk4 hrd4 hrow4 hge
   go_wp2_with fail
   go_ret
   exact (by unfold NameP;exact ⟨HK4.out,.inl ⟨_,rfl,⟨_,HRD4.out⟩,fun ⟨b,r,e,_⟩=>by cases e⟩⟩)
 ·have HK:=Lib.hid hk
  have HRD:=Lib.hid hrd
  clear hk hrd
  go_wp2_with fail
  try go_at_call 75
  refine (HSF.out b.toNat w1).mono ?_
  rintro e w2 ⟨rfl,rfl⟩
  by_cases hok:1≤b.toNat∧b.toNat≤32
  ·have hd:(decide (1≤b.toNat) && decide (b.toNat≤32))=true:=by simp [hok.1,hok.2]
   have HOK:=Lib.hid hok
   rw [hd]
   go_wp2_with fail
   try go_at_call 106
   refine (cut_any L R _ _ n _ b.toNat _ HRD.out).mono ?_
   rintro e w4 ⟨hk4,⟨hlt,rfl,hrd4⟩ | ⟨hge,A,rv4,rfl,hrow4,hrd4⟩⟩
   ·have hcv:=Lib.run_convert_nil_bytes (P:=Tryz.prog) w4 47 9 5 0 Tryz.underlying47 Tryz.underlying5 Tryz.underlying9
    have HK4:=Lib.hid (HK.out.trans hk4)
    have HRD4:=Lib.hid hrd4
    have HLT:=Lib.hid hlt
    clear hk4 hrd4 hlt
    go_wp2_with fail
    go_ret
    exact (by unfold NameP;exact ⟨HK4.out,.inl ⟨_,rfl,⟨_,HRD4.out⟩,fun ⟨b',r',e,_,_,h3⟩=>by injection e with e1 e2;subst e1;subst e2;have:=HLT.out;omega⟩⟩)
   ·have hcv:=by_text hrow4
    have HK4:=Lib.hid (HK.out.trans hk4)
    have HRD4:=Lib.hid hrd4
    have HGE:=Lib.hid hge
    clear hk4 hrd4 hrow4 hge
    go_wp2_with fail
    go_ret
    exact (by unfold NameP;exact ⟨HK4.out,.inr ⟨b,r,_,rfl,HOK.out.1,HOK.out.2,HGE.out,rfl,HRD4.out⟩⟩)
  ·have hd:(decide (1≤b.toNat) && decide (b.toNat≤32))=false:=by
    rw [Bool.and_eq_false_iff,decide_eq_false_iff_not,decide_eq_false_iff_not]
    omega
   have HOK:=Lib.hid hok
   rw [hd]
   go_wp2_with fail
   try go_at_call 81
   refine (refuse_any L R _ _ n _ _ HRD.out).mono ?_
   rintro e w3 ⟨rfl,hr,hk3⟩
   have HK3:=Lib.hid (HK.out.trans hk3)
   have HR3:=Lib.hid hr
   clear hr hk3
   go_wp2_with fail
   try go_at_call 106
   refine (cut_any L R _ _ n _ b.toNat _ HR3.out).mono ?_
   rintro e w4 ⟨hk4,⟨hlt,rfl,hrd4⟩ | ⟨hge,A,rv4,rfl,hrow4,hrd4⟩⟩
   ·have hcv:=Lib.run_convert_nil_bytes (P:=Tryz.prog) w4 47 9 5 0 Tryz.underlying47 Tryz.underlying5 Tryz.underlying9
    have HK4:=Lib.hid (HK3.out.trans hk4)
    have HRD4:=Lib.hid hrd4
    clear hk4 hrd4 hlt
    go_wp2_with fail
    go_ret
    exact (by unfold NameP;exact ⟨HK4.out,.inl ⟨_,rfl,⟨_,HRD4.out⟩,fun ⟨b',r',e,h1,h2,_⟩=>by injection e with e1 e2;subst e1;exact HOK.out ⟨h1,h2⟩⟩⟩)
   ·have hcv:=by_text hrow4
    have HK4:=Lib.hid (HK3.out.trans hk4)
    have HRD4:=Lib.hid hrd4
    clear hk4 hrd4 hrow4 hge
    go_wp2_with fail
    go_ret
    exact (by unfold NameP;exact ⟨HK4.out,.inl ⟨_,rfl,⟨_,by rw [List.drop_nil] at HRD4;exact HRD4.out⟩,fun ⟨b',r',e,h1,h2,_⟩=>by injection e with e1 e2;subst e1;exact HOK.out ⟨h1,h2⟩⟩⟩)
end Lx
end Go.Proofs.YtiljemkglhloeaaGreatDoor
namespace Go.Proofs.YtiljemkglhloeaaGreatDoor
set_option linter.unusedSimpArgs false
set_option linter.unusedVariables false
namespace Lx
open Go Go.ChangeShapes Go.WideShapes Go.ChangeAt Go.Deep Go.RowKit
theorem cellsDa4:Tryz.prog.cellsOf 46=4:=by kernel_rfl
section
variable {H:Type} {enc:TypeId × Value→H} {P:Program} {w:World} {base:Nat} {spare:Nat→Bool} {held:Bool}
theorem trod_struct4 {t:TypeId} {f0 f1 f2 f3:Field} {fuel:Nat} {cs:List Value} {x:DataW H × List MemPlace} (ht:P.underlying t=some (.struct #[f0,f1,f2,f3])) (h:DataW.trod enc P w base spare held fuel t cs=some x) :
  ∃ y0 y1 y2 y3 n,fuel=n+1∧x=(.agg [y0.1,y1.1,y2.1,y3.1],y0.2++(y1.2++(y2.2++y3.2)))∧cs.length=P.cellsOf t∧DataW.trod enc P w base spare held n f0.type ((cs.drop f0.offset).take (P.cellsOf f0.type))=some y0 ∧
   DataW.trod enc P w base spare held n f1.type ((cs.drop f1.offset).take (P.cellsOf f1.type))=some y1∧DataW.trod enc P w base spare held n f2.type ((cs.drop f2.offset).take (P.cellsOf f2.type))=some y2∧DataW.trod enc P w base spare held n f3.type ((cs.drop f3.offset).take (P.cellsOf f3.type))=some y3:=by
 obtain ⟨xs,n,hf,rfl,hl,hlen,hx⟩:=DataW.trod_struct ht h
 match xs,hlen with
 | [y0,y1,y2,y3],_=>exact ⟨y0,y1,y2,y3,n,hf,by simp,hl,by simpa using hx 0 f0 rfl,by simpa using hx 1 f1 rfl,by simpa using hx 2 f2 rfl,by simpa using hx 3 f3 rfl⟩
theorem weights_all_mem {e:TypeId} {z:Nat} {d:DataW H}:∀ {l:List (DataW H)},d ∈ l→z ∈ d.weights P e→z ∈ DataW.weightsAll P e l
 | [],h,_=>by simp at h
 | a :: l,h,hz=>by
  simp only [DataW.weightsAll,List.mem_append]
  rcases List.mem_cons.1 h with rfl | h
  ·exact .inl hz
  ·exact .inr (weights_all_mem h hz)
end
section
variable {H:Type} {enc:TypeId × Value→H} {w:World} {base:Nat} {spare:Nat→Bool} {held:Bool}
theorem RowW.imp {α:Type} {sz:Nat} {V V':HoldW α} {Vol:Nat→Prop} {w:World} (hVV:∀ x v,V Vol x v w→V' Vol x v w) {l:List α} {v:Value} (h:RowW sz V Vol l v w):RowW sz V' Vol l v w:=by
 obtain ⟨A,c,rfl,h1,h2,h3⟩:=h
 exact ⟨A,c,rfl,h1,h2,fun i hi=>by
  obtain ⟨b,off,vi,e1,e2,e3,e4,e5⟩:=h3 i hi
  exact ⟨b,off,vi,e1,e2,e3,hVV _ _ e4,e5⟩⟩
theorem DaW.up:∀ (d:Nat) (Vol:Nat→Prop) (x:DaT) (v:Value) (w:World),DaW d Vol x v w→DaW (d+1) Vol x v w
 | 0,_,_,_,_,h=>h.elim
 | d+1,Vol,.mk c n s l,v,w,⟨va,hv,h⟩=>⟨va,hv,RowW.imp (fun x v h=>DaW.up d Vol x v w h) h⟩
theorem DaW.ups {d d':Nat} (h:d≤d') {Vol:Nat→Prop} {x:DaT} {v:Value} {w:World} (hx:DaW d Vol x v w):DaW d' Vol x v w:=by
 induction h with
 | refl=>exact hx
 | step _ ih=>exact DaW.up _ _ _ _ _ ih
theorem add_none (b o n:Nat):(⟨b,o,none⟩:Addr).add n=⟨b,o+n,none⟩:=by
 by_cases h:n=0
 ·subst h;rfl
 ·simp [Addr.add,h]
end
section
variable {H:Type} {enc:TypeId × Value→H} {P:Program} {w:World} {base:Nat} {spare:Nat→Bool} {held:Bool}
/-- A row that comes in, opened by how its parts are opened. -/
theorem open_row {α:Type} (dflt:α) {sz:Nat} {t e:TypeId} (V:Nat→HoldW α) (G:α→DataW H→Prop) (hsz:0 < sz) (hut:P.underlying t=some (.slice e)) (hc:P.cellsOf e=sz)
  (hup:∀ n Vol x v w,V n Vol x v w→V (n+1) Vol x v w) (hcells:∀ n Vol x v w,V n Vol x v w→(cellsL v).length=sz)
  (fuel:Nat) (v:Value) (x:DataW H × List MemPlace) (h:DataW.trod enc P w base spare held fuel t [v]=some x) (hz:∀ z ∈ x.1.weights P t,z≤reachBytes)
  (hopen:∀ n,n < fuel→∀ cs y,DataW.trod enc P w base spare held n e cs=some y→(∀ z ∈ y.1.weights P e,z≤reachBytes)→∃ (X:α) (u:Value),cs=cellsL u∧V n (fun _=>False) X u w∧G X y.1) :
  ∃ (l:List α) (ds:List (DataW H)),RowW sz (V fuel) (fun _=>False) l v w∧l.length=ds.length∧(∀ (i:Nat) (h:i < l.length) (h':i < ds.length),G l[i] ds[i])∧l.length * P.bytesOf e≤140737488355328∧Rows.uptoBulkAll ds≤Rows.uptoBulk x.1:=by
 rcases DataW.trod_slice hut h with ⟨e3,_⟩ | ⟨a,len,cap,elems,rest,n',rfl,e3,rfl,hb,hlc,hcm,hlen,hel,_,_⟩
 ·obtain rfl:=(List.cons.inj e3).1
  exact ⟨[],[],RowW.nil _ _,rfl,fun i h=>by simp at h,by simp,by simp [Rows.uptoBulkAll]⟩
 ·obtain rfl:=(List.cons.inj e3).1
  dsimp only at hz ⊢
  have hwt:∀ z,(z=(elems.length+rest.length) * P.bytesOf e ∨ ∃ d ∈ elems.map (·.1),z ∈ d.weights P e)→z≤reachBytes:=by
   intro z hz'
   refine hz z ?_
   simp only [DataW.weights,hut,List.mem_cons,List.mem_append,List.length_map]
   rcases hz' with rfl | ⟨d,hd,hz'⟩
   ·exact .inl rfl
   ·exact .inr (.inl (weights_all_mem hd hz'))
  have hone:∀ i,i < len→∃ (u:α × Value),V n' (fun _=>False) u.1 u.2 w∧(∀ (h:i < elems.length),G u.1 elems[i].1)∧∀ j,j < sz→w.cell? ((a.add (i * sz)).add j)=(cellsL u.2)[j]?:=by
   intro i hi
   have hk:=hel i hi
   rw [hc] at hk
   rw [List.getElem?_eq_getElem (by omega),Option.bind_eq_some_iff] at hk
   obtain ⟨cs',hc',ht⟩:=hk
   obtain ⟨T,v,e,hT,hG⟩:=hopen n' (by omega) cs' _ ht (fun z hz'=>hwt z (.inr ⟨_,List.mem_map.2 ⟨elems[i],List.getElem_mem _,rfl⟩,hz'⟩))
   obtain ⟨_,_,hcell⟩:=World.cells?_some hc'
   exact ⟨(T,v),hT,fun _=>hG,fun j hj=>by rw [hcell j hj,e]⟩
  haveI:Inhabited (α × Value):=⟨(dflt,undef)⟩
  obtain ⟨q,hq⟩:=choose_lt (n:=len) (p:=fun i (u:α × Value)=>V n' (fun _=>False) u.1 u.2 w∧(∀ (h:i < elems.length),G u.1 elems[i].1)∧∀ j,j < sz→w.cell? ((a.add (i * sz)).add j)=(cellsL u.2)[j]?) hone
  have hle:len * P.bytesOf e≤140737488355328:=by
   have h1:=hwt _ (.inl rfl)
   have h2:len * P.bytesOf e≤(elems.length+rest.length) * P.bytesOf e:=Nat.mul_le_mul_right _ (by omega)
   simp only [reachBytes] at h1
   omega
  refine ⟨(List.range len).map fun i=>(q i).1,elems.map (·.1),⟨some a,cap,by simp,by simpa using hlc,hcm,fun i hi=>?_⟩,by simp;omega,fun i hi hi'=>?_,by simpa using hle,?_⟩
  ·have hi':i < len:=by simpa using hi
   obtain ⟨g1,_,g3⟩:=hq i hi'
   obtain ⟨g10,_,g0⟩:=hq 0 (by omega)
   have hl0:=hcells _ _ _ _ _ g10
   have hc0:=g0 0 hsz
   rw [List.getElem?_eq_getElem (by omega)] at hc0
   have hc1:w.cell? ((a.add (0 * sz)).add 0)=some ((cellsL (q 0).2)[0]'(by omega)):=hc0
   rw [Nat.zero_mul] at hc1
   have hsp:a.spot=none:=World.cell?_spot (a:=a) (by simpa [Addr.add] using hc1)
   obtain ⟨b,o,sp⟩:=a
   have hsp:sp=none:=hsp
   subst hsp
   rw [add_none,add_none] at hc1
   refine ⟨b,o,(q i).2,rfl,World.block_lt_of_cell? _ _ hc1,fun e=>e,?_,fun j hj=>?_⟩
   ·have e2:((List.range len).map fun i=>(q i).1)[i]=(q i).1:=by simp
    rw [e2]
    exact hup _ _ _ _ _ g1
   ·rw [← g3 j hj,add_none,add_none]
  ·have h3:i < len:=by simpa using hi
   simp only [List.getElem_map,List.getElem_range]
   exact (hq i h3).2.1 (by omega)
  ·simp only [Rows.uptoBulk]
   omega
end
section
variable {H:Type} {enc:TypeId × Value→H} {w:World} {base:Nat} {spare:Nat→Bool} {held:Bool}
/-- Each number is one that a machine's integer holds. -/
def wfI (n:Int):Prop:=(Lit.int .i64 n).wf=true
mutual
def wfD:DaT→Prop
 | .mk _ n _ l=>wfI n∧wfDs l
def wfDs:List DaT→Prop
 | []=>True
 | x :: l=>wfD x∧wfDs l
end
theorem wfDs_of:∀ l:List DaT,(∀ (i:Nat) (h:i < l.length),wfD l[i])→wfDs l
 | [],_=>trivial
 | x :: l,h=>⟨h 0 (by simp),wfDs_of l (fun i hi=>h (i+1) (by simpa using hi))⟩
end
end Lx
end Go.Proofs.YtiljemkglhloeaaGreatDoor
namespace Go.Proofs.YtiljemkglhloeaaGreatDoor
set_option linter.unusedSimpArgs false
set_option linter.unusedVariables false
namespace Lx
open Go Go.RowKit
/-- So many data, one behind the other. -/
def decsF (f:Nat→List UInt8→Option (DaT × List UInt8 × Nat)):Nat→Nat→List UInt8→Option (List DaT × List UInt8 × Nat)
 | 0,n,r=>some ([],r,n)
 | c+1,n,r=>match f n r with
  | none=>none
  | some (x,r1,n1)=>match decsF f c n1 r1 with
   | none=>none
   | some (l,r2,n2)=>some (x :: l,r2,n2)
/-- What follows the first byte of a constructor. -/
def strD (f:Nat→List UInt8→Option (DaT × List UInt8 × Nat)) (n:Nat):List UInt8→Option (DaT × List UInt8 × Nat)
 | []=>none
 | b :: r2=>if 1≤b.toNat∧b.toNat≤32∧b.toNat≤r2.length then (match r2.drop b.toNat with
  | []=>none
  | a :: r3=>if a.toNat≤8 then (match decsF f a.toNat n r3 with
   | none=>none
   | some (l,r4,n4)=>some (.mk true 0 (bs (r2.take b.toNat)) l,r4,n4)) else none) else none
/-- Data at the beginning of bytes: what is behind, and how many nodes began; so deep at most. -/
def dec:Nat→Nat→List UInt8→Option (DaT × List UInt8 × Nat)
 | 0,_,_=>none
 | k+1,n,r=>if 4096 < n+1 then none else match r with
  | []=>none
  | t :: r1=>if t.toNat=0 then (if r1.length < 8 then none else some (.mk false (numP (r1.take 8) 8) ⟨#[]⟩ [],r1.drop 8,n+1))
   else if t.toNat=1 then strD (dec k) (n+1) r1 else none
def DaE:HoldW DaT:=fun Vol x v w=>∃ d,DaW d Vol x v w
theorem DaE.step:StepW DaE:=fun _ _ _ _ _ _ ⟨d,h⟩ hk hv=>⟨d,DaW.step d _ _ _ _ _ _ h hk hv⟩
theorem DaE.this {Vol:Nat→Prop} {x:DaT} {v:Value} {w:World} (h:DaE Vol x v w):∃ A n c,v=.agg #[.bool x.ctor,.int .i64 x.int,.string x.name,.slice A n c]:=by
 obtain ⟨d,h⟩:=h
 exact h.this
theorem daECells:∀ Vol x v w,DaE Vol x v w→(cellsL v).length=4:=fun Vol x v w ⟨_,h⟩=>daCells _ Vol x v w h
theorem rowED {Vol:Nat→Prop} {l:List DaT} {v:Value} {w:World} (h:RowW 4 DaE Vol l v w):∃ D,RowW 4 (DaW D) Vol l v w:=by
 obtain ⟨A,c,rfl,h1,h2,h3⟩:=h
 have hD:∀ n,n≤l.length→∃ D,∀ (i:Nat) (hi:i < l.length),i < n→∃ b off vi,A=some ⟨b,off,none⟩∧b < w.heap.size∧¬ Vol b∧DaW D Vol l[i] vi w∧∀ j,j < 4→w.cell? ⟨b,off+i * 4+j,none⟩=(cellsL vi)[j]?:=by
  intro n
  induction n with
  | zero=>exact fun _=>⟨0,fun i hi h=>by omega⟩
  | succ n ih =>
   intro hn
   obtain ⟨D,hD⟩:=ih (by omega)
   obtain ⟨b,off,vi,e1,e2,e3,⟨d,e4⟩,e5⟩:=h3 n (by omega)
   refine ⟨max D d,fun i hi hin=>?_⟩
   by_cases e:i=n
   ·subst e
    exact ⟨b,off,vi,e1,e2,e3,DaW.ups (by omega) e4,e5⟩
   ·obtain ⟨b',off',vi',f1,f2,f3,f4,f5⟩:=hD i hi (by omega)
    exact ⟨b',off',vi',f1,f2,f3,DaW.ups (by omega) f4,f5⟩
 obtain ⟨D,hD⟩:=hD l.length (Nat.le_refl _)
 exact ⟨D,A,c,rfl,h1,h2,fun i hi=>hD i hi hi⟩
theorem daE_row {Vol:Nat→Prop} {c:Bool} {n:Int} {s:ByteArray} {l:List DaT} {va:Value} {w:World} (h:RowW 4 DaE Vol l va w):DaE Vol (.mk c n s l) (.agg #[.bool c,.int .i64 n,.string s,va]) w:=by
 obtain ⟨D,hD⟩:=rowED h
 exact ⟨D+1,va,rfl,hD⟩
theorem own_kbD {S:Nat→Prop} {x y:World} {base sz n:Nat} {e:TypeId} {v:Value} {xs:List Value} (h:x.ownsRow base e sz v n xs) (hk:Kb S x y) (hn:∀ k,v.ownBlock=some k→¬ S k):y.ownsRow base e sz v n xs:=by
 refine ⟨h.1,?_⟩
 rcases h.2 with h1 | ⟨g,cap,cur,e,h2,h3,h4⟩
 ·exact .inl h1
 ·refine .inr ⟨g,cap,cur,e,h2,?_,h4⟩
  subst e
  exact (hk.block g (Array.getElem?_eq_some_iff.1 h3).1 (hn g rfl)).trans h3
/-- A row of data that is being made. -/
structure RowD (Vol:Nat→Prop) (w wr:World) (s:Option Addr) (cap:Nat) (acc:List DaT) (vs:List Value):Prop where
 val:(acc=[]∧vs=[]∧s=none∧cap=0) ∨ ∃ k,s=some ⟨k,0,none⟩
 own:wr.ownsRow w.heap.size 46 4 (.slice s acc.length cap) acc.length (vs.flatMap cellsL)
 len:vs.length=acc.length
 els:∀ (i:Nat) (h:i < acc.length) (h':i < vs.length),DaE (fun k=>Vol k ∨ s=some ⟨k,0,none⟩) acc[i] vs[i] wr
 keep:Kb Vol w wr
section
variable {Vol:Nat→Prop} {w wr w4 w6:World} {s:Option Addr} {cap:Nat} {acc:List DaT} {vs:List Value}
theorem RowD.start (Vol:Nat→Prop) (w:World):RowD Vol w w none 0 [] []:=⟨.inl ⟨rfl,rfl,rfl,rfl⟩,World.ownsRow_nil _ _ _ _,rfl,fun i h=>by simp at h,Kb.refl _ _⟩
theorem RowD.mine (h:RowD Vol w wr s cap acc vs) (hv:∀ k,Vol k→k < w.heap.size):∀ k,(Vol k ∨ s=some ⟨k,0,none⟩)→k < wr.heap.size:=by
 rintro k (e | e)
 ·exact Nat.lt_of_lt_of_le (hv k e) h.keep.size
 ·exact (h.own.lt k (by rw [e];rfl)).2
theorem RowD.held (h:RowD Vol w wr s cap acc vs) (hv:∀ k,Vol k→k < w.heap.size):RowW 4 DaE Vol acc (.slice s acc.length cap) wr:=by
 have hcc:acc.length≤cap∧cap≤maxLen:=by
  rcases h.own.2 with ⟨e,_⟩ | ⟨g',cap',cur,e,_,_,h1,h2,_⟩
  ·injection e with _ e2 e3
   omega
  ·injection e with _ _ e3
   omega
 refine ⟨s,cap,rfl,hcc.1,hcc.2,fun i hi=>?_⟩
 have hi2:i < vs.length:=by rw [h.len];exact hi
 have hel:=h.els i hi hi2
 rcases h.own.2 with ⟨_,e⟩ | ⟨k,cap',cur,e,hg,hb,h1,h2,h5,h6⟩
 ·omega
 ·injection e with e _ _
  subst e
  have hlt:k < wr.heap.size:=(Array.getElem?_eq_some_iff.1 hb).1
  refine ⟨k,0,vs[i],rfl,hlt,fun e=>by have:=hv k e;omega,DaE.step _ _ _ _ _ _ hel (Kb.refl _ _) (fun k _ e=>.inl e),fun j hj=>?_⟩
  have hbd:i * 4+j < acc.length * 4:=by omega
  rw [Nat.zero_add,h.own.cellAt _ hbd]
  refine flat_at 4 vs (fun v hvm=>?_) i j hi2 hj
  obtain ⟨n,hn,rfl⟩:=List.getElem_of_mem hvm
  exact daECells _ _ _ _ (h.els n (by rw [← h.len];exact hn) hn)
theorem RowD.snoc (h:RowD Vol w wr s cap acc vs) {x2:DaT} {v2:Value} {o:Obj} {g2 cap2:Nat} (hf4:Kb Vol wr w4) (hv4:DaE (fun k=>Vol k ∨ s=some ⟨k,0,none⟩) x2 v2 w4)
  (hown:w6.ownsRow w.heap.size 46 4 (.slice (some ⟨g2,0,none⟩) (acc.length+1) cap2) (acc.length+1) (vs.flatMap cellsL++cellsL v2)) (hg:(w4.alloc o).grownBy w6 (Value.slice s acc.length cap).ownBlock) (hat:(Value.slice s acc.length cap).ownBlock=some g2 ∨ g2=(w4.alloc o).heap.size) :
  RowD Vol w w6 (some ⟨g2,0,none⟩) cap2 (acc++[x2]) (vs++[v2]):=by
 have hs4:=hf4.size
 have hB:=h.keep.size
 have hs6:w4.heap.size≤w6.heap.size:=by have:=hg.size;simp at this;omega
 have hblk:∀ j,j < w4.heap.size→some j ≠ (Value.slice s acc.length cap).ownBlock→w6.heap[j]?=w4.heap[j]?:=fun j hj hn=>(hg.block j (by simp;omega) hn).trans (Below.heap_alloc w4 o j hj)
 have hlen:(acc++[x2]).length=acc.length+1:=by simp
 have hnown:∀ j,j < w.heap.size→some j ≠ (Value.slice s acc.length cap).ownBlock:=fun j hj e=>by have:=(h.own.lt _ e.symm).1;omega
 have k5:=h.keep.trans hf4
 have hkeep:Kb Vol w w6:=⟨hg.os.trans k5.os,hg.tape.trans k5.tape,hg.output.trans k5.output,by omega,fun j hj hn=>(hblk j (by omega) (hnown j hj)).trans (k5.block j hj hn)⟩
 have hkb:Kb (fun k=>Vol k ∨ s=some ⟨k,0,none⟩) w4 w6:=⟨hg.os,hg.tape,hg.output,hs6,fun k hk hn=>hblk k hk (fun e=>hn (.inr (by
  rcases h.val with ⟨_,_,rfl,_⟩ | ⟨k',rfl⟩
  ·cases e
  ·have e2:some k=some k':=e
   rw [Option.some.inj e2])))⟩
 have hnew:∀ k,k < w4.heap.size→(Vol k ∨ (some ⟨g2,0,none⟩:Option Addr)=some ⟨k,0,none⟩)→(Vol k ∨ s=some ⟨k,0,none⟩):=by
  rintro k hk (e | e)
  ·exact .inl e
  ·have e2:g2=k:=by injection e with e;injection e
   subst e2
   rcases hat with e3 | e3
   ·right
    rcases h.val with ⟨_,_,rfl,_⟩ | ⟨k',rfl⟩
    ·cases e3
    ·have e4:some k'=some g2:=e3
     rw [Option.some.inj e4]
   ·simp at e3
    omega
 have hk4:Kb (fun k=>Vol k ∨ s=some ⟨k,0,none⟩) wr w4:=hf4.wider (fun k _ e=>.inl e)
 refine ⟨.inr ⟨g2,rfl⟩,by rw [hlen,flat_snoc];exact hown,by simp [h.len],fun i h1 h2=>?_,hkeep⟩
 by_cases hi:i < acc.length
 ·rw [List.getElem_append_left hi,List.getElem_append_left (by rw [h.len];exact hi)]
  exact DaE.step _ _ _ _ _ _ (DaE.step _ _ _ _ _ _ (h.els i hi (by rw [h.len];exact hi)) hk4 (fun _ _ e=>e)) hkb hnew
 ·have e:i=acc.length:=by rw [hlen] at h1;omega
  subst e
  have e1:(acc++[x2])[acc.length]'h1=x2:=by simp
  have e2:(vs++[v2])[acc.length]'h2=v2:=by
   rw [List.getElem_append_right (by rw [h.len];exact Nat.le_refl _)]
   simp [h.len]
  rw [e1,e2]
  exact DaE.step _ _ _ _ _ _ hv4 hkb hnew
theorem RowD.go (h:RowD Vol w wr s cap acc vs) (hv:∀ k,Vol k→k < w.heap.size) (hk:Kb Vol wr w4):RowD Vol w w4 s cap acc vs :=
 ⟨h.val,own_kbD h.own hk (fun k e e2=>by have:=(h.own.lt k e).1;have:=hv k e2;omega),h.len,fun j h1 h2=>DaE.step _ _ _ _ _ _ (h.els j h1 h2) (hk.wider (fun k _ e=>.inl e)) (fun _ _ e=>e),h.keep.trans hk⟩
end
end Lx
end Go.Proofs.YtiljemkglhloeaaGreatDoor
