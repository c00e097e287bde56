/- The program's reader of bytes: refuse, cut, small. Conditions: as each states. -/
import Derived.Test.YtnpacamcgifabaaDoorDa
namespace Go.Proofs.YtnpacamcgifabaaDoor
set_option linter.unusedSimpArgs false
set_option linter.unusedVariables false
namespace Lx
open Go Go.RowKit
/-- Bytes that are only read, wherever they begin. -/
def ByH:HoldW UInt8:=fun _ x v _=>v=.int .u8 x.toNat
theorem ByH.step:StepW ByH:=fun _ _ _ _ _ _ h _ _=>h
section
variable {Vol:Nat→Prop} {l:List UInt8} {A:Option Addr} {n c:Nat} {w:World}
theorem addr_add (b o n:Nat):(⟨b,o,none⟩:Addr).add n=⟨b,o+n,none⟩:=by
 by_cases h:n=0
 ·subst h;rfl
 ·simp [Addr.add,h]
theorem By.at (h:RowW 1 ByH Vol l (.slice A n c) w) (i:Nat) (hi:i < l.length):∃ b off,A=some ⟨b,off,none⟩∧b < w.heap.size∧¬ Vol b∧w.cell? ⟨b,off+i,none⟩=some (.int .u8 l[i].toNat):=by
 obtain ⟨b,off,vi,h1,h2,h3,rfl,h5⟩:=RowW.at h i hi
 refine ⟨b,off,h1,h2,h3,?_⟩
 have:=h5 0 (by decide)
 rw [Nat.mul_one,Nat.add_zero] at this
 exact this
theorem By.make {b off:Nat} {m:List UInt8} {c:Nat} (hc:m.length≤c) (hm:c≤maxLen) (hb:b < w.heap.size) (hv:¬ Vol b) (h:∀ (i:Nat) (hi:i < m.length),w.cell? ⟨b,off+i,none⟩=some (.int .u8 m[i].toNat)):RowW 1 ByH Vol m (.slice (some ⟨b,off,none⟩) m.length c) w :=
 ⟨_,c,rfl,hc,hm,fun i hi=>⟨b,off,_,rfl,hb,hv,rfl,fun j hj=>by
  obtain rfl:j=0:=by omega
  rw [Nat.mul_one,Nat.add_zero]
  exact h i hi⟩⟩
theorem By.none (A:Option Addr) {c:Nat} (hm:c≤maxLen):RowW 1 ByH Vol [] (.slice A 0 c) w:=⟨A,c,rfl,Nat.zero_le _,hm,fun i hi=>by simp at hi⟩
def pieceV (A:Option Addr) (size:Nat):Value:=.slice (if size=0 then A else A) size size
def restV (A:Option Addr) (len cap size:Nat):Value:=.slice (if cap=size then A else A.map (·.add size)) (len - size) (cap - size)
theorem By.take (h:RowW 1 ByH Vol l (.slice A n c) w) {size:Nat} (hs:size≤l.length):RowW 1 ByH Vol (l.take size) (.slice A size size) w:=by
 have hl:(l.take size).length=size:=by rw [List.length_take];omega
 have hf:=h.few
 by_cases h0:size=0
 ·subst h0
  rw [List.take_zero]
  exact By.none A (Nat.zero_le _)
 ·obtain ⟨b,off,rfl,hb,hv,_⟩:=By.at h 0 (by omega)
  have:=By.make (Vol:=Vol) (w:=w) (b:=b) (off:=off) (m:=l.take size) (c:=size) (by omega) (by omega) hb hv (fun i hi=>by
   have hi2:i < l.length:=by rw [hl] at hi;omega
   obtain ⟨b',off',e,_,_,hc⟩:=By.at h i hi2
   injection e with e
   injection e with e1 e2
   subst e1
   subst e2
   rw [hc,List.getElem_take])
  rw [hl] at this
  exact this
theorem By.drop (h:RowW 1 ByH Vol l (.slice A l.length c) w) {size:Nat} (hs:size≤l.length):RowW 1 ByH Vol (l.drop size) (restV A l.length c size) w:=by
 have hl:(l.drop size).length=l.length - size:=List.length_drop
 have hcc:l.length≤c∧c≤maxLen:=by
  obtain ⟨A',c',e,h1,h2,_⟩:=h
  injection e with _ _ e3
  omega
 unfold restV
 by_cases h0:l.length - size=0
 ·have:l.drop size=[]:=List.eq_nil_of_length_eq_zero (by omega)
  rw [this,h0]
  exact By.none _ (by omega)
 ·obtain ⟨b,off,rfl,hb,hv,_⟩:=By.at h 0 (by omega)
  rw [if_neg (by omega),Option.map_some,addr_add]
  have:=By.make (Vol:=Vol) (w:=w) (b:=b) (off:=off+size) (m:=l.drop size) (c:=c - size) (by omega) (by omega) hb hv (fun i hi=>by
   have hi2:size+i < l.length:=by rw [hl] at hi;omega
   obtain ⟨b',off',e,_,_,hc⟩:=By.at h (size+i) hi2
   injection e with e
   injection e with e1 e2
   subst e1
   subst e2
   rw [Nat.add_assoc,hc,List.getElem_drop])
  rw [hl] at this
  exact this
end
/-- The reader: what is left, how many nodes began, whether it refused. -/
structure RdS (L R:Nat) (rest:List UInt8) (rv:Value) (n:Int) (ref:Bool) (w:World):Prop where
 box:w.heap[R]?=some (.cells #[rv,.int .i64 n,.bool ref] 114 (0,0))
 row:RowW 1 ByH (fun k=>L≤k) rest rv w
 lo:L≤R
theorem RdS.below {L R:Nat} {rest:List UInt8} {rv:Value} {n:Int} {ref:Bool} {w w':World} (h:RdS L R rest rv n ref w) (hb:Below w.heap.size w w'):RdS L R rest rv n ref w' :=
 ⟨(hb.block R (Array.getElem?_eq_some_iff.1 h.box).1).trans h.box,(RowW.step ByH.step).below h.row hb,h.lo⟩
theorem RdS.put {L R:Nat} {rest:List UInt8} {rv:Value} {n n':Int} {ref:Bool} {w:World} (h:RdS L R rest rv n ref w):RdS L R rest rv n' ref (w.setCell ⟨R,1,none⟩ (.int .i64 n')) :=
 ⟨by rw [blk_put w R 1 _ h.box (by simp)];rfl,RowW.step ByH.step _ _ _ _ _ _ h.row (((Kb.refl (fun k=>k=R) w).put (p:=⟨R,1,none⟩) rfl _).wider (fun _ _ e=>e ▸ h.lo)) (fun _ _ e=>e),h.lo⟩
theorem RdS.kb {L R:Nat} {rest:List UInt8} {rv:Value} {n:Int} {ref:Bool} {S:Nat→Prop} {w w':World} (h:RdS L R rest rv n ref w) (hk:Kb S w w') (hS:∀ k,k < w.heap.size→S k→L≤k) (hR:¬ S R):RdS L R rest rv n ref w' :=
 ⟨(hk.block R (Array.getElem?_eq_some_iff.1 h.box).1 hR).trans h.box,RowW.step ByH.step _ _ _ _ _ _ h.row (hk.wider hS) (fun _ _ e=>e),h.lo⟩
set_option maxRecDepth 100000 in
set_option maxHeartbeats 1000000 in
theorem refuse_any (L R:Nat) (rest:List UInt8) (rv:Value) (n:Int) (ref:Bool) (w:World) (h:RdS L R rest rv n ref w) :
  Calls Tryd.prog 93 #[.pointer (some ⟨R,0,none⟩)] w fun e w'=>e=.returned (.tuple #[])∧RdS L R [] (.slice none 0 0) n true w'∧Kb (fun k=>k=R) w w':=by
 have HB:=Lib.hid h.box
 have hfz:=frozenH h.box
 have f0:=hfz 0
 have f2:=hfz 2
 have b0:=(cellH h.box 0).trans rfl
 have b2:=(cellH h.box 2).trans rfl
 have hlt:=(Array.getElem?_eq_some_iff.1 h.box).1
 go_enter Tryd.func93,Tryd.ntmps93
 go_wp2_with fail
 have hk:=((Kb.refl (fun k=>k=R) w).put (p:=⟨R,0,none⟩) rfl (.slice none 0 0)).put (p:=⟨R,2,none⟩) rfl (.bool true)
 refine bodyPost_end (v:=.tuple #[]) (by simp [results,Tryd.results93,go_sem]) rfl ⟨rfl,⟨?_,By.none _ (Nat.zero_le _),h.lo⟩,hk⟩
 exact blk_put _ _ 2 _ (blk_put _ _ 0 _ HB.out (by show 0 < 3;decide)) (by show 2 < 3;decide)
/-- What a cut leaves. -/
def CutP (L R:Nat) (rest:List UInt8) (n:Int) (ref:Bool) (size:Nat) (w:World):Ending→World→Prop:=fun e w'=>Kb (fun k=>k=R) w w' ∧
 ((rest.length < size∧e=.returned (.slice none 0 0)∧RdS L R [] (.slice none 0 0) n true w') ∨
  (size≤rest.length∧∃ A rv',e=.returned (.slice A size size)∧RowW 1 ByH (fun k=>L≤k) (rest.take size) (.slice A size size) w'∧RdS L R (rest.drop size) rv' n ref w'))
theorem sizeB (w:World):(sizeOf (Tryd.prog.elem 64)).run Tryd.prog w=.ok 1 w:=by kernel_rfl
theorem elB:Tryd.prog.underlying 64=some (.slice (Tryd.prog.elem 64)):=by kernel_rfl
theorem run_piece (A:Option Addr) (len cap size:Nat) (W:World) (h:size≤cap):(Instr.slice 64 (.slice A len cap) none (some (.int .i64 (size:Int))) (some (.int .i64 (size:Int)))).run Tryd.prog W=.ok (.slice A size size) W:=by
 rw [run_slice_hm W 64 A len cap elB .i64 .i64 size size (by omega) (by omega) (by omega),sizeB]
 simp only [Result.andThen,sliced,Int.toNat_natCast,Nat.sub_zero,Nat.zero_mul]
 congr 2
 split
 ·rfl
 ·cases A with
  | none=>rfl
  | some a=>simp [Addr.add]
theorem run_rest (A:Option Addr) (len cap size:Nat) (W:World) (h:size≤len):(Instr.slice 64 (.slice A len cap) (some (.int .i64 (size:Int))) none none).run Tryd.prog W=.ok (restV A len cap size) W:=by
 rw [run_slice_l W 64 A len cap elB .i64 size (by omega) (by omega),sizeB]
 simp only [Result.andThen,sliced,Int.toNat_natCast,Nat.mul_one]
 rfl
set_option maxRecDepth 100000 in
set_option maxHeartbeats 2000000 in
theorem cut_any (L R:Nat) (rest:List UInt8) (rv:Value) (n:Int) (ref:Bool) (size:Nat) (w:World) (h:RdS L R rest rv n ref w) :
  Calls Tryd.prog 112 #[.pointer (some ⟨R,0,none⟩),.int .i64 size] w (CutP L R rest n ref size w):=by
 obtain ⟨A,c,rfl⟩:=h.row.slice
 have hfew:=h.row.few
 unfold maxLen at hfew
 have H:=Lib.hid h
 have HB:=Lib.hid h.box
 have b0:=(cellH h.box 0).trans rfl
 have f0:=frozenH h.box 0
 have hcc:rest.length≤c:=by
  obtain ⟨A',c',e,h1,_⟩:=h.row
  injection e with _ _ e3
  omega
 clear h
 unfold CutP
 by_cases hlt:rest.length < size
 ·have hd1:decide (rest.length < size)=true:=by simpa using hlt
  have hd2:decide ((rest.length:Int) < (size:Int))=true:=by simp;omega
  go_enter Tryd.func112,Tryd.ntmps112
  go_wp2_with fail
  try go_at_call 93
  refine (refuse_any L R rest _ n ref w H.out).mono ?_
  rintro e w1 ⟨rfl,hr,hk⟩
  have HR:=Lib.hid hr
  have HK:=Lib.hid hk
  clear hr hk
  go_wp2_with fail
  go_ret
  exact ⟨HK.out,.inl ⟨by simpa using hd1,rfl,HR.out⟩⟩
 ·have hd1:decide (rest.length < size)=false:=by simpa using hlt
  have hd2:decide ((rest.length:Int) < (size:Int))=false:=by simp;omega
  have hp:=fun W=>run_piece A rest.length c size W (by omega)
  obtain ⟨A',hA'⟩:∃ A',restV A rest.length c size=.slice A' (rest.length - size) (c - size):=⟨_,rfl⟩
  have hq:=fun W=>run_rest A rest.length c size W (by omega)
  rw [hA'] at hq
  have HA:=Lib.hid hA'
  clear hA'
  have HS:=Lib.hid hlt
  go_enter Tryd.func112,Tryd.ntmps112
  go_wp2_with fail
  go_ret
  have hk:=(Kb.refl (fun k=>k=R) w).put (p:=⟨R,0,none⟩) rfl (.slice A' (rest.length - size) (c - size))
  exact ⟨hk,.inr ⟨by have:=HS.out;omega,A,_,rfl,RowW.step ByH.step _ _ _ _ _ _ (By.take H.out.row (by have:=HS.out;omega)) (hk.wider (fun _ _ e=>e ▸ H.out.lo)) (fun _ _ e=>e),⟨blk_put _ _ 0 _ HB.out (by show 0 < 3;decide),RowW.step ByH.step _ _ _ _ _ _ (by rw [← HA.out];exact By.drop H.out.row (by have:=HS.out;omega)) (hk.wider (fun _ _ e=>e ▸ H.out.lo)) (fun _ _ e=>e),H.out.lo⟩⟩⟩
/-- What a small number leaves. -/
def SmallP (L R:Nat) (rest:List UInt8) (n:Int) (ref:Bool) (w:World):Ending→World→Prop:=fun e w'=>Kb (fun k=>k=R) w w' ∧
 ((rest=[]∧e=.returned (.int .i64 0)∧RdS L R [] (.slice none 0 0) n true w') ∨
  (∃ b r rv',rest=b :: r∧ref=false∧e=.returned (.int .i64 (b.toNat:Int))∧RdS L R r rv' n false w'))
set_option maxRecDepth 100000 in
set_option maxHeartbeats 2000000 in
theorem small_any (L R:Nat) (rest:List UInt8) (rv:Value) (n:Int) (ref:Bool) (w:World) (h:RdS L R rest rv n ref w) (hr:ref=true→rest=[]) :
  Calls Tryd.prog 94 #[.pointer (some ⟨R,0,none⟩)] w (SmallP L R rest n ref w):=by
 have hcut:=cut_any L R rest rv n ref 1 w h
 rw [show ((1:Nat):Int)=1 from rfl] at hcut
 have HC:=Lib.hid hcut
 have HR0:=Lib.hid hr
 clear h hcut hr
 go_enter Tryd.func94,Tryd.ntmps94
 go_wp2_with fail
 try go_at_call 112
 refine HC.out.mono ?_
 rintro e w1 ⟨hk,⟨hlt,rfl,hrd⟩ | ⟨hge,A,rv',rfl,hrow,hrd⟩⟩
 ·have HK:=Lib.hid hk
  have HRD:=Lib.hid hrd
  have b2:=(cellH hrd.box 2).trans rfl
  have hnil:rest=[]:=List.eq_nil_of_length_eq_zero (by omega)
  have HN:=Lib.hid hnil
  clear hk hrd hnil hlt
  go_wp2_with fail
  go_ret
  exact (by unfold SmallP;exact ⟨HK.out,.inl ⟨HN.out,rfl,HRD.out⟩⟩)
 ·match rest,hge with
  | b :: r,_ =>
  have hf:ref=false:=by
   cases ref
   ·rfl
   ·exact absurd (HR0.out rfl) (by simp)
  subst hf
  obtain ⟨g,o,rfl,hg,_,hc⟩:=By.at hrow 0 (by simp)
  have HK:=Lib.hid hk
  have HRD:=Lib.hid hrd
  have b2:=(cellH hrd.box 2).trans rfl
  have hc:w1.cell? ⟨g,o,none⟩=some (.int .u8 b.toNat):=hc
  have hb1:=UInt8.toNat_lt b
  clear hk hrd hrow HC HR0
  go_wp2_with fail
  go_ret
  exact (by unfold SmallP;exact ⟨HK.out,.inr ⟨b,r,_,rfl,rfl,rfl,HRD.out⟩⟩)
end Lx
end Go.Proofs.YtnpacamcgifabaaDoor
