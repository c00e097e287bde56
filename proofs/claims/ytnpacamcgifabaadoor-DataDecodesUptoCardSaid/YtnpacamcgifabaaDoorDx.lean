/- Bytes that come in, opened; the three errors out of what the row lists; a world in which they hold. Conditions: each list of the datum is one that memory holds. -/
import Derived.Test.YtnpacamcgifabaaDoorDi
import Derived.Test.YtnpacamcgifabaaDoorDu
namespace Go.Proofs.YtnpacamcgifabaaDoor
set_option linter.unusedSimpArgs false
set_option linter.unusedVariables false
namespace Lx
open Go Go.ChangeShapes Go.WideShapes Go.ChangeAt Go.Deep Go.RowKit
theorem cellsU8:Tryd.prog.cellsOf 5=1:=by kernel_rfl
set_option maxRecDepth 100000 in
theorem bulk_len {H:Type}:∀ ds:List (DataW H),ds.length≤Rows.uptoBulkAll ds
 | []=>by simp
 | d :: ds=>by
  rw [List.length_cons,Rows.uptoBulkAll]
  have h1:=bulk_len ds
  have h2:1≤Rows.uptoBulk d:=by
   cases d with
   | lit l=>cases l <;> simp [Rows.uptoBulk]
   | _=>simp [Rows.uptoBulk]
  omega
theorem bulk_three {H:Type} {a b c:DataW H} (hk:Rows.uptoSmall H ([a,b,c]++[])=true):Rows.uptoBulk c≤1048576:=by
 have h:=of_decide_eq_true hk
 simp only [List.append_nil,Rows.uptoBulkAll] at h
 omega
section
variable {H:Type} {enc:TypeId × Value→H} {w:World} {base:Nat} {spare:Nat→Bool} {held:Bool}
set_option maxRecDepth 100000 in
theorem open_byte (fuel:Nat) (cs:List Value) (x:DataW H × List MemPlace) (h:DataW.trod enc Tryd.prog w base spare held fuel 5 cs=some x):∃ (b:UInt8) (v:Value),cs=cellsL v∧ByH (fun _=>False) b v w∧True:=by
 obtain ⟨k,e0,_,wk⟩:=DataW.trod_int Tryd.underlying5 h
 simp [Lit.wf] at wk
 have h1:IntKind.u8.min=0:=by decide
 have h2:IntKind.u8.max=255:=by decide
 refine ⟨UInt8.ofNat k.toNat,.int .u8 k,e0,?_,trivial⟩
 show Value.int .u8 k=.int .u8 ((UInt8.ofNat k.toNat).toNat:Int)
 rw [UInt8.toNat_ofNat']
 congr 1
 omega
set_option maxRecDepth 100000 in
theorem open_bytes (fuel:Nat) (v:Value) (x:DataW H × List MemPlace) (h:DataW.trod enc Tryd.prog w base spare held fuel 64 [v]=some x) (hz:∀ z ∈ x.1.weights Tryd.prog 64,z≤reachBytes) :
  ∃ l:List UInt8,RowW 1 ByH (fun _=>False) l v w∧l.length≤Rows.uptoBulk x.1∧∀ n c,v=.slice none n c→c=0:=by
 obtain ⟨l,ds,h1,h2,_,_,h5⟩:=open_row (0:UInt8) (fun _=>ByH) (fun _ _=>True) (by decide) Tryd.underlying64 cellsU8 (fun _ _ _ _ _ h=>h) (fun _ _ _ _ _ h=>by rw [h];rfl) fuel v x h hz (fun n _ cs y hy _=>open_byte n cs y hy)
 refine ⟨l,h1,by have:=bulk_len ds;omega,fun n c e=>?_⟩
 rcases DataW.trod_slice Tryd.underlying64 h with ⟨e3,_⟩ | ⟨a,len,cap,elems,rest,n',rfl,e3,_⟩
 ·have e4:=(List.cons.inj e3).1
  rw [e] at e4
  injection e4
 ·have e4:=(List.cons.inj e3).1
  rw [e] at e4
  injection e4 with e5
  cases e5
end
theorem gBytes : Tryd.prog.globalNamed "augur/api.ErrBytes" = some 2 := by kernel_rfl
theorem gBytesT:(Tryd.prog.globals[2]?).map (·.type)=some 38:=by kernel_rfl
def laidD3 : Laid := [("augur/api.ErrLarge", Rows.laid_augur_api_ErrLarge), ("augur/api.ErrData", Rows.laid_augur_api_ErrData), ("augur/api.ErrBytes", Rows.laid_augur_api_ErrBytes)]
theorem met_of_HD3 {W:World} (h:laidMetH Tryd.prog laidD3 W):laidMet Tryd.prog laidD3 W:=by
 unfold laidMetH at h
 rw [show (laidD3.filter fun x=>x.2.handleName?.isSome)=[] from by kernel_rfl] at h
 exact h
theorem env_ofD3 {W:World} (hH:laidMetH Tryd.prog laidD3 W):(∃ f,ErrD f W)∧∃ a,ErrY a W:=by
 have h:=met_of_HD3 hH
 unfold laidD3 at h
 have h1:=tl h
 have h2:=tl h1
 obtain ⟨al,hl⟩:=sent_of h gLarge gLargeT
 obtain ⟨ad,hd⟩:=sent_of h1 gData gDataT
 obtain ⟨ab,hb⟩:=sent_of h2 gBytes gBytesT
 exact ⟨⟨fun i=>if i=0 then al else ad,⟨hl,hd⟩⟩,ab,hb⟩
noncomputable def laidWorldD3 (os:Os):World :=
 let w0:=World.holding Tryd.prog os ⟨#[esB Rows.laid_augur_api_ErrLarge,esB Rows.laid_augur_api_ErrData,esB Rows.laid_augur_api_ErrBytes],#[],[]⟩
 { w0 with heap:=((w0.heap.modify 0 (esP 0)).modify 11 (esP 1)).modify 2 (esP 2) }
end Lx
end Go.Proofs.YtnpacamcgifabaaDoor
