/- From what a row lists of the package variables to what the walks ask of them; and a world in which they hold what their initialisers lay. No conditions. -/
import Derived.Test.YtajomoclbpobhaaGreatDoorCards
import Derived.Test.YtajomoclbpobhaaGreatDoorTie
import Derived.Test.YtajomoclbpobhaaGreatDoorParWholeS
import Derived.WalkKit
import Derived.ProofKit
import Derived.OpenShut
import Derived.Deep.DeepHandedRow
import Derived.Deep.DeepWitnessRowRef
import Derived.Deep.DeepLaidRun
import Derived.Lib.LaidTab
import Derived.Stop.LaidErr
import Derived.SevenTiedAt
namespace Go.Proofs.YtajomoclbpobhaaGreatDoor
set_option linter.unusedSimpArgs false
set_option linter.unusedVariables false
namespace Lx
open Go.ChangeShapes Go.WideShapes Go.ChangeAt Go.RowKit
theorem own:ownKnob Tryz.prog.godebug=none:=by kernel_rfl
theorem gLarge : Tryz.prog.globalNamed "augur/api.ErrLarge" = some 0 := by kernel_rfl
theorem gLargeT:(Tryz.prog.globals[0]?).map (·.type)=some 46:=by kernel_rfl
theorem gText : Tryz.prog.globalNamed "augur/api.ErrText" = some 5 := by kernel_rfl
theorem gTextT:(Tryz.prog.globals[5]?).map (·.type)=some 46:=by kernel_rfl
theorem gNest : Tryz.prog.globalNamed "augur/api.ErrNest" = some 4 := by kernel_rfl
theorem gNestT:(Tryz.prog.globals[4]?).map (·.type)=some 46:=by kernel_rfl
theorem gSx : Tryz.prog.globalNamed "augur/api.ErrSyntax" = some 2 := by kernel_rfl
theorem gSxT:(Tryz.prog.globals[2]?).map (·.type)=some 46:=by kernel_rfl
theorem gSyn : Tryz.prog.globalNamed "strconv.ErrSyntax" = some 9 := by kernel_rfl
theorem gSynT:(Tryz.prog.globals[9]?).map (·.type)=some 46:=by kernel_rfl
theorem gRng : Tryz.prog.globalNamed "strconv.ErrRange" = some 10 := by kernel_rfl
theorem gRngT:(Tryz.prog.globals[10]?).map (·.type)=some 46:=by kernel_rfl
theorem gPow : Tryz.prog.globalNamed "internal/strconv.uint64pow10" = some 6 := by kernel_rfl
theorem gPowT:(Tryz.prog.globals[6]?).map (·.type)=some 178:=by kernel_rfl
theorem gB64 : Tryz.prog.globalNamed "math/bits.deBruijn64tab" = some 8 := by kernel_rfl
theorem cellsPow:Tryz.prog.cellsOf 178=20:=by kernel_rfl
theorem cellsU64:Tryz.prog.cellsOf 167=1:=by kernel_rfl
theorem cellsES:Tryz.prog.cellsOf 205=1:=by kernel_rfl
theorem cellsStr:Tryz.prog.cellsOf 9=1:=by kernel_rfl
theorem star : "*" ++ "errors.errorString" = "*errors.errorString" := by decide
theorem rowES (u : TypeId) (h : Tryz.prog.typeName? 3 u = some "*errors.errorString") : u = 203 :=
 typeName_ptr_named (nm := "errors.errorString") (by rw [star]; kernel_rfl) (by kernel_rfl) (by decide) u (by rw [star]; exact h)
abbrev Laid:=List (String × DataW Unit)
theorem tl {P:Program} {x:String × DataW Unit} {r:Laid} {w:World} (h:laidMet P (x :: r) w):laidMet P r w:=by
 obtain ⟨n,d⟩:=x
 obtain ⟨ps,⟨g,t,cs,fuel,p,q,_,_,_,_,hq,rfl⟩,hn,hr⟩:=h
 exact ⟨q,hq,(List.nodup_append.1 hn).2.1,fun b off hb=>hr b off (List.mem_append_right _ hb)⟩
theorem pow_data {H:Type}:(Rows.laid_internal_strconv_uint64pow10:DataW H)=Lib.tabData .u64 Lib.pow10Tab:=by
 simp [Rows.laid_internal_strconv_uint64pow10,Lib.tabData,Lib.pow10Tab,List.range_succ]
theorem sent_of {n : String} {text : List UInt8} {r : Laid} {W : World} {g : Nat} (h : laidMet Tryz.prog ((n, .iface "*errors.errorString" (.ptr (.agg [.lit (.string text)]))) :: r) W)
  (hg:Tryz.prog.globalNamed n=some g) (ht:(Tryz.prog.globals[g]?).map (·.type)=some 46):∃ a,W.cell? ⟨g,0,none⟩=some (.iface 203 (.pointer (some a))):=by
 obtain ⟨a,s,hv,_⟩:=laid_sentinel h hg ht Tryz.underlying46 rowES Tryz.underlying203 Tryz.underlying205 rfl rfl Tryz.underlying9 cellsES cellsStr
 exact ⟨a,by have h0:=World.var?_cell hg hv 0;simpa using h0⟩
/-! ### a world in which the listed variables hold what their initialisers lay -/
noncomputable def low:Nat:=(World.holding Tryz.prog default ⟨#[],#[],[]⟩).heap.size
end Lx
end Go.Proofs.YtajomoclbpobhaaGreatDoor
