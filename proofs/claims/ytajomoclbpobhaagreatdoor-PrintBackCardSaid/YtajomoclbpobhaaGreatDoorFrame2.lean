/- From what a row lists of the package variables to what the walks ask of them; and a world in which they hold what their initialisers lay. No conditions. -/
import Derived.Test.YtajomoclbpobhaaGreatDoorCards
import Derived.Test.YtajomoclbpobhaaGreatDoorTie
import Derived.Test.YtajomoclbpobhaaGreatDoorParWholeS
import Derived.WalkKit
import Derived.ProofKit
import Derived.OpenShut
import Derived.Deep.DeepHandedRow
import Derived.Deep.DeepWitnessRowRef
import Derived.Deep.DeepLaidRun
import Derived.Lib.LaidTab
import Derived.Stop.LaidErr
import Derived.SevenTiedAt
namespace Go.Proofs.YtajomoclbpobhaaGreatDoor
set_option linter.unusedSimpArgs false
set_option linter.unusedVariables false
namespace Lx
open Go.ChangeShapes Go.WideShapes Go.ChangeAt Go.RowKit
theorem own:ownKnob Tryz.prog.godebug=none:=by kernel_rfl
theorem gLarge : Tryz.prog.globalNamed "augur/api.ErrLarge" = some 0 := by kernel_rfl
theorem gLargeT:(Tryz.prog.globals[0]?).map (·.type)=some 46:=by kernel_rfl
theorem gText : Tryz.prog.globalNamed "augur/api.ErrText" = some 5 := by kernel_rfl
theorem gTextT:(Tryz.prog.globals[5]?).map (·.type)=some 46:=by kernel_rfl
theorem gNest : Tryz.prog.globalNamed "augur/api.ErrNest" = some 4 := by kernel_rfl
theorem gNestT:(Tryz.prog.globals[4]?).map (·.type)=some 46:=by kernel_rfl
theorem gSx : Tryz.prog.globalNamed "augur/api.ErrSyntax" = some 2 := by kernel_rfl
theorem gSxT:(Tryz.prog.globals[2]?).map (·.type)=some 46:=by kernel_rfl
theorem gSyn : Tryz.prog.globalNamed "strconv.ErrSyntax" = some 9 := by kernel_rfl
theorem gSynT:(Tryz.prog.globals[9]?).map (·.type)=some 46:=by kernel_rfl
theorem gRng : Tryz.prog.globalNamed "strconv.ErrRange" = some 10 := by kernel_rfl
theorem gRngT:(Tryz.prog.globals[10]?).map (·.type)=some 46:=by kernel_rfl
theorem gPow : Tryz.prog.globalNamed "internal/strconv.uint64pow10" = some 6 := by kernel_rfl
theorem gPowT:(Tryz.prog.globals[6]?).map (·.type)=some 178:=by kernel_rfl
theorem gB64 : Tryz.prog.globalNamed "math/bits.deBruijn64tab" = some 8 := by kernel_rfl
theorem gB64T:(Tryz.prog.globals[8]?).map (·.type)=some 190:=by kernel_rfl
theorem cellsPow:Tryz.prog.cellsOf 178=20:=by kernel_rfl
theorem cellsU64:Tryz.prog.cellsOf 167=1:=by kernel_rfl
theorem cellsB64:Tryz.prog.cellsOf 190=64:=by kernel_rfl
theorem cellsU8:Tryz.prog.cellsOf 5=1:=by kernel_rfl
theorem cellsES:Tryz.prog.cellsOf 205=1:=by kernel_rfl
theorem cellsStr:Tryz.prog.cellsOf 9=1:=by kernel_rfl
theorem star : "*" ++ "errors.errorString" = "*errors.errorString" := by decide
theorem rowES (u : TypeId) (h : Tryz.prog.typeName? 3 u = some "*errors.errorString") : u = 203 :=
 typeName_ptr_named (nm := "errors.errorString") (by rw [star]; kernel_rfl) (by kernel_rfl) (by decide) u (by rw [star]; exact h)
abbrev Laid:=List (String × DataW Unit)
theorem tl {P:Program} {x:String × DataW Unit} {r:Laid} {w:World} (h:laidMet P (x :: r) w):laidMet P r w:=by
 obtain ⟨n,d⟩:=x
 obtain ⟨ps,⟨g,t,cs,fuel,p,q,_,_,_,_,hq,rfl⟩,hn,hr⟩:=h
 exact ⟨q,hq,(List.nodup_append.1 hn).2.1,fun b off hb=>hr b off (List.mem_append_right _ hb)⟩
theorem pow_data {H:Type}:(Rows.laid_internal_strconv_uint64pow10:DataW H)=Lib.tabData .u64 Lib.pow10Tab:=by
 simp [Rows.laid_internal_strconv_uint64pow10,Lib.tabData,Lib.pow10Tab,List.range_succ]
/-- A sentinel's variable holds a pointer to a cell of its own. -/
def Sent (W:World) (g:Nat) (a:Addr):Prop :=
 W.cell? ⟨g,0,none⟩=some (.iface 203 (.pointer (some a)))∧∃ c t,W.heap[a.block]?=some (.cells c t (0,0))
theorem sent_of {n : String} {text : List UInt8} {r : Laid} {W : World} {g : Nat} (h : laidMet Tryz.prog ((n, .iface "*errors.errorString" (.ptr (.agg [.lit (.string text)]))) :: r) W)
  (hg:Tryz.prog.globalNamed n=some g) (ht:(Tryz.prog.globals[g]?).map (·.type)=some 46):∃ a,W.cell? ⟨g,0,none⟩=some (.iface 203 (.pointer (some a))):=by
 obtain ⟨a,s,hv,_⟩:=laid_sentinel h hg ht Tryz.underlying46 rowES Tryz.underlying203 Tryz.underlying205 rfl rfl Tryz.underlying9 cellsES cellsStr
 exact ⟨a,by have h0:=World.var?_cell hg hv 0;simpa using h0⟩
def laid9 : Laid := [("math/bits.deBruijn32tab", Rows.laid_math_bits_deBruijn32tab), ("math/bits.deBruijn64tab", Rows.laid_math_bits_deBruijn64tab), ("internal/strconv.uint64pow10", Rows.laid_internal_strconv_uint64pow10), ("augur/api.ErrText", Rows.laid_augur_api_ErrText), ("augur/api.ErrSyntax", Rows.laid_augur_api_ErrSyntax), ("augur/api.ErrNest", Rows.laid_augur_api_ErrNest), ("augur/api.ErrLarge", Rows.laid_augur_api_ErrLarge), ("strconv.ErrRange", Rows.laid_strconv_ErrRange), ("strconv.ErrSyntax", Rows.laid_strconv_ErrSyntax)]
theorem met_of_H {W:World} (h:laidMetH Tryz.prog laid9 W):laidMet Tryz.prog laid9 W:=by
 unfold laidMetH at h
 rw [show (laid9.filter fun x=>x.2.handleName?.isSome)=[] from by kernel_rfl] at h
 exact h
theorem env_of {W:World} (hH:laidMetH Tryz.prog laid9 W):Env W∧∃ f,Errs4 W f:=by
 have h:=met_of_H hH
 unfold laid9 at h
 have h1:=tl h
 have h2:=tl h1
 have h3:=tl h2
 have h4:=tl h3
 have h5:=tl h4
 have h6:=tl h5
 have h7:=tl h6
 have h8:=tl h7
 rw [pow_data] at h2
 obtain ⟨at_,ht⟩:=sent_of h3 gText gTextT
 obtain ⟨ax,hx⟩:=sent_of h4 gSx gSxT
 obtain ⟨an,hn⟩:=sent_of h5 gNest gNestT
 obtain ⟨al,hl⟩:=sent_of h6 gLarge gLargeT
 obtain ⟨ar,hr⟩:=sent_of h7 gRng gRngT
 obtain ⟨as_,hs⟩:=sent_of h8 gSyn gSynT
 have hp:=Lib.tabIs_of_head gPow gPowT Tryz.underlying178 Tryz.underlying167 cellsU64 cellsPow h2
 refine ⟨⟨?_,⟨_,_,hs⟩,⟨_,_,hr⟩,hp⟩,fun i=>if i=0 then an else if i=1 then al else if i=2 then ax else at_,⟨hn,hl,hx,ht⟩⟩
 obtain ⟨ps,⟨g,t,cs,fuel,p,q,hg,_,hv,_⟩,_⟩:=h1
 obtain rfl:=Option.some.inj (gB64.symm.trans hg)
 rcases Nat.lt_or_ge 8 W.heap.size with hlt | hge
 ·omega
 ·simp [World.var?,gB64,Array.getElem?_eq_none hge] at hv
/-! ### a world in which the listed variables hold what their initialisers lay -/
def putC (cs:Array Value):Obj→Obj
 | .cells _ t frozen=>.cells cs t frozen
 | o=>o
def dataC:DataW Unit→Array Value
 | .agg l=>(l.map fun
  | .lit (.int k z)=>.int k z
  | _=>undef).toArray
 | _=>#[]
def textC:DataW Unit→Array Value
 | .iface _ (.ptr (.agg [.lit (.string l)]))=>#[.string ⟨l.toArray⟩]
 | _=>#[]
noncomputable def low:Nat:=(World.holding Tryz.prog default ⟨#[],#[],[]⟩).heap.size
def esB (d:DataW Unit):Obj:=.cells (textC d) 205
noncomputable def esP (i:Nat):Obj→Obj:=putC #[.iface 203 (.pointer (some ⟨low+i,0,none⟩))]
noncomputable def laidWorld (os:Os):World :=
 let w0:=World.holding Tryz.prog os ⟨#[esB Rows.laid_augur_api_ErrText,esB Rows.laid_augur_api_ErrSyntax,esB Rows.laid_augur_api_ErrNest,esB Rows.laid_augur_api_ErrLarge,esB Rows.laid_strconv_ErrRange,esB Rows.laid_strconv_ErrSyntax],#[],[]⟩
 { w0 with heap:=((((((((w0.heap.modify 7 (putC (dataC Rows.laid_math_bits_deBruijn32tab))).modify 8 (putC (dataC Rows.laid_math_bits_deBruijn64tab))).modify 6 (putC (dataC Rows.laid_internal_strconv_uint64pow10))).modify
   5 (esP 0)).modify 2 (esP 1)).modify 4 (esP 2)).modify 0 (esP 3)).modify 10 (esP 4)).modify 9 (esP 5) }
end Lx
end Go.Proofs.YtajomoclbpobhaaGreatDoor
