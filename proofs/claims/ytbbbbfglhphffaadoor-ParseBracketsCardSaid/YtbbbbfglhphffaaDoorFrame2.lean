/- From what a row lists of the package variables to what the walks ask of them; and a world in which they hold what their initialisers lay. No conditions. -/
import Derived.Test.YtbbbbfglhphffaaDoorCards
import Derived.Test.YtbbbbfglhphffaaDoorTie
import Derived.Test.YtbbbbfglhphffaaDoorParWholeS
import Derived.WalkKit
import Derived.ProofKit
import Derived.OpenShut
import Derived.Deep.DeepHandedRow
import Derived.Deep.DeepWitnessRowRef
import Derived.Deep.DeepLaidRun
import Derived.Lib.LaidTab
import Derived.Stop.LaidErr
import Derived.SevenTiedAt
namespace Go.Proofs.YtbbbbfglhphffaaDoor
set_option linter.unusedSimpArgs false
set_option linter.unusedVariables false
namespace Lx
open Go.ChangeShapes Go.WideShapes Go.ChangeAt Go.RowKit

theorem own : ownKnob Tryd.prog.godebug = none := by kernel_rfl
theorem gLarge : Tryd.prog.globalNamed "augur/api.ErrLarge" = some 1 := by kernel_rfl
theorem gLargeT : (Tryd.prog.globals[1]?).map (·.type) = some 25 := by kernel_rfl
theorem gText : Tryd.prog.globalNamed "augur/api.ErrText" = some 3 := by kernel_rfl
theorem gTextT : (Tryd.prog.globals[3]?).map (·.type) = some 25 := by kernel_rfl
theorem gNest : Tryd.prog.globalNamed "augur/api.ErrNest" = some 0 := by kernel_rfl
theorem gNestT : (Tryd.prog.globals[0]?).map (·.type) = some 25 := by kernel_rfl
theorem gSx : Tryd.prog.globalNamed "augur/api.ErrSyntax" = some 4 := by kernel_rfl
theorem gSxT : (Tryd.prog.globals[4]?).map (·.type) = some 25 := by kernel_rfl
theorem gSyn : Tryd.prog.globalNamed "strconv.ErrSyntax" = some 17 := by kernel_rfl
theorem gSynT : (Tryd.prog.globals[17]?).map (·.type) = some 25 := by kernel_rfl
theorem gRng : Tryd.prog.globalNamed "strconv.ErrRange" = some 18 := by kernel_rfl
theorem gRngT : (Tryd.prog.globals[18]?).map (·.type) = some 25 := by kernel_rfl
theorem gPow : Tryd.prog.globalNamed "internal/strconv.uint64pow10" = some 20 := by kernel_rfl
theorem gPowT : (Tryd.prog.globals[20]?).map (·.type) = some 235 := by kernel_rfl
theorem gB64 : Tryd.prog.globalNamed "math/bits.deBruijn64tab" = some 22 := by kernel_rfl
theorem gB64T : (Tryd.prog.globals[22]?).map (·.type) = some 241 := by kernel_rfl
theorem cellsPow : Tryd.prog.cellsOf 235 = 20 := by kernel_rfl
theorem cellsU64 : Tryd.prog.cellsOf 217 = 1 := by kernel_rfl
theorem cellsB64 : Tryd.prog.cellsOf 241 = 64 := by kernel_rfl
theorem cellsU8 : Tryd.prog.cellsOf 5 = 1 := by kernel_rfl
theorem cellsES : Tryd.prog.cellsOf 232 = 1 := by kernel_rfl
theorem cellsStr : Tryd.prog.cellsOf 9 = 1 := by kernel_rfl
theorem star : "*" ++ "errors.errorString" = "*errors.errorString" := by decide
theorem rowES (u : TypeId) (h : Tryd.prog.typeName? 3 u = some "*errors.errorString") : u = 230 :=
  typeName_ptr_named (nm := "errors.errorString") (by rw [star]; kernel_rfl) (by kernel_rfl) (by decide) u (by rw [star]; exact h)

abbrev Laid := List (String × DataW Unit)
theorem tl {P : Program} {x : String × DataW Unit} {r : Laid} {w : World} (h : laidMet P (x :: r) w) : laidMet P r w := by
  obtain ⟨n, d⟩ := x
  obtain ⟨ps, ⟨g, t, cs, fuel, p, q, _, _, _, _, hq, rfl⟩, hn, hr⟩ := h
  exact ⟨q, hq, (List.nodup_append.1 hn).2.1, fun b off hb => hr b off (List.mem_append_right _ hb)⟩

theorem pow_data {H : Type} : (Rows.laid_internal_strconv_uint64pow10 : DataW H) = Lib.tabData .u64 Lib.pow10Tab := by
  simp [Rows.laid_internal_strconv_uint64pow10, Lib.tabData, Lib.pow10Tab, List.range_succ]

/-- A sentinel's variable holds a pointer to a cell of its own. -/
def Sent (W : World) (g : Nat) (a : Addr) : Prop :=
  W.cell? ⟨g, 0, none⟩ = some (.iface 230 (.pointer (some a))) ∧ ∃ c t, W.heap[a.block]? = some (.cells c t (0, 0))

theorem sent_of {n : String} {text : List UInt8} {r : Laid} {W : World} {g : Nat} (h : laidMet Tryd.prog ((n, .iface "*errors.errorString" (.ptr (.agg [.lit (.string text)]))) :: r) W)
    (hg : Tryd.prog.globalNamed n = some g) (ht : (Tryd.prog.globals[g]?).map (·.type) = some 25) : ∃ a, W.cell? ⟨g, 0, none⟩ = some (.iface 230 (.pointer (some a))) := by
  obtain ⟨a, s, hv, _⟩ := laid_sentinel h hg ht Tryd.underlying25 rowES Tryd.underlying230 Tryd.underlying232 rfl rfl Tryd.underlying9 cellsES cellsStr
  exact ⟨a, by have h0 := World.var?_cell hg hv 0; simpa using h0⟩

def laid9 : Laid := [("math/bits.deBruijn32tab", Rows.laid_math_bits_deBruijn32tab), ("math/bits.deBruijn64tab", Rows.laid_math_bits_deBruijn64tab), ("internal/strconv.uint64pow10", Rows.laid_internal_strconv_uint64pow10), ("augur/api.ErrText", Rows.laid_augur_api_ErrText), ("augur/api.ErrSyntax", Rows.laid_augur_api_ErrSyntax), ("augur/api.ErrNest", Rows.laid_augur_api_ErrNest), ("augur/api.ErrLarge", Rows.laid_augur_api_ErrLarge), ("strconv.ErrRange", Rows.laid_strconv_ErrRange), ("strconv.ErrSyntax", Rows.laid_strconv_ErrSyntax)]

theorem met_of_H {W : World} (h : laidMetH Tryd.prog laid9 W) : laidMet Tryd.prog laid9 W := by
  unfold laidMetH at h
  rw [show (laid9.filter fun x => x.2.handleName?.isSome) = [] from by kernel_rfl] at h
  exact h

theorem env_of {W : World} (hH : laidMetH Tryd.prog laid9 W) : Env W ∧ ∃ f, Errs4 W f := by
  have h := met_of_H hH
  unfold laid9 at h
  have h1 := tl h
  have h2 := tl h1
  have h3 := tl h2
  have h4 := tl h3
  have h5 := tl h4
  have h6 := tl h5
  have h7 := tl h6
  have h8 := tl h7
  rw [pow_data] at h2
  obtain ⟨at_, ht⟩ := sent_of h3 gText gTextT
  obtain ⟨ax, hx⟩ := sent_of h4 gSx gSxT
  obtain ⟨an, hn⟩ := sent_of h5 gNest gNestT
  obtain ⟨al, hl⟩ := sent_of h6 gLarge gLargeT
  obtain ⟨ar, hr⟩ := sent_of h7 gRng gRngT
  obtain ⟨as_, hs⟩ := sent_of h8 gSyn gSynT
  have hp := Lib.tabIs_of_head gPow gPowT Tryd.underlying235 Tryd.underlying217 cellsU64 cellsPow h2
  refine ⟨⟨?_, ⟨_, _, hs⟩, ⟨_, _, hr⟩, hp⟩, fun i => if i = 0 then an else if i = 1 then al else if i = 2 then ax else at_, ⟨hn, hl, hx, ht⟩⟩
  obtain ⟨ps, ⟨g, t, cs, fuel, p, q, hg, _, hv, _⟩, _⟩ := h1
  obtain rfl := Option.some.inj (gB64.symm.trans hg)
  rcases Nat.lt_or_ge 22 W.heap.size with hlt | hge
  · omega
  · simp [World.var?, gB64, Array.getElem?_eq_none hge] at hv

/-! ### a world in which the listed variables hold what their initialisers lay -/
def putC (cs : Array Value) : Obj → Obj
  | .cells _ t frozen => .cells cs t frozen
  | o => o
def dataC : DataW Unit → Array Value
  | .agg l => (l.map fun
    | .lit (.int k z) => .int k z
    | _ => undef).toArray
  | _ => #[]
def textC : DataW Unit → Array Value
  | .iface _ (.ptr (.agg [.lit (.string l)])) => #[.string ⟨l.toArray⟩]
  | _ => #[]
noncomputable def low : Nat := (World.holding Tryd.prog default ⟨#[], #[], []⟩).heap.size
def esB (d : DataW Unit) : Obj := .cells (textC d) 232
noncomputable def esP (i : Nat) : Obj → Obj := putC #[.iface 230 (.pointer (some ⟨low + i, 0, none⟩))]
noncomputable def laidWorld (os : Os) : World :=
  let w0 := World.holding Tryd.prog os ⟨#[esB Rows.laid_augur_api_ErrText, esB Rows.laid_augur_api_ErrSyntax, esB Rows.laid_augur_api_ErrNest, esB Rows.laid_augur_api_ErrLarge, esB Rows.laid_strconv_ErrRange, esB Rows.laid_strconv_ErrSyntax], #[], []⟩
  { w0 with heap := ((((((((w0.heap.modify 21 (putC (dataC Rows.laid_math_bits_deBruijn32tab))).modify 22 (putC (dataC Rows.laid_math_bits_deBruijn64tab))).modify 20 (putC (dataC Rows.laid_internal_strconv_uint64pow10))).modify
      3 (esP 0)).modify 4 (esP 1)).modify 0 (esP 2)).modify 1 (esP 3)).modify 18 (esP 4)).modify 17 (esP 5) }

end Lx
end Go.Proofs.YtbbbbfglhphffaaDoor
