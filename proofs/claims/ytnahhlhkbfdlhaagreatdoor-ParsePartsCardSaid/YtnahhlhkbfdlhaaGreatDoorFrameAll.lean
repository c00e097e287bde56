/- From a row that lists all sixteen errors of package api to what the walks ask of them; and a world in which they hold what their initialisers lay. No conditions. -/
import Derived.Test.YtnahhlhkbfdlhaaGreatDoorSents
namespace Go.Proofs.YtnahhlhkbfdlhaaGreatDoor
set_option linter.unusedSimpArgs false
set_option linter.unusedVariables false
namespace Lx
open Go.ChangeShapes Go.WideShapes Go.ChangeAt Go.RowKit

def textOf : DataW Unit → List UInt8
  | .iface _ (.ptr (.agg [.lit (.string l)])) => l
  | _ => []

def ents18 : List SEnt := [⟨ "augur/api.ErrText", 0, textOf Rows.laid_augur_api_ErrText⟩, ⟨ "augur/api.ErrSyntax", 1, textOf Rows.laid_augur_api_ErrSyntax⟩, ⟨ "augur/api.ErrNest", 2, textOf Rows.laid_augur_api_ErrNest⟩, ⟨ "augur/api.ErrLarge", 3, textOf Rows.laid_augur_api_ErrLarge⟩, ⟨ "augur/api.ErrNames", 4, textOf Rows.laid_augur_api_ErrNames⟩, ⟨ "augur/api.ErrTypes", 5, textOf Rows.laid_augur_api_ErrTypes⟩, ⟨ "augur/api.ErrModes", 6, textOf Rows.laid_augur_api_ErrModes⟩, ⟨ "augur/api.ErrDet", 7, textOf Rows.laid_augur_api_ErrDet⟩, ⟨ "augur/api.ErrNone", 8, textOf Rows.laid_augur_api_ErrNone⟩, ⟨ "augur/api.ErrData", 9, textOf Rows.laid_augur_api_ErrData⟩, ⟨ "augur/api.ErrBytes", 10, textOf Rows.laid_augur_api_ErrBytes⟩, ⟨ "augur/api.ErrCode", 11, textOf Rows.laid_augur_api_ErrCode⟩, ⟨ "augur/api.ErrFuel", 12, textOf Rows.laid_augur_api_ErrFuel⟩, ⟨ "augur/api.ErrHeap", 13, textOf Rows.laid_augur_api_ErrHeap⟩, ⟨ "augur/api.ErrFrames", 14, textOf Rows.laid_augur_api_ErrFrames⟩, ⟨ "augur/api.ErrState", 15, textOf Rows.laid_augur_api_ErrState⟩, ⟨ "strconv.ErrRange", 17, textOf Rows.laid_strconv_ErrRange⟩, ⟨ "strconv.ErrSyntax", 16, textOf Rows.laid_strconv_ErrSyntax⟩]
def laid21 : Laid := [("math/bits.deBruijn32tab", Rows.laid_math_bits_deBruijn32tab), ("math/bits.deBruijn64tab", Rows.laid_math_bits_deBruijn64tab), ("internal/strconv.uint64pow10", Rows.laid_internal_strconv_uint64pow10), ("augur/api.ErrText", Rows.laid_augur_api_ErrText), ("augur/api.ErrSyntax", Rows.laid_augur_api_ErrSyntax), ("augur/api.ErrNest", Rows.laid_augur_api_ErrNest), ("augur/api.ErrLarge", Rows.laid_augur_api_ErrLarge), ("augur/api.ErrNames", Rows.laid_augur_api_ErrNames), ("augur/api.ErrTypes", Rows.laid_augur_api_ErrTypes), ("augur/api.ErrModes", Rows.laid_augur_api_ErrModes), ("augur/api.ErrDet", Rows.laid_augur_api_ErrDet), ("augur/api.ErrNone", Rows.laid_augur_api_ErrNone), ("augur/api.ErrData", Rows.laid_augur_api_ErrData), ("augur/api.ErrBytes", Rows.laid_augur_api_ErrBytes), ("augur/api.ErrCode", Rows.laid_augur_api_ErrCode), ("augur/api.ErrFuel", Rows.laid_augur_api_ErrFuel), ("augur/api.ErrHeap", Rows.laid_augur_api_ErrHeap), ("augur/api.ErrFrames", Rows.laid_augur_api_ErrFrames), ("augur/api.ErrState", Rows.laid_augur_api_ErrState), ("strconv.ErrRange", Rows.laid_strconv_ErrRange), ("strconv.ErrSyntax", Rows.laid_strconv_ErrSyntax)]
theorem laid21_eq : laid21 = ("math/bits.deBruijn32tab", Rows.laid_math_bits_deBruijn32tab) :: ("math/bits.deBruijn64tab", Rows.laid_math_bits_deBruijn64tab) :: ("internal/strconv.uint64pow10", Rows.laid_internal_strconv_uint64pow10) :: (ents18.map SEnt.laid ++ []) := rfl
theorem gE0 : Tryz.prog.globalNamed "augur/api.ErrText" = some 0 ∧ (Tryz.prog.globals[0]?).map (·.type) = some 25 := ⟨by kernel_rfl, by kernel_rfl⟩
theorem gE1 : Tryz.prog.globalNamed "augur/api.ErrSyntax" = some 1 ∧ (Tryz.prog.globals[1]?).map (·.type) = some 25 := ⟨by kernel_rfl, by kernel_rfl⟩
theorem gE2 : Tryz.prog.globalNamed "augur/api.ErrNest" = some 2 ∧ (Tryz.prog.globals[2]?).map (·.type) = some 25 := ⟨by kernel_rfl, by kernel_rfl⟩
theorem gE3 : Tryz.prog.globalNamed "augur/api.ErrLarge" = some 3 ∧ (Tryz.prog.globals[3]?).map (·.type) = some 25 := ⟨by kernel_rfl, by kernel_rfl⟩
theorem gE4 : Tryz.prog.globalNamed "augur/api.ErrNames" = some 4 ∧ (Tryz.prog.globals[4]?).map (·.type) = some 25 := ⟨by kernel_rfl, by kernel_rfl⟩
theorem gE5 : Tryz.prog.globalNamed "augur/api.ErrTypes" = some 5 ∧ (Tryz.prog.globals[5]?).map (·.type) = some 25 := ⟨by kernel_rfl, by kernel_rfl⟩
theorem gE6 : Tryz.prog.globalNamed "augur/api.ErrModes" = some 6 ∧ (Tryz.prog.globals[6]?).map (·.type) = some 25 := ⟨by kernel_rfl, by kernel_rfl⟩
theorem gE7 : Tryz.prog.globalNamed "augur/api.ErrDet" = some 7 ∧ (Tryz.prog.globals[7]?).map (·.type) = some 25 := ⟨by kernel_rfl, by kernel_rfl⟩
theorem gE8 : Tryz.prog.globalNamed "augur/api.ErrNone" = some 8 ∧ (Tryz.prog.globals[8]?).map (·.type) = some 25 := ⟨by kernel_rfl, by kernel_rfl⟩
theorem gE9 : Tryz.prog.globalNamed "augur/api.ErrData" = some 9 ∧ (Tryz.prog.globals[9]?).map (·.type) = some 25 := ⟨by kernel_rfl, by kernel_rfl⟩
theorem gE10 : Tryz.prog.globalNamed "augur/api.ErrBytes" = some 10 ∧ (Tryz.prog.globals[10]?).map (·.type) = some 25 := ⟨by kernel_rfl, by kernel_rfl⟩
theorem gE11 : Tryz.prog.globalNamed "augur/api.ErrCode" = some 11 ∧ (Tryz.prog.globals[11]?).map (·.type) = some 25 := ⟨by kernel_rfl, by kernel_rfl⟩
theorem gE12 : Tryz.prog.globalNamed "augur/api.ErrFuel" = some 12 ∧ (Tryz.prog.globals[12]?).map (·.type) = some 25 := ⟨by kernel_rfl, by kernel_rfl⟩
theorem gE13 : Tryz.prog.globalNamed "augur/api.ErrHeap" = some 13 ∧ (Tryz.prog.globals[13]?).map (·.type) = some 25 := ⟨by kernel_rfl, by kernel_rfl⟩
theorem gE14 : Tryz.prog.globalNamed "augur/api.ErrFrames" = some 14 ∧ (Tryz.prog.globals[14]?).map (·.type) = some 25 := ⟨by kernel_rfl, by kernel_rfl⟩
theorem gE15 : Tryz.prog.globalNamed "augur/api.ErrState" = some 15 ∧ (Tryz.prog.globals[15]?).map (·.type) = some 25 := ⟨by kernel_rfl, by kernel_rfl⟩
theorem gE16 : Tryz.prog.globalNamed "strconv.ErrRange" = some 17 ∧ (Tryz.prog.globals[17]?).map (·.type) = some 25 := ⟨by kernel_rfl, by kernel_rfl⟩
theorem gE17 : Tryz.prog.globalNamed "strconv.ErrSyntax" = some 16 ∧ (Tryz.prog.globals[16]?).map (·.type) = some 25 := ⟨by kernel_rfl, by kernel_rfl⟩
theorem ents18_ok : ∀ e ∈ ents18, Tryz.prog.globalNamed e.name = some e.g ∧ (Tryz.prog.globals[e.g]?).map (·.type) = some 25 := by
  intro e he
  simp only [ents18, List.mem_cons, List.not_mem_nil, or_false] at he
  rcases he with rfl | rfl | rfl | rfl | rfl | rfl | rfl | rfl | rfl | rfl | rfl | rfl | rfl | rfl | rfl | rfl | rfl | rfl
  · exact gE0
  · exact gE1
  · exact gE2
  · exact gE3
  · exact gE4
  · exact gE5
  · exact gE6
  · exact gE7
  · exact gE8
  · exact gE9
  · exact gE10
  · exact gE11
  · exact gE12
  · exact gE13
  · exact gE14
  · exact gE15
  · exact gE16
  · exact gE17

theorem met_of_H21 {W : World} (h : laidMetH Tryz.prog laid21 W) : laidMet Tryz.prog laid21 W := by
  unfold laidMetH at h
  rw [show (laid21.filter fun x => x.2.handleName?.isSome) = [] from by kernel_rfl] at h
  exact h

theorem env_of_laid21 {W : World} (hH : laidMetH Tryz.prog laid21 W) : Env W ∧ ∃ f, Sents W f := by
  have h := met_of_H21 hH
  rw [laid21_eq] at h
  have h1 := tl h
  have h2 := tl h1
  have h3 := tl h2
  rw [pow_data] at h2
  obtain ⟨ps, hv, hn, hr⟩ := h3
  obtain ⟨al, e1, e2, e3, e4⟩ := sents_go ents18 [] ps hv hn hr ents18_ok
  have hlen : al.length = 18 := e1
  have hat : ∀ i, i < 18 → al[i]? = some (al.getD i ⟨0, 0, none⟩) := fun i hi => by
    rw [List.getElem?_eq_getElem (by omega), List.getD_eq_getElem?_getD, List.getElem?_eq_getElem (by omega)]
    rfl
  have hp := Lib.tabIs_of_head gPow gPowT Tryz.underlying164 Tryz.underlying146 cellsU64 cellsPow h2
  refine ⟨⟨?_, ?_, ?_, hp⟩, fun i => al.getD i ⟨0, 0, none⟩, ⟨?_, ?_, ?_⟩⟩
  · obtain ⟨ps, ⟨g, t, cs, fuel, p, q, hg, _, hv, _⟩, _⟩ := h1
    obtain rfl := Option.some.inj (gB64.symm.trans hg)
    rcases Nat.lt_or_ge 21 W.heap.size with hlt | hge
    · omega
    · simp [World.var?, gB64, Array.getElem?_eq_none hge] at hv
  · obtain ⟨e, he, hc⟩ := e4 17 _ (hat 17 (by omega))
    cases he
    exact ⟨_, _, hc⟩
  · obtain ⟨e, he, hc⟩ := e4 16 _ (hat 16 (by omega))
    cases he
    exact ⟨_, _, hc⟩
  · intro i hi
    obtain ⟨e, he, hc⟩ := e4 i _ (hat i (by omega))
    rcases i with _ | _ | _ | _ | _ | _ | _ | _ | _ | _ | _ | _ | _ | _ | _ | _ | i
    all_goals first | omega | (cases he; exact hc)
  · intro i hi
    exact (hr _ _ (e3 _ (List.mem_of_getElem? (hat i (by omega))))).1
  · intro i j hi hj hij he
    have h1 := hat i (by omega)
    have h2 := hat j (by omega)
    exact hij ((List.getElem?_inj (by omega) e2).1 (h1.trans ((congrArg some he).trans h2.symm)))

noncomputable def laidWorld21 (os : Os) : World :=
  let w0 := World.holding Tryz.prog os ⟨#[esB Rows.laid_augur_api_ErrText, esB Rows.laid_augur_api_ErrSyntax, esB Rows.laid_augur_api_ErrNest, esB Rows.laid_augur_api_ErrLarge, esB Rows.laid_augur_api_ErrNames, esB Rows.laid_augur_api_ErrTypes, esB Rows.laid_augur_api_ErrModes, esB Rows.laid_augur_api_ErrDet, esB Rows.laid_augur_api_ErrNone, esB Rows.laid_augur_api_ErrData, esB Rows.laid_augur_api_ErrBytes, esB Rows.laid_augur_api_ErrCode, esB Rows.laid_augur_api_ErrFuel, esB Rows.laid_augur_api_ErrHeap, esB Rows.laid_augur_api_ErrFrames, esB Rows.laid_augur_api_ErrState, esB Rows.laid_strconv_ErrRange, esB Rows.laid_strconv_ErrSyntax], #[], []⟩
  { w0 with heap := (((((((((((((((((((((w0.heap.modify 20 (putC (dataC Rows.laid_math_bits_deBruijn32tab))).modify 21 (putC (dataC Rows.laid_math_bits_deBruijn64tab))).modify 19 (putC (dataC Rows.laid_internal_strconv_uint64pow10))).modify 0 (esP 0)).modify 1 (esP 1)).modify 2 (esP 2)).modify 3 (esP 3)).modify 4 (esP 4)).modify 5 (esP 5)).modify 6 (esP 6)).modify 7 (esP 7)).modify 8 (esP 8)).modify 9 (esP 9)).modify 10 (esP 10)).modify 11 (esP 11)).modify 12 (esP 12)).modify 13 (esP 13)).modify 14 (esP 14)).modify 15 (esP 15)).modify 17 (esP 16)).modify 16 (esP 17)) }

end Lx
end Go.Proofs.YtnahhlhkbfdlhaaGreatDoor
