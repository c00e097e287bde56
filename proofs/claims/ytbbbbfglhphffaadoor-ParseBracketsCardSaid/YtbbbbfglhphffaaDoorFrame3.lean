/- From what a row lists of the package variables to what the walks ask of them, the errors' own cells among it. No conditions. -/
import Derived.Test.YtbbbbfglhphffaaDoorFrame2
namespace Go.Proofs.YtbbbbfglhphffaaDoor
set_option linter.unusedSimpArgs false
set_option linter.unusedVariables false
namespace Lx
open Go.ChangeShapes Go.WideShapes Go.ChangeAt Go.RowKit

/-- The four errors, each in a cell of its own block. -/
def Errs4B (w : World) (f : Nat → Addr) : Prop := Errs4 w f ∧ ∀ i, i < 4 → ∃ c t, w.heap[(f i).block]? = some (.cells c t (0, 0))
theorem Errs4B.below {w w' : World} {f : Nat → Addr} (h : Errs4B w f) (hb : Below w.heap.size w w') : Errs4B w' f :=
  ⟨h.1.below hb, fun i hi => by
    obtain ⟨c, t, e⟩ := h.2 i hi
    exact ⟨c, t, (hb.block _ (Array.getElem?_eq_some_iff.1 e).1).trans e⟩⟩
set_option maxRecDepth 100000 in
theorem sent_of2 {n : String} {text : List UInt8} {r : Laid} {W : World} {g : Nat} (h : laidMet Tryd.prog ((n, .iface "*errors.errorString" (.ptr (.agg [.lit (.string text)]))) :: r) W)
    (hg : Tryd.prog.globalNamed n = some g) (ht : (Tryd.prog.globals[g]?).map (·.type) = some 25) : ∃ a, W.cell? ⟨g, 0, none⟩ = some (.iface 230 (.pointer (some a))) ∧ ∃ c t, W.heap[a.block]? = some (.cells c t (0, 0)) := by
  obtain ⟨ps, ⟨g0, t0, cs0, f0, p0, q0, hg0, ht0, hv0, hd0, _, e0⟩, _, hrows⟩ := h
  obtain rfl := Option.some.inj (hg.symm.trans hg0)
  obtain rfl := Option.some.inj (ht.symm.trans ht0)
  subst e0
  have hcell := World.var?_cell hg0 hv0 0
  obtain ⟨l0⟩ := cs0
  have ok0 : ∀ u v, l0 = [.iface u v] → Value.okWide Tryd.prog W .any 0 u v := fun u v e => by
    subst e
    exact (hrows g 0 (by simp [MemPlace.row])).2 u v (by simpa using hcell)
  obtain ⟨a0, s0, rfl, _, _, _, rfl⟩ := errorString_of_trod Tryd.underlying25 rowES Tryd.underlying230 Tryd.underlying232 rfl rfl Tryd.underlying9 cellsES cellsStr hd0 ok0
  have hpl : MemPlace.row a0 1 = [.cell a0.block a0.off] := by simp [MemPlace.row]
  exact ⟨a0, by simpa using hcell, (hrows a0.block a0.off (by rw [hpl]; simp)).1⟩

theorem env_of3 {W : World} (hH : laidMetH Tryd.prog laid9 W) : Env W ∧ ∃ f, Errs4B W f := by
  have h := met_of_H hH
  unfold laid9 at h
  have h1 := tl h
  have h2 := tl h1
  have h3 := tl h2
  have h4 := tl h3
  have h5 := tl h4
  have h6 := tl h5
  have h7 := tl h6
  have h8 := tl h7
  rw [pow_data] at h2
  obtain ⟨at_, ht, kht⟩ := sent_of2 h3 gText gTextT
  obtain ⟨ax, hx, khx⟩ := sent_of2 h4 gSx gSxT
  obtain ⟨an, hn, khn⟩ := sent_of2 h5 gNest gNestT
  obtain ⟨al, hl, khl⟩ := sent_of2 h6 gLarge gLargeT
  obtain ⟨ar, hr⟩ := sent_of h7 gRng gRngT
  obtain ⟨as_, hs⟩ := sent_of h8 gSyn gSynT
  have hp := Lib.tabIs_of_head gPow gPowT Tryd.underlying235 Tryd.underlying217 cellsU64 cellsPow h2
  refine ⟨⟨?_, ⟨_, _, hs⟩, ⟨_, _, hr⟩, hp⟩, fun i => if i = 0 then an else if i = 1 then al else if i = 2 then ax else at_, ⟨hn, hl, hx, ht⟩, ?_⟩
  · obtain ⟨ps, ⟨g, t, cs, fuel, p, q, hg, _, hv, _⟩, _⟩ := h1
    obtain rfl := Option.some.inj (gB64.symm.trans hg)
    rcases Nat.lt_or_ge 22 W.heap.size with hlt | hge
    · omega
    · simp [World.var?, gB64, Array.getElem?_eq_none hge] at hv
  · intro i hi
    rcases (show i = 0 ∨ i = 1 ∨ i = 2 ∨ i = 3 by omega) with rfl | rfl | rfl | rfl
    · exact khn
    · exact khl
    · exact khx
    · exact kht

end Lx
end Go.Proofs.YtbbbbfglhphffaaDoor
