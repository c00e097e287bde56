/- The sixteen errors of package api, as the row lists them: each variable holds a pointer to a cell of its own, no two the same; and the contract of the reference's Num. Conditions: the variables hold so. -/
import Derived.Test.YtnahhlhkbfdlhaaGreatDoorFrame
import Derived.LaidEql
namespace Go.Proofs.YtnahhlhkbfdlhaaGreatDoor
set_option linter.unusedSimpArgs false
set_option linter.unusedVariables false
namespace Lx
open Go.ChangeShapes Go.WideShapes Go.ChangeAt Go.RowKit

/-- A listed sentinel: its variable's name and number, its text. -/
structure SEnt where
  name : String
  g : Nat
  text : List UInt8
def SEnt.laid (e : SEnt) : String × DataW Unit := (e.name, .iface "*errors.errorString" (.ptr (.agg [.lit (.string e.text)])))
abbrev sentV (a : Addr) : Value := .iface 159 (.pointer (some a))

set_option maxRecDepth 100000 in
theorem sents_go {W : World} : ∀ (L : List SEnt) (R : Laid) (ps : List MemPlace), DataW.LaidVars Tryz.prog W (L.map SEnt.laid ++ R) ps → ps.Nodup →
    (∀ b off, MemPlace.cell b off ∈ ps → (∃ c t, W.heap[b]? = some (.cells c t (0, 0))) ∧ ∀ u v, W.cell? ⟨b, off, none⟩ = some (.iface u v) → Value.okWide Tryz.prog W .any 0 u v) →
    (∀ e ∈ L, Tryz.prog.globalNamed e.name = some e.g ∧ (Tryz.prog.globals[e.g]?).map (·.type) = some 25) →
    ∃ al : List Addr, al.length = L.length ∧ al.Nodup ∧ (∀ a ∈ al, MemPlace.cell a.block a.off ∈ ps) ∧ ∀ (i : Nat) (a : Addr), al[i]? = some a → ∃ e : SEnt, L[i]? = some e ∧ W.cell? ⟨e.g, 0, none⟩ = some (sentV a)
  | [], _, _, _, _, _, _ => ⟨[], rfl, .nil, by simp, by simp⟩
  | e :: L, R, ps, hv, hn, hr, hg => by
    simp only [List.map_cons, List.cons_append, SEnt.laid] at hv
    obtain ⟨g, t, cs, fuel, p, q, h1, h2, h3, h4, h5, rfl⟩ := hv
    obtain ⟨k1, k2⟩ := hg e (List.mem_cons_self ..)
    obtain rfl := Option.some.inj (k1.symm.trans h1)
    obtain rfl := Option.some.inj (k2.symm.trans h2)
    have hcell := World.var?_cell h1 h3 0
    obtain ⟨l0⟩ := cs
    have ok0 : ∀ u v, l0 = [.iface u v] → Value.okWide Tryz.prog W .any 0 u v := fun u v h => by
      subst h
      exact (hr e.g 0 (by simp [MemPlace.row])).2 u v (by simpa using hcell)
    obtain ⟨a0, s0, rfl, _, _, _, rfl⟩ := errorString_of_trod Tryz.underlying25 rowES Tryz.underlying159 Tryz.underlying161 rfl rfl Tryz.underlying9 cellsES cellsStr h4 ok0
    have hpl : MemPlace.row a0 1 = [.cell a0.block a0.off] := by simp [MemPlace.row]
    rw [hpl] at hn hr ⊢
    have hn2 := List.nodup_append.1 hn
    obtain ⟨al, e1, e2, e3, e4⟩ := sents_go L R q h5 hn2.2.1 (fun b off hb => hr b off (List.mem_append_right _ hb)) (fun x hx => hg x (List.mem_cons_of_mem _ hx))
    refine ⟨a0 :: al, by simp [e1], List.nodup_cons.2 ⟨fun hm => ?_, e2⟩, ?_, ?_⟩
    · exact hn2.2.2 (.cell a0.block a0.off) (List.mem_append_right _ (List.mem_singleton.2 rfl)) _ (e3 a0 hm) rfl
    · intro a ha
      rcases List.mem_cons.1 ha with rfl | ha
      · exact List.mem_append_left _ (List.mem_append_right _ (List.mem_singleton.2 rfl))
      · exact List.mem_append_right _ (e3 a ha)
    · intro i a hi
      cases i with
      | zero =>
        simp only [List.getElem?_cons_zero, Option.some.injEq] at hi
        subst hi
        exact ⟨e, rfl, by simpa using hcell⟩
      | succ i =>
        simp only [List.getElem?_cons_succ] at hi ⊢
        exact e4 i a hi

/-- The sixteen variables, in the document's order. -/
def errId : Nat → Nat
  | 0 => 0 | 1 => 1 | 2 => 2 | 3 => 3 | 4 => 4 | 5 => 5 | 6 => 6 | 7 => 7
  | 8 => 8 | 9 => 9 | 10 => 10 | 11 => 11 | 12 => 12 | 13 => 13 | 14 => 14 | _ => 15

structure Sents (w : World) (f : Nat → Addr) : Prop where
  cell : ∀ i, i < 16 → w.cell? ⟨errId i, 0, none⟩ = some (sentV (f i))
  block : ∀ i, i < 16 → ∃ c t, w.heap[(f i).block]? = some (.cells c t (0, 0))
  ne : ∀ i j, i < 16 → j < 16 → i ≠ j → f i ≠ f j

theorem Sents.below {w w' : World} {f : Nat → Addr} (h : Sents w f) (hb : Below w.heap.size w w') : Sents w' f :=
  ⟨fun i hi => (hb.cell (World.block_lt_of_cell? w _ (h.cell i hi))).trans (h.cell i hi), fun i hi => by
    obtain ⟨c, t, e⟩ := h.block i hi
    exact ⟨c, t, (hb.block _ (Array.getElem?_eq_some_iff.1 e).1).trans e⟩, h.ne⟩

theorem eqlS_same (a : Addr) (W : World) : (binOp .eql 25 (sentV a) (sentV a)).run Tryz.prog W = .ok (.bool true) W := by
  obtain ⟨i, hi, hc⟩ : ∃ i, Tryz.prog.info? 159 = some i ∧ i.comparable = true := by
    have h : (Tryz.prog.info? 159).map (·.comparable) = some true := by kernel_rfl
    cases h2 : Tryz.prog.info? 159 with
    | none => rw [h2] at h; cases h
    | some i => rw [h2] at h; exact ⟨i, rfl, by simpa using h⟩
  obtain ⟨j, hj⟩ : ∃ j, Tryz.prog.info? 161 = some j := by
    have h : (Tryz.prog.info? 161).isSome = true := by kernel_rfl
    exact Option.isSome_iff_exists.1 h
  exact run_eql_iface_ptr_same W a Tryz.underlying25 Tryz.underlying159 hi hc hj
theorem eqlS_other {a b : Addr} (W : World) (hne : a ≠ b) (ha : ∃ c t, W.heap[a.block]? = some (.cells c t (0, 0))) (hb : ∃ c t, W.heap[b.block]? = some (.cells c t (0, 0))) : (binOp .eql 25 (sentV a) (sentV b)).run Tryz.prog W = .ok (.bool false) W := by
  obtain ⟨i, hi, hc⟩ : ∃ i, Tryz.prog.info? 159 = some i ∧ i.comparable = true := by
    have h : (Tryz.prog.info? 159).map (·.comparable) = some true := by kernel_rfl
    cases h2 : Tryz.prog.info? 159 with
    | none => rw [h2] at h; cases h
    | some i => rw [h2] at h; exact ⟨i, rfl, by simpa using h⟩
  obtain ⟨j, hj, hs⟩ : ∃ j, Tryz.prog.info? 161 = some j ∧ j.size ≠ 0 := by
    have h : (Tryz.prog.info? 161).map (·.size) = some 1 := by kernel_rfl
    cases h2 : Tryz.prog.info? 161 with
    | none => rw [h2] at h; cases h
    | some i => rw [h2] at h; exact ⟨i, rfl, by simp only [Option.map_some, Option.some.injEq] at h; omega⟩
  obtain ⟨_, _, ha⟩ := ha
  obtain ⟨_, _, hb⟩ := hb
  exact run_eql_iface_ptr_other W Tryz.underlying25 Tryz.underlying159 hi hc hj hs hne ha hb

theorem num_nil (w : World) : Calls Tryz.prog 10 #[.nilIface] w fun e w' => e = .returned (.int .i64 0) ∧ w = w' := by
  go_enter Tryz.func10, Tryz.ntmps10
  go_wp2
  go_ret
  exact ⟨rfl, rfl⟩

def rowS (f : Nat → Addr) : Array Value := #[sentV (f 0), sentV (f 1), sentV (f 2), sentV (f 3), sentV (f 4), sentV (f 5), sentV (f 6), sentV (f 7), sentV (f 8), sentV (f 9), sentV (f 10), sentV (f 11), sentV (f 12), sentV (f 13), sentV (f 14), sentV (f 15)]
theorem rowS_at (f : Nat → Addr) (k : Nat) (hk : k < 16) : (rowS f)[k]? = some (sentV (f k)) := by
  rcases k with _ | _ | _ | _ | _ | _ | _ | _ | _ | _ | _ | _ | _ | _ | _ | _ | k
  all_goals first | rfl | omega

set_option maxRecDepth 100000 in
set_option maxHeartbeats 2000000 in
theorem num_at (f : Nat → Addr) (i : Nat) (hi : i < 16) (w : World) (hS : Sents w f) :
    Calls Tryz.prog 10 #[sentV (f i)] w fun e w' => e = .returned (.int .i64 ((i : Int) + 1)) ∧ Below w.heap.size w w' := by
  have HS := Lib.hid hS
  have c0 := hS.cell 0 (by omega)
  have c1 := hS.cell 1 (by omega)
  have c2 := hS.cell 2 (by omega)
  have c3 := hS.cell 3 (by omega)
  have c4 := hS.cell 4 (by omega)
  have c5 := hS.cell 5 (by omega)
  have c6 := hS.cell 6 (by omega)
  have c7 := hS.cell 7 (by omega)
  have c8 := hS.cell 8 (by omega)
  have c9 := hS.cell 9 (by omega)
  have c10 := hS.cell 10 (by omega)
  have c11 := hS.cell 11 (by omega)
  have c12 := hS.cell 12 (by omega)
  have c13 := hS.cell 13 (by omega)
  have c14 := hS.cell 14 (by omega)
  have c15 := hS.cell 15 (by omega)
  simp only [errId] at c0 c1 c2 c3 c4 c5 c6 c7 c8 c9 c10 c11 c12 c13 c14 c15
  clear hS
  go_enter Tryz.func10, Tryz.ntmps10
  go_wp2
  clear c0 c1 c2 c3 c4 c5 c6 c7 c8 c9 c10 c11 c12 c13 c14 c15
  go_loop [27] (fun u => ∃ k : Nat, k ≤ i ∧ u = .int .i64 k) (fun u => 16 - (intOf u).toNat)
  case atStart => exact ⟨0, Nat.zero_le _, rfl⟩
  case round =>
    obtain ⟨k, hk, rfl⟩ := hrel
    have hb : Below w.heap.size w (w.alloc (.cells (rowS f) 25)) := (Below.refl _ _).alloc (Nat.le_refl _) _
    have hcell : (w.alloc (.cells (rowS f) 25)).cell? ⟨w.heap.size, k, none⟩ = some (sentV (f k)) := by
      rw [cell_of_row _ w.heap.size k _ _ _ (heap_alloc_new w _)]
      exact rowS_at f k (by omega)
    have hS2 := HS.out.below hb
    unfold rowS at hcell hS2
    by_cases hki : k = i
    · have heq := eqlS_same (f k)
      subst hki
      go_wp2
      go_ret
      exact ⟨rfl, (Below.refl _ _).alloc (Nat.le_refl _) _⟩
    · have heq := eqlS_other _ (hS2.ne i k hi (by omega) (fun e => hki e.symm)) (hS2.block i hi) (hS2.block k (by omega))
      clear hS2
      go_wp2
      go_round
      case rel => exact ⟨k + 1, by omega, by go_num⟩
      case measure => simp [intOf]; omega

end Lx
end Go.Proofs.YtnahhlhkbfdlhaaGreatDoor
