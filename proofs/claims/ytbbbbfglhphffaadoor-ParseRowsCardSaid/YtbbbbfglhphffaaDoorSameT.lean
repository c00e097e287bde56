/- The contracts of the reference's SameTerm and SameTerms at two values that hold the same thing: true. No conditions. -/
import Derived.Test.YtbbbbfglhphffaaDoorSameS
import Derived.StillTailTactics
namespace Go.Proofs.YtbbbbfglhphffaaDoor
set_option linter.unusedSimpArgs false
set_option linter.unusedVariables false
namespace Lx
open Go Go.RowKit

/-- Two values that hold one thing are told to be the same. -/
def SameOk {α : Type} (F : FuncId) (V : Holds α) : Prop := ∀ (x : α) (v1 v2 : Value) (lo1 hi1 lo2 hi2 : Nat) (w : World), V x v1 lo1 hi1 w → V x v2 lo2 hi2 w → hi1 ≤ w.heap.size → hi2 ≤ w.heap.size →
  Calls Tryd.prog F #[v1, v2] w fun e w' => e = .returned (.bool true) ∧ Below w.heap.size w w'

set_option maxRecDepth 100000 in
set_option maxHeartbeats 1000000 in
theorem sameTerm_step (d : Nat) (HS : Hid (SameOk 30 (ArgsV 32 4 (TermV d)))) : SameOk 29 (TermV (d + 1)) := by
  rintro ⟨k, s, z, l⟩ v1 v2 lo1 hi1 lo2 hi2 w ⟨va, rfl, ha⟩ ⟨vb, rfl, hb⟩ b1 b2
  have HA := Lib.hid ha
  have HB := Lib.hid hb
  obtain ⟨A1, n1, c1, rfl⟩ := ha.slice
  obtain ⟨A2, n2, c2, rfl⟩ := hb.slice
  clear ha hb
  go_enter Tryd.func29, Tryd.ntmps29
  go_wp2_with fail
  go_at_call 30
  have hw2 := ((Below.refl w.heap.size w).alloc (Nat.le_refl _) (.cells #[.int .i64 k, .string (bs s), .int .i64 z, .slice A1 n1 c1] 32)).alloc (by simp) (.cells #[.int .i64 k, .string (bs s), .int .i64 z, .slice A2 n2 c2] 32)
  refine (HS.out l _ _ lo1 hi1 lo2 hi2 _ (same_of_below (ArgsV.stable _ _ (TermV.stable d)) HA.out hw2 b1) (same_of_below (ArgsV.stable _ _ (TermV.stable d)) HB.out hw2 b2) (by simp; omega) (by simp; omega)).mono ?_
  rintro e w3 ⟨rfl, hb3⟩
  have HB3 := Lib.hid (hw2.trans (hb3.mono hw2.size))
  clear hb3 hw2
  go_wp2_with fail
  go_ret
  exact ⟨rfl, HB3.out⟩

set_option maxRecDepth 100000 in
set_option maxHeartbeats 1000000 in
theorem sameTerms_step (d : Nat) (HS : Hid (SameOk 29 (TermV d))) : SameOk 30 (ArgsV 32 4 (TermV d)) := by
  intro l v1 v2 lo1 hi1 lo2 hi2 w h1 h2 b1 b2
  have H1 := Lib.hid h1
  have H2 := Lib.hid h2
  obtain ⟨A1, c1, rfl, _⟩ := h1.at (fun _ _ _ _ _ h => TermV.cells h) (by decide)
  obtain ⟨A2, c2, rfl, _⟩ := h2.at (fun _ _ _ _ _ h => TermV.cells h) (by decide)
  have hlen := h1.few
  unfold maxLen at hlen
  clear h1 h2
  go_enter Tryd.func30, Tryd.ntmps30
  go_wp2_with fail
  go_loopw [13] (fun t wr => ∃ k : Nat, k ≤ l.length ∧ t = .int .i64 k ∧ Hid (Below w.heap.size w wr)) (fun t _ => l.length - (intOf t).toNat)
  case atStart => exact ⟨0, Nat.zero_le _, rfl, Lib.hid (Below.refl _ _)⟩
  case round =>
    obtain ⟨k, hk, rfl, HB⟩ := hrel
    by_cases hlt : k < l.length
    · have r1 := same_of_below (ArgsV.stable _ _ (TermV.stable d)) H1.out HB.out b1
      have r2 := same_of_below (ArgsV.stable _ _ (TermV.stable d)) H2.out HB.out b2
      obtain ⟨_, _, q1, r1⟩ := r1.at (fun _ _ _ _ _ h => TermV.cells h) (by decide)
      obtain ⟨_, _, q2, r2⟩ := r2.at (fun _ _ _ _ _ h => TermV.cells h) (by decide)
      injection q1 with q1 _ qc1
      injection q2 with q2 _ qc2
      subst q1 q2
      clear qc1 qc2
      obtain ⟨g1, u1, p1, t1, rfl, _, m1, hv1, cc1⟩ := r1 k hlt
      obtain ⟨g2, u2, p2, t2, rfl, _, m2, hv2, cc2⟩ := r2 k hlt
      obtain ⟨x1, x2, x3, x4, x5, x6, rfl⟩ := hv1.shape
      obtain ⟨y1, y2, y3, y4, y5, y6, rfl⟩ := hv2.shape
      have a0 := (cc1 0 (by decide)).trans rfl
      have a1 := (cc1 1 (by decide)).trans rfl
      have a2 := (cc1 2 (by decide)).trans rfl
      have a3 := (cc1 3 (by decide)).trans rfl
      have d0 := (cc2 0 (by decide)).trans rfl
      have d1 := (cc2 1 (by decide)).trans rfl
      have d2 := (cc2 2 (by decide)).trans rfl
      have d3 := (cc2 3 (by decide)).trans rfl
      simp only [cellsL, Value.cells, List.getElem?_cons_zero, List.getElem?_cons_succ, Nat.add_zero] at a0 a1 a2 a3 d0 d1 d2 d3
      have HV1 := Lib.hid hv1
      have HV2 := Lib.hid hv2
      have hk0 : (0 : Int) ≤ (k : Int) := by omega
      have hk1 : (k : Int) < (l.length : Int) := by omega
      have hdc : decide (k < l.length) = true := by simpa using hlt
      have hsz := HB.out.size
      clear cc1 cc2 hv1 hv2 r1 r2
      go_wp2_with fail
      go_still_tail 8, (by kernel_rfl)
      have HBX : Below w.heap.size w wr.drew := ⟨HB.out.os, HB.out.tape, HB.out.output, HB.out.size, HB.out.block⟩
      have HV1 := Lib.hid (TermV.stable d _ _ _ _ _ wr.drew HV1.out (fun _ _ _ => rfl))
      have HV2 := Lib.hid (TermV.stable d _ _ _ _ _ wr.drew HV2.out (fun _ _ _ => rfl))
      have hsz2 : w.heap.size ≤ wr.drew.heap.size := hsz
      change wpList _ _ _ _ _ wr.drew
      generalize wr.drew = X at HBX HV1 HV2 hsz2 ⊢
      have HBX := Lib.hid HBX
      clear a0 a1 a2 a3 d0 d1 d2 d3
      go_wp2_with fail
      go_at_call 29
      refine (HS.out _ _ _ p1 t1 p2 t2 _ HV1.out HV2.out (by omega) (by omega)).mono ?_
      rintro e w3 ⟨rfl, hb3⟩
      have HB3 := Lib.hid (HBX.out.trans (hb3.mono HBX.out.size))
      clear hb3
      go_wp2_with fail
      go_roundw
      case rel => exact ⟨k + 1, by omega, by go_num, HB3⟩
      case measure => simp [intOf]; omega
    · obtain rfl : k = l.length := by omega
      have hdc : decide (l.length < l.length) = false := by simp
      go_wp2_with fail
      go_ret
      exact ⟨rfl, HB.out⟩

end Lx
end Go.Proofs.YtbbbbfglhphffaaDoor
