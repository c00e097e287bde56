/- The contracts of the reference's SameType and SameTypes at two values that hold the same thing: true. No conditions. -/
import Derived.Test.YtbbbbfglhphffaaDoorSameT
namespace Go.Proofs.YtbbbbfglhphffaaDoor
set_option linter.unusedSimpArgs false
set_option linter.unusedVariables false
namespace Lx
open Go Go.RowKit

set_option maxRecDepth 100000 in
set_option maxHeartbeats 1000000 in
theorem sameType_step (d : Nat) (HS : Hid (SameOk 20 (ArgsV 99 3 (TypeV d)))) : SameOk 40 (TypeV (d + 1)) := by
  rintro ⟨k, s, l⟩ v1 v2 lo1 hi1 lo2 hi2 w ⟨va, rfl, ha⟩ ⟨vb, rfl, hb⟩ b1 b2
  have HA := Lib.hid ha
  have HB := Lib.hid hb
  obtain ⟨A1, n1, c1, rfl⟩ := ha.slice
  obtain ⟨A2, n2, c2, rfl⟩ := hb.slice
  clear ha hb
  go_enter Tryd.func40, Tryd.ntmps40
  go_wp2_with fail
  go_at_call 20
  have hw2 := ((Below.refl w.heap.size w).alloc (Nat.le_refl _) (.cells #[.bool k, .string (bs s), .slice A1 n1 c1] 99)).alloc (by simp) (.cells #[.bool k, .string (bs s), .slice A2 n2 c2] 99)
  refine (HS.out l _ _ lo1 hi1 lo2 hi2 _ (same_of_below (ArgsV.stable _ _ (TypeV.stable d)) HA.out hw2 b1) (same_of_below (ArgsV.stable _ _ (TypeV.stable d)) HB.out hw2 b2) (by simp; omega) (by simp; omega)).mono ?_
  rintro e w3 ⟨rfl, hb3⟩
  have HB3 := Lib.hid (hw2.trans (hb3.mono hw2.size))
  clear hb3 hw2
  go_wp2_with fail
  go_ret
  exact ⟨rfl, HB3.out⟩

set_option maxRecDepth 100000 in
set_option maxHeartbeats 1000000 in
theorem sameTypes_step (d : Nat) (HS : Hid (SameOk 40 (TypeV d))) : SameOk 20 (ArgsV 99 3 (TypeV d)) := by
  intro l v1 v2 lo1 hi1 lo2 hi2 w h1 h2 b1 b2
  have H1 := Lib.hid h1
  have H2 := Lib.hid h2
  obtain ⟨A1, c1, rfl, _⟩ := h1.at (fun _ _ _ _ _ h => TypeV.cells h) (by decide)
  obtain ⟨A2, c2, rfl, _⟩ := h2.at (fun _ _ _ _ _ h => TypeV.cells h) (by decide)
  have hlen := h1.few
  unfold maxLen at hlen
  clear h1 h2
  go_enter Tryd.func20, Tryd.ntmps20
  go_wp2_with fail
  go_loopw [13] (fun t wr => ∃ k : Nat, k ≤ l.length ∧ t = .int .i64 k ∧ Hid (Below w.heap.size w wr)) (fun t _ => l.length - (intOf t).toNat)
  case atStart => exact ⟨0, Nat.zero_le _, rfl, Lib.hid (Below.refl _ _)⟩
  case round =>
    obtain ⟨k, hk, rfl, HB⟩ := hrel
    by_cases hlt : k < l.length
    · have r1 := same_of_below (ArgsV.stable _ _ (TypeV.stable d)) H1.out HB.out b1
      have r2 := same_of_below (ArgsV.stable _ _ (TypeV.stable d)) H2.out HB.out b2
      obtain ⟨_, _, q1, r1⟩ := r1.at (fun _ _ _ _ _ h => TypeV.cells h) (by decide)
      obtain ⟨_, _, q2, r2⟩ := r2.at (fun _ _ _ _ _ h => TypeV.cells h) (by decide)
      injection q1 with q1 _ qc1
      injection q2 with q2 _ qc2
      subst q1 q2
      clear qc1 qc2
      obtain ⟨g1, u1, p1, t1, rfl, _, m1, hv1, cc1⟩ := r1 k hlt
      obtain ⟨g2, u2, p2, t2, rfl, _, m2, hv2, cc2⟩ := r2 k hlt
      obtain ⟨x1, x2, x4, x5, x6, rfl⟩ := TypeV.this d _ _ _ _ _ hv1
      obtain ⟨y1, y2, y4, y5, y6, rfl⟩ := TypeV.this d _ _ _ _ _ hv2
      have a0 := (cc1 0 (by decide)).trans rfl
      have a1 := (cc1 1 (by decide)).trans rfl
      have a2 := (cc1 2 (by decide)).trans rfl
      have d0 := (cc2 0 (by decide)).trans rfl
      have d1 := (cc2 1 (by decide)).trans rfl
      have d2 := (cc2 2 (by decide)).trans rfl
      simp only [cellsL, Value.cells, List.getElem?_cons_zero, List.getElem?_cons_succ, Nat.add_zero] at a0 a1 a2 d0 d1 d2
      have HV1 := Lib.hid hv1
      have HV2 := Lib.hid hv2
      have hk0 : (0 : Int) ≤ (k : Int) := by omega
      have hk1 : (k : Int) < (l.length : Int) := by omega
      have hdc : decide (k < l.length) = true := by simpa using hlt
      have hsz := HB.out.size
      clear cc1 cc2 hv1 hv2 r1 r2
      go_wp2_with fail
      go_still_tail 8, (by kernel_rfl)
      have HBX : Below w.heap.size w wr.drew := ⟨HB.out.os, HB.out.tape, HB.out.output, HB.out.size, HB.out.block⟩
      have HV1 := Lib.hid (TypeV.stable d _ _ _ _ _ wr.drew HV1.out (fun _ _ _ => rfl))
      have HV2 := Lib.hid (TypeV.stable d _ _ _ _ _ wr.drew HV2.out (fun _ _ _ => rfl))
      have hsz2 : w.heap.size ≤ wr.drew.heap.size := hsz
      change wpList _ _ _ _ _ wr.drew
      generalize wr.drew = X at HBX HV1 HV2 hsz2 ⊢
      have HBX := Lib.hid HBX
      clear a0 a1 a2 d0 d1 d2
      go_wp2_with fail
      go_at_call 40
      refine (HS.out _ _ _ p1 t1 p2 t2 _ HV1.out HV2.out (by omega) (by omega)).mono ?_
      rintro e w3 ⟨rfl, hb3⟩
      have HB3 := Lib.hid (HBX.out.trans (hb3.mono HBX.out.size))
      clear hb3
      go_wp2_with fail
      go_roundw
      case rel => exact ⟨k + 1, by omega, by go_num, HB3⟩
      case measure => simp [intOf]; omega
    · obtain rfl : k = l.length := by omega
      have hdc : decide (l.length < l.length) = false := by simp
      go_wp2_with fail
      go_ret
      exact ⟨rfl, HB.out⟩

theorem sameType_any : ∀ d, SameOk 40 (TypeV d)
  | 0 => fun _ _ _ _ _ _ _ _ h => h.elim
  | d + 1 => sameType_step d (Lib.hid (sameTypes_step d (Lib.hid (sameType_any d))))
theorem sameTypes_any (d : Nat) : SameOk 20 (ArgsV 99 3 (TypeV d)) := sameTypes_step d (Lib.hid (sameType_any d))

end Lx
end Go.Proofs.YtbbbbfglhphffaaDoor
