/- The contract of the reference's Word at an int. Conditions: the place lies in the text; the text has at most 2^47 bytes; Int's answer at the digits. -/
import Derived.Test.YtdalldhgfdnaeaaDoorRefWord
import Derived.Deep.RegionHeld3
namespace Go.Proofs.YtdalldhgfdnaeaaDoor
namespace Lx
open Go Go.RowKit

set_option maxRecDepth 100000 in
set_option maxHeartbeats 20000000 in
theorem refWord_num (s : ByteArray) (hs : s.size ≤ 140737488355328) (p : Nat) (hp : p < s.size) (hna : alfI ((s[p]).toNat : Int) = false) (dg : Bool) (hdg : digI ((s[p]).toNat : Int) = dg) (hdm : dg = true ∨ ((s[p]).toNat : Int) == 45)
    (q : Nat) (hq : p + 1 + runL digI (s.data.toList.drop (p + 1)) = q) (v : Int) (ok b : Bool)
    (hI : ∀ w, Calls Tryd.prog 34 #[.string (s.extract p q)] w fun e w' => e = .returned (.tuple #[.int .i64 v, .bool ok]) ∧ w = w')
    (hok : (ok = false ∧ b = false) ∨ (ok = true ∧ q = s.size ∧ b = true) ∨ (ok = true ∧ ∃ h : q < s.size, alfI ((s[q]).toNat : Int) = !b)) (w : World) :
    Calls Tryd.prog 25 #[.string s, .int .i64 p] w fun e w' => e = .returned (.tuple #[.agg #[.int .i64 3, .string (s.extract p q), .int .i64 v], .bool b]) ∧ Below w.heap.size w w' := by
  have hle := runL_le digI (s.data.toList.drop (p + 1))
  rw [List.length_drop] at hle
  have hsl : s.data.toList.length = s.size := by simp
  rw [hsl] at hle
  have h1 := letter_any ((s[p]).toNat : Int)
  rw [hna] at h1
  have H1 := Lib.hid h1
  have h2 := digit_any ((s[p]).toNat : Int)
  rw [hdg] at h2
  have H2 := Lib.hid h2
  have HD := Lib.hid digit_any
  have HL := Lib.hid letter_any
  have HI := Lib.hid hI
  have HK := Lib.hid hok
  have HS := Lib.hid (fun k hk => runB_step digI s k hk)
  have HE := Lib.hid (fun k hk => runB_end digI s k hk)
  have HO := Lib.hid (fun k hk => runB_over digI s k hk)
  have HQ := Lib.hid hq
  have hqs : q ≤ s.size := by omega
  have hpq : p + 1 ≤ q := by omega
  clear hq hle hsl hna h1 h2 hdg hI hok
  replace hdm : dg = true ∨ (dg = false ∧ (((s[p]).toNat : Int) == 45) = true) := by
    cases dg
    · exact .inr ⟨rfl, by simpa using hdm⟩
    · exact .inl rfl
  rcases hdm with rfl | ⟨rfl, h45⟩
  all_goals
    go_enter Tryd.func25, Tryd.ntmps25
    go_wp2_with (first | (go_at_call 32; refine (H1.out _).mono ?_; rintro e w' ⟨rfl, rfl⟩) | (go_at_call 33; refine (H2.out _).mono ?_; rintro e w' ⟨rfl, rfl⟩))
    go_loop [7] (fun i => ∃ k : Nat, k ≤ s.size ∧ i = .int .i64 k ∧ Hid (q = k + runL digI (s.data.toList.drop k))) (fun i => s.size - (intOf i).toNat)
    case atStart => exact ⟨p + 1, by omega, by go_num, Lib.hid HQ.out.symm⟩
    case round =>
      obtain ⟨k, hk, rfl, hr⟩ := hrel
      by_cases hlt : k < s.size
      · have HS1 := HS.out k hlt
        have HE1 := HE.out k hlt
        have h2 := HD.out ((s[k]).toNat : Int)
        cases hdg : digI ((s[k]).toNat : Int) with
        | true =>
          have HS2 := Lib.hid (HS1 hdg)
          rw [hdg] at h2
          have H3 := Lib.hid h2
          clear h2 hdg HS1 HE1
          go_wp2_with (go_at_call 33; refine (H3.out _).mono ?_; rintro e w' ⟨rfl, rfl⟩)
          go_round
          case rel => exact ⟨k + 1, by omega, by go_num, Lib.hid (by have := hr.out; have := HS2.out; omega)⟩
          case measure => simp [intOf]; omega
        | false =>
          have HE2 := Lib.hid (HE1 hdg)
          rw [hdg] at h2
          have H3 := Lib.hid h2
          have hkq : k = q := by have := hr.out; have := HE2.out; omega
          clear h2 hdg HS1 HE1
          subst hkq
          have t2 : (0 : Int) ≤ (p : Int) := by omega
          have t3 : (k : Int) < (s.size : Int) := by omega
          have t4 : (p : Int) ≤ (k : Int) := by omega
          have t5 : (k : Int) ≤ (s.size : Int) := by omega
          have t6 : (0 : Int) ≤ (k : Int) := by omega
          rcases HK.out with ⟨rfl, rfl⟩ | ⟨_, h, _⟩ | ⟨rfl, _, hal⟩
          all_goals clear HK
          · go_wp2_with (first | (go_at_call 33; refine (H3.out _).mono ?_; rintro e w' ⟨rfl, rfl⟩) | (go_at_call 34; refine (HI.out _).mono ?_; rintro e w' ⟨rfl, rfl⟩))
            go_region
            go_wp2
            exact bodyPost_ret (v := .tuple #[.agg #[.int .i64 3, .string (s.extract p k), .int .i64 v], .bool false]) (by simp [results, Tryd.results25, go_sem]) rfl ⟨rfl, ((Below.refl _ _).alloc (Nat.le_refl _) _).drew⟩
          · omega
          · have h4 := HL.out ((s[k]).toNat : Int)
            rw [hal] at h4
            have H4 := Lib.hid h4
            have t1 : ((k : Int) == (s.size : Int)) = false := beq_eq_false_iff_ne.2 (by omega)
            clear h4 hal
            go_wp2_with (first | (go_at_call 33; refine (H3.out _).mono ?_; rintro e w' ⟨rfl, rfl⟩) | (go_at_call 34; refine (HI.out _).mono ?_; rintro e w' ⟨rfl, rfl⟩))
            go_region_held3 (fun _ => True) (trivial) ((go_at_call 32; refine (H4.out _).mono ?_; rintro e w' ⟨rfl, rfl⟩))
            go_wp2
            exact bodyPost_ret (v := .tuple #[.agg #[.int .i64 3, .string (s.extract p k), .int .i64 v], .bool b]) (by simp [results, Tryd.results25, go_sem]) rfl ⟨rfl, ((Below.refl _ _).alloc (Nat.le_refl _) _).drew⟩
      · have hkq : k = q := by have := hr.out; have := HO.out k (by omega); omega
        subst hkq
        obtain rfl : k = s.size := by omega
        have t2 : (0 : Int) ≤ (p : Int) := by omega
        have t4 : (p : Int) ≤ (s.size : Int) := by omega
        have t5 : (0 : Int) ≤ (s.size : Int) := by omega
        rcases HK.out with ⟨rfl, rfl⟩ | ⟨rfl, _, rfl⟩ | ⟨_, h, _⟩
        all_goals clear HK
        · go_wp2_with (first | (go_at_call 33; refine (H3.out _).mono ?_; rintro e w' ⟨rfl, rfl⟩) | (go_at_call 34; refine (HI.out _).mono ?_; rintro e w' ⟨rfl, rfl⟩))
          go_region
          go_wp2
          exact bodyPost_ret (v := .tuple #[.agg #[.int .i64 3, .string (s.extract p s.size), .int .i64 v], .bool false]) (by simp [results, Tryd.results25, go_sem]) rfl ⟨rfl, ((Below.refl _ _).alloc (Nat.le_refl _) _).drew⟩
        · go_wp2_with (first | (go_at_call 33; refine (H3.out _).mono ?_; rintro e w' ⟨rfl, rfl⟩) | (go_at_call 34; refine (HI.out _).mono ?_; rintro e w' ⟨rfl, rfl⟩))
          go_region
          go_wp2
          exact bodyPost_ret (v := .tuple #[.agg #[.int .i64 3, .string (s.extract p s.size), .int .i64 v], .bool true]) (by simp [results, Tryd.results25, go_sem]) rfl ⟨rfl, ((Below.refl _ _).alloc (Nat.le_refl _) _).drew⟩
        · omega

end Lx
end Go.Proofs.YtdalldhgfdnaeaaDoor
