/- The contract of the reference's Word: the token that begins at a place, or none. Conditions: the place lies in the text; the text has at most 2^47 bytes. -/
import Derived.Test.YtdalldhgfdnaeaaDoorRefInt
import Derived.Test.YtdalldhgfdnaeaaDoorTok
import Derived.StillTailTactics
namespace Go.Proofs.YtdalldhgfdnaeaaDoor
namespace Lx
open Go Go.RowKit

def WordEnd (o : Option Tok) (w : World) (e : Ending) (w' : World) : Prop :=
  (∃ k x n b, e = .returned (.tuple #[.agg #[.int .i64 k, .string x, .int .i64 n], .bool b]) ∧ b = o.isSome ∧ ∀ t, o = some t → k = t.kind ∧ x = bs t.text ∧ n = t.num) ∧ Below w.heap.size w w'

def kindL (b : Bool) : Int := match b with
  | true => 1
  | false => 2
theorem word_alf (x : Int) : wordI x = (alfI x || digI x) := by
  unfold wordI alfI
  cases lowI x <;> cases upI x <;> cases digI x <;> simp
theorem ext_bs (s : ByteArray) (p n : Nat) : s.extract p n = bs ((s.data.toList.drop p).take (n - p)) := by
  unfold bs
  apply ByteArray.ext
  apply Array.ext'
  simp [List.extract_eq_take_drop]
theorem drop_cons (s : ByteArray) (p : Nat) (hp : p < s.size) : s.data.toList.drop p = s[p] :: s.data.toList.drop (p + 1) := by
  have := List.drop_eq_getElem_cons (l := s.data.toList) (i := p) (by simpa using hp)
  rw [Array.getElem_toList] at this
  exact this

/-! ### names and variables -/
set_option maxRecDepth 100000 in
set_option maxHeartbeats 1000000 in
theorem refWord_alf (s : ByteArray) (hs : s.size ≤ 140737488355328) (p : Nat) (hp : p < s.size) (ha : alfI ((s[p]).toNat : Int) = true) (low : Bool) (hlow : lowI ((s[p]).toNat : Int) = low) (w : World) :
    Calls Tryd.prog 25 #[.string s, .int .i64 p] w fun e w' =>
      e = .returned (.tuple #[.agg #[.int .i64 (kindL low), .string (s.extract p (p + runL wordI (s.data.toList.drop p))), .int .i64 0], .bool (decide ((runL wordI (s.data.toList.drop p) : Int) ≤ 32))]) ∧ Below w.heap.size w w' := by
  have hle := runL_le wordI (s.data.toList.drop p)
  rw [List.length_drop] at hle
  have hsl : s.data.toList.length = s.size := by simp
  rw [hsl] at hle
  have HA := Lib.hid letter_any
  have HD := Lib.hid digit_any
  have HAL := Lib.hid ha
  have HS := Lib.hid (fun k hk => runB_step wordI s k hk)
  have HE := Lib.hid (fun k hk => runB_end wordI s k hk)
  have HO := Lib.hid (fun k hk => runB_over wordI s k hk)
  have HP : Hid (∀ q, p + runL wordI (s.data.toList.drop p) = q → (∀ (e : Ending) (w' : World), (e = .returned (.tuple #[.agg #[.int .i64 (kindL low), .string (s.extract p q), .int .i64 0], .bool (decide ((q : Int) - (p : Int) ≤ 32))]) ∧ Below w.heap.size w w') → e = .returned (.tuple #[.agg #[.int .i64 (kindL low), .string (s.extract p (p + runL wordI (s.data.toList.drop p))), .int .i64 0], .bool (decide ((runL wordI (s.data.toList.drop p) : Int) ≤ 32))]) ∧ Below w.heap.size w w')) := by
    rintro q rfl e w' ⟨rfl, hb⟩
    refine ⟨?_, hb⟩
    rw [show (((p + runL wordI (s.data.toList.drop p) : Nat) : Int) - (p : Int)) = (runL wordI (s.data.toList.drop p) : Int) by omega]
  have hq : ∃ q, p + runL wordI (s.data.toList.drop p) = q := ⟨_, rfl⟩
  obtain ⟨q, hq⟩ := hq
  refine Calls.mono ?_ (HP.out q hq)
  have HQ := Lib.hid hq
  have hqs : q ≤ s.size := by omega
  have hpq : p ≤ q := by omega
  clear HP hq hle hsl ha
  have hlow2 : (low = true ∧ 97 ≤ ((s[p]).toNat : Int) ∧ ((s[p]).toNat : Int) ≤ 122) ∨ (low = false ∧ ((s[p]).toNat : Int) < 97) ∨ (low = false ∧ 97 ≤ ((s[p]).toNat : Int) ∧ 122 < ((s[p]).toNat : Int)) := by
    subst hlow
    unfold lowI
    simp only [Bool.and_eq_true, decide_eq_true_eq, Bool.and_eq_false_iff, decide_eq_false_iff_not]
    omega
  clear hlow
  rcases hlow2 with ⟨rfl, hl1, hl2⟩ | ⟨rfl, hl1⟩ | ⟨rfl, hl1, hl2⟩
  all_goals
    go_enter Tryd.func25, Tryd.ntmps25
    go_wp2_with (go_at_call 32; refine (HA.out _ _).mono ?_; rw [HAL.out]; rintro e w' ⟨rfl, rfl⟩)
    go_loop [7] (fun i => ∃ k : Nat, k ≤ s.size ∧ i = .int .i64 k ∧ Hid (q = k + runL wordI (s.data.toList.drop k))) (fun i => s.size - (intOf i).toNat)
    case atStart => exact ⟨p, by omega, rfl, Lib.hid HQ.out.symm⟩
    case round =>
      obtain ⟨k, hk, rfl, hr⟩ := hrel
      by_cases hlt : k < s.size
      · have hwd := word_alf ((s[k]).toNat : Int)
        have HS1 := HS.out k hlt
        have HE1 := HE.out k hlt
        have h1 := HA.out ((s[k]).toNat : Int)
        have h2 := HD.out ((s[k]).toNat : Int)
        cases hal : alfI ((s[k]).toNat : Int) with
        | true =>
          have HS2 := Lib.hid (HS1 (by rw [hwd, hal]; rfl))
          rw [hal] at h1
          have H1 := Lib.hid h1
          clear h1 h2 hal hwd HS1 HE1
          go_wp2_with (go_at_call 32; refine (H1.out _).mono ?_; rintro e w' ⟨rfl, rfl⟩)
          go_round
          case rel => exact ⟨k + 1, by omega, by go_num, Lib.hid (by have := hr.out; have := HS2.out; omega)⟩
          case measure => simp [intOf]; omega
        | false =>
          cases hdg : digI ((s[k]).toNat : Int) with
          | true =>
            have HS2 := Lib.hid (HS1 (by rw [hwd, hal, hdg]; rfl))
            rw [hal] at h1
            rw [hdg] at h2
            have H1 := Lib.hid h1
            have H2 := Lib.hid h2
            clear h1 h2 hal hwd hdg HS1 HE1
            go_wp2_with (first | (go_at_call 32; refine (H1.out _).mono ?_; rintro e w' ⟨rfl, rfl⟩) | (go_at_call 33; refine (H2.out _).mono ?_; rintro e w' ⟨rfl, rfl⟩))
            go_round
            case rel => exact ⟨k + 1, by omega, by go_num, Lib.hid (by have := hr.out; have := HS2.out; omega)⟩
            case measure => simp [intOf]; omega
          | false =>
            have HE2 := Lib.hid (HE1 (by rw [hwd, hal, hdg]; rfl))
            rw [hal] at h1
            rw [hdg] at h2
            have H1 := Lib.hid h1
            have H2 := Lib.hid h2
            have hkq : k = q := by have := hr.out; have := HE2.out; omega
            clear h1 h2 hal hwd hdg HS1 HE1
            subst hkq
            go_wp2_with (first | (go_at_call 32; refine (H1.out _).mono ?_; rintro e w' ⟨rfl, rfl⟩) | (go_at_call 33; refine (H2.out _).mono ?_; rintro e w' ⟨rfl, rfl⟩))
            first
              | exact bodyPost_ret (v := .tuple #[.agg #[.int .i64 1, .string (s.extract p k), .int .i64 0], .bool (decide ((k : Int) - (p : Int) ≤ 32))]) (by simp [results, Tryd.results25, go_sem]) rfl ⟨rfl, (Below.refl _ _).alloc (Nat.le_refl _) _⟩
              | exact bodyPost_ret (v := .tuple #[.agg #[.int .i64 2, .string (s.extract p k), .int .i64 0], .bool (decide ((k : Int) - (p : Int) ≤ 32))]) (by simp [results, Tryd.results25, go_sem]) rfl ⟨rfl, (Below.refl _ _).alloc (Nat.le_refl _) _⟩
      · have hkq : k = q := by have := hr.out; have := HO.out k (by omega); omega
        subst hkq
        go_wp2_with fail
        first
          | exact bodyPost_ret (v := .tuple #[.agg #[.int .i64 1, .string (s.extract p k), .int .i64 0], .bool (decide ((k : Int) - (p : Int) ≤ 32))]) (by simp [results, Tryd.results25, go_sem]) rfl ⟨rfl, (Below.refl _ _).alloc (Nat.le_refl _) _⟩
          | exact bodyPost_ret (v := .tuple #[.agg #[.int .i64 2, .string (s.extract p k), .int .i64 0], .bool (decide ((k : Int) - (p : Int) ≤ 32))]) (by simp [results, Tryd.results25, go_sem]) rfl ⟨rfl, (Below.refl _ _).alloc (Nat.le_refl _) _⟩

end Lx
end Go.Proofs.YtdalldhgfdnaeaaDoor
