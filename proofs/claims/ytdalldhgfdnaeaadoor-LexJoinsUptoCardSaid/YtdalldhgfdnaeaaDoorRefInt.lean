/- The contracts of the reference's letter, digit and Int. Conditions: Int is asked of a text that is not empty: an optional sign and digits. -/
import Derived.Test.YtdalldhgfdnaeaaDoorRun
import Derived.Test.YtdalldhgfdnaeaaDoorRefPlain
import Derived.Deep.Cut
namespace Go.Proofs.YtdalldhgfdnaeaaDoor
namespace Lx
open Go Go.RowKit

theorem digit_any (x : Int) (w : World) :
    Calls Tryd.prog 33 #[.int .u8 x] w fun e w' => e = .returned (.bool (digI x)) ∧ w = w' := by
  go_enter Tryd.func33, Tryd.ntmps33
  go_wp2
  all_goals go_ret
  all_goals (refine ⟨ret_bool ?_, rfl⟩; unfold digI; simp; try omega)

theorem letter_any (x : Int) (w : World) :
    Calls Tryd.prog 32 #[.int .u8 x] w fun e w' => e = .returned (.bool (alfI x)) ∧ w = w' := by
  go_enter Tryd.func32, Tryd.ntmps32
  go_wp2
  all_goals go_ret
  all_goals (refine ⟨ret_bool ?_, rfl⟩; rw [Bool.eq_iff_iff]; simp [alfI, lowI, upI]; try omega)

def RefIntEnd (l : List UInt8) (e : Ending) : Prop := e = .returned (.tuple #[.int .i64 ((refInt l).getD 0), .bool (refInt l).isSome])
theorem refIntEnd_none {l : List UInt8} (h : refInt l = none) : RefIntEnd l (.returned (.tuple #[.int .i64 0, .bool false])) := by unfold RefIntEnd; rw [h]; rfl
theorem refIntEnd_some {l : List UInt8} {v : Int} (h : refInt l = some v) : RefIntEnd l (.returned (.tuple #[.int .i64 v, .bool true])) := by unfold RefIntEnd; rw [h]; rfl

def tooGreat (n x : Int) : Bool := decide (n < (-9223372036854775808 + (x - 48)).tdiv 10)
theorem acc_step (d : ByteArray) (k : Nat) (hk : k < d.size) (hd : allDig d.data.toList) (n : Int) (_h1 : -9223372036854775808 ≤ n) (_h2 : n ≤ 0) :
    (48 : Int) ≤ ((d[k]).toNat : Int) ∧ ((d[k]).toNat : Int) ≤ 57 ∧ (tooGreat n ((d[k]).toNat : Int) = true → accN (d.data.toList.drop k) n = none) ∧
    (tooGreat n ((d[k]).toNat : Int) = false → accN (d.data.toList.drop k) n = accN (d.data.toList.drop (k + 1)) (10 * n - (((d[k]).toNat : Int) - 48)) ∧ -9223372036854775808 ≤ 10 * n - (((d[k]).toNat : Int) - 48)) := by
  have hl : k < d.data.toList.length := by simpa using hk
  have hc := hd d.data.toList[k] (List.getElem_mem hl)
  have e : d.data.toList[k] = d[k] := Array.getElem_toList _
  rw [e] at hc
  have h3 : accN (d.data.toList.drop k) n = accN (d[k] :: d.data.toList.drop (k + 1)) n := by rw [List.drop_eq_getElem_cons hl, e]
  have n1 : decide (((d[k]).toNat : Int) < 48) = false := by simp; omega
  have n2 : decide ((57 : Int) < ((d[k]).toNat : Int)) = false := by simp; omega
  rw [h3]
  simp only [accN]
  rw [n1, n2, Bool.false_or, Bool.false_or]
  refine ⟨by omega, by omega, fun h => ?_, fun h => ?_⟩
  · unfold tooGreat at h
    rw [if_pos h]
  · refine ⟨by rw [if_neg]; unfold tooGreat at h; rw [h]; exact Bool.false_ne_true, ?_⟩
    have h4 : ¬ (n < (-9223372036854775808 + (((d[k]).toNat : Int) - 48)).tdiv 10) := by
      unfold tooGreat at h
      exact of_decide_eq_false h
    have h5 : (-9223372036854775808 + (((d[k]).toNat : Int) - 48)).tdiv 10 = -((9223372036854775808 - (((d[k]).toNat : Int) - 48)) / 10) := by
      rw [show (-9223372036854775808 + (((d[k]).toNat : Int) - 48)) = -(9223372036854775808 - (((d[k]).toNat : Int) - 48)) by omega, Int.neg_tdiv, Int.tdiv_eq_ediv_of_nonneg (by omega)]
    rw [h5] at h4
    omega


theorem head_list (s : ByteArray) (h0 : 0 < s.size) : s.data.toList = s[0] :: s.data.toList.drop 1 := by
  have := List.drop_eq_getElem_cons (l := s.data.toList) (i := 0) (by simpa using h0)
  simp only [List.drop_zero, Array.getElem_toList] at this
  exact this

set_option maxHeartbeats 1000000 in
theorem refInt_p (s : ByteArray) (hs : s.size ≤ 140737488355328) (h0 : 0 < s.size) (hd : allDig s.data.toList) (w : World) :
    Calls Tryd.prog 34 #[.string s] w fun e w' => RefIntEnd s.data.toList e ∧ w = w' := by
  have hl := head_list s h0
  have h48 := hd s[0] (by rw [hl]; simp)
  have hne : (((s[0]).toNat : Int) == 45) = false := by simp; omega
  have hu : unsign s.data.toList = s.data.toList := by rw [hl]; simp only [unsign, hne, Bool.false_eq_true, if_false]
  have hn : isNeg s.data.toList = false := by rw [hl]; exact hne
  have hlen : s.data.toList.length = s.size := by simp
  have hb : refBad s.data.toList = (decide (19 < s.size) || (((s[0]).toNat : Int) == 48 && decide (1 < s.size))) := by
    rw [← hlen]
    unfold refBad
    rw [hu]
    conv => lhs; rw [hl]
    simp only [← hl]
  have q0 : ((s.size : Int) == 0) = false := beq_eq_false_iff_ne.2 (by omega)
  by_cases hbad : refBad s.data.toList = true
  · have hr : refInt s.data.toList = none := by unfold refInt; rw [if_pos hbad]
    have HR := Lib.hid (refIntEnd_none hr)
    rw [hb] at hbad
    clear hr hl hu hn hlen hb hd
    by_cases h19 : 19 < s.size
    · clear hbad
      have q19 : decide ((19 : Int) < (s.size : Int)) = true := by simp; omega
      go_enter Tryd.func34, Tryd.ntmps34
      go_wp2
      go_ret2
      exact ⟨HR.out, rfl⟩
    · rw [decide_eq_false h19, Bool.false_or, Bool.and_eq_true] at hbad
      obtain ⟨hz, h1⟩ := hbad
      have h1' : 1 < s.size := of_decide_eq_true h1
      clear h1
      have q19 : decide ((19 : Int) < (s.size : Int)) = false := by simp; omega
      have q1 : decide ((1 : Int) < (s.size : Int)) = true := by simp; omega
      go_enter Tryd.func34, Tryd.ntmps34
      go_wp2
      go_ret2
      exact ⟨HR.out, rfl⟩
  · have hbad' : refBad s.data.toList = false := by simpa using hbad
    have hr : refInt s.data.toList = (match accN s.data.toList 0 with
      | none => none
      | some n => if (n == -9223372036854775808) = true then none else some (-n)) := by
      unfold refInt
      rw [hbad', hu, hn]
      rfl
    have HR := Lib.hid hr
    rw [hb] at hbad'
    rw [Bool.or_eq_false_iff] at hbad'
    obtain ⟨h19, hz⟩ := hbad'
    have h19' : ¬ 19 < s.size := of_decide_eq_false h19
    have HS := Lib.hid (fun k hk n h1 h2 => acc_step s k hk hd n h1 h2)
    have HL := Lib.hid hlen
    clear hr hl hu hn hlen hb hd hbad h19
    rw [Bool.and_eq_false_iff] at hz
    have hz2 : (((s[0]).toNat : Int) == 48) = false ∨ ((((s[0]).toNat : Int) == 48) = true ∧ ¬ 1 < s.size) := by
      rcases hz with h | h
      · exact .inl h
      · by_cases hh : (((s[0]).toNat : Int) == 48) = true
        · exact .inr ⟨hh, of_decide_eq_false h⟩
        · exact .inl (by simpa using hh)
    clear hz
    have q19 : decide ((19 : Int) < (s.size : Int)) = false := by simp; omega
    rcases hz2 with hz | ⟨hz, hz1⟩
    all_goals
      first | (have q1 : decide ((1 : Int) < (s.size : Int)) = false := by simp; omega) | skip
      go_enter Tryd.func34, Tryd.ntmps34
      go_wp2
      go_loop [5, 6] (fun n i => ∃ (k : Nat) (nn : Int), k ≤ s.size ∧ i = .int .i64 k ∧ n = .int .i64 nn ∧ Hid (accN (s.data.toList.drop k) nn = accN s.data.toList 0) ∧ -9223372036854775808 ≤ nn ∧ nn ≤ 0) (fun _ i => s.size - (intOf i).toNat)
      case atStart => exact ⟨0, 0, Nat.zero_le _, rfl, rfl, Lib.hid rfl, by omega, by omega⟩
      case round =>
        obtain ⟨k, nn, hk, rfl, rfl, ha, hn1, hn2⟩ := hrel
        by_cases hlt : k < s.size
        · obtain ⟨c48, c57, hg, hng⟩ := HS.out k hlt nn hn1 hn2
          by_cases hT : tooGreat nn ((s[k]).toNat : Int) = true
          · have hT' : nn < (-9223372036854775808 + (((s[k]).toNat : Int) - 48)).tdiv 10 := of_decide_eq_true hT
            have hnone : refInt s.data.toList = none := by rw [HR.out, ← ha.out, hg hT]
            have HQ := Lib.hid (refIntEnd_none hnone)
            clear hg hng hT hnone
            go_wp2_with fail
            go_ret2
            exact ⟨HQ.out, rfl⟩
          · have hT1 : tooGreat nn ((s[k]).toNat : Int) = false := by simpa using hT
            have hT' : (-9223372036854775808 + (((s[k]).toNat : Int) - 48)).tdiv 10 ≤ nn := by have := of_decide_eq_false hT1; omega
            obtain ⟨hg1, hg2⟩ := hng hT1
            have HG := Lib.hid hg1
            have r0 : -9223372036854775808 ≤ 10 * nn := by omega
            clear hg hng hT hT1 hg1
            go_wp2_with fail
            go_round
            case rel => exact ⟨k + 1, _, by omega, by go_num, rfl, Lib.hid (HG.out.symm.trans ha.out), hg2, by omega⟩
            case measure => simp [intOf]; omega
        · have hke : k = s.size := by omega
          have hend : accN s.data.toList 0 = some nn := by
            rw [← ha.out, List.drop_eq_nil_of_le (by have := HL.out; omega)]
            rfl
          have hr := HR.out
          rw [hend] at hr
          simp only at hr
          by_cases hm : (nn == -9223372036854775808) = true
          · rw [if_pos hm] at hr
            have HQ := Lib.hid (refIntEnd_none hr)
            clear hend hr
            go_wp2_with fail
            go_ret2
            exact ⟨HQ.out, rfl⟩
          · rw [if_neg hm] at hr
            have HQ := Lib.hid (refIntEnd_some hr)
            have hm' : (nn == -9223372036854775808) = false := by simpa using hm
            have hm2 : -9223372036854775807 ≤ nn := by
              have := beq_eq_false_iff_ne.1 hm'
              omega
            clear hend hr hm
            go_wp2_with fail
            go_ret2
            exact ⟨HQ.out, rfl⟩

set_option maxHeartbeats 1000000 in
theorem refInt_n (s : ByteArray) (hs : s.size ≤ 140737488355328) (h0 : 0 < s.size) (h45 : (((s[0]).toNat : Int) == 45) = true) (hd0 : allDig (s.data.toList.drop 1)) (w : World) :
    Calls Tryd.prog 34 #[.string s] w fun e w' => RefIntEnd s.data.toList e ∧ w = w' := by
  have hl := head_list s h0
  obtain ⟨d, hdd⟩ : ∃ d, s.extract 1 s.size = d := ⟨_, rfl⟩
  have hdl : s.data.toList.drop 1 = d.data.toList := by rw [← hdd, ext_list]
  have hds : d.size + 1 = s.size := by
    have := congrArg ByteArray.size hdd
    simp only [ByteArray.size_extract] at this
    omega
  have hd : allDig d.data.toList := by rw [← hdl]; exact hd0
  have hu : unsign s.data.toList = d.data.toList := by rw [hl, ← hdl]; simp only [unsign, h45, if_true]
  have hn : isNeg s.data.toList = true := by rw [hl]; exact h45
  have hlen : d.data.toList.length = d.size := by simp
  have hsl : s.data.toList.length = s.size := by simp
  have HD := Lib.hid hdd
  rcases Nat.eq_zero_or_pos d.size with hz0 | hpos
  · have hr : refInt s.data.toList = none := by
      have : d.data.toList = [] := List.eq_nil_of_length_eq_zero (by omega)
      unfold refInt refBad
      rw [hu, this]
      rfl
    have HR := Lib.hid (refIntEnd_none hr)
    have q0 : ((d.size : Int) == 0) = true := beq_iff_eq.2 (by omega)
    clear hr hl hu hn hlen hsl hd hdl hdd hd0
    go_enter Tryd.func34, Tryd.ntmps34
    go_upto_region 4 with (fail)
    rw [HD.out]
    go_wp2
    go_ret2
    exact ⟨HR.out, rfl⟩
  have hlh := head_list d hpos
  have h48 := hd d[0] (by rw [hlh]; simp)
  have hb : refBad s.data.toList = (decide (19 < d.size) || ((d[0]).toNat : Int) == 48) := by
    have e : decide (1 < s.data.toList.length) = true := decide_eq_true (by omega)
    rw [← hlen]
    unfold refBad
    rw [hu, e]
    conv => lhs; rw [hlh]
    simp only [← hlh, Bool.and_true]
  have q0 : ((d.size : Int) == 0) = false := beq_eq_false_iff_ne.2 (by omega)
  have qs : decide ((1 : Int) < (s.size : Int)) = true := by simp; omega
  by_cases hbad : refBad s.data.toList = true
  · have hr : refInt s.data.toList = none := by unfold refInt; rw [if_pos hbad]
    have HR := Lib.hid (refIntEnd_none hr)
    rw [hb] at hbad
    clear hr hl hu hn hlen hb hd hsl hdl hdd hd0 hlh
    by_cases h19 : 19 < d.size
    · clear hbad
      have q19 : decide ((19 : Int) < (d.size : Int)) = true := by simp; omega
      go_enter Tryd.func34, Tryd.ntmps34
      go_upto_region 4 with (fail)
      rw [HD.out]
      go_wp2
      go_ret2
      exact ⟨HR.out, rfl⟩
    · rw [decide_eq_false h19, Bool.false_or] at hbad
      have q19 : decide ((19 : Int) < (d.size : Int)) = false := by simp; omega
      go_enter Tryd.func34, Tryd.ntmps34
      go_upto_region 4 with (fail)
      rw [HD.out]
      go_wp2
      go_ret2
      exact ⟨HR.out, rfl⟩
  · have hbad' : refBad s.data.toList = false := by simpa using hbad
    have hr : refInt s.data.toList = (match accN d.data.toList 0 with
      | none => none
      | some n => some n) := by
      unfold refInt
      rw [hbad', hu, hn]
      rfl
    have HR := Lib.hid hr
    rw [hb] at hbad'
    rw [Bool.or_eq_false_iff] at hbad'
    obtain ⟨h19, hz⟩ := hbad'
    have h19' : ¬ 19 < d.size := of_decide_eq_false h19
    have HS := Lib.hid (fun k hk n h1 h2 => acc_step d k hk hd n h1 h2)
    have HL := Lib.hid hlen
    clear hr hl hu hn hlen hb hd hbad h19 hsl hdl hdd hd0 hlh
    have q19 : decide ((19 : Int) < (d.size : Int)) = false := by simp; omega
    go_enter Tryd.func34, Tryd.ntmps34
    go_upto_region 4 with (fail)
    rw [HD.out]
    go_wp2
    go_loop [5, 6] (fun n i => ∃ (k : Nat) (nn : Int), k ≤ d.size ∧ i = .int .i64 k ∧ n = .int .i64 nn ∧ Hid (accN (d.data.toList.drop k) nn = accN d.data.toList 0) ∧ -9223372036854775808 ≤ nn ∧ nn ≤ 0) (fun _ i => d.size - (intOf i).toNat)
    case atStart => exact ⟨0, 0, Nat.zero_le _, rfl, rfl, Lib.hid rfl, by omega, by omega⟩
    case round =>
      obtain ⟨k, nn, hk, rfl, rfl, ha, hn1, hn2⟩ := hrel
      by_cases hlt : k < d.size
      · obtain ⟨c48, c57, hg, hng⟩ := HS.out k hlt nn hn1 hn2
        by_cases hT : tooGreat nn ((d[k]).toNat : Int) = true
        · have hT' : nn < (-9223372036854775808 + (((d[k]).toNat : Int) - 48)).tdiv 10 := of_decide_eq_true hT
          have hnone : refInt s.data.toList = none := by rw [HR.out, ← ha.out, hg hT]
          have HQ := Lib.hid (refIntEnd_none hnone)
          clear hg hng hT hnone
          go_wp2_with fail
          go_ret2
          exact ⟨HQ.out, rfl⟩
        · have hT1 : tooGreat nn ((d[k]).toNat : Int) = false := by simpa using hT
          have hT' : (-9223372036854775808 + (((d[k]).toNat : Int) - 48)).tdiv 10 ≤ nn := by have := of_decide_eq_false hT1; omega
          obtain ⟨hg1, hg2⟩ := hng hT1
          have HG := Lib.hid hg1
          have r0 : -9223372036854775808 ≤ 10 * nn := by omega
          clear hg hng hT hT1 hg1
          go_wp2_with fail
          go_round
          case rel => exact ⟨k + 1, _, by omega, by go_num, rfl, Lib.hid (HG.out.symm.trans ha.out), hg2, by omega⟩
          case measure => simp [intOf]; omega
      · have hke : k = d.size := by omega
        have hend : accN d.data.toList 0 = some nn := by
          rw [← ha.out, List.drop_eq_nil_of_le (by have := HL.out; omega)]
          rfl
        have hr := HR.out
        rw [hend] at hr
        have HQ := Lib.hid (refIntEnd_some hr)
        clear hend hr
        go_wp2_with fail
        go_ret2
        exact ⟨HQ.out, rfl⟩

end Lx
end Go.Proofs.YtdalldhgfdnaeaaDoor
