/- The contract of the reference's Word: the token that the plain functions find. Conditions: the place lies in the text; the text has at most 2^47 bytes. -/
import Derived.Test.YtdalldhgfdnaeaaDoorRefNum
import Derived.Test.YtdalldhgfdnaeaaDoorRefMark
namespace Go.Proofs.YtdalldhgfdnaeaaDoor
namespace Lx
open Go Go.RowKit

theorem bytes_len (s : ByteArray) : s.data.toList.length = s.size := by simp

theorem tok_alf (c : UInt8) (r : List UInt8) (ha : alfI (c.toNat : Int) = true) :
    tokAt (c :: r) = if runL wordI (c :: r) ≤ 32 then some ⟨kindL (lowI (c.toNat : Int)), (c :: r).take (runL wordI (c :: r)), 0⟩ else none := by
  have hw : wordI (c.toNat : Int) = true := by rw [word_alf, ha]; rfl
  have e : runL wordI (c :: r) = 1 + runL wordI r := by simp only [runL, if_pos hw]; omega
  rw [e]
  unfold tokAt
  cases hl : lowI (c.toNat : Int) with
  | true =>
    simp only [hl, if_true, wordTok, List.tail_cons, kindL]
    rfl
  | false =>
    have hu : (upI (c.toNat : Int) || (c.toNat : Int) == 95) = true := by
      unfold alfI at ha
      rw [hl] at ha
      simpa using ha
    simp only [hl, Bool.false_eq_true, if_false, hu, if_true, wordTok, List.tail_cons, kindL]
    rfl

theorem not_alf {c : UInt8} (ha : alfI (c.toNat : Int) = false) : lowI (c.toNat : Int) = false ∧ (upI (c.toNat : Int) || (c.toNat : Int) == 95) = false := by
  unfold alfI at ha
  rw [Bool.or_assoc, Bool.or_eq_false_iff] at ha
  exact ha
theorem tok_num (c : UInt8) (r : List UInt8) (ha : alfI (c.toNat : Int) = false) (hk : (digI (c.toNat : Int) || (c.toNat : Int) == 45) = true) : tokAt (c :: r) = numTok (c :: r) := by
  obtain ⟨h1, h2⟩ := not_alf ha
  simp only [tokAt, h1, h2, hk, Bool.false_eq_true, if_false, if_true]
theorem tok_mark (c : UInt8) (r : List UInt8) (ha : alfI (c.toNat : Int) = false) (hk : (digI (c.toNat : Int) || (c.toNat : Int) == 45) = false) : tokAt (c :: r) = markTok (c :: r) := by
  obtain ⟨h1, h2⟩ := not_alf ha
  simp only [tokAt, h1, h2, hk, Bool.false_eq_true, if_false]

theorem word_alf_any (s : ByteArray) (hs : s.size ≤ 140737488355328) (p : Nat) (hp : p < s.size) (ha : alfI ((s[p]).toNat : Int) = true) (w : World) :
    Calls Tryd.prog 25 #[.string s, .int .i64 p] w fun e w' => WordEnd (tokAt (s.data.toList.drop p)) w e w' := by
  refine (refWord_alf s hs p hp ha _ rfl w).mono ?_
  rintro e w' ⟨rfl, hb⟩
  have ht := tok_alf s[p] (s.data.toList.drop (p + 1)) ha
  rw [← drop_cons s p hp] at ht
  refine ⟨⟨_, _, _, _, rfl, ?_, ?_⟩, hb⟩
  · rw [ht]
    by_cases h : runL wordI (s.data.toList.drop p) ≤ 32
    · rw [if_pos h, decide_eq_true (by omega)]; rfl
    · rw [if_neg h, decide_eq_false (by omega)]; rfl
  · intro t h
    rw [ht] at h
    split at h
    · cases h
      refine ⟨rfl, ?_, rfl⟩
      rw [ext_bs, show p + runL wordI (s.data.toList.drop p) - p = runL wordI (s.data.toList.drop p) by omega]
    · cases h

theorem word_mark_any (s : ByteArray) (hs : s.size ≤ 140737488355328) (p : Nat) (hp : p < s.size) (ha : alfI ((s[p]).toNat : Int) = false) (hd : digI ((s[p]).toNat : Int) = false) (h45 : (((s[p]).toNat : Int) == 45) = false) (w : World) :
    Calls Tryd.prog 25 #[.string s, .int .i64 p] w fun e w' => WordEnd (tokAt (s.data.toList.drop p)) w e w' := by
  have ht := tok_mark s[p] (s.data.toList.drop (p + 1)) ha (by rw [hd, h45]; rfl)
  have hc : ((((s[p]).toNat : Int) == 58) = false ∨ ((((s[p]).toNat : Int) == 58) = true ∧ s.size ≤ p + 1) ∨ ((((s[p]).toNat : Int) == 58) = true ∧ ∃ h : p + 1 < s.size, (((s[p + 1]).toNat : Int) == 45) = false)) ∧ arrow (s[p] :: s.data.toList.drop (p + 1)) = false ∨
      ((((s[p]).toNat : Int) == 58) = true ∧ (∃ h : p + 1 < s.size, (((s[p + 1]).toNat : Int) == 45) = true)) ∧ arrow (s[p] :: s.data.toList.drop (p + 1)) = true := by
    rcases Nat.lt_or_ge (p + 1) s.size with h | h
    · rw [drop_cons s (p + 1) h, show ∀ (a b : UInt8) (l : List UInt8), arrow (a :: b :: l) = ((a.toNat : Int) == 58 && (b.toNat : Int) == 45) from fun _ _ _ => rfl]
      cases h1 : ((s[p]).toNat : Int) == 58
      · exact .inl ⟨.inl rfl, rfl⟩
      · cases h2 : ((s[p + 1]).toNat : Int) == 45
        · exact .inl ⟨.inr (.inr ⟨rfl, h, h2⟩), rfl⟩
        · exact .inr ⟨⟨rfl, h, h2⟩, rfl⟩
    · have e : s.data.toList.drop (p + 1) = [] := List.drop_eq_nil_of_le (by simpa using h)
      rw [e]
      cases h1 : ((s[p]).toNat : Int) == 58
      · exact .inl ⟨.inl rfl, rfl⟩
      · exact .inl ⟨.inr (.inl ⟨rfl, h⟩), rfl⟩
  rcases hc with ⟨har, hf⟩ | ⟨⟨h58, h, h45'⟩, hf⟩
  · refine (refWord_mark s hs p hp ha hd h45 har w).mono ?_
    unfold markTok at ht
    rw [hf] at ht
    simp only [Bool.false_eq_true, if_false] at ht
    rw [← drop_cons s p hp] at ht
    rintro e w' ⟨⟨hm, rfl⟩ | ⟨hm, rfl⟩, hb⟩
    · rw [if_pos hm] at ht
      refine ⟨⟨_, _, _, _, rfl, ?_, ?_⟩, hb⟩
      · rw [ht]; rfl
      · intro t h
        rw [ht] at h
        cases h
        refine ⟨rfl, ?_, rfl⟩
        rw [ext_bs, drop_cons s p hp, show p + 1 - p = 1 by omega]
        rfl
    · rw [if_neg (by rw [hm]; exact Bool.false_ne_true)] at ht
      refine ⟨⟨_, _, _, _, rfl, ?_, ?_⟩, hb⟩
      · rw [ht]; rfl
      · intro t h
        rw [ht] at h
        cases h
  · refine (refWord_arrow s hs p h h58 h45' w).mono ?_
    unfold markTok at ht
    rw [hf, if_pos rfl, ← drop_cons s p hp] at ht
    rintro e w' ⟨rfl, hb⟩
    refine ⟨⟨_, _, _, _, rfl, ?_, ?_⟩, hb⟩
    · rw [ht]; rfl
    · intro t h
      rw [ht] at h
      cases h
      exact ⟨rfl, rfl, rfl⟩

theorem word_num_any (s : ByteArray) (hs : s.size ≤ 140737488355328) (p : Nat) (hp : p < s.size) (ha : alfI ((s[p]).toNat : Int) = false) (hk : (digI ((s[p]).toNat : Int) || ((s[p]).toNat : Int) == 45) = true) (w : World) :
    Calls Tryd.prog 25 #[.string s, .int .i64 p] w fun e w' => WordEnd (tokAt (s.data.toList.drop p)) w e w' := by
  have hdc := drop_cons s p hp
  have hgo := refWord_num s hs p hp ha _ rfl (by
    cases h : digI ((s[p]).toNat : Int)
    · rw [h] at hk; exact .inr (by simpa using hk)
    · exact .inl rfl)
  obtain ⟨c, hc⟩ : ∃ c, s[p] = c := ⟨_, rfl⟩
  obtain ⟨r, hr⟩ : ∃ r, s.data.toList.drop (p + 1) = r := ⟨_, rfl⟩
  rw [hc] at ha hk hdc
  rw [hr] at hdc hgo
  have ht := tok_num c r ha hk
  obtain ⟨n, hn⟩ : ∃ n, runL digI r = n := ⟨_, rfl⟩
  have hlen : numLen (c :: r) = 1 + n := by unfold numLen; rw [List.tail_cons, hn]
  have hle := runL_le digI r
  rw [hn] at hle hgo
  have hrl : r.length = s.size - (p + 1) := by rw [← hr]; simp
  have hL : (s.extract p (p + 1 + n)).data.toList = c :: r.take n := by
    rw [ext_bs, hdc, show p + 1 + n - p = n + 1 by omega]
    rfl
  have hsz : (s.extract p (p + 1 + n)).size = 1 + n := by
    have h := congrArg List.length hL
    rw [List.length_cons, List.length_take] at h
    have h2 := bytes_len (s.extract p (p + 1 + n))
    omega
  have had : allDig (r.take n) := by
    intro x hx
    have h := runL_all digI r x (by rw [hn]; exact hx)
    unfold digI at h
    simp only [Bool.and_eq_true, decide_eq_true_eq] at h
    omega
  have hbe : (digI (c.toNat : Int) = true ∧ allDig (c :: r.take n)) ∨ c = 45 := by
    rcases Bool.or_eq_true_iff.1 hk with h | h
    · refine .inl ⟨h, fun x hx => ?_⟩
      rcases List.mem_cons.1 hx with rfl | hx
      · unfold digI at h
        simp only [Bool.and_eq_true, decide_eq_true_eq] at h
        omega
      · exact had x hx
    · have h2 := eq_of_beq h
      exact .inr (UInt8.toNat_inj.1 (by show c.toNat = 45; omega))
  have hE : refInt (c :: r.take n) = numOf (c :: r.take n) := by
    rcases hbe with ⟨_, h⟩ | rfl
    · exact refInt_pos c _ h
    · exact refInt_neg _ had
  have hI : ∀ w, Calls Tryd.prog 34 #[.string (s.extract p (p + 1 + n))] w fun e w' => e = .returned (.tuple #[.int .i64 ((refInt (c :: r.take n)).getD 0), .bool (refInt (c :: r.take n)).isSome]) ∧ w = w' := by
    intro w
    rcases hbe with ⟨_, h⟩ | h
    · have h3 := refInt_p (s.extract p (p + 1 + n)) (by omega) (by omega) (by rw [hL]; exact h) w
      rw [hL] at h3
      exact h3
    · have h4 := head_list (s.extract p (p + 1 + n)) (by omega)
      rw [hL] at h4
      have h5 := (List.cons.inj h4).1
      have h3 := refInt_n (s.extract p (p + 1 + n)) (by omega) (by omega) (by rw [← h5, h]; rfl) (by rw [hL]; exact had) w
      rw [hL] at h3
      exact h3
  have hT : tokAt (c :: r) = if wordAt (c :: r) (1 + n) = true then none else match refInt (c :: r.take n) with
      | some v => some ⟨3, c :: r.take n, v⟩
      | none => none := by
    rw [ht]
    unfold numTok
    rw [hlen, hE, Nat.add_comm 1 n, List.take_succ_cons]
    rfl
  have hW : (p + 1 + n = s.size ∧ wordAt (c :: r) (1 + n) = false) ∨ ∃ h : p + 1 + n < s.size, wordAt (c :: r) (1 + n) = alfI ((s[p + 1 + n]).toNat : Int) := by
    rcases Nat.lt_or_ge (p + 1 + n) s.size with h | h
    · refine .inr ⟨h, ?_⟩
      have h6 : r[n]? = some s[p + 1 + n] := by
        rw [← hr, List.getElem?_drop]
        simp [h]
        rfl
      have h7 := runL_stop digI r s[p + 1 + n] (by rw [hn]; exact h6)
      unfold wordAt
      rw [Nat.add_comm 1 n, List.getElem?_cons_succ, h6]
      show wordI _ = _
      rw [word_alf, h7, Bool.or_false]
    · refine .inl ⟨by omega, ?_⟩
      unfold wordAt
      rw [Nat.add_comm 1 n, List.getElem?_cons_succ, List.getElem?_eq_none (by omega)]
  rw [hdc]
  refine (hgo (p + 1 + n) rfl ((refInt (c :: r.take n)).getD 0) (refInt (c :: r.take n)).isSome (tokAt (c :: r)).isSome hI ?_ w).mono ?_
  · rw [hT]
    cases refInt (c :: r.take n) with
    | none => exact .inl ⟨rfl, by split <;> rfl⟩
    | some v =>
      rcases hW with ⟨h, h2⟩ | ⟨h, h2⟩
      · exact .inr (.inl ⟨rfl, h, by rw [h2]; rfl⟩)
      · refine .inr (.inr ⟨rfl, h, ?_⟩)
        rw [h2]
        cases alfI ((s[p + 1 + n]).toNat : Int) <;> rfl
  · rintro e w' ⟨rfl, hb⟩
    refine ⟨⟨_, _, _, _, rfl, rfl, ?_⟩, hb⟩
    intro t h
    rw [hT] at h
    split at h
    · cases h
    · cases hv : refInt (c :: r.take n) with
      | none => rw [hv] at h; cases h
      | some v =>
        rw [hv] at h
        cases h
        refine ⟨rfl, ?_, rfl⟩
        rw [ext_bs, hdc, show p + 1 + n - p = n + 1 by omega]
        rfl

theorem refWord_any (s : ByteArray) (hs : s.size ≤ 140737488355328) (p : Nat) (hp : p < s.size) (w : World) :
    Calls Tryd.prog 25 #[.string s, .int .i64 p] w fun e w' => WordEnd (tokAt (s.data.toList.drop p)) w e w' := by
  cases ha : alfI ((s[p]).toNat : Int) with
  | true => exact word_alf_any s hs p hp ha w
  | false =>
    cases hk : (digI ((s[p]).toNat : Int) || ((s[p]).toNat : Int) == 45) with
    | true => exact word_num_any s hs p hp ha hk w
    | false =>
      rw [Bool.or_eq_false_iff] at hk
      exact word_mark_any s hs p hp ha hk.1 hk.2 w

end Lx
end Go.Proofs.YtdalldhgfdnaeaaDoor
