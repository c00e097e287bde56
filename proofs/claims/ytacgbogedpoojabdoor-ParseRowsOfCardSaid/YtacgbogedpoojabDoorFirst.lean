/- The contracts of package lex's mark and first: the token at a text's beginning, or none. Conditions: the text is not empty and has at most 2^47 bytes; the two error variables of strconv hold an error; strconv's table of powers of ten holds them. -/
import Derived.Test.YtacgbogedpoojabDoorNum
namespace Go.Proofs.YtacgbogedpoojabDoor
namespace Lx
open Go Go.RowKit

theorem mark_index_fin : ∀ x : Fin 256, decide (Lib.indexByte [40, 41, 44, 46, 59, 124, 61] (x.val.toUInt8) < 0) = !markI (x.val : Int) := by decide +kernel
theorem mark_index (c : UInt8) : decide (Lib.indexByte [40, 41, 44, 46, 59, 124, 61] ((c.toNat : Int).toNat.toUInt8) < 0) = !markI (c.toNat : Int) := by
  have h := mark_index_fin ⟨c.toNat, c.toNat_lt⟩
  simpa using h
theorem beq58 (a : UInt8) : ((58 : UInt8) == a) = ((a.toNat : Int) == 58) := by
  rw [Bool.eq_iff_iff, beq_iff_eq, beq_iff_eq]
  constructor
  · rintro rfl; rfl
  · intro h; exact UInt8.toNat_inj.1 (by show 58 = a.toNat; omega)
theorem beq45 (a : UInt8) : ((45 : UInt8) == a) = ((a.toNat : Int) == 45) := by
  rw [Bool.eq_iff_iff, beq_iff_eq, beq_iff_eq]
  constructor
  · rintro rfl; rfl
  · intro h; exact UInt8.toNat_inj.1 (by show 45 = a.toNat; omega)
theorem arrow_prefix (l : List UInt8) : Lib.hasPrefix l [58, 45] = arrow l := by
  cases l with
  | nil => rfl
  | cons a r =>
    cases r with
    | nil => simp [Lib.hasPrefix, arrow, List.isPrefixOf]
    | cons b r =>
      simp only [Lib.hasPrefix, arrow, List.isPrefixOf, beq58, beq45, Bool.and_true]

theorem mark_arrow (s : ByteArray) (h : arrow s.data.toList = true) (w : World) :
    Calls Tryd.prog 66 #[.string s] w fun e w' => TokEnd (some ⟨4, [58, 45], 0⟩) w e w' := by
  have hp := Tryd.strings_HasPrefix s (bs [58, 45])
  rw [show (bs [58, 45]).data.toList = [58, 45] from rfl, arrow_prefix, h] at hp
  have HP := Lib.hid hp
  have HK := Lib.hid (token_any 4 (bs [58, 45]) (by rw [bs_size]; simp))
  clear hp h
  unfold bs at HP HK
  go_enter Tryd.func66, Tryd.ntmps66
  go_wp2_with (first | (go_at_call 73; refine (HP.out _).mono ?_; rintro e w1 ⟨rfl, rfl⟩) | (go_at_call 70; refine (HK.out _).mono ?_; rintro e w1 ⟨rfl, hb1⟩; obtain ⟨hc, hf⟩ := bcell hb1))
  exact bodyPost_ret (v := .tuple #[tokV ⟨4, [58, 45], 0⟩, .bool true]) (by simp [results, Tryd.results66, go_sem, hc, tokV, bs]) rfl ⟨rfl, below_tok hb1 _ _ _⟩

theorem mark_one (s : ByteArray) (hs : s.size ≤ 140737488355328) (h0 : 0 < s.size) (h : arrow s.data.toList = false) (hm : markI ((s[0]).toNat : Int) = true) (w : World) :
    Calls Tryd.prog 66 #[.string s] w fun e w' => TokEnd (some ⟨4, [s[0]], 0⟩) w e w' := by
  have hp := Tryd.strings_HasPrefix s (bs [58, 45])
  rw [show (bs [58, 45]).data.toList = [58, 45] from rfl, arrow_prefix, h] at hp
  have HP := Lib.hid hp
  have hi := Tryd.strings_IndexByte (bs [40, 41, 44, 46, 59, 124, 61]) ((s[0]).toNat : Int)
  rw [show (bs [40, 41, 44, 46, 59, 124, 61]).data.toList = [40, 41, 44, 46, 59, 124, 61] from rfl] at hi
  have hx := mark_index s[0]
  rw [hm] at hx
  generalize Lib.indexByte [40, 41, 44, 46, 59, 124, 61] ((s[0].toNat : Int).toNat.toUInt8) = x at hi hx
  have hx' : 0 ≤ x := by simpa using hx
  have HI := Lib.hid hi
  have he : s.extract 0 1 = bs [s[0]] := by
    rw [take_bs]
    congr 1
    rw [List.take_one, List.head?_eq_getElem?, List.getElem?_eq_getElem (by simpa using h0)]
    rfl
  have HE := Lib.hid he
  have HK := Lib.hid (token_any 4 (s.extract 0 1) (by simp; omega))
  have HQ : Hid (∀ e w', (e = .returned (.tuple #[.agg #[.int .i64 4, .string (s.extract 0 1), .int .i64 0], .bool true]) ∧ Below w.heap.size w w') → TokEnd (some ⟨4, [s[0]], 0⟩) w e w') := by
    rintro e w' ⟨rfl, hb⟩
    exact ⟨by rw [HE.out]; rfl, hb⟩
  refine Calls.mono ?_ HQ.out
  clear hp h hm hi hx he HE HQ
  unfold bs at HP HI
  go_enter Tryd.func66, Tryd.ntmps66
  go_wp2_with (first | (go_at_call 73; refine (HP.out _).mono ?_; rintro e w1 ⟨rfl, rfl⟩) | (go_at_call 74; refine (HI.out _).mono ?_; rintro e w1 ⟨rfl, rfl⟩) | (go_at_call 70; refine (HK.out _).mono ?_; rintro e w1 ⟨rfl, hb1⟩; obtain ⟨hc, hf⟩ := bcell hb1))
  exact bodyPost_ret (v := .tuple #[.agg #[.int .i64 4, .string (s.extract 0 1), .int .i64 0], .bool true]) (by simp [results, Tryd.results66, go_sem, hc]) rfl ⟨rfl, below_tok hb1 _ _ _⟩

theorem mark_none (s : ByteArray) (h0 : 0 < s.size) (h : arrow s.data.toList = false) (hm : markI ((s[0]).toNat : Int) = false) (w : World) :
    Calls Tryd.prog 66 #[.string s] w fun e w' => TokEnd none w e w' := by
  have hp := Tryd.strings_HasPrefix s (bs [58, 45])
  rw [show (bs [58, 45]).data.toList = [58, 45] from rfl, arrow_prefix, h] at hp
  have HP := Lib.hid hp
  have hi := Tryd.strings_IndexByte (bs [40, 41, 44, 46, 59, 124, 61]) ((s[0]).toNat : Int)
  rw [show (bs [40, 41, 44, 46, 59, 124, 61]).data.toList = [40, 41, 44, 46, 59, 124, 61] from rfl] at hi
  have hx := mark_index s[0]
  rw [hm] at hx
  generalize Lib.indexByte [40, 41, 44, 46, 59, 124, 61] ((s[0].toNat : Int).toNat.toUInt8) = x at hi hx
  have hx' : x < 0 := by simpa using hx
  have HI := Lib.hid hi
  clear hp h hm hi hx
  unfold bs at HP HI
  go_enter Tryd.func66, Tryd.ntmps66
  go_wp2_with (first | (go_at_call 73; refine (HP.out _).mono ?_; rintro e w1 ⟨rfl, rfl⟩) | (go_at_call 74; refine (HI.out _).mono ?_; rintro e w1 ⟨rfl, rfl⟩))
  exact bodyPost_ret (v := .tuple #[noTok, .bool false]) (by simp [results, Tryd.results66, go_sem, noTok]) rfl ⟨rfl, (Below.refl _ _).alloc (Nat.le_refl _) _⟩

theorem list_cons (s : ByteArray) (h0 : 0 < s.size) : s.data.toList = s[0] :: s.data.toList.tail := by
  rw [← List.drop_one]
  have := List.drop_eq_getElem_cons (l := s.data.toList) (i := 0) (by simpa using h0)
  simp only [List.drop_zero, Array.getElem_toList] at this
  exact this

theorem mark_any (s : ByteArray) (hs : s.size ≤ 140737488355328) (h0 : 0 < s.size) (w : World) :
    Calls Tryd.prog 66 #[.string s] w fun e w' => TokEnd (markTok s.data.toList) w e w' := by
  by_cases h : arrow s.data.toList = true
  · rw [show markTok s.data.toList = some ⟨4, [58, 45], 0⟩ by unfold markTok; rw [if_pos h]]
    exact mark_arrow s h w
  · have h' : arrow s.data.toList = false := by simpa using h
    by_cases hm : markI ((s[0]).toNat : Int) = true
    · rw [show markTok s.data.toList = some ⟨4, [s[0]], 0⟩ by unfold markTok; rw [if_neg h, list_cons s h0]; simp only [if_pos hm]]
      exact mark_one s hs h0 h' hm w
    · rw [show markTok s.data.toList = none by unfold markTok; rw [if_neg h, list_cons s h0]; simp only [if_neg hm]]
      exact mark_none s h0 h' (by simpa using hm) w

/-- The token at a text's beginning. -/
theorem first_any (s : ByteArray) (hs : s.size ≤ 140737488355328) (h0 : 0 < s.size) (w : World) (hE : Env w) :
    Calls Tryd.prog 47 #[.string s] w fun e w' => TokEnd (tokAt s.data.toList) w e w' := by
  have HL := Lib.hid low_any
  have HU := Lib.hid up_any
  have HD := Lib.hid dig_any
  have hW := fun k w => wordt_any k s hs h0 w
  have hN := fun w hE => number_any s hs h0 w hE
  have hM := fun w => mark_any s hs h0 w
  have HV := Lib.hid hE
  have ht : Hid (tokAt s.data.toList = if lowI ((s[0]).toNat : Int) = true then wordTok 1 s.data.toList
    else if (upI ((s[0]).toNat : Int) || ((s[0]).toNat : Int) == 95) = true then wordTok 2 s.data.toList
    else if (digI ((s[0]).toNat : Int) || ((s[0]).toNat : Int) == 45) = true then numTok s.data.toList
    else markTok s.data.toList) := by
    rw [list_cons s h0]
    rfl
  clear hE
  by_cases h1 : lowI ((s[0]).toNat : Int) = true
  · rw [ht.out, if_pos h1]
    have HW := Lib.hid (hW 1)
    clear hW hN hM ht HV HU HD
    generalize wordTok 1 s.data.toList = o at *
    go_enter Tryd.func47, Tryd.ntmps47
    go_wp2_with (first | (go_at_call 61; refine (HL.out _ _).mono ?_; rintro e w1 ⟨rfl, rfl⟩) | (go_at_call 62; refine (HW.out _).mono ?_; rintro e w1 ⟨rfl, hb1⟩; obtain ⟨hc, hf⟩ := bcell hb1))
    exact bodyPost_ret (v := .tuple #[.agg #[.int .i64 (tk o), .string (tx o), .int .i64 (tn o)], .bool (tb o)]) (by simp [results, Tryd.results47, go_sem, hc]) rfl ⟨rfl, below_tok hb1 _ _ _⟩
  · have h1' : lowI ((s[0]).toNat : Int) = false := by simpa using h1
    by_cases h2 : (upI ((s[0]).toNat : Int) || ((s[0]).toNat : Int) == 95) = true
    · rw [ht.out, if_neg h1, if_pos h2]
      have HW := Lib.hid (hW 2)
      clear hW hN hM ht HV HD h1
      generalize wordTok 2 s.data.toList = o at *
      have h2' : upI ((s[0]).toNat : Int) = true ∨ (upI ((s[0]).toNat : Int) = false ∧ (((s[0]).toNat : Int) == 95) = true) := by
        cases h : upI ((s[0]).toNat : Int)
        · rw [h, Bool.false_or] at h2; exact .inr ⟨rfl, h2⟩
        · exact .inl rfl
      clear h2
      rcases h2' with h2 | ⟨h2, h3⟩
      all_goals
        go_enter Tryd.func47, Tryd.ntmps47
        go_wp2_with (first | (go_at_call 61; refine (HL.out _ _).mono ?_; rintro e w1 ⟨rfl, rfl⟩) | (go_at_call 63; refine (HU.out _ _).mono ?_; rintro e w1 ⟨rfl, rfl⟩) | (go_at_call 62; refine (HW.out _).mono ?_; rintro e w1 ⟨rfl, hb1⟩; obtain ⟨hc, hf⟩ := bcell hb1))
        exact bodyPost_ret (v := .tuple #[.agg #[.int .i64 (tk o), .string (tx o), .int .i64 (tn o)], .bool (tb o)]) (by simp [results, Tryd.results47, go_sem, hc]) rfl ⟨rfl, below_tok hb1 _ _ _⟩
    · have h2' : upI ((s[0]).toNat : Int) = false ∧ (((s[0]).toNat : Int) == 95) = false := by simpa [-beq_iff_eq, -beq_eq_false_iff_ne] using h2
      obtain ⟨h3, h4⟩ := h2'
      by_cases h5 : (digI ((s[0]).toNat : Int) || ((s[0]).toNat : Int) == 45) = true
      · rw [ht.out, if_neg h1, if_neg h2, if_pos h5]
        have HN := Lib.hid hN
        clear hW hN hM ht h1 h2
        generalize numTok s.data.toList = o at *
        have h5' : digI ((s[0]).toNat : Int) = true ∨ (digI ((s[0]).toNat : Int) = false ∧ (((s[0]).toNat : Int) == 45) = true) := by
          cases h : digI ((s[0]).toNat : Int)
          · rw [h, Bool.false_or] at h5; exact .inr ⟨rfl, h5⟩
          · exact .inl rfl
        clear h5
        rcases h5' with h5 | ⟨h5, h6⟩
        all_goals
          go_enter Tryd.func47, Tryd.ntmps47
          go_wp2_with (first | (go_at_call 61; refine (HL.out _ _).mono ?_; rintro e w1 ⟨rfl, rfl⟩) | (go_at_call 63; refine (HU.out _ _).mono ?_; rintro e w1 ⟨rfl, rfl⟩) | (go_at_call 64; refine (HD.out _ _).mono ?_; rintro e w1 ⟨rfl, rfl⟩) | (go_at_call 65; refine (HN.out _ (HV.out.below ((Below.refl _ _).alloc (Nat.le_refl _) _))).mono ?_; rintro e w1 ⟨rfl, hb1⟩; obtain ⟨hc, hf⟩ := bcell hb1))
          exact bodyPost_ret (v := .tuple #[.agg #[.int .i64 (tk o), .string (tx o), .int .i64 (tn o)], .bool (tb o)]) (by simp [results, Tryd.results47, go_sem, hc]) rfl ⟨rfl, below_tok hb1 _ _ _⟩
      · have h5' : digI ((s[0]).toNat : Int) = false ∧ (((s[0]).toNat : Int) == 45) = false := by simpa [-beq_iff_eq, -beq_eq_false_iff_ne] using h5
        obtain ⟨h6, h7⟩ := h5'
        rw [ht.out, if_neg h1, if_neg h2, if_neg h5]
        have HM := Lib.hid hM
        clear hW hN hM ht h1 h2 h5 HV
        generalize markTok s.data.toList = o at *
        go_enter Tryd.func47, Tryd.ntmps47
        go_wp2_with (first | (go_at_call 61; refine (HL.out _ _).mono ?_; rintro e w1 ⟨rfl, rfl⟩) | (go_at_call 63; refine (HU.out _ _).mono ?_; rintro e w1 ⟨rfl, rfl⟩) | (go_at_call 64; refine (HD.out _ _).mono ?_; rintro e w1 ⟨rfl, rfl⟩) | (go_at_call 66; refine (HM.out _).mono ?_; rintro e w1 ⟨rfl, hb1⟩; obtain ⟨hc, hf⟩ := bcell hb1))
        exact bodyPost_ret (v := .tuple #[.agg #[.int .i64 (tk o), .string (tx o), .int .i64 (tn o)], .bool (tb o)]) (by simp [results, Tryd.results47, go_sem, hc]) rfl ⟨rfl, below_tok hb1 _ _ _⟩

end Lx
end Go.Proofs.YtacgbogedpoojabDoor
