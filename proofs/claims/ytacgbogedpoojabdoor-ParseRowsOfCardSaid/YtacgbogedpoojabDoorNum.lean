/- The contract of package lex's number: the int at a text's beginning, or none. Conditions: the text is not empty and has at most 2^47 bytes; the two error variables of strconv hold an error; strconv's table of powers of ten holds them. -/
import Derived.Test.YtacgbogedpoojabDoorTok
namespace Go.Proofs.YtacgbogedpoojabDoor
namespace Lx
open Go Go.RowKit

/-! ### numbers -/
theorem atoi_ok (s : ByteArray) (hs : s.size ≤ 140737488355328) (v : Int) (h : Lib.atoiAll s.data.toList = .ok v) (w : World) :
    Calls Tryd.prog 71 #[.string s] w fun e w' => e = .returned (.tuple #[.int .i64 v, .nilIface]) ∧ Below w.heap.size w w' := by
  refine (Tryd.strconv_Atoi_ok s (by omega) v h w).mono ?_
  rintro e w' ⟨rfl, rfl | ⟨t, rfl⟩⟩
  · exact ⟨rfl, Below.refl _ _⟩
  · exact ⟨rfl, Lib.bytesWorld_below _ _ _⟩

theorem atoi_bad (s : ByteArray) (hs : s.size ≤ 140737488355328) (h : ∀ v, Lib.atoiAll s.data.toList ≠ .ok v) (w : World) (hE : Env w) :
    Calls Tryd.prog 71 #[.string s] w fun e w' => ∃ n N, e = .returned (.tuple #[.int .i64 n, .iface 107 (.pointer (some ⟨N, 0, none⟩))]) ∧ Below w.heap.size w w' := by
  obtain ⟨te, pe, h1⟩ := hE.syn
  obtain ⟨tr, pr, h2⟩ := hE.rng
  rcases hh : Lib.atoiAll s.data.toList with v | _ | _
  · exact absurd hh (h v)
  · refine (Any.strconv_Atoi_syntax Tryd.laysC172 s (by omega) hh _ w h1 (.inr ⟨te, pe, rfl⟩)).mono ?_
    rintro e w' ⟨N, rfl, _, _, hb⟩
    exact ⟨_, N, rfl, hb⟩
  · refine (Any.strconv_Atoi_range Tryd.laysC172 s (by omega) hh _ w h2 (.inr ⟨tr, pr, rfl⟩)).mono ?_
    rintro e w' ⟨N, rfl, _, _, hb⟩
    exact ⟨_, N, rfl, hb⟩

theorem below_grow (w : World) (k : Nat) (os : Array Obj) : Below w.heap.size w (Sort.grow (w.drewN k) os) :=
  ⟨rfl, rfl, rfl, by simp [Sort.grow], fun i hi => by
    show (w.heap ++ os)[i]? = w.heap[i]?
    rw [Array.getElem?_append_left hi]⟩
theorem itoa_any (v : Int) (h0 : -9223372036854775808 ≤ v) (h1 : v ≤ 9223372036854775807) (w : World) (hE : Env w) :
    Calls Tryd.prog 72 #[.int .i64 v] w fun e w' => e = .returned (.string (bs (Lib.itoa v))) ∧ Below w.heap.size w w' := by
  refine (Tryd.strconv_Itoa v h0 h1 w hE.tab).mono ?_
  rintro e w' ⟨rfl, k, os, rfl⟩
  exact ⟨rfl, below_grow w k os⟩

theorem wordAt_yes {s : ByteArray} {n : Nat} (h : wordAt s.data.toList n = true) : ∃ hn : n < s.size, wordI ((s[n]).toNat : Int) = true := by
  unfold wordAt at h
  split at h
  · rename_i c hc
    obtain ⟨hn, he⟩ := List.getElem?_eq_some_iff.1 hc
    refine ⟨by simpa using hn, ?_⟩
    rw [← h, ← he, Array.getElem_toList]
    rfl
  · cases h
theorem wordAt_no {s : ByteArray} {n : Nat} (h : wordAt s.data.toList n = false) (hn : n < s.size) : wordI ((s[n]).toNat : Int) = false := by
  unfold wordAt at h
  split at h
  · rename_i c hc
    obtain ⟨hn, he⟩ := List.getElem?_eq_some_iff.1 hc
    rw [← h, ← he, Array.getElem_toList]
    rfl
  · rename_i hc
    rw [List.getElem?_eq_none_iff] at hc
    simp at hc
    exact absurd hn (by have : s.size = s.data.size := rfl; omega)

theorem number_word (s : ByteArray) (hs : s.size ≤ 140737488355328) (h0 : 0 < s.size) (h : wordAt s.data.toList (numLen s.data.toList) = true) (w : World) :
    Calls Tryd.prog 65 #[.string s] w fun e w' => TokEnd none w e w' := by
  have HR := Lib.hid (run_dig (s.extract 1 s.size) (by simp; omega))
  have HW := Lib.hid word_any
  have HL := Lib.hid (tail_list s)
  rw [HL.out] at HR
  unfold numLen at h
  generalize runL digI s.data.toList.tail = n at *
  obtain ⟨hn, h1⟩ := wordAt_yes h
  clear h
  go_enter Tryd.func65, Tryd.ntmps65
  go_wp2_with (first | (go_at_call 59; refine (HR.out _).mono ?_; rintro e w1 ⟨rfl, rfl⟩) | (go_at_call 69; refine (HW.out _ _).mono ?_; rintro e w1 ⟨rfl, rfl⟩))
  exact bodyPost_ret (v := .tuple #[noTok, .bool false]) (by simp [results, Tryd.results65, go_sem, noTok]) rfl ⟨rfl, (Below.refl _ _).alloc (Nat.le_refl _) _⟩

theorem number_bad (s : ByteArray) (hs : s.size ≤ 140737488355328) (h0 : 0 < s.size) (h : wordAt s.data.toList (numLen s.data.toList) = false) (hb : ∀ v, Lib.atoiAll (s.data.toList.take (numLen s.data.toList)) ≠ .ok v) (w : World) (hE : Env w) :
    Calls Tryd.prog 65 #[.string s] w fun e w' => TokEnd none w e w' := by
  have HR := Lib.hid (run_dig (s.extract 1 s.size) (by simp; omega))
  have HW := Lib.hid word_any
  have HL := Lib.hid (tail_list s)
  have hle := runL_le digI s.data.toList.tail
  simp at hle
  rw [HL.out] at HR
  unfold numLen at h hb
  generalize runL digI s.data.toList.tail = n at *
  have H1 := Lib.hid (fun hn => wordAt_no (s := s) (n := 1 + n) h hn)
  clear h
  have HA := Lib.hid (fun w hE => atoi_bad (s.extract 0 (1 + n)) (by simp; omega) (by rw [take_bs]; exact hb) w hE)
  have HV := Lib.hid hE
  clear hb hE
  rcases Nat.lt_or_ge (1 + n) s.size with hn | hn
  all_goals
    first | (have h1 := H1.out hn) | skip
    go_enter Tryd.func65, Tryd.ntmps65
    go_wp2_with (first | (go_at_call 59; refine (HR.out _).mono ?_; rintro e w1 ⟨rfl, rfl⟩) | (go_at_call 69; refine (HW.out _ _).mono ?_; rintro e w1 ⟨rfl, rfl⟩) | (go_at_call 71; refine (HA.out _ (HV.out.below ((Below.refl _ _).alloc (Nat.le_refl _) _))).mono ?_; rintro e w1 ⟨v, N, rfl, hb1⟩; obtain ⟨hc, hf⟩ := bcell hb1))
    go_quiet (fail)
    go_wp2
    refine bodyPost_ret (v := .tuple #[noTok, .bool false]) (by simp [results, Tryd.results65, go_sem, hc, noTok]) rfl ⟨rfl, below_tok (below_dN hb1 _) _ _ _⟩

theorem number_not (s : ByteArray) (hs : s.size ≤ 140737488355328) (h0 : 0 < s.size) (h : wordAt s.data.toList (numLen s.data.toList) = false) (v : Int)
    (hv : Lib.atoiAll (s.data.toList.take (numLen s.data.toList)) = .ok v) (hi : Lib.itoa v ≠ s.data.toList.take (numLen s.data.toList)) (w : World) (hE : Env w) :
    Calls Tryd.prog 65 #[.string s] w fun e w' => TokEnd none w e w' := by
  have HR := Lib.hid (run_dig (s.extract 1 s.size) (by simp; omega))
  have HW := Lib.hid word_any
  have HL := Lib.hid (tail_list s)
  have hle := runL_le digI s.data.toList.tail
  simp at hle
  rw [HL.out] at HR
  unfold numLen at h hv hi
  generalize runL digI s.data.toList.tail = n at *
  have H1 := Lib.hid (fun hn => wordAt_no (s := s) (n := 1 + n) h hn)
  clear h
  have HA := Lib.hid (fun w => atoi_ok (s.extract 0 (1 + n)) (by simp; omega) v (by rw [take_bs]; exact hv) w)
  obtain ⟨hb0, hb1⟩ := Lib.atoiAll_bounds hv
  have HI := Lib.hid (fun w hE => itoa_any v hb0 hb1 w hE)
  have hne : ((bs (Lib.itoa v)).toList == (s.extract 0 (1 + n)).toList) = false := by
    rw [beq_eq_false_iff_ne, take_bs, ByteArray.toList_eq, ByteArray.toList_eq]
    intro h
    exact hi (by simpa [bs] using h)
  have HV := Lib.hid hE
  clear hv hi hE hb0 hb1
  generalize bs (Lib.itoa v) = x at *
  rcases Nat.lt_or_ge (1 + n) s.size with hn | hn
  all_goals
    first | (have h1 := H1.out hn) | skip
    go_enter Tryd.func65, Tryd.ntmps65
    go_wp2_with (first | (go_at_call 59; refine (HR.out _).mono ?_; rintro e w1 ⟨rfl, rfl⟩) | (go_at_call 69; refine (HW.out _ _).mono ?_; rintro e w1 ⟨rfl, rfl⟩) | (go_at_call 71; refine (HA.out _).mono ?_; rintro e w1 ⟨rfl, hb1⟩; obtain ⟨hc, hf⟩ := bcell hb1))
    have hE1 := Lib.hid (HV.out.below (((Below.refl _ _).alloc (Nat.le_refl _) _).trans (hb1.mono (by simp))))
    have cI : ∀ d os, Calls Tryd.prog 72 #[.int .i64 v] (Sort.grow (redrawn w1 d) os) fun e w'' => e = .returned (.string x) ∧ ∃ p : Regrown, w'' = Sort.grow (redrawn w1 p.d) p.os :=
      fun d os => Calls.regrown_of (HI.out _ (hE1.out.below (below_regrown w1 d os)))
    have CI := Lib.hid cI
    clear cI
    refine wp_region_quiet_below (by kernel_rfl) (by kernel_rfl) ?_
    repeat (first | go_big_quiet_step (exact CI.out _ _) | quiet_step (exact CI.out _ _))
    refine wpQuiet_nil ?_
    intro _ hw'
    obtain ⟨⟨dq, osq⟩, hw''⟩ := hw'
    subst hw''
    have hbb := hb1.trans ((below_regrown w1 dq osq).mono hb1.size)
    generalize Sort.grow (redrawn w1 dq) osq = w2 at hbb ⊢
    clear hc hf
    obtain ⟨hc, hf⟩ := bcell hbb
    go_wp2
    exact bodyPost_ret (v := .tuple #[noTok, .bool false]) (by simp [results, Tryd.results65, go_sem, hc, noTok]) rfl ⟨rfl, below_tok hbb _ _ _⟩

theorem number_yes (s : ByteArray) (hs : s.size ≤ 140737488355328) (h0 : 0 < s.size) (h : wordAt s.data.toList (numLen s.data.toList) = false) (v : Int)
    (hv : Lib.atoiAll (s.data.toList.take (numLen s.data.toList)) = .ok v) (hi : Lib.itoa v = s.data.toList.take (numLen s.data.toList)) (w : World) (hE : Env w) :
    Calls Tryd.prog 65 #[.string s] w fun e w' => TokEnd (some ⟨3, s.data.toList.take (numLen s.data.toList), v⟩) w e w' := by
  have HR := Lib.hid (run_dig (s.extract 1 s.size) (by simp; omega))
  have HW := Lib.hid word_any
  have HL := Lib.hid (tail_list s)
  have hle := runL_le digI s.data.toList.tail
  simp at hle
  rw [HL.out] at HR
  unfold numLen at h hv hi ⊢
  generalize runL digI s.data.toList.tail = n at *
  have H1 := Lib.hid (fun hn => wordAt_no (s := s) (n := 1 + n) h hn)
  clear h
  have HA := Lib.hid (fun w => atoi_ok (s.extract 0 (1 + n)) (by simp; omega) v (by rw [take_bs]; exact hv) w)
  obtain ⟨hb0, hb1⟩ := Lib.atoiAll_bounds hv
  have HI := Lib.hid (fun w hE => itoa_any v hb0 hb1 w hE)
  have hx : bs (Lib.itoa v) = s.extract 0 (1 + n) := by rw [take_bs, hi]
  have HT := Lib.hid (take_bs s (1 + n))
  rw [hx] at HI
  have HV := Lib.hid hE
  have HK := Lib.hid (token_any 3 (s.extract 0 (1 + n)) (by simp; omega))
  have HP : Hid (∀ e w', (e = .returned (.tuple #[.agg #[.int .i64 3, .string (s.extract 0 (1 + n)), .int .i64 v], .bool true]) ∧ Below w.heap.size w w') → TokEnd (some ⟨3, s.data.toList.take (1 + n), v⟩) w e w') := by
    rintro e w' ⟨rfl, hb⟩
    exact ⟨by rw [HT.out]; rfl, hb⟩
  refine Calls.mono ?_ HP.out
  clear hv hi hE hx hb0 hb1 HT HP
  rcases Nat.lt_or_ge (1 + n) s.size with hn | hn
  all_goals
    first | (have h1 := H1.out hn) | skip
    go_enter Tryd.func65, Tryd.ntmps65
    go_wp2_with (first | (go_at_call 59; refine (HR.out _).mono ?_; rintro e w1 ⟨rfl, rfl⟩) | (go_at_call 69; refine (HW.out _ _).mono ?_; rintro e w1 ⟨rfl, rfl⟩) | (go_at_call 71; refine (HA.out _).mono ?_; rintro e w1 ⟨rfl, hb1⟩; obtain ⟨hc, hf⟩ := bcell hb1))
    have hE1 := Lib.hid (HV.out.below (((Below.refl _ _).alloc (Nat.le_refl _) _).trans (hb1.mono (by simp))))
    have cI : ∀ d os, Calls Tryd.prog 72 #[.int .i64 v] (Sort.grow (redrawn w1 d) os) fun e w'' => e = .returned (.string (s.extract 0 (1 + n))) ∧ ∃ p : Regrown, w'' = Sort.grow (redrawn w1 p.d) p.os :=
      fun d os => Calls.regrown_of (HI.out _ (hE1.out.below (below_regrown w1 d os)))
    have CI := Lib.hid cI
    clear cI
    refine wp_region_quiet_below (by kernel_rfl) (by kernel_rfl) ?_
    repeat (first | go_big_quiet_step (exact CI.out _ _) | quiet_step (exact CI.out _ _))
    refine wpQuiet_nil ?_
    intro _ hw'
    obtain ⟨⟨dq, osq⟩, hw''⟩ := hw'
    subst hw''
    have hbb := hb1.trans ((below_regrown w1 dq osq).mono hb1.size)
    generalize Sort.grow (redrawn w1 dq) osq = w2 at hbb ⊢
    clear hc hf
    go_wp2_with (go_at_call 70; refine (HK.out _).mono ?_; rintro e w3 ⟨rfl, hb3⟩; have hbc := hbb.trans (hb3.mono hbb.size); obtain ⟨hc, hf⟩ := bcell hbc; have hz : w.heap.size < w3.heap.size := by have := hbc.size; simp at this; omega)
    exact bodyPost_ret (v := .tuple #[.agg #[.int .i64 3, .string (s.extract 0 (1 + n)), .int .i64 v], .bool true]) (by simp [results, Tryd.results65, go_sem, hc, hz]) rfl ⟨rfl, (below_tok hbc _ _ _).alloc (by simp; omega) _⟩

theorem number_any (s : ByteArray) (hs : s.size ≤ 140737488355328) (h0 : 0 < s.size) (w : World) (hE : Env w) :
    Calls Tryd.prog 65 #[.string s] w fun e w' => TokEnd (numTok s.data.toList) w e w' := by
  by_cases h : wordAt s.data.toList (numLen s.data.toList) = true
  · rw [show numTok s.data.toList = none by unfold numTok; rw [if_pos h]]
    exact number_word s hs h0 h w
  · have h' : wordAt s.data.toList (numLen s.data.toList) = false := by simpa using h
    by_cases hv : ∃ v, Lib.atoiAll (s.data.toList.take (numLen s.data.toList)) = .ok v
    · obtain ⟨v, hv⟩ := hv
      by_cases hi : Lib.itoa v = s.data.toList.take (numLen s.data.toList)
      · rw [show numTok s.data.toList = some ⟨3, s.data.toList.take (numLen s.data.toList), v⟩ by unfold numTok; rw [if_neg h]; simp only [numOf, hv, if_pos hi]]
        exact number_yes s hs h0 h' v hv hi w hE
      · rw [show numTok s.data.toList = none by unfold numTok; rw [if_neg h]; simp only [numOf, hv, if_neg hi]]
        exact number_not s hs h0 h' v hv hi w hE
    · have hb : ∀ v, Lib.atoiAll (s.data.toList.take (numLen s.data.toList)) ≠ .ok v := fun v e => hv ⟨v, e⟩
      rw [show numTok s.data.toList = none by
        unfold numTok
        rw [if_neg h]
        have : numOf (s.data.toList.take (numLen s.data.toList)) = none := by
          unfold numOf
          split
          · rename_i u hu; exact absurd hu (hb u)
          · rfl
        rw [this]]
      exact number_bad s hs h0 h' hb w hE

end Lx
end Go.Proofs.YtacgbogedpoojabDoor
