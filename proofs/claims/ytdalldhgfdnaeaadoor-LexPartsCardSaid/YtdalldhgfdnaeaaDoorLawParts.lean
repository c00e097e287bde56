/- The walk of the statement LexParts: it returns true. Conditions: the error variables hold an error; strconv's table of powers of ten holds them. -/
import Derived.Test.YtdalldhgfdnaeaaDoorSrc
import Derived.Deep.Cut
namespace Go.Proofs.YtdalldhgfdnaeaaDoor
namespace Lx
open Go Go.RowKit

theorem join10 (s t : ByteArray) : (s ++ ⟨#[10]⟩ ++ t).data.toList = s.data.toList ++ 10 :: t.data.toList := by simp
theorem join10_size (s t : ByteArray) : (s ++ ⟨#[10]⟩ ++ t).size = s.size + 1 + t.size := by
  rw [ByteArray.size_append, ByteArray.size_append]
  rfl
theorem good_join {s t : ByteArray} (hs : good s = true) (ht : good t = true) (hl : s.size + t.size < 16384) : good (s ++ ⟨#[10]⟩ ++ t) = true ∧ toks (s ++ ⟨#[10]⟩ ++ t).data.toList = toks s.data.toList ++ toks t.data.toList := by
  simp only [good, Bool.and_eq_true, decide_eq_true_eq] at hs ht ⊢
  obtain ⟨h1, h2⟩ := toks_app (m := t.data.toList) hs.2
  rw [join10, join10_size, h2]
  exact ⟨⟨by omega, ht.2⟩, h1⟩

theorem size_list (s : ByteArray) : s.data.toList.length = s.size := by simp

theorem lawParts_any (s t : ByteArray) (w : World) (hE : Env w) (el et : Value) (hR : Errs w el et) :
    Calls Tryd.prog 9 #[.string s, .string t] w fun e w' => e = .returned (.bool true) ∧ Below w.heap.size w w' := by
  have HA := Lib.hid (alive_any w hE el et hR)
  have hsz := hE.size
  have HV := Lib.hid hE
  have HW := Lib.hid hR
  clear hE hR
  cases hgs : good s with
  | false =>
    have HS := Lib.hid (lex_bad' s hgs)
    clear hgs
    cases hgt : good t with
    | false =>
      have HT := Lib.hid (lex_bad' t hgt)
      clear hgt
      go_enter Tryd.func9, Tryd.ntmps9
      go_wp2_with fail
      refine HA.out.mono ?_
      rintro e w1 ⟨rfl, hb1⟩
      go_wp2_with fail
      refine (HS.out _ (HV.out.below hb1) _ _ (HW.out.below hsz hb1)).mono ?_
      rintro e w2 ⟨tp, p, rfl, hb2⟩
      have hb2 := hb1.trans (hb2.mono hb1.size)
      go_wp2_with fail
      refine (HT.out _ (HV.out.below hb2) _ _ (HW.out.below hsz hb2)).mono ?_
      rintro e w3 ⟨tp', p', rfl, hb3⟩
      have hb3 := hb2.trans (hb3.mono hb2.size)
      go_wp2
      go_ret
      exact ⟨rfl, hb3⟩
    | true =>
      have HT := Lib.hid (lex_good t hgt)
      clear hgt
      go_enter Tryd.func9, Tryd.ntmps9
      go_wp2_with fail
      refine HA.out.mono ?_
      rintro e w1 ⟨rfl, hb1⟩
      go_wp2_with fail
      refine (HS.out _ (HV.out.below hb1) _ _ (HW.out.below hsz hb1)).mono ?_
      rintro e w2 ⟨tp, p, rfl, hb2⟩
      have hb2 := hb1.trans (hb2.mono hb1.size)
      go_wp2_with fail
      refine (HT.out _ (HV.out.below hb2) _ _ (HW.out.below hsz hb2)).mono ?_
      rintro e w3 ⟨v, rfl, hb3, _⟩
      have hb3 := hb2.trans (hb3.mono hb2.size)
      go_wp2
      go_ret
      exact ⟨rfl, hb3⟩
  | true =>
    have HS := Lib.hid (lex_good s hgs)
    cases hgt : good t with
    | false =>
      have HT := Lib.hid (lex_bad' t hgt)
      clear hgt hgs
      go_enter Tryd.func9, Tryd.ntmps9
      go_wp2_with fail
      refine HA.out.mono ?_
      rintro e w1 ⟨rfl, hb1⟩
      go_wp2_with fail
      refine (HS.out _ (HV.out.below hb1) _ _ (HW.out.below hsz hb1)).mono ?_
      rintro e w2 ⟨v, rfl, hb2, _⟩
      have hb2 := hb1.trans (hb2.mono hb1.size)
      go_wp2_with fail
      refine (HT.out _ (HV.out.below hb2) _ _ (HW.out.below hsz hb2)).mono ?_
      rintro e w3 ⟨tp, p, rfl, hb3⟩
      have hb3 := hb2.trans (hb3.mono hb2.size)
      go_wp2
      go_ret
      exact ⟨rfl, hb3⟩
    | true =>
      have HT := Lib.hid (lex_good t hgt)
      have HJ := Lib.hid (good_join hgs hgt)
      have h1 : s.size ≤ 16384 := by simp only [good, Bool.and_eq_true, decide_eq_true_eq] at hgs; exact hgs.1
      have h2 : t.size ≤ 16384 := by simp only [good, Bool.and_eq_true, decide_eq_true_eq] at hgt; exact hgt.1
      have hl1 := toks_len s.data.toList
      have hl2 := toks_len t.data.toList
      rw [size_list] at hl1 hl2
      clear hgt hgs
      rcases Nat.lt_or_ge (s.size + t.size) 16384 with hlt | hge
      · obtain ⟨hgu, htu⟩ := HJ.out hlt
        have hU := lex_good _ hgu
        rw [htu] at hU
        clear htu hgu
        have HN := Lib.hid hl1
        have HM := Lib.hid hl2
        have HQ := Lib.hid hlt
        clear hl1 hl2 hlt h1 h2
        generalize toks s.data.toList = ts at *
        generalize toks t.data.toList = us at *
        have HU := Lib.hid hU
        clear hU
        go_enter Tryd.func9, Tryd.ntmps9
        go_wp2_with fail
        refine HA.out.mono ?_
        rintro e w1 ⟨rfl, hb1⟩
        go_wp2_with fail
        refine (HS.out _ (HV.out.below hb1) _ _ (HW.out.below hsz hb1)).mono ?_
        rintro e w2 ⟨v, rfl, hb2, ho2⟩
        have hs2 := Lib.hid (Src.of_own ho2)
        have hb2 := hb1.trans (hb2.mono hb1.size)
        clear ho2
        go_wp2_with fail
        refine (HT.out _ (HV.out.below hb2) _ _ (HW.out.below hsz hb2)).mono ?_
        rintro e w3 ⟨v', rfl, hb3', ho3⟩
        have hs3 := Lib.hid (Src.of_own ho3)
        have hs2 := Lib.hid ((hs2.out.below hb3').mono hb3'.size)
        have hb3 := hb2.trans (hb3'.mono hb2.size)
        clear ho3 hb3'
        have q1 : (s.size : Int) + (t.size : Int) < 16384 := by have := HQ.out; omega
        have q2 : (0 : Int) ≤ (s.size : Int) := by omega
        have q3 : (0 : Int) ≤ (t.size : Int) := by omega

        have r1 : ∀ W : World, (Op.stringOp .add s ⟨#[10]⟩).run Tryd.prog W = .ok (.string (s ++ ⟨#[10]⟩)) W := fun W => run_string_add_sum W _ _ (by have := HQ.out; show s.size + 1 ≤ _; omega)
        have r2 : ∀ W : World, (Op.stringOp .add (s ++ ⟨#[10]⟩) t).run Tryd.prog W = .ok (.string (s ++ ⟨#[10]⟩ ++ t)) W := fun W => run_string_add_sum W _ _ (by have := HQ.out; rw [ByteArray.size_append]; show s.size + 1 + t.size ≤ _; omega)
        have hq : decide ((16384 : Int) ≤ (s.size : Int) + (t.size : Int)) = false := by have := HQ.out; simp; omega
        go_wp2_with fail
        refine (HU.out _ (HV.out.below hb3) _ _ (HW.out.below hsz hb3)).mono ?_
        rintro e w4 ⟨x, rfl, hb4', ho4⟩
        obtain ⟨A3, c3, rfl, hr4⟩ := (Src.of_own ho4).shape
        have hs4 := Lib.hid (Src.of_own ho4)
        clear hr4
        have hs3 := Lib.hid ((hs3.out.below hb4').mono hb4'.size)
        have hs2 := Lib.hid ((hs2.out.below hb4').mono hb4'.size)
        have hb4 := hb3.trans (hb4'.mono hb3.size)
        clear ho4 hb4'
        clear hq r1 r2 q1 q2 q3
        have hm : Below w4.heap.size w4 (w4.alloc (.cells #[] 40)) := (Below.refl _ _).alloc (Nat.le_refl _) _
        have ho : (w4.alloc (.cells #[] 40)).ownsRow w4.heap.size 40 3 (.slice (some ⟨w4.heap.size, 0, none⟩) 0 0) 0 [] := World.ownsRow_made w4 #[] 0 (Nat.le_refl _) (by unfold maxLen; omega) rfl
        have HM' := Lib.hid hm
        have HO := Lib.hid ho
        clear hm ho
        go_wp2_with (first | (at_builtin; refine wpList_append_src rfl (.tmp 49) (.tmp 50) rfl w4.heap.size _ 0 [] rfl HO.out w4.heap.size v ts rfl (hs2.out.below HM'.out) (by have := HQ.out; have := HN.out; omega) HM'.out.size ?_; intro v1 w5 ho5 hg5; simp only [Nat.zero_add, List.nil_append] at ho5; obtain ⟨A1, c1, rfl⟩ := owns_shape ho5; have hb5 := HM'.out.grown hg5 HM'.out.size (fun k hk => (HO.out.lt k hk).1)) | (at_builtin; refine wpList_append_src rfl (.tmp 51) (.tmp 52) rfl w4.heap.size _ _ _ rfl ho5 w4.heap.size v' us rfl (hs3.out.below hb5) (by have := HQ.out; have := HN.out; have := HM.out; omega) hb5.size ?_; intro v2 w6 ho6 hg6; obtain ⟨A2, c2, rfl⟩ := owns_shape ho6; have hb6 := hb5.grown hg6 hb5.size (fun k hk => (ho5.lt k hk).1); have hr6 := Lib.hid (same_true w6 (ts ++ us) A3 A2 c3 c2 ((hs4.out.below hb6).rowT) (RowT.of_own (by rw [show cellsT (ts ++ us) = cellsT ts ++ cellsT us from List.flatMap_append]; exact ho6) (by rw [List.length_append])) (by have := HQ.out; have := HN.out; have := HM.out; rw [List.length_append]; omega))) | (go_at_call 14; have hr7 := hr6.out; rw [List.length_append] at hr7; refine hr7.mono ?_; clear hr7; rintro e w7 ⟨rfl, nq, rfl⟩))
        go_ret
        exact ⟨rfl, below_dN (hb4.trans (hb6.mono hb4.size)) nq⟩
      · have HQ := Lib.hid hge
        have HN := Lib.hid hl1
        have q1 : (s.size : Int) ≤ 16384 := by omega
        have q2 : (t.size : Int) ≤ 16384 := by omega
        clear hge hl1 hl2 h1 h2 HJ
        generalize toks s.data.toList = ts at *
        generalize toks t.data.toList = us at *
        go_enter Tryd.func9, Tryd.ntmps9
        go_wp2_with fail
        refine HA.out.mono ?_
        rintro e w1 ⟨rfl, hb1⟩
        go_wp2_with fail
        refine (HS.out _ (HV.out.below hb1) _ _ (HW.out.below hsz hb1)).mono ?_
        rintro e w2 ⟨v, rfl, hb2, _⟩
        have hb2 := hb1.trans (hb2.mono hb1.size)
        go_wp2_with fail
        refine (HT.out _ (HV.out.below hb2) _ _ (HW.out.below hsz hb2)).mono ?_
        rintro e w3 ⟨v', rfl, hb3, _⟩
        have hb3 := hb2.trans (hb3.mono hb2.size)
        have hq : decide ((16384 : Int) ≤ (s.size : Int) + (t.size : Int)) = true := by have := HQ.out; simp; omega
        go_wp2
        go_ret
        exact ⟨rfl, hb3⟩

end Lx
end Go.Proofs.YtdalldhgfdnaeaaDoor
