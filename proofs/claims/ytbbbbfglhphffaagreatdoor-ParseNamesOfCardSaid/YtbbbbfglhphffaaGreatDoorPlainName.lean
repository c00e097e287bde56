/- Plain facts: a text that is one name, and that name with a point behind it: the tokens, and what a parser makes of them. No program stands in this text but the tokens' form; no conditions. -/
import Derived.Test.YtbbbbfglhphffaaGreatDoorTextI
import Derived.Test.YtbbbbfglhphffaaGreatDoorPlainA
namespace Go.Proofs.YtbbbbfglhphffaaGreatDoor
set_option linter.unusedSimpArgs false
set_option linter.unusedVariables false
namespace Lx
open Go Go.RowKit

/-- A token that is a name: how it begins, and that it goes on to its end. -/
theorem name_spec {l : List UInt8} {t : Tok} (h : tokAt l = some t) (hk : t.kind = 1) : ∃ c r, l = c :: r ∧ lowI (c.toNat : Int) = true ∧ 1 + runL wordI r ≤ 32 ∧ t = ⟨1, l.take (1 + runL wordI r), 0⟩ := by
  cases l with
  | nil => simp [tokAt] at h
  | cons c r =>
    simp only [tokAt] at h
    split at h
    · rename_i hc
      unfold wordTok at h
      split at h
      · rename_i hl
        injection h with h
        exact ⟨c, r, rfl, hc, hl, h.symm⟩
      · cases h
    · exfalso
      split at h
      · unfold wordTok at h
        split at h
        · injection h with h
          rw [← h] at hk
          simp at hk
        · cases h
      · split at h
        · unfold numTok at h
          split at h
          · cases h
          · split at h
            · injection h with h
              rw [← h] at hk
              simp at hk
            · cases h
        · unfold markTok at h
          split at h
          · injection h with h
            rw [← h] at hk
            simp at hk
          · simp only at h
            split at h
            · injection h with h
              rw [← h] at hk
              simp at hk
            · cases h
theorem name_text {s : List UInt8} {t : Tok} (h : tokAt s = some t) (hk : t.kind = 1) (ht : t.text = s) : t = ⟨1, s, 0⟩ ∧ s ≠ [] ∧ s.length ≤ 32 ∧ tokAt (s ++ [46]) = some ⟨1, s, 0⟩ ∧ ∃ c r, s = c :: r ∧ lowI (c.toNat : Int) = true := by
  obtain ⟨c, r, rfl, hc, hl, e⟩ := name_spec h hk
  rw [e] at ht
  simp only at ht
  have hlen : (c :: r).length ≤ 1 + runL wordI r := by
    have := congrArg List.length ht
    rw [List.length_take] at this
    omega
  have hr := runL_le wordI r
  simp only [List.length_cons] at hlen ⊢
  have h46 : runL wordI (r ++ [46]) = runL wordI r := runL_app' wordI 46 rfl [] r
  refine ⟨by rw [e, ht], by simp, by omega, ?_, c, r, rfl, hc⟩
  simp only [List.cons_append, tokAt, hc, if_true, wordTok, List.tail_cons, h46]
  rw [if_pos hl]
  congr 2
  rw [show 1 + runL wordI r = r.length + 1 by omega, List.take_succ_cons, List.take_append_of_le_length (Nat.le_refl _), List.take_length]
theorem low_head {c : UInt8} (h : lowI (c.toNat : Int) = true) : blkI (c.toNat : Int) = false ∧ ((c.toNat : Int) == 37) = false := by
  simp only [lowI, Bool.and_eq_true, decide_eq_true_eq] at h
  refine ⟨?_, by simp; omega⟩
  simp only [blkI, Bool.or_eq_false_iff, beq_eq_false_iff_ne]
  omega
theorem step_any {c : UInt8} {r rest : List UInt8} {t : Tok} (hb : blkI (c.toNat : Int) = false) (h : ((c.toNat : Int) == 37) = false) (ht : tokAt (c :: r) = some t) (hr : (c :: r).drop t.text.length = rest) : toks (c :: r) = t :: toks rest ∧ whole (c :: r) = whole rest := by
  unfold toks whole
  rw [lex_tok 0 c r hb h t ht, hr]
  have hs := lex_shift rest.length false (0 + t.text.length) 0 rest (Nat.le_refl _)
  exact ⟨by simp only [List.map_cons]; rw [hs.1], hs.2⟩
theorem name_toks {s : List UInt8} {t : Tok} (h : tokAt s = some t) (hk : t.kind = 1) (ht : t.text = s) :
    (toks s = [⟨1, s, 0⟩] ∧ whole s = true) ∧ (toks (s ++ [46]) = [⟨1, s, 0⟩, ⟨4, [46], 0⟩] ∧ whole (s ++ [46]) = true) := by
  obtain ⟨e, hn, hl, hp, c, r, rfl, hc⟩ := name_text h hk ht
  obtain ⟨q1, q2⟩ := low_head hc
  refine ⟨?_, ?_⟩
  · have := step_any q1 q2 (h.trans (congrArg some e)) (rest := []) (by simp)
    exact this
  · have h1 := step_any (r := r ++ [46]) q1 q2 (by rw [← List.cons_append]; exact hp) (rest := [46]) (by simp)
    have h2 : toks [46] = [⟨4, [46], 0⟩] ∧ whole [46] = true := step_any rfl rfl rfl rfl
    rw [h2.1, h2.2] at h1
    exact h1

/-! ### what a parser makes of them -/
def dotT : Tok := ⟨4, [46], 0⟩
def nmT (s : List UInt8) : Tok := ⟨1, s, 0⟩
theorem resv_bs (s : List UInt8) : resv (bs s).toList = resv s := by
  rw [ByteArray.toList_eq]
  simp [bs]
theorem resv_of {s : List UInt8} (h : s ∈ wordsL) : resv s = true := by
  unfold resv
  rw [List.any_eq_true]
  exact ⟨s, h, by simp⟩
theorem mem_of_resv {s : List UInt8} (h : resv s = true) : s ∈ wordsL := by
  unfold resv at h
  rw [List.any_eq_true] at h
  obtain ⟨x, hx, he⟩ := h
  rw [beq_iff_eq] at he
  rwa [he]
theorem name_item {s : List UInt8} (hs : resv s = false) : sourceO [nmT s, dotT] 0 0 = .ok [⟨4, s, [], [], [], [], 0, [], trueG⟩] 2 := by
  have hne : ∀ x, x ∈ wordsL → (s == x) = false := by
    intro x hx
    rw [beq_eq_false_iff_ne]
    rintro rfl
    rw [resv_of hx] at hs
    cases hs
  have hq : ∀ x, hasT [nmT s, dotT] 0 x = (s == x) := fun x => rfl
  have hn : nameO [nmT s, dotT] 0 = .ok s 1 := if_pos ⟨rfl, by rw [show (peekT [nmT s, dotT] 0).text = s from rfl, resv_bs, hs]⟩
  have hi : itemO [nmT s, dotT] 0 0 = .ok ⟨4, s, [], [], [], [], 0, [], trueG⟩ 1 := by
    unfold itemO
    rw [hq, hq, hq, hne _ (by decide), hne _ (by decide), hne _ (by decide)]
    simp only [Bool.false_eq_true, if_false]
    unfold clauseO
    rw [hn]
    rfl
  unfold sourceO
  show srcLoop [nmT s, dotT] 0 3 0 [] = _
  rw [srcLoop, hi]
  rfl
theorem name_no {s : List UInt8} (hs : resv s = true) : ∃ i, sourceO [nmT s, dotT] 0 0 = .no 2 ∧ i = 2 := by
  have h := mem_of_resv hs
  have ha : (wordsL.all fun x => match sourceO [nmT x, dotT] 0 0 with
    | .no i => i == 2
    | .ok _ _ => false) = true := by kernel_rfl
  have h2 := List.all_eq_true.1 ha s h
  refine ⟨2, ?_, rfl⟩
  cases hq : sourceO [nmT s, dotT] 0 0 with
  | ok x k => rw [hq] at h2; cases h2
  | no i => rw [hq] at h2; simp only [beq_iff_eq] at h2; rw [h2]
theorem name_term {s : List UInt8} : termO [nmT s] 66 0 0 = if resv s = false then .ok (.mk 3 s 0 []) 1 else .no 2 := by
  have he : enterO [nmT s] 0 0 = .ok () 0 := rfl
  have hk : (peekT [nmT s] 0).kind = 1 := rfl
  rw [termO, he]
  simp only
  rw [hk, if_neg (by decide), if_neg (by decide)]
  unfold nameO
  rw [hk, show (peekT [nmT s] 0).text = s from rfl, resv_bs]
  cases hs : resv s with
  | true => rfl
  | false => rfl

end Lx
end Go.Proofs.YtbbbbfglhphffaaGreatDoor
