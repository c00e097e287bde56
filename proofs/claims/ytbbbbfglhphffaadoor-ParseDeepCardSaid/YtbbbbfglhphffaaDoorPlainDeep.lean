/- Plain facts: what the nested texts of the statement ParseDeep are as tokens, and what a parser makes of them; a single name and a name with a point behind it. No program stands in this text but the tokens' form; no conditions. -/
import Derived.Test.YtbbbbfglhphffaaDoorTextI
import Derived.Test.YtbbbbfglhphffaaDoorPlainA
namespace Go.Proofs.YtbbbbfglhphffaaDoor
set_option linter.unusedSimpArgs false
set_option linter.unusedVariables false
namespace Lx
open Go

theorem toks_step {c : UInt8} {r rest : List UInt8} {t : Tok} (hb : blkI (c.toNat : Int) = false) (h : ((c.toNat : Int) == 37) = false) (ht : tokAt (c :: r) = some t) (hr : (c :: r).drop t.text.length = rest) : toks (c :: r) = t :: toks rest ∧ whole (c :: r) = whole rest := by
  unfold toks whole
  rw [lex_tok 0 c r hb h t ht, hr]
  have hs := lex_shift rest.length false (0 + t.text.length) 0 rest (Nat.le_refl _)
  exact ⟨by simp only [List.map_cons]; rw [hs.1], hs.2⟩

def tD : Nat → List UInt8
  | 0 => [120]
  | k + 1 => [102, 40] ++ tD k ++ [41]
def gD : Nat → List UInt8
  | 0 => [113]
  | k + 1 => [40] ++ gD k ++ [41]
def lpT : Tok := ⟨4, [40], 0⟩
def rpT : Tok := ⟨4, [41], 0⟩
def TT : Nat → List Tok
  | 0 => [⟨1, [120], 0⟩]
  | k + 1 => ⟨1, [102], 0⟩ :: lpT :: (TT k ++ [rpT])
def GT : Nat → List Tok
  | 0 => [⟨1, [113], 0⟩]
  | k + 1 => lpT :: (GT k ++ [rpT])
theorem tD_len : ∀ k, (tD k).length = 1 + 3 * k
  | 0 => rfl
  | k + 1 => by simp [tD, tD_len k]; omega
theorem gD_len : ∀ k, (gD k).length = 1 + 2 * k
  | 0 => rfl
  | k + 1 => by simp [gD, gD_len k]; omega
theorem TT_len : ∀ k, (TT k).length = 1 + 3 * k
  | 0 => rfl
  | k + 1 => by simp [TT, TT_len k]; omega
theorem GT_len : ∀ k, (GT k).length = 1 + 2 * k
  | 0 => rfl
  | k + 1 => by simp [GT, GT_len k]; omega

/-- What may stand behind: nothing, or a closing bracket. -/
def Close (r : List UInt8) : Prop := r = [] ∨ ∃ r', r = 41 :: r'
theorem close_tok (r : List UInt8) : tokAt (41 :: r) = some rpT := by cases r <;> rfl
theorem close_step (r : List UInt8) : toks (41 :: r) = rpT :: toks r ∧ whole (41 :: r) = whole r := toks_step rfl rfl (close_tok r) rfl
theorem open_tok (r : List UInt8) : tokAt (40 :: r) = some lpT := by cases r <;> rfl
theorem open_step (r : List UInt8) : toks (40 :: r) = lpT :: toks r ∧ whole (40 :: r) = whole r := toks_step rfl rfl (open_tok r) rfl
theorem letter_tok (c : UInt8) (hc : lowI (c.toNat : Int) = true) (r : List UInt8) (h : ∀ d r', r = d :: r' → wordI (d.toNat : Int) = false) : tokAt (c :: r) = some ⟨1, [c], 0⟩ := by
  have hr : runL wordI r = 0 := by
    cases r with
    | nil => rfl
    | cons d r' => simp [runL, h d r' rfl]
  simp only [tokAt, hc, if_true, wordTok, List.tail_cons, hr]
  rfl
theorem close_word {r : List UInt8} (h : Close r) : ∀ d r', r = d :: r' → wordI (d.toNat : Int) = false := by
  rintro d r' rfl
  rcases h with h | ⟨x, h⟩
  · cases h
  · injection h with h _
    subst h
    rfl
theorem tD_toks : ∀ (k : Nat) (r : List UInt8), Close r → toks (tD k ++ r) = TT k ++ toks r ∧ whole (tD k ++ r) = whole r
  | 0, r, h => toks_step rfl rfl (letter_tok 120 rfl r (close_word h)) rfl
  | k + 1, r, h => by
    have e : tD (k + 1) ++ r = 102 :: 40 :: (tD k ++ (41 :: r)) := by simp [tD]
    have h1 : toks (102 :: 40 :: (tD k ++ (41 :: r))) = ⟨1, [102], 0⟩ :: toks (40 :: (tD k ++ (41 :: r))) ∧ whole (102 :: 40 :: (tD k ++ (41 :: r))) = whole (40 :: (tD k ++ (41 :: r))) :=
      toks_step rfl rfl (letter_tok 102 rfl _ (by rintro d r' he; injection he with he _; subst he; rfl)) rfl
    have h2 := open_step (tD k ++ (41 :: r))
    have h3 := tD_toks k (41 :: r) (.inr ⟨r, rfl⟩)
    have h4 := close_step r
    rw [e, h1.1, h1.2, h2.1, h2.2, h3.1, h3.2, h4.1, h4.2]
    exact ⟨by simp [TT], rfl⟩
theorem gD_toks : ∀ (k : Nat) (r : List UInt8), Close r → toks (gD k ++ r) = GT k ++ toks r ∧ whole (gD k ++ r) = whole r
  | 0, r, h => toks_step rfl rfl (letter_tok 113 rfl r (close_word h)) rfl
  | k + 1, r, h => by
    have e : gD (k + 1) ++ r = 40 :: (gD k ++ (41 :: r)) := by simp [gD]
    have h2 := open_step (gD k ++ (41 :: r))
    have h3 := gD_toks k (41 :: r) (.inr ⟨r, rfl⟩)
    have h4 := close_step r
    rw [e, h2.1, h2.2, h3.1, h3.2, h4.1, h4.2]
    exact ⟨by simp [GT], rfl⟩
theorem toks_none : toks [] = [] ∧ whole [] = true := ⟨rfl, rfl⟩

/-! ### what a parser makes of them -/
theorem peekT_drop {ts : List Tok} {p : Nat} {t : Tok} {r : List Tok} (h : ts.drop p = t :: r) : peekT ts p = t ∧ p < ts.length ∧ ts.drop (p + 1) = r := by
  have hp : p < ts.length := by
    rcases Nat.lt_or_ge p ts.length with h1 | h1
    · exact h1
    · rw [List.drop_eq_nil_of_le h1] at h; cases h
  rw [List.drop_eq_getElem_cons hp] at h
  injection h with h1 h2
  exact ⟨(peekT_in hp).trans h1, hp, h2⟩
/-- Behind it stands nothing, or a closing bracket. -/
def CloseT (r : List Tok) : Prop := r = [] ∨ ∃ r', r = rpT :: r'
theorem closeT_has {ts r : List Tok} {p : Nat} (h : ts.drop p = r) (hr : CloseT r) {s : List UInt8} (h1 : ([] == s) = false) (h2 : ([41] == s) = false) : hasT ts p s = false := by
  unfold hasT
  rcases hr with rfl | ⟨r', rfl⟩
  · rw [peekT_out (List.drop_eq_nil_iff.1 h)]
    exact h1
  · rw [(peekT_drop h).1]
    exact h2
theorem termO_nest {ts : List Tok} {m : Nat} {ne : Int} {p : Nat} (hm : 64 ≤ ne) (hp : p < ts.length) : termO ts (m + 1) ne p = .no 0 := by
  rw [termO, show enterO ts p ne = .no 0 from if_pos ⟨by omega, hp⟩]
theorem enterO_in {ts : List Tok} {ne : Int} {p : Nat} (hm : ne < 64) : enterO ts p ne = .ok () p := if_neg (fun h => by omega)
/-- A name alone. -/
theorem termO_name {ts r : List Tok} {m : Nat} {ne : Int} {p : Nat} {s : List UInt8} (hd : ts.drop p = ⟨1, s, 0⟩ :: r) (hs : resv (bs s).toList = false) (hne : ne < 64) (hr : CloseT r) : termO ts (m + 1) ne p = .ok (.mk 3 s 0 []) (p + 1) := by
  obtain ⟨h1, h2, h3⟩ := peekT_drop hd
  have hn : nameO ts p = .ok s (p + 1) := by
    unfold nameO
    rw [h1, if_pos ⟨rfl, hs⟩]
  have ha : argsO (termO ts m (ne + 1)) ts (p + 1) = .ok [] (p + 1) := by
    unfold argsO
    rw [closeT_has h3 hr rfl rfl]
    rfl
  rw [termO, enterO_in hne]
  simp only
  rw [h1]
  simp only
  rw [if_neg (by decide), if_neg (by decide), hn]
  simp only
  rw [ha]
/-- A name with one argument. -/
theorem termO_app {ts r : List Tok} {m : Nat} {ne : Int} {p : Nat} {s : List UInt8} (hd : ts.drop p = ⟨1, s, 0⟩ :: lpT :: r) (hs : resv (bs s).toList = false) (hne : ne < 64) :
    (∀ i, termO ts m (ne + 1) (p + 2) = .no i → termO ts (m + 1) ne p = .no i) ∧
    (∀ x q r', termO ts m (ne + 1) (p + 2) = .ok x q → ts.drop q = rpT :: r' → termO ts (m + 1) ne p = .ok (.mk 3 s 0 [x]) (q + 1)) := by
  obtain ⟨h1, h2, h3⟩ := peekT_drop hd
  obtain ⟨h4, h5, h6⟩ := peekT_drop h3
  have hn : nameO ts p = .ok s (p + 1) := by
    unfold nameO
    rw [h1, if_pos ⟨rfl, hs⟩]
  have hq : hasT ts (p + 1) [40] = true := by unfold hasT; rw [h4]; rfl
  have h0 : termO ts (m + 1) ne p = match argsO (termO ts m (ne + 1)) ts (p + 1) with
      | .no i => .no i
      | .ok l k2 => .ok (.mk 3 s 0 l) k2 := by
    rw [termO, enterO_in hne]
    simp only
    rw [h1]
    simp only
    rw [if_neg (by decide), if_neg (by decide), hn]
    rfl
  refine ⟨fun i hi => ?_, fun x q r' hx hr => ?_⟩
  · rw [h0]
    unfold argsO rowO
    rw [hq, if_pos rfl, hi]
  · obtain ⟨g1, g2, g3⟩ := peekT_drop hr
    have hc : hasT ts q [44] = false := by unfold hasT; rw [g1]; rfl
    have hc2 : hasT ts q [41] = true := by unfold hasT; rw [g1]; rfl
    rw [h0]
    unfold argsO rowO
    rw [hq, if_pos rfl, hx]
    simp only
    rw [rowLoop, hc]
    simp only [Bool.false_eq_true, if_false]
    unfold expO
    rw [hc2, if_pos rfl]
theorem resv_one {c : UInt8} (h : resv [c] = false) : resv (bs [c]).toList = false := by
  rw [ByteArray.toList_eq]
  exact h
theorem tD_term : ∀ (k m : Nat) (ne : Int) (ts : List Tok) (p : Nat) (r : List Tok), ts.drop p = TT k ++ r → CloseT r → 65 ≤ ne + m →
    (ne + k < 64 → ∃ x, termO ts m ne p = .ok x (p + (1 + 3 * k))) ∧ (64 ≤ ne + k → ne ≤ 64 → termO ts m ne p = .no 0)
  | 0, m, ne, ts, p, r, hd, hr, hm => by
    refine ⟨fun h => ?_, fun h h64 => ?_⟩
    · obtain ⟨m, rfl⟩ : ∃ m', m = m' + 1 := ⟨m - 1, by omega⟩
      exact ⟨_, termO_name hd (resv_one rfl) (by omega) hr⟩
    · obtain ⟨m, rfl⟩ : ∃ m', m = m' + 1 := ⟨m - 1, by omega⟩
      exact termO_nest (by omega) (peekT_drop hd).2.1
  | k + 1, m, ne, ts, p, r, hd, hr, hm => by
    have hd' : ts.drop p = ⟨1, [102], 0⟩ :: lpT :: (TT k ++ (rpT :: r)) := by rw [hd]; simp [TT]
    have hp1 := (peekT_drop hd').2.1
    rcases Int.lt_or_le ne 64 with hne | hne
    · obtain ⟨m, rfl⟩ : ∃ m', m = m' + 1 := ⟨m - 1, by omega⟩
      have ih := tD_term k m (ne + 1) ts (p + 2) (rpT :: r) (peekT_drop (peekT_drop hd').2.2).2.2 (.inr ⟨r, rfl⟩) (by omega)
      have ha := termO_app (m := m) hd' (resv_one rfl) hne
      refine ⟨fun h => ?_, fun h _ => ?_⟩
      · obtain ⟨x, hx⟩ := ih.1 (by omega)
        have hdr : ts.drop (p + 2 + (1 + 3 * k)) = rpT :: r := by
          rw [← List.drop_drop, (peekT_drop (peekT_drop hd').2.2).2.2, List.drop_append_of_le_length (by rw [TT_len]; omega), List.drop_eq_nil_of_le (by rw [TT_len]; omega)]
          rfl
        have hz := ha.2 x _ r hx hdr
        rw [show p + 2 + (1 + 3 * k) + 1 = p + (1 + 3 * (k + 1)) by omega] at hz
        exact ⟨_, hz⟩
      · exact ha.1 0 (ih.2 (by omega) (by omega))
    · refine ⟨fun h => by omega, fun h h64 => ?_⟩
      obtain ⟨m, rfl⟩ : ∃ m', m = m' + 1 := ⟨m - 1, by omega⟩
      exact termO_nest hne hp1

theorem joinO_one {ts : List Tok} {rd : Nat → Out GoalT} {p q : Nat} {x : GoalT} {mark : List UInt8} {kind : Int} (h : rd p = .ok x q) (hm : hasT ts q mark = false) : joinO rd ts mark kind p = .ok x q := by
  unfold joinO rowO
  rw [h]
  simp only
  rw [rowLoop, hm]
  rfl
theorem joinO_no {ts : List Tok} {rd : Nat → Out GoalT} {p i : Nat} {mark : List UInt8} {kind : Int} (h : rd p = .no i) : joinO rd ts mark kind p = .no i := by
  unfold joinO rowO
  rw [h]
theorem goalO_one {ts r : List Tok} {rd : Nat → Out GoalT} {p q : Nat} {x : GoalT} (h : rd p = .ok x q) (hd : ts.drop q = r) (hr : CloseT r) : goalO rd ts p = .ok x q :=
  joinO_one (joinO_one h (closeT_has hd hr rfl rfl)) (closeT_has hd hr rfl rfl)
theorem goalO_no {ts : List Tok} {rd : Nat → Out GoalT} {p i : Nat} (h : rd p = .no i) : goalO rd ts p = .no i := joinO_no (joinO_no h)
theorem has_tok {ts r : List Tok} {p : Nat} {t : Tok} {s : List UInt8} (h : ts.drop p = t :: r) : hasT ts p s = (t.text == s) := by
  unfold hasT
  rw [(peekT_drop h).1]
theorem primO_nest {ts : List Tok} {m : Nat} {ne : Int} {p : Nat} (hm : 64 ≤ ne) (hp : p < ts.length) : primO ts (m + 1) ne p = .no 0 := by
  rw [primO, show enterO ts p ne = .no 0 from if_pos ⟨by omega, hp⟩]
theorem primO_brackets {ts r : List Tok} {m : Nat} {ne : Int} {p : Nat} (hd : ts.drop p = lpT :: r) (hne : ne < 64) :
    primO ts (m + 1) ne p = match goalO (primO ts m (ne + 1)) ts (p + 1) with
        | .no i => .no i
        | .ok g k' => match expO ts k' [41] with
          | .no i => .no i
          | .ok _ k2 => .ok g k2 := by
  rw [primO, enterO_in hne]
  simp only
  rw [has_tok hd, has_tok hd, has_tok hd, has_tok hd, has_tok hd, has_tok hd]
  rfl
theorem gD_prim : ∀ (k m : Nat) (ne : Int) (ts : List Tok) (p : Nat) (r : List Tok), ts.drop p = GT k ++ r → CloseT r → 65 ≤ ne + m →
    (ne + k < 63 → ∃ x, primO ts m ne p = .ok x (p + (1 + 2 * k))) ∧ (63 ≤ ne + k → ne ≤ 64 → primO ts m ne p = .no 0)
  | 0, m, ne, ts, p, r, hd, hr, hm => by
    have hd' : ts.drop p = ⟨1, [113], 0⟩ :: r := hd
    have hp1 := (peekT_drop hd').2.1
    refine ⟨fun h => ?_, fun h h64 => ?_⟩
    · obtain ⟨m, rfl⟩ : ∃ m', m = m' + 1 := ⟨m - 1, by omega⟩
      have ht := termO_name (m := 65) (ne := ne + 1) hd' (resv_one rfl) (by omega) hr
      refine ⟨.mk 4 zeroT zeroT [113] [] [], ?_⟩
      rw [primO, enterO_in (by omega)]
      simp only
      rw [has_tok hd', has_tok hd', has_tok hd', has_tok hd', has_tok hd', has_tok hd']
      show uocO _ _ _ = _
      unfold uocO
      rw [ht]
      simp only
      rw [closeT_has (peekT_drop hd').2.2 hr rfl rfl]
      rfl
    · obtain ⟨m, rfl⟩ : ∃ m', m = m' + 1 := ⟨m - 1, by omega⟩
      rcases Int.lt_or_le ne 64 with hne | hne
      · rw [primO, enterO_in hne]
        simp only
        rw [has_tok hd', has_tok hd', has_tok hd', has_tok hd', has_tok hd', has_tok hd']
        show uocO _ _ _ = _
        unfold uocO
        rw [termO_nest (by omega) hp1]
      · exact primO_nest hne hp1
  | k + 1, m, ne, ts, p, r, hd, hr, hm => by
    have hd' : ts.drop p = lpT :: (GT k ++ (rpT :: r)) := by rw [hd]; simp [GT]
    have hp1 := (peekT_drop hd').2.1
    rcases Int.lt_or_le ne 64 with hne | hne
    · obtain ⟨m, rfl⟩ : ∃ m', m = m' + 1 := ⟨m - 1, by omega⟩
      have ih := gD_prim k m (ne + 1) ts (p + 1) (rpT :: r) (peekT_drop hd').2.2 (.inr ⟨r, rfl⟩) (by omega)
      rw [primO_brackets hd' hne]
      refine ⟨fun h => ?_, fun h _ => ?_⟩
      · obtain ⟨x, hx⟩ := ih.1 (by omega)
        have hdr : ts.drop (p + 1 + (1 + 2 * k)) = rpT :: r := by
          rw [← List.drop_drop, (peekT_drop hd').2.2, List.drop_append_of_le_length (by rw [GT_len]; omega), List.drop_eq_nil_of_le (by rw [GT_len]; omega)]
          rfl
        rw [goalO_one hx hdr (.inr ⟨r, rfl⟩)]
        simp only [expO]
        rw [has_tok hdr]
        refine ⟨x, ?_⟩
        show Out.ok x (p + 1 + (1 + 2 * k) + 1) = _
        rw [show p + 1 + (1 + 2 * k) + 1 = p + (1 + 2 * (k + 1)) by omega]
      · rw [goalO_no (ih.2 (by omega) (by omega))]
    · refine ⟨fun h => by omega, fun h h64 => ?_⟩
      obtain ⟨m, rfl⟩ : ∃ m', m = m' + 1 := ⟨m - 1, by omega⟩
      exact primO_nest hne hp1

def okDeep {α : Type} (most k : Nat) : Out α → Bool
  | .ok _ _ => decide (k < most)
  | .no i => decide (most ≤ k) && i == 0
theorem textL_all {α : Type} {rd : List Tok → Out α} {l : List UInt8} {ts : List Tok} (hl : l.length ≤ 16384) (ht : toks l = ts) (hw : whole l = true) : textL rd l = endO ts.length (rd ts) := by
  unfold textL
  rw [if_neg (by omega), hw, if_neg (by simp), ht]
theorem deepT (k : Nat) (hk : k < 80) : okDeep 64 k (textL (fun ts => termO ts 66 0 0) (tD k)) = true := by
  have h := tD_toks k [] (.inl rfl)
  rw [List.append_nil, toks_none.1, List.append_nil, toks_none.2] at h
  rw [textL_all (by rw [tD_len]; omega) h.1 h.2]
  have ht := tD_term k 66 0 (TT k) 0 [] (by simp) (.inl rfl) (by omega)
  rcases Nat.lt_or_ge k 64 with h1 | h1
  · obtain ⟨x, hx⟩ := ht.1 (by omega)
    simp only [hx, endO, TT_len, Nat.zero_add, Nat.lt_irrefl, if_false, okDeep]
    simpa using h1
  · simp only [ht.2 (by omega) (by omega), endO, okDeep]
    simpa using h1
theorem deepG (k : Nat) (hk : k < 80) : okDeep 63 k (textL (fun ts => goalO (primO ts 66 0) ts 0) (gD k)) = true := by
  have h := gD_toks k [] (.inl rfl)
  rw [List.append_nil, toks_none.1, List.append_nil, toks_none.2] at h
  rw [textL_all (by rw [gD_len]; omega) h.1 h.2]
  have ht := gD_prim k 66 0 (GT k) 0 [] (by simp) (.inl rfl) (by omega)
  rcases Nat.lt_or_ge k 63 with h1 | h1
  · obtain ⟨x, hx⟩ := ht.1 (by omega)
    have hg := goalO_one (ts := GT k) hx (r := []) (List.drop_eq_nil_of_le (by rw [GT_len]; omega)) (.inl rfl)
    simp only [hg, endO, GT_len, Nat.zero_add, Nat.lt_irrefl, if_false, okDeep]
    simpa using h1
  · simp only [goalO_no (ht.2 (by omega) (by omega)), endO, okDeep]
    simpa using h1

end Lx
end Go.Proofs.YtbbbbfglhphffaaDoor
