/- Plain facts: what a parser reads of some tokens it reads of the same tokens elsewhere, or deeper in, unless that is too deep. No program stands in this text but the tokens' form; no conditions. -/
import Derived.Test.YtbbbbfglhphffaaDoorItemC
namespace Go.Proofs.YtbbbbfglhphffaaDoor
set_option linter.unusedSimpArgs false
set_option linter.unusedVariables false
namespace Lx
open Go

/-- From place s on ts' has the first N tokens of ts; what stands behind them looks the same in both, but for a closing bracket. -/
structure Sim (ts ts' : List Tok) (s N : Nat) : Prop where
  eq : ∀ j, j < N → peekT ts' (s + j) = peekT ts j
  in1 : N ≤ ts.length
  in2 : s + N ≤ ts'.length
  next : ∀ m : List UInt8, m ≠ [] → m ≠ [41] → hasT ts' (s + N) m = hasT ts N m
section
variable {ts ts' : List Tok} {s N : Nat}
theorem Sim.has (h : Sim ts ts' s N) {k : Nat} (hk : k ≤ N) {m : List UInt8} (h0 : m ≠ []) (h1 : m ≠ [41]) : hasT ts' (s + k) m = hasT ts k m := by
  rcases Nat.lt_or_ge k N with hl | hl
  · unfold hasT
    rw [h.eq k hl]
  · obtain rfl : k = N := by omega
    exact h.next m h0 h1
theorem Sim.hasIn (h : Sim ts ts' s N) {k : Nat} (hk : k < N) (m : List UInt8) : hasT ts' (s + k) m = hasT ts k m := by
  unfold hasT
  rw [h.eq k hk]

/-- One reading and the other: the same, or too deep. -/
def Alike {α : Type} (s : Nat) (δ : Int) (o : Out α) (x : α) (k : Nat) : Prop := o = .ok x (s + k) ∨ (0 < δ ∧ o = .no 0)
def SimR {α : Type} (s N : Nat) (δ : Int) (rd rd' : Nat → Out α) : Prop := ∀ k x k', rd k = .ok x k' → k' ≤ N → Alike s δ (rd' (s + k)) x k'

theorem nameO_sim (h : Sim ts ts' s N) (δ : Int) : SimR s N δ (nameO ts) (nameO ts') := by
  intro k x k' hr hk
  have hf := nameO_fwd ts _ _ _ hr
  left
  unfold nameO at hr ⊢
  rw [h.eq k (by omega)]
  split at hr
  · rename_i hc
    rw [if_pos hc]
    injection hr with h1 h2
    subst h1 h2
    rfl
  · cases hr
theorem varO_sim (h : Sim ts ts' s N) (δ : Int) : SimR s N δ (varO ts) (varO ts') := by
  intro k x k' hr hk
  have hf := varO_fwd ts _ _ _ hr
  left
  unfold varO at hr ⊢
  rw [h.eq k (by omega)]
  split at hr
  · rename_i hc
    rw [if_pos hc]
    injection hr with h1 h2
    subst h1 h2
    rfl
  · cases hr
theorem wayO_sim (h : Sim ts ts' s N) (δ : Int) : SimR s N δ (wayO ts) (wayO ts') := by
  intro k x k' hr hk
  have hf := wayO_fwd ts _ _ _ hr
  left
  unfold wayO at hr ⊢
  rw [h.hasIn (by omega), h.hasIn (by omega)]
  split at hr
  · rename_i hc
    rw [if_pos hc]
    injection hr with h1 h2
    subst h1 h2
    rfl
  · rename_i hc
    rw [if_neg hc]
    split at hr
    · rename_i hc
      rw [if_pos hc]
      injection hr with h1 h2
      subst h1 h2
      rfl
    · cases hr
theorem detO_sim (h : Sim ts ts' s N) {k k' : Nat} {x : Int} (hr : detO ts k = .ok x k') (hk : k' ≤ N) : detO ts' (s + k) = .ok x (s + k') := by
  have hf := detO_fwd ts _ _ _ hr
  have e : ∀ m, hasT ts' (s + k) m = hasT ts k m := fun m => h.hasIn (by omega) m
  unfold detO at hr ⊢
  rw [e, e, e, e]
  repeat' split at hr
  all_goals first
    | (simp only [*, if_true, Bool.false_eq_true, if_false]; injection hr with h1 h2; subst h1 h2; rfl)
    | cases hr
theorem expO_sim (h : Sim ts ts' s N) {k k' : Nat} {m : List UInt8} {u : Unit} (hm : m ≠ []) (hr : expO ts k m = .ok u k') (hk : k' ≤ N) : expO ts' (s + k) m = .ok u (s + k') := by
  have hf := expO_fwd (ts := ts) (s := m) hm _ _ _ hr
  unfold expO at hr ⊢
  rw [h.hasIn (by omega)]
  split at hr
  · rename_i hc
    rw [if_pos hc]
    injection hr with h1 h2
    subst h2
    rfl
  · cases hr
theorem rowLoop_sim {α : Type} {rd rd' : Nat → Out α} {δ : Int} (h : Sim ts ts' s N) (hf : Fwd ts rd) (hs : SimR s N δ rd rd') {mark : List UInt8} (m0 : mark ≠ []) (m1 : mark ≠ [41]) (most : Nat) :
    ∀ (m k : Nat) (acc l : List α) (k' : Nat), rowLoop rd ts mark most m k acc = .ok l k' → k' ≤ N → k ≤ ts.length → ∀ m', k' < m' + k → Alike s δ (rowLoop rd' ts' mark most m' (s + k) acc) l k'
  | 0, _, _, _, _, hr, _, _, _, _ => by simp [rowLoop] at hr
  | m + 1, k, acc, l, k', hr, hk, hkl, m', hm => by
    have hkk := rowLoop_fwd hf mark most _ _ _ _ _ hr hkl
    obtain ⟨m', rfl⟩ : ∃ q, m' = q + 1 := ⟨m' - 1, by omega⟩
    rw [rowLoop] at hr ⊢
    rw [h.has (by omega) m0 m1]
    split at hr
    · rename_i hc
      rw [if_pos hc]
      split at hr
      · cases hr
      · rename_i hn
        split at hr
        · cases hr
        · rename_i x k2 he
          have h1 := hf _ _ _ he
          have h2 := rowLoop_fwd hf mark most m k2 _ _ _ hr h1.2
          have := h.in1
          rw [if_neg (fun hb => hn ⟨hb.1, by omega⟩)]
          rcases hs _ _ _ he (by omega) with e | ⟨e0, e⟩
          · rw [show s + k + 1 = s + (k + 1) from rfl, e]
            exact rowLoop_sim h hf hs m0 m1 most m k2 _ _ _ hr hk h1.2 m' (by omega)
          · rw [show s + k + 1 = s + (k + 1) from rfl, e]
            exact .inr ⟨e0, rfl⟩
    · rename_i hc
      rw [if_neg hc]
      injection hr with h1 h2
      subst h1 h2
      exact .inl rfl
theorem rowO_sim {α : Type} {rd rd' : Nat → Out α} {δ : Int} (h : Sim ts ts' s N) (hf : Fwd ts rd) (hs : SimR s N δ rd rd') {mark : List UInt8} (m0 : mark ≠ []) (m1 : mark ≠ [41]) (most : Nat) : SimR s N δ (rowO rd ts mark most) (rowO rd' ts' mark most) := by
  intro k l k' hr hk
  unfold rowO at hr ⊢
  split at hr
  · cases hr
  · rename_i x k2 he
    have h1 := hf _ _ _ he
    have h2 := rowLoop_fwd hf mark most _ _ _ _ _ hr h1.2
    have := h.in2
    rcases hs _ _ _ he (by omega) with e | ⟨e0, e⟩
    · rw [e]
      exact rowLoop_sim h hf hs m0 m1 most _ k2 _ _ _ hr hk h1.2 _ (by omega)
    · rw [e]
      exact .inr ⟨e0, rfl⟩
theorem argsO_sim {α : Type} {rd rd' : Nat → Out α} {δ : Int} (h : Sim ts ts' s N) (hf : Fwd ts rd) (hs : SimR s N δ rd rd') {k k' : Nat} {l : List α} (hr : argsO rd ts k = .ok l k') (hk : k' ≤ N) (hkN : k ≤ N) : Alike s δ (argsO rd' ts' (s + k)) l k' := by
  unfold argsO at hr ⊢
  rw [h.has hkN (by decide) (by decide)]
  split at hr
  · rename_i hc
    rw [if_pos hc]
    split at hr
    · cases hr
    · rename_i l2 k2 he
      split at hr
      · cases hr
      · rename_i u k3 he2
        have h2 := expO_fwd (ts := ts) (s := [41]) (by decide) _ _ _ he2
        injection hr with q1 q2
        subst q1 q2
        rcases rowO_sim h hf hs (by decide) (by decide) 8 _ _ _ he (by omega) with e | ⟨e0, e⟩
        · rw [show s + k + 1 = s + (k + 1) from rfl, e]
          simp only
          rw [expO_sim h (by decide) he2 hk]
          exact .inl rfl
        · rw [show s + k + 1 = s + (k + 1) from rfl, e]
          exact .inr ⟨e0, rfl⟩
  · rename_i hc
    rw [if_neg hc]
    injection hr with h1 h2
    subst h1 h2
    exact .inl rfl

theorem enterO_sim {k : Nat} {ne : Int} {u : Unit} {q : Nat} (h : Sim ts ts' s N) (hr : enterO ts k ne = .ok u q) (hk : k < N) (δ : Int) (hδ : 0 ≤ δ) : (enterO ts' (s + k) (ne + δ) = .ok () (s + k) ∧ ne + δ < 64) ∨ (0 < δ ∧ enterO ts' (s + k) (ne + δ) = .no 0) := by
  have h1 := h.in1
  have h2 := h.in2
  unfold enterO at hr ⊢
  split at hr
  · cases hr
  · rename_i hc
    have : ¬ 64 < ne + 1 := fun hb => hc ⟨hb, by omega⟩
    by_cases hd : 64 < ne + δ + 1
    · exact .inr ⟨by omega, if_pos ⟨hd, by omega⟩⟩
    · exact .inl ⟨if_neg (fun hb => hd hb.1), by omega⟩

theorem termO_sim (h : Sim ts ts' s N) (δ : Int) (hδ : 0 ≤ δ) : ∀ (m : Nat) (ne : Int) (m' : Nat), 1 ≤ m' → 65 ≤ ne + δ + m' → SimR s N δ (termO ts m ne) (termO ts' m' (ne + δ))
  | 0, _, _, _, _, _, _, _, hr, _ => by simp [termO] at hr
  | m + 1, ne, m', hm1, hm, k, x, k', hr, hk => by
    have hkk := termO_fwd ts (m + 1) ne _ _ _ hr
    obtain ⟨m', rfl⟩ : ∃ q, m' = q + 1 := ⟨m' - 1, by omega⟩
    rw [termO] at hr ⊢
    split at hr
    · cases hr
    · rename_i u q he
      rcases enterO_sim h he (by omega) δ hδ with ⟨e, hne⟩ | ⟨e0, e⟩
      · rw [e]
        simp only
        rw [h.eq k (by omega)]
        split at hr
        · rename_i hc
          rw [if_pos hc]
          injection hr with h1 h2
          subst h1 h2
          exact .inl rfl
        · rename_i hc
          rw [if_neg hc]
          split at hr
          · rename_i hc
            rw [if_pos hc]
            injection hr with h1 h2
            subst h1 h2
            exact .inl rfl
          · rename_i hc
            rw [if_neg hc]
            split at hr
            · cases hr
            · rename_i nm k1 en
              have hn := nameO_fwd ts _ _ _ en
              split at hr
              · cases hr
              · rename_i l k2 ea
                have ha := argsO_fwd (termO_fwd ts m (ne + 1)) ea hn.2
                injection hr with h1 h2
                subst h1 h2
                rcases nameO_sim h δ _ _ _ en (by omega) with g | ⟨g0, g⟩
                · rw [g]
                  simp only
                  have ih := termO_sim h δ hδ m (ne + 1) m' (by omega) (by omega)
                  rw [show ne + 1 + δ = ne + δ + 1 by omega] at ih
                  rcases argsO_sim h (termO_fwd ts m (ne + 1)) ih ea hk (by omega) with g | ⟨g0, g⟩
                  · rw [g]; exact .inl rfl
                  · rw [g]; exact .inr ⟨g0, rfl⟩
                · rw [g]; exact .inr ⟨g0, rfl⟩
      · rw [e]
        exact .inr ⟨e0, rfl⟩
theorem typeO_sim (h : Sim ts ts' s N) (δ : Int) (hδ : 0 ≤ δ) : ∀ (m : Nat) (ne : Int) (m' : Nat), 1 ≤ m' → 65 ≤ ne + δ + m' → SimR s N δ (typeO ts m ne) (typeO ts' m' (ne + δ))
  | 0, _, _, _, _, _, _, _, hr, _ => by simp [typeO] at hr
  | m + 1, ne, m', hm1, hm, k, x, k', hr, hk => by
    have hkk := typeO_fwd ts (m + 1) ne _ _ _ hr
    obtain ⟨m', rfl⟩ : ∃ q, m' = q + 1 := ⟨m' - 1, by omega⟩
    rw [typeO] at hr ⊢
    split at hr
    · cases hr
    · rename_i u q he
      rcases enterO_sim h he (by omega) δ hδ with ⟨e, hne⟩ | ⟨e0, e⟩
      · rw [e]
        simp only
        rw [h.eq k (by omega), h.hasIn (by omega)]
        split at hr
        · rename_i hc
          rw [if_pos hc]
          injection hr with h1 h2
          subst h1 h2
          exact .inl rfl
        · rename_i hc
          rw [if_neg hc]
          split at hr
          · rename_i hc
            rw [if_pos hc]
            injection hr with h1 h2
            subst h1 h2
            exact .inl rfl
          · rename_i hc
            rw [if_neg hc]
            split at hr
            · cases hr
            · rename_i nm k1 en
              have hn := nameO_fwd ts _ _ _ en
              split at hr
              · cases hr
              · rename_i l k2 ea
                have ha := argsO_fwd (typeO_fwd ts m (ne + 1)) ea hn.2
                injection hr with h1 h2
                subst h1 h2
                rcases nameO_sim h δ _ _ _ en (by omega) with g | ⟨g0, g⟩
                · rw [g]
                  simp only
                  have ih := typeO_sim h δ hδ m (ne + 1) m' (by omega) (by omega)
                  rw [show ne + 1 + δ = ne + δ + 1 by omega] at ih
                  rcases argsO_sim h (typeO_fwd ts m (ne + 1)) ih ea hk (by omega) with g | ⟨g0, g⟩
                  · rw [g]; exact .inl rfl
                  · rw [g]; exact .inr ⟨g0, rfl⟩
                · rw [g]; exact .inr ⟨g0, rfl⟩
      · rw [e]
        exact .inr ⟨e0, rfl⟩
theorem joinO_sim {rd rd' : Nat → Out GoalT} {δ : Int} (h : Sim ts ts' s N) (hf : Fwd ts rd) (hs : SimR s N δ rd rd') {mark : List UInt8} (m0 : mark ≠ []) (m1 : mark ≠ [41]) (kind : Int) : SimR s N δ (joinO rd ts mark kind) (joinO rd' ts' mark kind) := by
  intro k x k' hr hk
  unfold joinO at hr ⊢
  split at hr
  · cases hr
  · rename_i l k2 he
    injection hr with h1 h2
    subst h1 h2
    rcases rowO_sim h hf hs m0 m1 16384 _ _ _ he hk with e | ⟨e0, e⟩
    · rw [e]; exact .inl rfl
    · rw [e]; exact .inr ⟨e0, rfl⟩
theorem goalO_sim {rd rd' : Nat → Out GoalT} {δ : Int} (h : Sim ts ts' s N) (hf : Fwd ts rd) (hs : SimR s N δ rd rd') : SimR s N δ (goalO rd ts) (goalO rd' ts') :=
  joinO_sim h (joinO_fwd hf [44] 5) (joinO_sim h hf hs (by decide) (by decide) 5) (by decide) (by decide) 6
theorem guardO_sim {rd rd' : Nat → Out GoalT} {δ : Int} (h : Sim ts ts' s N) (hf : Fwd ts rd) (hs : SimR s N δ rd rd') : SimR s N δ (guardO rd ts) (guardO rd' ts') := by
  intro k x k' hr hk
  unfold guardO at hr ⊢
  split at hr
  · cases hr
  · rename_i g k1 e1
    have h1 := hf _ _ _ e1
    split at hr
    · cases hr
    · rename_i u k2 e2
      have h2 := expO_fwd (ts := ts) (s := [99, 97, 116, 99, 104]) (by decide) _ _ _ e2
      split at hr
      · cases hr
      · rename_i nm k3 e3
        have h3 := varO_fwd ts _ _ _ e3
        split at hr
        · cases hr
        · rename_i u k4 e4
          have h4 := expO_fwd (ts := ts) (s := [116, 104, 101, 110]) (by decide) _ _ _ e4
          split at hr
          · cases hr
          · rename_i g2 k5 e5
            have h5 := hf _ _ _ e5
            injection hr with q1 q2
            subst q1 q2
            rcases hs _ _ _ e1 (by omega) with e | ⟨e0, e⟩
            · rw [e]
              simp only
              rw [expO_sim h (by decide) e2 (by omega)]
              simp only
              rcases varO_sim h δ _ _ _ e3 (by omega) with e | ⟨e0, e⟩
              · rw [e]
                simp only
                rw [expO_sim h (by decide) e4 (by omega)]
                simp only
                rcases hs _ _ _ e5 (by omega) with e | ⟨e0, e⟩
                · rw [e]; exact .inl rfl
                · rw [e]; exact .inr ⟨e0, rfl⟩
              · rw [e]; exact .inr ⟨e0, rfl⟩
            · rw [e]; exact .inr ⟨e0, rfl⟩
theorem uocO_sim {rd rd' : Nat → Out TermT} {δ : Int} (h : Sim ts ts' s N) (hf : Fwd ts rd) (hs : SimR s N δ rd rd') : SimR s N δ (uocO rd ts) (uocO rd' ts') := by
  intro k x k' hr hk
  unfold uocO at hr ⊢
  split at hr
  · cases hr
  · rename_i t k1 e1
    have h1 := hf _ _ _ e1
    split at hr
    · rename_i hc
      split at hr
      · cases hr
      · rename_i u k2 e2
        have h2 := hf _ _ _ e2
        injection hr with q1 q2
        subst q1 q2
        rcases hs _ _ _ e1 (by omega) with e | ⟨e0, e⟩
        · rw [e]
          simp only
          rw [h.has (by omega) (by decide) (by decide), if_pos hc]
          rcases hs _ _ _ e2 (by omega) with e | ⟨e0, e⟩
          · rw [show s + k1 + 1 = s + (k1 + 1) from rfl, e]; exact .inl rfl
          · rw [show s + k1 + 1 = s + (k1 + 1) from rfl, e]; exact .inr ⟨e0, rfl⟩
        · rw [e]; exact .inr ⟨e0, rfl⟩
    · rename_i hc
      split at hr
      · rename_i hc2
        injection hr with q1 q2
        subst q1 q2
        rcases hs _ _ _ e1 (by omega) with e | ⟨e0, e⟩
        · rw [e]
          simp only
          rw [h.has (by omega) (by decide) (by decide), if_neg hc, if_pos hc2]
          exact .inl rfl
        · rw [e]; exact .inr ⟨e0, rfl⟩
      · cases hr
theorem primO_sim (h : Sim ts ts' s N) (δ : Int) (hδ : 0 ≤ δ) : ∀ (m : Nat) (ne : Int) (m' : Nat), 0 ≤ ne → 1 ≤ m' → 65 ≤ ne + δ + m' → SimR s N δ (primO ts m ne) (primO ts' m' (ne + δ))
  | 0, _, _, _, _, _, _, _, _, hr, _ => by simp [primO] at hr
  | m + 1, ne, m', hne0, hm1, hm, k, x, k', hr, hk => by
    have hkk := primO_fwd ts (m + 1) ne _ _ _ hr
    obtain ⟨m', rfl⟩ : ∃ q, m' = q + 1 := ⟨m' - 1, by omega⟩
    rw [primO] at hr ⊢
    split at hr
    · cases hr
    · rename_i u q he
      rcases enterO_sim h he (by omega) δ hδ with ⟨e, hne⟩ | ⟨e0, e⟩
      · rw [e]
        simp only
        have hq : ∀ w, hasT ts' (s + k) w = hasT ts k w := fun w => h.hasIn (by omega) w
        rw [hq, hq, hq, hq, hq, hq]
        have hT := termO_sim h δ hδ 66 (ne + 1) 66 (by omega) (by omega)
        have hP := primO_sim h δ hδ m (ne + 1) m' (by omega) (by omega) (by omega)
        rw [show ne + 1 + δ = ne + δ + 1 by omega] at hT hP
        by_cases c1 : hasT ts k [116, 114, 117, 101] = true
        · rw [if_pos c1] at hr ⊢
          injection hr with h1 h2
          subst h1 h2
          exact .inl rfl
        rw [if_neg c1] at hr ⊢
        by_cases c2 : hasT ts k [102, 97, 105, 108] = true
        · rw [if_pos c2] at hr ⊢
          injection hr with h1 h2
          subst h1 h2
          exact .inl rfl
        rw [if_neg c2] at hr ⊢
        by_cases c3 : hasT ts k [110, 111, 116] = true
        · rw [if_pos c3] at hr ⊢
          split at hr
          · cases hr
          · rename_i g k1 e1
            injection hr with h1 h2
            subst h1 h2
            rcases hP _ _ _ e1 hk with g | ⟨g0, g⟩
            · rw [show s + k + 1 = s + (k + 1) from rfl, g]; exact .inl rfl
            · rw [show s + k + 1 = s + (k + 1) from rfl, g]; exact .inr ⟨g0, rfl⟩
        rw [if_neg c3] at hr ⊢
        by_cases c4 : hasT ts k [116, 104, 114, 111, 119] = true
        · rw [if_pos c4] at hr ⊢
          split at hr
          · cases hr
          · rename_i g k1 e1
            injection hr with h1 h2
            subst h1 h2
            rcases hT _ _ _ e1 hk with g | ⟨g0, g⟩
            · rw [show s + k + 1 = s + (k + 1) from rfl, g]; exact .inl rfl
            · rw [show s + k + 1 = s + (k + 1) from rfl, g]; exact .inr ⟨g0, rfl⟩
        rw [if_neg c4] at hr ⊢
        by_cases c5 : hasT ts k [116, 114, 121] = true
        · rw [if_pos c5] at hr ⊢
          exact guardO_sim h (primO_fwd ts m (ne + 1)) hP _ _ _ hr hk
        rw [if_neg c5] at hr ⊢
        by_cases c6 : hasT ts k [40] = true
        · rw [if_pos c6] at hr ⊢
          split at hr
          · cases hr
          · rename_i g k1 e1
            split at hr
            · cases hr
            · rename_i u k2 e2
              have h2 := expO_fwd (ts := ts) (s := [41]) (by decide) _ _ _ e2
              injection hr with q1 q2
              subst q1 q2
              rcases goalO_sim h (primO_fwd ts m (ne + 1)) hP _ _ _ e1 (by omega) with g | ⟨g0, g⟩
              · rw [show s + k + 1 = s + (k + 1) from rfl, g]
                simp only
                rw [expO_sim h (by decide) e2 hk]
                exact .inl rfl
              · rw [show s + k + 1 = s + (k + 1) from rfl, g]; exact .inr ⟨g0, rfl⟩
        rw [if_neg c6] at hr ⊢
        exact uocO_sim h (termO_fwd ts 66 (ne + 1)) hT _ _ _ hr hk
      · rw [e]
        exact .inr ⟨e0, rfl⟩

/-! ### items, at the same nest -/
theorem alike0 {α : Type} {o : Out α} {x : α} {k : Nat} (h : Alike s 0 o x k) : o = .ok x (s + k) := by
  rcases h with h | ⟨h, _⟩
  · exact h
  · omega
theorem typeO_sim0 (h : Sim ts ts' s N) : SimR s N 0 (typeO ts 66 0) (typeO ts' 66 0) := by
  have h1 := typeO_sim h 0 (by omega) 66 0 66 (by omega) (by omega)
  rwa [show (0 : Int) + 0 = 0 from rfl] at h1
theorem termO_sim0 (h : Sim ts ts' s N) : SimR s N 0 (termO ts 66 0) (termO ts' 66 0) := by
  have h1 := termO_sim h 0 (by omega) 66 0 66 (by omega) (by omega)
  rwa [show (0 : Int) + 0 = 0 from rfl] at h1
theorem primO_sim0 (h : Sim ts ts' s N) : SimR s N 0 (primO ts 66 0) (primO ts' 66 0) := by
  have h1 := primO_sim h 0 (by omega) 66 0 66 (by omega) (by omega) (by omega)
  rwa [show (0 : Int) + 0 = 0 from rfl] at h1
theorem ctorO_sim (h : Sim ts ts' s N) : SimR s N 0 (ctorO ts 0) (ctorO ts' 0) := by
  intro k x k' hr hk
  unfold ctorO at hr ⊢
  split at hr
  · cases hr
  · rename_i nm k1 e1
    have h1 := nameO_fwd ts _ _ _ e1
    split at hr
    · cases hr
    · rename_i l k2 e2
      have h2 := argsO_fwd (typeO_fwd ts 66 0) e2 h1.2
      injection hr with q1 q2
      subst q1 q2
      rw [alike0 (nameO_sim h 0 _ _ _ e1 (by omega))]
      simp only
      rw [alike0 (argsO_sim h (typeO_fwd ts 66 0) (typeO_sim0 h) e2 hk (by omega))]
      exact .inl rfl
theorem itemO_sim (h : Sim ts ts' s N) : SimR s N 0 (itemO ts 0) (itemO ts' 0) := by
  intro k x k' hr hk
  have hkk := itemO_fwd ts 0 _ _ _ hr
  have hq : ∀ w, hasT ts' (s + k) w = hasT ts k w := fun w => h.hasIn (by omega) w
  unfold itemO at hr ⊢
  rw [hq, hq, hq]
  by_cases c1 : hasT ts k [116, 121, 112, 101] = true
  · rw [if_pos c1] at hr ⊢
    unfold typeItemO at hr ⊢
    split at hr
    · cases hr
    · rename_i nm k1 e1
      have h1 := nameO_fwd ts _ _ _ e1
      split at hr
      · cases hr
      · rename_i vs k2 e2
        have h2 := argsO_fwd (varO_fwd ts) e2 h1.2
        split at hr
        · cases hr
        · rename_i u k3 e3
          have h3 := expO_fwd (ts := ts) (s := [61]) (by decide) _ _ _ e3
          split at hr
          · cases hr
          · rename_i cs k4 e4
            have h4 := rowO_fwd (ctorO_fwd ts 0) _ _ _ _ _ e4
            injection hr with q1 q2
            subst q1 q2
            rw [show s + k + 1 = s + (k + 1) from rfl, alike0 (nameO_sim h 0 _ _ _ e1 (by omega))]
            simp only
            rw [alike0 (argsO_sim h (varO_fwd ts) (varO_sim h 0) e2 (by omega) (by omega))]
            simp only
            rw [expO_sim h (by decide) e3 (by omega)]
            simp only
            rw [alike0 (rowO_sim h (ctorO_fwd ts 0) (ctorO_sim h) (by decide) (by decide) 16384 _ _ _ e4 (by omega))]
            exact .inl rfl
  rw [if_neg c1] at hr ⊢
  by_cases c2 : hasT ts k [112, 114, 101, 100] = true
  · rw [if_pos c2] at hr ⊢
    unfold predO at hr ⊢
    split at hr
    · cases hr
    · rename_i nm k1 e1
      have h1 := nameO_fwd ts _ _ _ e1
      split at hr
      · cases hr
      · rename_i l k2 e2
        have h2 := argsO_fwd (typeO_fwd ts 66 0) e2 h1.2
        injection hr with q1 q2
        subst q1 q2
        rw [show s + k + 1 = s + (k + 1) from rfl, alike0 (nameO_sim h 0 _ _ _ e1 (by omega))]
        simp only
        rw [alike0 (argsO_sim h (typeO_fwd ts 66 0) (typeO_sim0 h) e2 hk (by omega))]
        exact .inl rfl
  rw [if_neg c2] at hr ⊢
  by_cases c3 : hasT ts k [109, 111, 100, 101] = true
  · rw [if_pos c3] at hr ⊢
    unfold modeItemO at hr ⊢
    split at hr
    · cases hr
    · rename_i nm k1 e1
      have h1 := nameO_fwd ts _ _ _ e1
      split at hr
      · cases hr
      · rename_i ws k2 e2
        have h2 := argsO_fwd (wayO_fwd ts) e2 h1.2
        split at hr
        · cases hr
        · rename_i u k3 e3
          have h3 := expO_fwd (ts := ts) (s := [105, 115]) (by decide) _ _ _ e3
          split at hr
          · cases hr
          · rename_i d k4 e4
            have h4 := detO_fwd ts _ _ _ e4
            injection hr with q1 q2
            subst q1 q2
            rw [show s + k + 1 = s + (k + 1) from rfl, alike0 (nameO_sim h 0 _ _ _ e1 (by omega))]
            simp only
            rw [alike0 (argsO_sim h (wayO_fwd ts) (wayO_sim h 0) e2 (by omega) (by omega))]
            simp only
            rw [expO_sim h (by decide) e3 (by omega)]
            simp only
            rw [detO_sim h e4 hk]
            exact .inl rfl
  rw [if_neg c3] at hr ⊢
  unfold clauseO at hr ⊢
  split at hr
  · cases hr
  · rename_i nm k1 e1
    have h1 := nameO_fwd ts _ _ _ e1
    split at hr
    · cases hr
    · rename_i l k2 e2
      have h2 := argsO_fwd (termO_fwd ts 66 0) e2 h1.2
      split at hr
      · rename_i hc
        split at hr
        · cases hr
        · rename_i g k3 e3
          have h3 := joinO_fwd (joinO_fwd (primO_fwd ts 66 0) [44] 5) [59] 6 _ _ _ e3
          injection hr with q1 q2
          subst q1 q2
          rw [alike0 (nameO_sim h 0 _ _ _ e1 (by omega))]
          simp only
          rw [alike0 (argsO_sim h (termO_fwd ts 66 0) (termO_sim0 h) e2 (by omega) (by omega))]
          simp only
          rw [h.has (by omega) (by decide) (by decide), if_pos hc, show s + k2 + 1 = s + (k2 + 1) from rfl,
            alike0 (goalO_sim h (primO_fwd ts 66 0) (primO_sim0 h) _ _ _ e3 hk)]
          exact .inl rfl
      · rename_i hc
        injection hr with q1 q2
        subst q1 q2
        rw [alike0 (nameO_sim h 0 _ _ _ e1 (by omega))]
        simp only
        rw [alike0 (argsO_sim h (termO_fwd ts 66 0) (termO_sim0 h) e2 (by omega) (by omega))]
        simp only
        rw [h.has (by omega) (by decide) (by decide), if_neg hc]
        exact .inl rfl
end

/-! ### two sources -/
theorem peekT_app {a b : List Tok} {j : Nat} (h : j < a.length) : peekT (a ++ b) j = peekT a j := by
  unfold peekT
  rw [List.getElem?_append_left h]
theorem peekT_behind (a b : List Tok) (j : Nat) : peekT (a ++ b) (a.length + j) = peekT b j := by
  unfold peekT
  rw [List.getElem?_append_right (by omega), Nat.add_sub_cancel_left]
theorem sim_app {a b : List Tok} {N : Nat} (h : N < a.length) : Sim a (a ++ b) 0 N :=
  ⟨fun j hj => by rw [Nat.zero_add]; exact peekT_app (by omega), by omega, by simp; omega, fun m _ _ => by unfold hasT; rw [Nat.zero_add, peekT_app h]⟩
theorem sim_behind (a b : List Tok) : Sim b (a ++ b) a.length b.length :=
  ⟨fun j _ => peekT_behind a b j, Nat.le_refl _, by simp, fun m _ _ => by unfold hasT; rw [peekT_behind]⟩
theorem srcLoop_len (b : List Tok) : ∀ (m k : Nat) (acc l : List ItemT) (k' : Nat), srcLoop b 0 m k acc = .ok l k' → k ≤ b.length → acc.length ≤ l.length ∧ k' = b.length
  | 0, _, _, _, _, h, _ => by simp [srcLoop] at h
  | m + 1, k, acc, l, k', h, hk => by
    rw [srcLoop] at h
    split at h
    · split at h
      · cases h
      · split at h
        · cases h
        · rename_i x k1 e1
          split at h
          · cases h
          · rename_i u k2 e2
            have f2 := expO_fwd (ts := b) (s := [46]) (by decide) _ _ _ e2
            have ih := srcLoop_len b m k2 (acc ++ [x]) l k' h f2.2
            rw [List.length_append] at ih
            exact ⟨by omega, ih.2⟩
    · injection h with h1 h2
      subst h1 h2
      exact ⟨Nat.le_refl _, by omega⟩
/-- The first source's items, with another source behind. -/
theorem srcLoop_app (a b : List Tok) : ∀ (m k : Nat) (acc l : List ItemT) (k' : Nat), srcLoop a 0 m k acc = .ok l k' → k ≤ a.length → ∀ M, a.length < M + k → ∃ M', M ≤ M' + (a.length - k) ∧ srcLoop (a ++ b) 0 M k acc = srcLoop (a ++ b) 0 M' a.length l
  | 0, _, _, _, _, h, _, _, _ => by simp [srcLoop] at h
  | m + 1, k, acc, l, k', h, hk, M, hM => by
    rw [srcLoop] at h
    split at h
    · rename_i hlt
      split at h
      · cases h
      · rename_i h512
        split at h
        · cases h
        · rename_i x k1 e1
          have f1 := itemO_fwd a 0 _ _ _ e1
          split at h
          · cases h
          · rename_i u k2 e2
            have f2 := expO_fwd (ts := a) (s := [46]) (by decide) _ _ _ e2
            obtain ⟨M, rfl⟩ : ∃ q, M = q + 1 := ⟨M - 1, by omega⟩
            obtain ⟨M', g1, g2⟩ := srcLoop_app a b m k2 (acc ++ [x]) l k' h f2.2 M (by omega)
            have s1 := alike0 (itemO_sim (sim_app (a := a) (b := b) (N := k1) (by omega)) _ _ _ e1 (Nat.le_refl _))
            rw [Nat.zero_add, Nat.zero_add] at s1
            have s2 : expO (a ++ b) k1 [46] = .ok u k2 := by
              unfold expO hasT at e2 ⊢
              rw [peekT_app (by omega)]
              exact e2
            refine ⟨M', by omega, ?_⟩
            rw [srcLoop, if_pos (by simp; omega), if_neg h512, s1]
            simp only
            rw [s2]
            exact g2
    · rename_i hlt
      injection h with h1 h2
      subst h1 h2
      obtain rfl : k = a.length := by omega
      exact ⟨M, by omega, rfl⟩
/-- The second source's items, behind the first's. -/
theorem srcLoop_behind (a b : List Tok) (pre : List ItemT) : ∀ (m k : Nat) (acc l : List ItemT) (k' : Nat), srcLoop b 0 m k acc = .ok l k' → k ≤ b.length → pre.length + l.length ≤ 512 → ∀ M, b.length < M + k →
    srcLoop (a ++ b) 0 M (a.length + k) (pre ++ acc) = .ok (pre ++ l) (a.length + b.length)
  | 0, _, _, _, _, h, _, _, _, _ => by simp [srcLoop] at h
  | m + 1, k, acc, l, k', h, hk, h5, M, hM => by
    obtain ⟨M, rfl⟩ : ∃ q, M = q + 1 := ⟨M - 1, by omega⟩
    rw [srcLoop] at h ⊢
    split at h
    · rename_i hlt
      split at h
      · cases h
      · rename_i h512
        split at h
        · cases h
        · rename_i x k1 e1
          have f1 := itemO_fwd b 0 _ _ _ e1
          split at h
          · cases h
          · rename_i u k2 e2
            have f2 := expO_fwd (ts := b) (s := [46]) (by decide) _ _ _ e2
            have hl := (srcLoop_len b m k2 (acc ++ [x]) l k' h f2.2).1
            rw [List.length_append] at hl
            simp only [List.length_cons, List.length_nil] at hl
            have s1 := alike0 (itemO_sim (sim_behind a b) _ _ _ e1 f1.2)
            have s2 := expO_sim (sim_behind a b) (by decide) e2 f2.2
            rw [if_pos (by simp; omega), if_neg (by simp; omega), s1]
            simp only
            rw [s2]
            simp only
            rw [List.append_assoc]
            exact srcLoop_behind a b pre m k2 (acc ++ [x]) l k' h f2.2 h5 M (by omega)
    · rename_i hlt
      injection h with h1 h2
      subst h1 h2
      obtain rfl : k = b.length := by omega
      rw [if_neg (by simp)]
theorem sourceO_app {a b : List Tok} {la lb : List ItemT} {p q : Nat} (h1 : sourceO a 0 0 = .ok la p) (h2 : sourceO b 0 0 = .ok lb q) (h : la.length + lb.length ≤ 512) : sourceO (a ++ b) 0 0 = .ok (la ++ lb) (a ++ b).length := by
  unfold sourceO at h1 h2 ⊢
  obtain ⟨M', g1, g2⟩ := srcLoop_app a b _ 0 [] la p h1 (Nat.zero_le _) ((a ++ b).length + 1) (by simp; omega)
  have g3 := srcLoop_behind a b la _ 0 [] lb q h2 (Nat.zero_le _) h M' (by simp at g1; omega)
  rw [g2]
  rw [List.append_nil, Nat.add_zero] at g3
  rw [g3]
  simp
/-- A goal in brackets: the same goal, or too deep. -/
theorem goal_brackets {ts : List Tok} {x : GoalT} {lp rp : Tok} (hl : lp.text = [40]) (hr : rp.text = [41]) (h : goalO (primO ts 66 0) ts 0 = .ok x ts.length) :
    goalO (primO (lp :: (ts ++ [rp])) 66 0) (lp :: (ts ++ [rp])) 0 = .ok x (ts.length + 2) ∨ goalO (primO (lp :: (ts ++ [rp])) 66 0) (lp :: (ts ++ [rp])) 0 = .no 0 := by
  have hS : Sim ts (lp :: (ts ++ [rp])) 1 ts.length := by
    refine ⟨fun j hj => ?_, Nat.le_refl _, by simp; omega, fun m m0 m1 => ?_⟩
    · rw [Nat.add_comm]
      unfold peekT
      rw [List.getElem?_cons_succ, List.getElem?_append_left hj]
    · have e1 : hasT ts ts.length m = false := by
        unfold hasT
        rw [peekT_out (Nat.le_refl _)]
        simpa using m0
      have e2 : hasT (lp :: (ts ++ [rp])) (1 + ts.length) m = false := by
        unfold hasT peekT
        rw [Nat.add_comm, List.getElem?_cons_succ, List.getElem?_append_right (Nat.le_refl _), Nat.sub_self]
        show (rp.text == m) = false
        rw [hr]
        simpa using fun e => m1 e.symm
      rw [e1, e2]
  have hp := primO_sim hS 1 (by omega) 66 0 65 (by omega) (by omega) (by omega)
  rw [show (0 : Int) + 1 = 1 from rfl] at hp
  have hf0 : ∀ w : List UInt8, hasT (lp :: (ts ++ [rp])) 0 w = (lp.text == w) := fun w => rfl
  have hlen : (lp :: (ts ++ [rp])).length = ts.length + 2 := by simp
  have hpr : primO (lp :: (ts ++ [rp])) 66 0 0 = match goalO (primO (lp :: (ts ++ [rp])) 65 1) (lp :: (ts ++ [rp])) 1 with
        | .no i => .no i
        | .ok g k' => match expO (lp :: (ts ++ [rp])) k' [41] with
          | .no i => .no i
          | .ok _ k2 => .ok g k2 := by
    rw [primO, show enterO (lp :: (ts ++ [rp])) 0 0 = .ok () 0 from rfl]
    simp only
    rw [hf0, hf0, hf0, hf0, hf0, hf0, hl]
    rfl
  have hx : ∀ m : List UInt8, hasT (lp :: (ts ++ [rp])) (ts.length + 1) m = ([41] == m) := by
    intro m
    unfold hasT peekT
    rw [List.getElem?_cons_succ, List.getElem?_append_right (Nat.le_refl _), Nat.sub_self]
    show (rp.text == m) = _
    rw [hr]
  have hend : ∀ m : List UInt8, m ≠ [] → hasT (lp :: (ts ++ [rp])) (ts.length + 2) m = false := by
    intro m hm
    unfold hasT
    rw [peekT_out (by rw [hlen]; exact Nat.le_refl _)]
    simpa using hm
  have one : ∀ {rd : Nat → Out GoalT} {mark : List UInt8} {kind : Int}, mark ≠ [] → rd 0 = .ok x (ts.length + 2) → joinO rd (lp :: (ts ++ [rp])) mark kind 0 = .ok x (ts.length + 2) := by
    intro rd mark kind hm h
    unfold joinO rowO
    rw [h]
    simp only
    rw [rowLoop, hend mark hm]
    rfl
  have no : ∀ {rd : Nat → Out GoalT} {mark : List UInt8} {kind : Int}, rd 0 = .no 0 → joinO rd (lp :: (ts ++ [rp])) mark kind 0 = .no 0 := by
    intro rd mark kind h
    unfold joinO rowO
    rw [h]
  rcases goalO_sim hS (primO_fwd ts 66 0) hp 0 x ts.length h (Nat.le_refl _) with e | ⟨_, e⟩
  · left
    rw [Nat.add_zero] at e
    rw [e, show 1 + ts.length = ts.length + 1 from Nat.add_comm _ _] at hpr
    simp only [expO] at hpr
    rw [hx [41]] at hpr
    exact one (by decide) (one (by decide) hpr)
  · right
    rw [Nat.add_zero] at e
    rw [e] at hpr
    exact no (no hpr)
end Lx
end Go.Proofs.YtbbbbfglhphffaaDoor
