/- What a parser reads where the grammar has a prim, in plain words: by the nests left; each reading goes forward. No program stands in this text but the tokens' form; no conditions. -/
import Derived.Test.YtacgbogedpoojabDoorParJoin
namespace Go.Proofs.YtacgbogedpoojabDoor
namespace Lx
open Go Go.RowKit

def TermT.kind : TermT → Int
  | .mk k _ _ _ => k
def TermT.name : TermT → List UInt8
  | .mk _ s _ _ => s
def TermT.args : TermT → List TermT
  | .mk _ _ _ l => l

/-- What follows "try". -/
def guardO (rd : Nat → Out GoalT) (ts : List Tok) (k : Nat) : Out GoalT :=
  match rd k with
  | .no i => .no i
  | .ok g k1 => match expO ts k1 [99, 97, 116, 99, 104] with
    | .no i => .no i
    | .ok _ k2 => match varO ts k2 with
      | .no i => .no i
      | .ok s k3 => match expO ts k3 [116, 104, 101, 110] with
        | .no i => .no i
        | .ok _ k4 => match rd k4 with
          | .no i => .no i
          | .ok g2 k5 => .ok (.mk 9 zeroT zeroT s [] [g, g2]) k5

/-- A unification or a call. -/
def uocO (rdT : Nat → Out TermT) (ts : List Tok) (k : Nat) : Out GoalT :=
  match rdT k with
  | .no i => .no i
  | .ok t k1 =>
    if hasT ts k1 [61] = true then match rdT (k1 + 1) with
      | .no i => .no i
      | .ok u k2 => .ok (.mk 3 t u [] [] []) k2
    else if t.kind = 3 then .ok (.mk 4 zeroT zeroT t.name t.args []) k1
    else .no 2

def goalO (rd : Nat → Out GoalT) (ts : List Tok) (k : Nat) : Out GoalT := joinO (joinO rd ts [44] 5) ts [59] 6 k

def primO (ts : List Tok) : Nat → Int → Nat → Out GoalT
  | 0, _, _ => .no 2
  | m + 1, ne, k =>
    match enterO ts k ne with
    | .no i => .no i
    | .ok _ _ =>
      if hasT ts k [116, 114, 117, 101] = true then .ok (.mk 1 zeroT zeroT [] [] []) (k + 1)
      else if hasT ts k [102, 97, 105, 108] = true then .ok (.mk 2 zeroT zeroT [] [] []) (k + 1)
      else if hasT ts k [110, 111, 116] = true then
        match primO ts m (ne + 1) (k + 1) with
        | .no i => .no i
        | .ok g k' => .ok (.mk 7 zeroT zeroT [] [] [g]) k'
      else if hasT ts k [116, 104, 114, 111, 119] = true then
        match termO ts 66 (ne + 1) (k + 1) with
        | .no i => .no i
        | .ok t k' => .ok (.mk 8 t zeroT [] [] []) k'
      else if hasT ts k [116, 114, 121] = true then guardO (primO ts m (ne + 1)) ts (k + 1)
      else if hasT ts k [40] = true then
        match goalO (primO ts m (ne + 1)) ts (k + 1) with
        | .no i => .no i
        | .ok g k' => match expO ts k' [41] with
          | .no i => .no i
          | .ok _ k2 => .ok g k2
      else uocO (termO ts 66 (ne + 1)) ts k

theorem varO_fwd (ts : List Tok) : Fwd ts (varO ts) := by
  intro k x k' h
  unfold varO at h
  split at h
  · rename_i hc
    injection h with h1 h2
    subst h2
    have := peek_kind (ts := ts) (k := k) (by rw [hc]; decide)
    omega
  · cases h
theorem guardO_fwd {rd : Nat → Out GoalT} {ts : List Tok} (hr : Fwd ts rd) : Fwd ts (guardO rd ts) := by
  intro k x k' h
  unfold guardO at h
  split at h
  · cases h
  · rename_i g k1 e1
    have h1 := hr _ _ _ e1
    split at h
    · cases h
    · rename_i u k2 e2
      have h2 := expO_fwd (ts := ts) (s := [99, 97, 116, 99, 104]) (by decide) _ _ _ e2
      split at h
      · cases h
      · rename_i s k3 e3
        have h3 := varO_fwd ts _ _ _ e3
        split at h
        · cases h
        · rename_i u k4 e4
          have h4 := expO_fwd (ts := ts) (s := [116, 104, 101, 110]) (by decide) _ _ _ e4
          split at h
          · cases h
          · rename_i g2 k5 e5
            have h5 := hr _ _ _ e5
            injection h with _ h6
            omega
theorem uocO_fwd {rdT : Nat → Out TermT} {ts : List Tok} (hr : Fwd ts rdT) : Fwd ts (uocO rdT ts) := by
  intro k x k' h
  unfold uocO at h
  split at h
  · cases h
  · rename_i t k1 e1
    have h1 := hr _ _ _ e1
    split at h
    · split at h
      · cases h
      · rename_i u k2 e2
        have h2 := hr _ _ _ e2
        injection h with _ h6
        omega
    · split at h
      · injection h with _ h6
        omega
      · cases h
theorem primO_fwd (ts : List Tok) : ∀ (m : Nat) (ne : Int), Fwd ts (primO ts m ne)
  | 0, _, _, _, _, h => by simp [primO] at h
  | m + 1, ne, k, x, k', h => by
    rw [primO] at h
    split at h
    · cases h
    · split at h
      · rename_i hc
        injection h with _ h2
        have := hasT_in hc (by decide)
        omega
      · split at h
        · rename_i hc
          injection h with _ h2
          have := hasT_in hc (by decide)
          omega
        · split at h
          · split at h
            · cases h
            · rename_i g k1 e1
              have h1 := primO_fwd ts m (ne + 1) _ _ _ e1
              injection h with _ h2
              omega
          · split at h
            · split at h
              · cases h
              · rename_i g k1 e1
                have h1 := termO_fwd ts 66 (ne + 1) _ _ _ e1
                injection h with _ h2
                omega
            · split at h
              · have h1 := guardO_fwd (primO_fwd ts m (ne + 1)) _ _ _ h
                omega
              · split at h
                · split at h
                  · cases h
                  · rename_i g k1 e1
                    have h1 := joinO_fwd (joinO_fwd (primO_fwd ts m (ne + 1)) [44] 5) [59] 6 _ _ _ e1
                    split at h
                    · cases h
                    · rename_i u k2 e2
                      have h2 := expO_fwd (ts := ts) (s := [41]) (by decide) _ _ _ e2
                      injection h with _ h3
                      omega
                · exact uocO_fwd (termO_fwd ts 66 (ne + 1)) _ _ _ h

end Lx
end Go.Proofs.YtacgbogedpoojabDoor
