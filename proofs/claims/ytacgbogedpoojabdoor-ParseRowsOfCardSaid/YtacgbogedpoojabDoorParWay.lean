/- The contracts of package parse's way and det: which word stands next; or the panic. Conditions: the parser's block is its own; at most 16384 tokens. -/
import Derived.Test.YtacgbogedpoojabDoorParRow
namespace Go.Proofs.YtacgbogedpoojabDoor
namespace Lx
open Go Go.RowKit

theorem hasT_l (ts : List Tok) (k : Nat) (l : List UInt8) : ((bs (peekT ts k).text).toList == l) = hasT ts k l := by
  unfold hasT
  rw [ByteArray.toList_eq]
  rfl
def boolV : Holds Bool := fun x v _ _ _ => v = .bool x
def intV : Holds Int := fun x v _ _ _ => v = .int .i64 x
theorem boolV.stable : Stable boolV := fun _ _ _ _ _ _ h _ => h
theorem intV.stable : Stable intV := fun _ _ _ _ _ _ h _ => h
def wayO (ts : List Tok) (k : Nat) : Out Bool := if hasT ts k [105, 110] = true then .ok true (k + 1) else if hasT ts k [111, 117, 116] = true then .ok false (k + 1) else .no 2
theorem wayO_fwd (ts : List Tok) : Fwd ts (wayO ts) := by
  intro k x k' h
  unfold wayO at h
  split at h
  · rename_i hc
    injection h with _ h2
    subst h2
    have := hasT_in hc (by decide)
    omega
  · split at h
    · rename_i hc
      injection h with _ h2
      subst h2
      have := hasT_in hc (by decide)
      omega
    · cases h
def detO (ts : List Tok) (k : Nat) : Out Int :=
  if hasT ts k [100, 101, 116] = true then .ok 1 (k + 1) else if hasT ts k [115, 101, 109, 105, 100, 101, 116] = true then .ok 2 (k + 1) else if hasT ts k [109, 117, 108, 116, 105] = true then .ok 3 (k + 1) else if hasT ts k [110, 111, 110, 100, 101, 116] = true then .ok 4 (k + 1) else .no 2
theorem detO_fwd (ts : List Tok) : Fwd ts (detO ts) := by
  intro k x k' h
  unfold detO at h
  repeat' split at h
  all_goals first
    | (rename_i hc; injection h with _ h2; subst h2; have := hasT_in hc (by decide); omega)
    | cases h

set_option maxRecDepth 100000 in
theorem way_any (w : World) (b : Nat) (A : Option Addr) (c : Nat) (ts : List Tok) (k : Nat) (ne : Int) (f : Nat → Addr) (h : Par w b A c ts k ne) (hk : k ≤ ts.length) (hE : PErrs w b f) :
    Calls Tryd.prog 56 #[.pointer (some ⟨b, 0, none⟩)] w fun e w' => EndsV b A c ts ne f boolV w (wayO ts k) e w' := by
  have HP := Lib.hid h
  have HE := Lib.hid hE
  have hfw := h.few
  have HM := Lib.hid (next_any w b A c ts k ne h (by omega))
  unfold wayO
  rw [← hasT_l, ← hasT_l]
  clear h hE
  generalize (peekT ts k).kind = x at *
  generalize (peekT ts k).num = z at *
  generalize bs (peekT ts k).text = y at *
  have q1 := tokF1 x z y
  cases h1 : (y.toList == [105, 110]) with
  | true =>
    simp only [if_true]
    go_enter Tryd.func56, Tryd.ntmps56
    go_wp2_with (go_at_call 29; refine HM.out.mono ?_; rintro e w' ⟨rfl, hp, hf⟩)
    go_ret
    exact ⟨_, rfl, rfl, hp, hf⟩
  | false =>
    simp only [Bool.false_eq_true, if_false]
    cases h2 : (y.toList == [111, 117, 116]) with
    | true =>
      simp only [if_true]
      go_enter Tryd.func56, Tryd.ntmps56
      go_wp2_with (go_at_call 29; refine HM.out.mono ?_; rintro e w' ⟨rfl, hp, hf⟩)
      go_ret
      exact ⟨_, rfl, rfl, hp, hf⟩
    | false =>
      simp only [Bool.false_eq_true, if_false]
      go_enter Tryd.func56, Tryd.ntmps56
      go_wp2_with (go_at_call 29; refine HM.out.mono ?_; rintro e w' ⟨rfl, hp, hf⟩; have c1 := (HE.out.move hf).syn; have hg := World.block_lt_of_cell? _ _ c1)
      exact ⟨rfl, rfl, ⟨_, _, hp, Int.le_refl _⟩, hf⟩

set_option maxRecDepth 100000 in
theorem det_any (w : World) (b : Nat) (A : Option Addr) (c : Nat) (ts : List Tok) (k : Nat) (ne : Int) (f : Nat → Addr) (h : Par w b A c ts k ne) (hk : k ≤ ts.length) (hE : PErrs w b f) :
    Calls Tryd.prog 57 #[.pointer (some ⟨b, 0, none⟩)] w fun e w' => EndsV b A c ts ne f intV w (detO ts k) e w' := by
  have HP := Lib.hid h
  have HE := Lib.hid hE
  have hfw := h.few
  have HM := Lib.hid (next_any w b A c ts k ne h (by omega))
  unfold detO
  rw [← hasT_l, ← hasT_l, ← hasT_l, ← hasT_l]
  clear h hE
  generalize (peekT ts k).kind = x at *
  generalize (peekT ts k).num = z at *
  generalize bs (peekT ts k).text = y at *
  have q1 := tokF1 x z y
  cases h1 : (y.toList == [100, 101, 116]) with
  | true =>
    simp only [if_true]
    go_enter Tryd.func57, Tryd.ntmps57
    go_wp2_with (go_at_call 29; refine HM.out.mono ?_; rintro e w' ⟨rfl, hp, hf⟩)
    go_ret
    exact ⟨_, rfl, rfl, hp, hf⟩
  | false =>
    simp only [Bool.false_eq_true, if_false]
    cases h2 : (y.toList == [115, 101, 109, 105, 100, 101, 116]) with
    | true =>
      simp only [if_true]
      go_enter Tryd.func57, Tryd.ntmps57
      go_wp2_with (go_at_call 29; refine HM.out.mono ?_; rintro e w' ⟨rfl, hp, hf⟩)
      go_ret
      exact ⟨_, rfl, rfl, hp, hf⟩
    | false =>
      simp only [Bool.false_eq_true, if_false]
      cases h3 : (y.toList == [109, 117, 108, 116, 105]) with
      | true =>
        simp only [if_true]
        go_enter Tryd.func57, Tryd.ntmps57
        go_wp2_with (go_at_call 29; refine HM.out.mono ?_; rintro e w' ⟨rfl, hp, hf⟩)
        go_ret
        exact ⟨_, rfl, rfl, hp, hf⟩
      | false =>
        simp only [Bool.false_eq_true, if_false]
        cases h4 : (y.toList == [110, 111, 110, 100, 101, 116]) with
        | true =>
          simp only [if_true]
          go_enter Tryd.func57, Tryd.ntmps57
          go_wp2_with (go_at_call 29; refine HM.out.mono ?_; rintro e w' ⟨rfl, hp, hf⟩)
          go_ret
          exact ⟨_, rfl, rfl, hp, hf⟩
        | false =>
          simp only [Bool.false_eq_true, if_false]
          go_enter Tryd.func57, Tryd.ntmps57
          go_wp2_with (go_at_call 29; refine HM.out.mono ?_; rintro e w' ⟨rfl, hp, hf⟩; have c1 := (HE.out.move hf).syn; have hg := World.block_lt_of_cell? _ _ c1)
          exact ⟨rfl, rfl, ⟨_, _, hp, Int.le_refl _⟩, hf⟩

end Lx
end Go.Proofs.YtacgbogedpoojabDoor
