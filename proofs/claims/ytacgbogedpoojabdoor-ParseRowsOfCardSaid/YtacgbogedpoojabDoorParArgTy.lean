/- The contract of package parse's arguments at api.TypeExpr, for whatever reading the function it is handed has. Conditions: the parser's block is its own; at most 16384 tokens. -/
import Derived.Test.YtacgbogedpoojabDoorParRowTy
namespace Go.Proofs.YtacgbogedpoojabDoor
namespace Lx
open Go Go.RowKit

set_option maxRecDepth 100000 in
set_option maxHeartbeats 2000000 in
theorem argsTy_any (b : Nat) (A : Option Addr) (c : Nat) (ts : List Tok) (ne : Int) (f : Nat → Addr) (V : Holds TypeT) (hV : Stable V) (hT : ThisTy V) (rd : Nat → Out TypeT) (hrd : Fwd ts rd)
    (HR : Hid (∀ w k, Par w b A c ts k ne → PErrs w b f → k ≤ ts.length → Calls Tryd.prog 43 #[.pointer (some ⟨b, 0, none⟩)] w fun e w' => EndsV b A c ts ne f V w (rd k) e w'))
    (w : World) (k : Nat) (h : Par w b A c ts k ne) (hE : PErrs w b f) (hk : k ≤ ts.length) :
    Calls Tryd.prog 42 #[.pointer (some ⟨b, 0, none⟩), .func (.func 43) #[.pointer (some ⟨b, 0, none⟩)] #[]] w fun e w' => EndsV b A c ts ne f (ArgsV 77 3 V) w (argsO rd ts k) e w' := by
  have HP := Lib.hid h
  have HE := Lib.hid hE
  have hfw := h.few
  have HA := Lib.hid (accept_any w b A c ts k ne ⟨#[40]⟩ h (by omega))
  rw [hasT_eq] at HA
  unfold argsO
  have e40 : (ByteArray.mk #[40]).data.toList = [40] := rfl
  rw [e40] at HA
  clear h hE e40
  cases hh : hasT ts k [40] with
  | false =>
    rw [hh] at HA
    simp only [Bool.false_eq_true, if_false] at HA ⊢
    go_enter Tryd.func42, Tryd.ntmps42
    go_wp2_with (go_at_call 37; refine HA.out.mono ?_; rintro e w2 ⟨rfl, hp2, hf2⟩)
    go_ret
    exact ⟨_, rfl, .inl ⟨rfl, rfl⟩, hp2, hf2⟩
  | true =>
    rw [hh] at HA
    simp only [if_true] at HA ⊢
    have hin : k < ts.length := hasT_in hh (by decide)
    have HRow := Lib.hid (fun w h hE => rowTy_any b A c ts ne f V hV hT rd hrd ⟨#[44]⟩ 8 (by decide) HR w (k + 1) h hE (by omega))
    have e44 : (ByteArray.mk #[44]).data.toList = [44] := rfl
    rw [e44] at HRow
    clear e44
    cases hr : rowO rd ts [44] 8 (k + 1) with
    | no i =>
      rw [hr] at HRow
      go_enter Tryd.func42, Tryd.ntmps42
      go_wp2_with (first | (go_at_call 37; refine HA.out.mono ?_; rintro e w2 ⟨rfl, hp2, hf2⟩) | (go_at_call 54; refine (HRow.out _ hp2 (HE.out.move hf2)).mono ?_; rintro e w3 ⟨rfl, h2, h3⟩))
      exact ⟨rfl, rfl, h2, hf2.trans h3⟩
    | ok l k2 =>
      rw [hr] at HRow
      obtain ⟨hk1, hk2⟩ := rowO_fwd hrd _ _ _ _ _ hr
      have HX := Lib.hid (fun w h hE => expect_any w b A c ts k2 ne f ⟨#[41]⟩ h (by omega) hE)
      rw [expO_eq] at HX
      have e41 : (ByteArray.mk #[41]).data.toList = [41] := rfl
      rw [e41] at HX
      clear e41
      show Calls _ _ _ _ fun e w' => EndsV b A c ts ne f (ArgsV 77 3 V) w (match expO ts k2 [41] with | .no i => .no i | .ok _ k2 => .ok l k2) e w'
      cases hx : expO ts k2 [41] with
      | no i =>
        rw [hx] at HX
        go_enter Tryd.func42, Tryd.ntmps42
        go_wp2_with (first | (go_at_call 37; refine HA.out.mono ?_; rintro e w2 ⟨rfl, hp2, hf2⟩) | (go_at_call 54; refine (HRow.out _ hp2 (HE.out.move hf2)).mono ?_; rintro e w3 ⟨v3, rfl, hv3, hp3, hf3⟩; obtain ⟨g, cap, vs, rfl, hg3⟩ := hv3; have HG := Lib.hid hg3; clear hg3) | (go_at_call 34; refine (HX.out _ hp3 (HE.out.move (hf2.trans hf3))).mono ?_; rintro e w4 ⟨rfl, h2, h3⟩))
        exact ⟨rfl, rfl, h2, (hf2.trans hf3).trans h3⟩
      | ok u k3 =>
        rw [hx] at HX
        go_enter Tryd.func42, Tryd.ntmps42
        go_wp2_with (first | (go_at_call 37; refine HA.out.mono ?_; rintro e w2 ⟨rfl, hp2, hf2⟩) | (go_at_call 54; refine (HRow.out _ hp2 (HE.out.move hf2)).mono ?_; rintro e w3 ⟨v3, rfl, hv3, hp3, hf3⟩; obtain ⟨g, cap, vs, rfl, hg3⟩ := hv3; have HG := Lib.hid hg3; clear hg3) | (go_at_call 34; refine (HX.out _ hp3 (HE.out.move (hf2.trans hf3))).mono ?_; rintro e w4 ⟨v4, rfl, rfl, hp4, hf4⟩))
        go_ret
        refine ⟨_, rfl, .inr ?_, hp4, (hf2.trans hf3).trans hf4⟩
        have hrow : RowV 77 3 V l (.slice (some ⟨g, 0, none⟩) l.length cap) w2.heap.size w3.heap.size w3 := ⟨g, cap, vs, rfl, HG.out⟩
        have h4 := RowV.stable 77 3 hV _ _ _ _ _ w4 hrow (fun j j1 j2 => hf4.block j j2 (by have := hp2.lt; omega))
        exact RowV.wide h4 hf2.size hf4.size

end Lx
end Go.Proofs.YtacgbogedpoojabDoor
