/- The walk of the statement ParseSources: it returns true. Conditions: the sixteen error variables hold pointers to cells of their own; strconv's table of powers of ten holds them. -/
/- The contract of the reference's reader's Item: what the parser's plain reading says. Conditions: the reader's block is its own; at most 16384 tokens, each of which is one by itself. -/
/- The statement ParseSources returns true: the walk, with the reader's items. Conditions: the sixteen error variables hold pointers to cells of their own; strconv's table of powers of ten holds them. -/
import Derived.Test.YtnahhlhkbfdlhaaGreatDoorNum4
import Derived.Test.YtnahhlhkbfdlhaaGreatDoorRds
import Derived.Test.YtnahhlhkbfdlhaaGreatDoorSameIts
import Derived.Test.YtnahhlhkbfdlhaaGreatDoorTextI
import Derived.Test.YtnahhlhkbfdlhaaGreatDoorRdiB
import Derived.Test.YtnahhlhkbfdlhaaGreatDoorRdid
namespace Go.Proofs.YtnahhlhkbfdlhaaGreatDoor
set_option linter.unusedSimpArgs false
set_option linter.unusedVariables false
namespace Lx
open Go Go.RowKit

set_option maxRecDepth 100000 in
set_option maxHeartbeats 2000000 in
theorem lawSources_pre (HITEM : Hid (∀ (b : Nat) (A : Option Addr) (c : Nat) (ts : List Tok), WF ts → GenC 26 #[.pointer (some ⟨b, 0, none⟩)] b A c ts ItemV ShIt (itemO ts 0))) (s : ByteArray) (w : World) (hE : Env w) (f : Nat → Addr) (hS : Sents w f) :
    Calls Tryz.prog 3 #[.string s] w fun e w' => e = .returned (.bool true) ∧ Below w.heap.size w w' := by
  have HA := Lib.hid (alive_any w hE _ hS.four)
  have HV := Lib.hid hE
  have HS := Lib.hid hS
  have HT := Lib.hid (fun w hE h4 => textIt_any s w hE (four f) h4)
  have HR := Lib.hid (fun w => rsource_any HITEM s w)
  obtain ⟨x, E, n, ⟨n0, n1⟩, hx, hn, hO⟩ := text_one (ArgsV 67 20 ItemV) (.slice none 0 0) [] (fun _ _ _ => .inl ⟨rfl, rfl⟩) f (textO srcG s)
  have HX := Lib.hid hx
  have HN := Lib.hid hn
  have HPX : Hid (∀ w w' v m, PartR (ArgsV 67 20 ItemV) (.slice none 0 0) w w' v m (textO srcG s) → m = n ∧ ArgsV 67 20 ItemV x v w.heap.size w'.heap.size w') := Lib.hid (fun w w' v m h => by
    rcases hO with ⟨i, ho, rfl, rfl⟩ | ⟨k, ho, rfl⟩
    · rw [ho] at h
      obtain ⟨rfl, rfl⟩ := h
      exact ⟨rfl, .inl ⟨rfl, rfl⟩⟩
    · rw [ho] at h
      exact h)
  clear hE hS hx hn hO HITEM
  go_enter Tryz.func3, Tryz.ntmps3
  go_wp2_with fail
  refine HA.out.mono ?_
  rintro e w1 ⟨rfl, hb1⟩
  have HB1 := Lib.hid hb1
  clear hb1
  go_wp2_with fail
  go_at_call 7
  refine (HT.out _ (HV.out.below HB1.out) (HS.out.below HB1.out).four).mono ?_
  rintro e w2 ⟨v1, er1, rfl, hb2, ht⟩
  obtain ⟨rfl, hv1⟩ := HX.out _ _ _ _ ht
  have HB2 := Lib.hid (HB1.out.trans (hb2.mono HB1.out.size))
  obtain ⟨A1, m1, c1, rfl⟩ := hv1.slice
  have HV1 := Lib.hid hv1
  have HS2 : Hid (w1.heap.size ≤ w2.heap.size) := Lib.hid hb2.size
  clear ht hv1 hb2 HT HA
  go_wp2_with fail
  go_at_call 8
  refine (HR.out _).mono ?_
  rintro e w3 ⟨v2, n2, rfl, hb3, ht⟩
  obtain ⟨rfl, hv2⟩ := HPX.out _ _ _ _ ht
  have HB3 := Lib.hid (HB2.out.trans (hb3.mono HB2.out.size))
  obtain ⟨A2, m2, c2, rfl⟩ := hv2.slice
  have HV2 := Lib.hid hv2
  have HV1b := Lib.hid (same_of_below (ArgsV.stable _ _ ItemV.stable) HV1.out hb3 (Nat.le_refl _))
  have HS3 : Hid (w2.heap.size ≤ w3.heap.size) := Lib.hid hb3.size
  clear ht hv2 hb3 HR HV1 HX HPX
  go_wp2_with fail
  go_at_call 9
  refine (sameItems_any x _ _ _ _ _ _ w3 HV1b.out HV2.out HS3.out (Nat.le_refl _)).mono ?_
  rintro e w4 ⟨rfl, hb4⟩
  have HB4 := Lib.hid (HB3.out.trans (hb4.mono HB3.out.size))
  clear hb4
  go_wp2_with fail
  go_at_call 10
  refine (HN.out _ (HS.out.below HB4.out)).mono ?_
  rintro e w5 ⟨rfl, hb5⟩
  have HB5 := Lib.hid (HB4.out.trans (hb5.mono HB4.out.size))
  clear hb5
  go_wp2_with fail
  go_ret
  exact ⟨rfl, HB5.out⟩

end Lx
end Go.Proofs.YtnahhlhkbfdlhaaGreatDoor

namespace Go.Proofs.YtnahhlhkbfdlhaaGreatDoor
set_option linter.unusedSimpArgs false
set_option linter.unusedVariables false
namespace Lx
open Go Go.RowKit

theorem ritem_genc (b : Nat) (A : Option Addr) (c : Nat) (ts : List Tok) (hw : WF ts) : GenC 26 #[.pointer (some ⟨b, 0, none⟩)] b A c ts ItemV ShIt (itemO ts 0) := by
  intro w k er OT hc h hk
  cases q0 : isB ts k er [116, 121, 112, 101] with
  | true =>
    obtain ⟨rfl, hy⟩ : er = 0 ∧ hasT ts k [116, 121, 112, 101] = true := by simpa [isB] using q0
    have hO := hc.ok
    unfold itemO at hO
    rw [if_pos hy, typeItemO_eq] at hO
    exact ritem_type b A c ts hw w k OT h hk hy hO
  | false =>
    cases q1 : isB ts k er [112, 114, 101, 100] with
    | true =>
      obtain ⟨rfl, hy⟩ : er = 0 ∧ hasT ts k [112, 114, 101, 100] = true := by simpa [isB] using q1
      have hO := hc.ok
      unfold itemO at hO
      rw [if_neg (by rw [(isB_ok ts k _).symm.trans q0]; decide), if_pos hy, predO_eq] at hO
      exact ritem_pred b A c ts hw w k OT h hk q0 hy hO
    | false =>
      cases q2 : isB ts k er [109, 111, 100, 101] with
      | true =>
        obtain ⟨rfl, hy⟩ : er = 0 ∧ hasT ts k [109, 111, 100, 101] = true := by simpa [isB] using q2
        have hO := hc.ok
        unfold itemO at hO
        rw [if_neg (by rw [(isB_ok ts k _).symm.trans q0]; decide), if_neg (by rw [(isB_ok ts k _).symm.trans q1]; decide), if_pos hy, modeItemO_eq] at hO
        exact ritem_mode b A c ts hw w k OT h hk q0 q1 hy hO
      | false =>
        refine ritem_clause b A c ts hw w k er OT h hk q0 q1 q2 ?_
        rcases hc with ⟨rfl, hO⟩ | h
        · refine .inl ⟨rfl, ?_⟩
          unfold itemO at hO
          rw [if_neg (by rw [(isB_ok ts k _).symm.trans q0]; decide), if_neg (by rw [(isB_ok ts k _).symm.trans q1]; decide), if_neg (by rw [(isB_ok ts k _).symm.trans q2]; decide), clauseO_eq] at hO
          exact hO
        · exact .inr h

end Lx
end Go.Proofs.YtnahhlhkbfdlhaaGreatDoor

namespace Go.Proofs.YtnahhlhkbfdlhaaGreatDoor
set_option linter.unusedSimpArgs false
set_option linter.unusedVariables false
namespace Lx
open Go Go.RowKit

theorem refSource_any (s : ByteArray) (w : World) : Calls Tryz.prog 8 #[.string s] w fun e w' => ∃ v n, e = .returned (.tuple #[v, .int .i64 n]) ∧ Below w.heap.size w w' ∧ PartR (ArgsV 67 20 ItemV) (.slice none 0 0) w w' v n (textO srcG s) := rsource_any (Lib.hid ritem_genc) s w
theorem lawSources_any (s : ByteArray) (w : World) (hE : Env w) (f : Nat → Addr) (hS : Sents w f) :
    Calls Tryz.prog 3 #[.string s] w fun e w' => e = .returned (.bool true) ∧ Below w.heap.size w w' := lawSources_pre (Lib.hid ritem_genc) s w hE f hS

end Lx
end Go.Proofs.YtnahhlhkbfdlhaaGreatDoor
