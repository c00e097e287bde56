/- The contract of the reference's reader's Item: what the parser's plain reading says. Conditions: the reader's block is its own; at most 16384 tokens, each of which is one by itself. -/
import Derived.Test.YtajomoclbpobhaaGreatDoorRdiB
import Derived.Test.YtajomoclbpobhaaGreatDoorRdid
namespace Go.Proofs.YtajomoclbpobhaaGreatDoor
set_option linter.unusedSimpArgs false
set_option linter.unusedVariables false
namespace Lx
open Go Go.RowKit
theorem ritem_genc (b:Nat) (A:Option Addr) (c:Nat) (ts:List Tok) (hw:WF ts):GenC 58 #[.pointer (some ⟨b,0,none⟩)] b A c ts ItemV ShIt (itemO ts 0):=by
 intro w k er OT hc h hk
 cases q0:isB ts k er [116,121,112,101] with
 | true =>
  obtain ⟨rfl,hy⟩:er=0∧hasT ts k [116,121,112,101]=true:=by simpa [isB] using q0
  have hO:=hc.ok
  unfold itemO at hO
  rw [if_pos hy,typeItemO_eq] at hO
  exact ritem_type b A c ts hw w k OT h hk hy hO
 | false =>
  cases q1:isB ts k er [112,114,101,100] with
  | true =>
   obtain ⟨rfl,hy⟩:er=0∧hasT ts k [112,114,101,100]=true:=by simpa [isB] using q1
   have hO:=hc.ok
   unfold itemO at hO
   rw [if_neg (by rw [(isB_ok ts k _).symm.trans q0];decide),if_pos hy,predO_eq] at hO
   exact ritem_pred b A c ts hw w k OT h hk q0 hy hO
  | false =>
   cases q2:isB ts k er [109,111,100,101] with
   | true =>
    obtain ⟨rfl,hy⟩:er=0∧hasT ts k [109,111,100,101]=true:=by simpa [isB] using q2
    have hO:=hc.ok
    unfold itemO at hO
    rw [if_neg (by rw [(isB_ok ts k _).symm.trans q0];decide),if_neg (by rw [(isB_ok ts k _).symm.trans q1];decide),if_pos hy,modeItemO_eq] at hO
    exact ritem_mode b A c ts hw w k OT h hk q0 q1 hy hO
   | false =>
    refine ritem_clause b A c ts hw w k er OT h hk q0 q1 q2 ?_
    rcases hc with ⟨rfl,hO⟩ | h
    ·refine .inl ⟨rfl,?_⟩
     unfold itemO at hO
     rw [if_neg (by rw [(isB_ok ts k _).symm.trans q0];decide),if_neg (by rw [(isB_ok ts k _).symm.trans q1];decide),if_neg (by rw [(isB_ok ts k _).symm.trans q2];decide),clauseO_eq] at hO
     exact hO
    ·exact .inr h
end Lx
end Go.Proofs.YtajomoclbpobhaaGreatDoor
