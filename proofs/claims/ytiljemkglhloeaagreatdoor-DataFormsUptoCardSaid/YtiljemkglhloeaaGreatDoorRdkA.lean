/- Readings of the reference's reader one behind the other: an error that stands stays to the end, and else the next reading goes on. Conditions: the reader's block is its own; at most 16384 tokens, each of which is one by itself. -/
import Derived.Test.YtiljemkglhloeaaGreatDoorRdy
import Derived.Test.YtiljemkglhloeaaGreatDoorPrimA
namespace Go.Proofs.YtiljemkglhloeaaGreatDoor
set_option linter.unusedSimpArgs false
set_option linter.unusedVariables false
namespace Lx
open Go Go.RowKit
/-- One reading behind another. -/
def bindO {α β:Type} (o:Out α) (f:α→Nat→Out β):Out β:=match o with
 | .no i=>.no i
 | .ok x k=>f x k
/-- Either no error stands and P; or one does, and the whole comes to it. -/
def Cont {β:Type} (OT:Out β) (er:Int) (P:Prop):Prop:=(er=0∧P) ∨ ∃ i,er=erN i∧OT=.no i
theorem Cont.imp {β:Type} {OT:Out β} {er:Int} {P Q:Prop} (h:Cont OT er P) (f:P→Q):Cont OT er Q:=by
 rcases h with ⟨a,b⟩ | h
 ·exact .inl ⟨a,f b⟩
 ·exact .inr h
theorem Cont.err {β:Type} {OT:Out β} {er:Int} {P:Prop} (h:Cont OT er P) (he:er ≠ 0):∃ i,er=erN i∧OT=.no i:=by
 rcases h with ⟨a,b⟩ | h
 ·exact absurd a he
 ·exact h
theorem Cont.ok {β:Type} {OT:Out β} {P:Prop} (h:Cont OT 0 P):P:=by
 rcases h with ⟨_,b⟩ | ⟨i,h,_⟩
 ·exact b
 ·exact absurd h.symm (erN_ne i)
/-- A reading of the reference's reader: it says what the plain reading says, and where an error stands it stays. -/
def GenC {α:Type} (F:Nat) (args:Array Value) (b:Nat) (A:Option Addr) (c:Nat) (ts:List Tok) (V:Holds α) (Sh:Value→Prop) (rd:Nat→Out α):Prop :=
 ∀ (w:World) (k:Nat) (er:Int) (O:Out α),Cont O er (rd k=O)→Rd w b A c ts k er→k≤ts.length→Calls Tryz.prog F args w fun e w'=>REnds b A c ts V Sh w O e w'
section
variable {α β:Type} {b:Nat} {A:Option Addr} {c:Nat} {ts:List Tok}
/-- What a reading leaves. -/
def Left (b:Nat) (A:Option Addr) (c:Nat) (ts:List Tok) (V:Holds α) (Sh:Value→Prop) (OT:Out β) (f:α→Nat→Out β) (w:World) (k:Nat) (e:Ending) (w':World):Prop :=
 ∃ v k' er',e=.returned v∧Sh v∧k'≤ts.length∧Rd w' b A c ts k' er'∧PFr b w w'∧Cont OT er' (∃ x,V x v w.heap.size w'.heap.size w'∧k < k'∧f x k'=OT)
theorem GenC.cont {F:Nat} {args:Array Value} {V:Holds α} {Sh:Value→Prop} {rd:Nat→Out α} (hG:GenC F args b A c ts V Sh rd) (hF:Fwd ts rd) (hS:∀ x v lo hi w,V x v lo hi w→Sh v) {OT:Out β} {f:α→Nat→Out β} {w:World} {k:Nat} {er:Int}
  (h:Rd w b A c ts k er) (hk:k≤ts.length) (hc:Cont OT er (bindO (rd k) f=OT)) :
  Calls Tryz.prog F args w fun e w'=>Left b A c ts V Sh OT f w k e w':=by
 rcases hc with ⟨rfl,h1⟩ | ⟨i,rfl,rfl⟩
 ·refine (hG w k 0 (rd k) (.inl ⟨rfl,rfl⟩) h hk).mono ?_
  intro e w' hq
  cases hr:rd k with
  | ok x k' =>
   rw [hr] at hq h1
   obtain ⟨v,rfl,hV,hp,hf⟩:=hq
   obtain ⟨h2,h3⟩:=hF _ _ _ hr
   exact ⟨v,k',0,rfl,hS _ _ _ _ _ hV,h3,hp,hf,.inl ⟨rfl,x,hV,h2,h1⟩⟩
  | no i =>
   rw [hr] at hq h1
   obtain ⟨v,k',rfl,hs,h3,hp,hf⟩:=hq
   exact ⟨v,k',erN i,rfl,hs,h3,hp,hf,.inr ⟨i,rfl,h1.symm⟩⟩
 ·refine (hG w k (erN i) (.no i) (.inr ⟨i,rfl,rfl⟩) h hk).mono ?_
  rintro e w' ⟨v,k',rfl,hs,h3,hp,hf⟩
  exact ⟨v,k',erN i,rfl,hs,h3,hp,hf,.inr ⟨i,rfl,rfl⟩⟩
end
theorem TermV.sh {m:Nat}:∀ x v lo hi w,TermV m x v lo hi w→ShTerm v:=fun _ _ _ _ _ h=>TermV.this m _ _ _ _ _ h
theorem TypeV.sh {m:Nat}:∀ x v lo hi w,TypeV m x v lo hi w→ShTy v:=fun _ _ _ _ _ h=>TypeV.this m _ _ _ _ _ h
/-- A term, at whatever nest. -/
theorem rterm_genc (b:Nat) (A:Option Addr) (c:Nat) (ts:List Tok) (hw:WF ts) (ne:Int) (h0:0≤ne) (h1:ne≤70000) :
  GenC 90 #[.pointer (some ⟨b,0,none⟩),.int .i64 (ne+1)] b A c ts (TermV 66) ShTerm (termO ts 66 ne):=by
 intro w k er O hc h hk
 refine rterm_gen b A c ts hw 65 ne h0 h1 (Lib.hid (fun hn=>rterm_any b A c ts hw 64 (ne+1) (by omega) (by omega) (by omega))) w k er O ?_ h hk
 rcases hc with h | h
 ·exact .inl h
 ·exact .inr h
end Lx
end Go.Proofs.YtiljemkglhloeaaGreatDoor
