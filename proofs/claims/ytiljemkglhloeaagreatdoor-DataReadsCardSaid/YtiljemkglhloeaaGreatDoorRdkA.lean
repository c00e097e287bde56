/- Readings of the reference's reader one behind the other: an error that stands stays to the end, and else the next reading goes on. Conditions: the reader's block is its own; at most 16384 tokens, each of which is one by itself. -/
import Derived.Test.YtiljemkglhloeaaGreatDoorRdy
import Derived.Test.YtiljemkglhloeaaGreatDoorPrimA
namespace Go.Proofs.YtiljemkglhloeaaGreatDoor
set_option linter.unusedSimpArgs false
set_option linter.unusedVariables false
namespace Lx
open Go Go.RowKit
/-- One reading behind another. -/
def bindO {α β:Type} (o:Out α) (f:α→Nat→Out β):Out β:=match o with
 | .no i=>.no i
 | .ok x k=>f x k
/-- Either no error stands and P; or one does, and the whole comes to it. -/
def Cont {β:Type} (OT:Out β) (er:Int) (P:Prop):Prop:=(er=0∧P) ∨ ∃ i,er=erN i∧OT=.no i
theorem Cont.imp {β:Type} {OT:Out β} {er:Int} {P Q:Prop} (h:Cont OT er P) (f:P→Q):Cont OT er Q:=by
 rcases h with ⟨a,b⟩ | h
 ·exact .inl ⟨a,f b⟩
 ·exact .inr h
theorem Cont.err {β:Type} {OT:Out β} {er:Int} {P:Prop} (h:Cont OT er P) (he:er ≠ 0):∃ i,er=erN i∧OT=.no i:=by
 rcases h with ⟨a,b⟩ | h
 ·exact absurd a he
 ·exact h
theorem Cont.ok {β:Type} {OT:Out β} {P:Prop} (h:Cont OT 0 P):P:=by
 rcases h with ⟨_,b⟩ | ⟨i,h,_⟩
 ·exact b
 ·exact absurd h.symm (erN_ne i)
theorem bindO_assoc {α β γ:Type} (o:Out α) (f:α→Nat→Out β) (g:β→Nat→Out γ):bindO (bindO o f) g=bindO o (fun x k=>bindO (f x k) g):=by
 cases o <;> rfl
/-- A row's tail, in the reader's steps. -/
theorem tail_next {α:Type} (rd:Nat→Out α) {ts:List Tok} {m k:Nat} {acc:List α} (hf:acc.length=0 ∨ ts.length < k+m) (hk:k≤ts.length) :
  (∃ k1 m2,moreO ts k acc.length=(true,k1,0)∧k < k1∧k1≤ts.length∧ts.length < k1+m2∧tailO rd ts m k acc=bindO (rd k1) (fun x k2=>tailO rd ts m2 k2 (acc++[x]))) ∨
  (∃ k1,moreO ts k acc.length=(false,k1,0)∧k≤k1∧k1≤ts.length∧tailO rd ts m k acc=.ok acc k1) ∨
  (∃ k1 i,moreO ts k acc.length=(false,k1,erN i)∧k1≤ts.length∧tailO rd ts m k acc=.no i):=by
 have hlen:∀ x:α,(acc++[x]).length ≠ 0:=fun x=>by simp
 unfold moreO
 by_cases hz:acc.length=0
 ·simp only [hz,if_true]
  obtain rfl:=List.eq_nil_of_length_eq_zero hz
  cases hh:hasT ts k [40] with
  | false=>exact .inr (.inl ⟨k,by simp,Nat.le_refl _,hk,by simp [tailO,argsO,hh]⟩)
  | true =>
   have hin:=hasT_in hh (by decide)
   refine .inl ⟨k+1,ts.length+1,by simp,by omega,by omega,by omega,?_⟩
   unfold tailO
   simp only [List.length_nil,if_true,List.nil_append,List.length_singleton,Nat.one_ne_zero,if_false]
   unfold argsO rowO
   rw [if_pos hh]
   cases rd (k+1) <;> rfl
 ·simp only [hz,if_false]
  obtain ⟨m,rfl⟩:∃ m',m=m'+1:=⟨m - 1,by omega⟩
  cases h1:hasT ts k [41] with
  | true =>
   have hin:=hasT_in h1 (by decide)
   have h2:hasT ts k [44]=false:=by
    unfold hasT at h1 ⊢
    rw [eq_of_beq h1]
    rfl
   refine .inr (.inl ⟨k+1,by simp,by omega,by omega,?_⟩)
   unfold tailO
   rw [if_neg hz,rowLoop]
   simp [h2,expO,h1]
  | false =>
   cases h2:hasT ts k [44] with
   | false =>
    refine .inr (.inr ⟨k,2,by simp [erN],hk,?_⟩)
    unfold tailO
    rw [if_neg hz,rowLoop]
    simp [expO,h1,h2]
   | true =>
    have hin:=hasT_in h2 (by decide)
    by_cases h8:acc.length=8∧k+1 < ts.length
    ·refine .inr (.inr ⟨k+1,1,by simp [h8,erN],by omega,?_⟩)
     unfold tailO
     rw [if_neg hz,rowLoop,if_pos h2,if_pos h8]
    ·refine .inl ⟨k+1,m,by simp [h8],by omega,by omega,by omega,?_⟩
     unfold tailO
     rw [if_neg hz,rowLoop,if_pos h2,if_neg h8]
     cases rd (k+1) with
     | no i=>rfl
     | ok x k2 =>
      show _=(if (acc++[x]).length=0 then _ else _)
      rw [if_neg (hlen x)]
/-- A reading of the reference's reader: it says what the plain reading says, and where an error stands it stays. -/
def GenC {α:Type} (F:Nat) (args:Array Value) (b:Nat) (A:Option Addr) (c:Nat) (ts:List Tok) (V:Holds α) (Sh:Value→Prop) (rd:Nat→Out α):Prop :=
 ∀ (w:World) (k:Nat) (er:Int) (O:Out α),Cont O er (rd k=O)→Rd w b A c ts k er→k≤ts.length→Calls Tryz.prog F args w fun e w'=>REnds b A c ts V Sh w O e w'
section
variable {α β:Type} {b:Nat} {A:Option Addr} {c:Nat} {ts:List Tok}
/-- What a reading leaves. -/
def Left (b:Nat) (A:Option Addr) (c:Nat) (ts:List Tok) (V:Holds α) (Sh:Value→Prop) (OT:Out β) (f:α→Nat→Out β) (w:World) (k:Nat) (e:Ending) (w':World):Prop :=
 ∃ v k' er',e=.returned v∧Sh v∧k'≤ts.length∧Rd w' b A c ts k' er'∧PFr b w w'∧Cont OT er' (∃ x,V x v w.heap.size w'.heap.size w'∧k < k'∧f x k'=OT)
theorem GenC.cont {F:Nat} {args:Array Value} {V:Holds α} {Sh:Value→Prop} {rd:Nat→Out α} (hG:GenC F args b A c ts V Sh rd) (hF:Fwd ts rd) (hS:∀ x v lo hi w,V x v lo hi w→Sh v) {OT:Out β} {f:α→Nat→Out β} {w:World} {k:Nat} {er:Int}
  (h:Rd w b A c ts k er) (hk:k≤ts.length) (hc:Cont OT er (bindO (rd k) f=OT)) :
  Calls Tryz.prog F args w fun e w'=>Left b A c ts V Sh OT f w k e w':=by
 rcases hc with ⟨rfl,h1⟩ | ⟨i,rfl,rfl⟩
 ·refine (hG w k 0 (rd k) (.inl ⟨rfl,rfl⟩) h hk).mono ?_
  intro e w' hq
  cases hr:rd k with
  | ok x k' =>
   rw [hr] at hq h1
   obtain ⟨v,rfl,hV,hp,hf⟩:=hq
   obtain ⟨h2,h3⟩:=hF _ _ _ hr
   exact ⟨v,k',0,rfl,hS _ _ _ _ _ hV,h3,hp,hf,.inl ⟨rfl,x,hV,h2,h1⟩⟩
  | no i =>
   rw [hr] at hq h1
   obtain ⟨v,k',rfl,hs,h3,hp,hf⟩:=hq
   exact ⟨v,k',erN i,rfl,hs,h3,hp,hf,.inr ⟨i,rfl,h1.symm⟩⟩
 ·refine (hG w k (erN i) (.no i) (.inr ⟨i,rfl,rfl⟩) h hk).mono ?_
  rintro e w' ⟨v,k',rfl,hs,h3,hp,hf⟩
  exact ⟨v,k',erN i,rfl,hs,h3,hp,hf,.inr ⟨i,rfl,rfl⟩⟩
/-- What is returned, and the error's number. -/
theorem rends_of {V:Holds α} {Sh:Value→Prop} {OT:Out α} {w w':World} {v:Value} {k:Nat} {er:Int} (hk:k≤ts.length) (hs:Sh v) (hp:Rd w' b A c ts k er) (hf:PFr b w w') (hc:Cont OT er (∃ x,V x v w.heap.size w'.heap.size w'∧.ok x k=OT)):REnds b A c ts V Sh w OT (.returned v) w':=by
 rcases hc with ⟨rfl,x,hv,rfl⟩ | ⟨i,rfl,rfl⟩
 ·exact ⟨v,rfl,hv,hp,hf⟩
 ·exact ⟨v,k,rfl,hs,hk,hp,hf⟩
/-- A name. -/
theorem rname_cont {OT:Out β} {f:List UInt8→Nat→Out β} {w:World} {k:Nat} {er:Int} (h:Rd w b A c ts k er) (hk:k≤ts.length) (hc:Cont OT er (bindO (nameO ts k) f=OT)) :
  Calls Tryz.prog 119 #[.pointer (some ⟨b,0,none⟩),.int .i64 1] w fun e w'=>∃ y k' er',e=.returned (.string y)∧k'≤ts.length∧Rd w' b A c ts k' er'∧PFr b w w'∧Cont OT er' (∃ s,y=bs s∧k < k'∧f s k'=OT):=by
 rcases hc with ⟨rfl,h1⟩ | ⟨i,rfl,rfl⟩
 ·refine (rname_any w b A c ts k h).mono ?_
  intro e w' hq
  cases hn:nameO ts k with
  | ok s k' =>
   rw [hn] at hq h1
   obtain ⟨rfl,hp,hf⟩:=hq
   obtain ⟨h2,h3⟩:=nameO_fwd ts _ _ _ hn
   exact ⟨_,_,_,rfl,h3,hp,hf,.inl ⟨rfl,s,rfl,h2,h1⟩⟩
  | no i =>
   rw [hn] at hq h1
   obtain ⟨rfl,hp,hf⟩:=hq
   have hi:i=2:=by
    unfold nameO at hn
    split at hn
    ·cases hn
    ·injection hn with hn
     exact hn.symm
   subst hi
   exact ⟨_,_,_,rfl,hk,hp,hf,.inr ⟨2,rfl,h1.symm⟩⟩
 ·refine (rword_err w b A c ts k (erN i) 1 h (erN_ne i)).mono ?_
  rintro e w' ⟨rfl,hp,hf⟩
  exact ⟨_,_,_,rfl,hk,hp,hf,.inr ⟨i,rfl,rfl⟩⟩
/-- A variable. -/
theorem rvar_cont {OT:Out β} {f:List UInt8→Nat→Out β} {w:World} {k:Nat} {er:Int} (h:Rd w b A c ts k er) (hk:k≤ts.length) (hc:Cont OT er (bindO (varO ts k) f=OT)) :
  Calls Tryz.prog 119 #[.pointer (some ⟨b,0,none⟩),.int .i64 2] w fun e w'=>∃ y k' er',e=.returned (.string y)∧k'≤ts.length∧Rd w' b A c ts k' er'∧PFr b w w'∧Cont OT er' (∃ s,y=bs s∧k < k'∧f s k'=OT):=by
 rcases hc with ⟨rfl,h1⟩ | ⟨i,rfl,rfl⟩
 ·refine (rvar_any w b A c ts k h).mono ?_
  intro e w' hq
  cases hn:varO ts k with
  | ok s k' =>
   rw [hn] at hq h1
   obtain ⟨rfl,hp,hf⟩:=hq
   obtain ⟨h2,h3⟩:=varO_fwd ts _ _ _ hn
   exact ⟨_,_,_,rfl,h3,hp,hf,.inl ⟨rfl,s,rfl,h2,h1⟩⟩
  | no i =>
   rw [hn] at hq h1
   obtain ⟨rfl,hp,hf⟩:=hq
   have hi:i=2:=by
    unfold varO at hn
    split at hn
    ·cases hn
    ·injection hn with hn
     exact hn.symm
   subst hi
   exact ⟨_,_,_,rfl,hk,hp,hf,.inr ⟨2,rfl,h1.symm⟩⟩
 ·refine (rword_err w b A c ts k (erN i) 2 h (erN_ne i)).mono ?_
  rintro e w' ⟨rfl,hp,hf⟩
  exact ⟨_,_,_,rfl,hk,hp,hf,.inr ⟨i,rfl,rfl⟩⟩
/-- A mark or word that must stand here. -/
theorem rneed_cont (hw:WF ts) {OT:Out β} {f:Nat→Out β} {w:World} {k:Nat} {er:Int} (s:ByteArray) (hs:KW s.data.toList) (h:Rd w b A c ts k er) (hk:k≤ts.length) (hc:Cont OT er (bindO (expO ts k s.data.toList) (fun _ k'=>f k')=OT)) :
  Calls Tryz.prog 138 #[.pointer (some ⟨b,0,none⟩),.string s] w fun e w'=>∃ k' er',e=.returned (.tuple #[])∧k'≤ts.length∧Rd w' b A c ts k' er'∧PFr b w w'∧Cont OT er' (k < k'∧f k'=OT):=by
 have hfw:=h.few
 refine (rneed_any w b A c ts hw k er s hs h (by omega)).mono ?_
 rintro e w' ⟨rfl,hp,hf⟩
 rcases hc with ⟨rfl,h1⟩ | ⟨i,rfl,rfl⟩
 ·rw [isB_ok] at hp
  unfold expO at h1
  unfold needE at hp
  cases hh:hasT ts k s.data.toList with
  | true =>
   rw [hh] at hp h1
   have hin:=hasT_in hh hs.1
   simp only [if_true,Bool.true_eq_false,and_false,if_false] at hp h1
   exact ⟨_,_,rfl,by omega,hp,hf,.inl ⟨rfl,by omega,h1⟩⟩
  | false =>
   rw [hh] at hp h1
   simp only [if_true,Bool.false_eq_true,and_self,if_false] at hp h1
   exact ⟨_,_,rfl,hk,hp,hf,.inr ⟨2,rfl,h1.symm⟩⟩
 ·rw [isB_err (erN_ne i)] at hp
  unfold needE at hp
  simp only [erN_ne i,false_and,Bool.false_eq_true,if_false] at hp
  exact ⟨_,_,rfl,hk,hp,hf,.inr ⟨i,rfl,rfl⟩⟩
/-- A mark or word that doesn't stand here. -/
theorem rgot_not (hw:WF ts) {w:World} {k:Nat} {er:Int} (s:ByteArray) (hs:KW s.data.toList) (h:Rd w b A c ts k er) (hk:k≤ts.length) (hq:isB ts k er s.data.toList=false) :
  Calls Tryz.prog 137 #[.pointer (some ⟨b,0,none⟩),.string s] w fun e w'=>e=.returned (.bool false)∧Rd w' b A c ts k er∧PFr b w w':=by
 have hfw:=h.few
 have h1:=rgot_any w b A c ts hw k er s hs h (by omega)
 rw [hq] at h1
 simpa using h1
/-- One that does. -/
theorem rgot_yes (hw:WF ts) {w:World} {k:Nat} (s:ByteArray) (hs:KW s.data.toList) (h:Rd w b A c ts k 0) (hq:hasT ts k s.data.toList=true) :
  Calls Tryz.prog 137 #[.pointer (some ⟨b,0,none⟩),.string s] w fun e w'=>e=.returned (.bool true)∧Rd w' b A c ts (k+1) 0∧PFr b w w':=by
 have hfw:=h.few
 have hin:=hasT_in hq hs.1
 have h1:=rgot_any w b A c ts hw k 0 s hs h (by omega)
 rw [isB_ok,hq] at h1
 simpa using h1
end
theorem TermV.sh {m:Nat}:∀ x v lo hi w,TermV m x v lo hi w→ShTerm v:=fun _ _ _ _ _ h=>TermV.this m _ _ _ _ _ h
theorem TypeV.sh {m:Nat}:∀ x v lo hi w,TypeV m x v lo hi w→ShTy v:=fun _ _ _ _ _ h=>TypeV.this m _ _ _ _ _ h
/-- A term, at whatever nest. -/
theorem rterm_genc (b:Nat) (A:Option Addr) (c:Nat) (ts:List Tok) (hw:WF ts) (ne:Int) (h0:0≤ne) (h1:ne≤70000) :
  GenC 90 #[.pointer (some ⟨b,0,none⟩),.int .i64 (ne+1)] b A c ts (TermV 66) ShTerm (termO ts 66 ne):=by
 intro w k er O hc h hk
 refine rterm_gen b A c ts hw 65 ne h0 h1 (Lib.hid (fun hn=>rterm_any b A c ts hw 64 (ne+1) (by omega) (by omega) (by omega))) w k er O ?_ h hk
 rcases hc with h | h
 ·exact .inl h
 ·exact .inr h
end Lx
end Go.Proofs.YtiljemkglhloeaaGreatDoor
