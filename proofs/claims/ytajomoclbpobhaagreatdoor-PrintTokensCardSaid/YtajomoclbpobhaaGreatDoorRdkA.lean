/- Readings of the reference's reader one behind the other: an error that stands stays to the end, and else the next reading goes on. Conditions: the reader's block is its own; at most 16384 tokens, each of which is one by itself. -/
/- A row in cells, as a loop holds it; a goal's two rows in the reader's steps. Conditions: the reader's block is its own. -/
/- The contract of the reference's reader's Goal, for whatever reading its Prim has. Conditions: the reader's block is its own; at most 16384 tokens, each of which is one by itself. -/
/- Readings one behind the other with what is known so far carried along; a prim's ways in the reader's steps. Conditions: the reader's block is its own; at most 16384 tokens, each of which is one by itself. -/
import Derived.Test.YtajomoclbpobhaaGreatDoorRdy
import Derived.Test.YtajomoclbpobhaaGreatDoorPrimA
import Derived.Test.YtajomoclbpobhaaGreatDoorRowA
namespace Go.Proofs.YtajomoclbpobhaaGreatDoor
set_option linter.unusedSimpArgs false
set_option linter.unusedVariables false
namespace Lx
open Go Go.RowKit
/-- One reading behind another. -/
def bindO {α β:Type} (o:Out α) (f:α→Nat→Out β):Out β:=match o with
 | .no i=>.no i
 | .ok x k=>f x k
/-- Either no error stands and P; or one does, and the whole comes to it. -/
def Cont {β:Type} (OT:Out β) (er:Int) (P:Prop):Prop:=(er=0∧P) ∨ ∃ i,er=erN i∧OT=.no i
theorem Cont.imp {β:Type} {OT:Out β} {er:Int} {P Q:Prop} (h:Cont OT er P) (f:P→Q):Cont OT er Q:=by
 rcases h with ⟨a,b⟩ | h
 ·exact .inl ⟨a,f b⟩
 ·exact .inr h
theorem Cont.err {β:Type} {OT:Out β} {er:Int} {P:Prop} (h:Cont OT er P) (he:er ≠ 0):∃ i,er=erN i∧OT=.no i:=by
 rcases h with ⟨a,b⟩ | h
 ·exact absurd a he
 ·exact h
theorem Cont.ok {β:Type} {OT:Out β} {P:Prop} (h:Cont OT 0 P):P:=by
 rcases h with ⟨_,b⟩ | ⟨i,h,_⟩
 ·exact b
 ·exact absurd h.symm (erN_ne i)
theorem bindO_assoc {α β γ:Type} (o:Out α) (f:α→Nat→Out β) (g:β→Nat→Out γ):bindO (bindO o f) g=bindO o (fun x k=>bindO (f x k) g):=by
 cases o <;> rfl
/-- A row's tail, in the reader's steps. -/
theorem tail_next {α:Type} (rd:Nat→Out α) {ts:List Tok} {m k:Nat} {acc:List α} (hf:acc.length=0 ∨ ts.length < k+m) (hk:k≤ts.length) :
  (∃ k1 m2,moreO ts k acc.length=(true,k1,0)∧k < k1∧k1≤ts.length∧ts.length < k1+m2∧tailO rd ts m k acc=bindO (rd k1) (fun x k2=>tailO rd ts m2 k2 (acc++[x]))) ∨
  (∃ k1,moreO ts k acc.length=(false,k1,0)∧k≤k1∧k1≤ts.length∧tailO rd ts m k acc=.ok acc k1) ∨
  (∃ k1 i,moreO ts k acc.length=(false,k1,erN i)∧k1≤ts.length∧tailO rd ts m k acc=.no i):=by
 have hlen:∀ x:α,(acc++[x]).length ≠ 0:=fun x=>by simp
 unfold moreO
 by_cases hz:acc.length=0
 ·simp only [hz,if_true]
  obtain rfl:=List.eq_nil_of_length_eq_zero hz
  cases hh:hasT ts k [40] with
  | false=>exact .inr (.inl ⟨k,by simp,Nat.le_refl _,hk,by simp [tailO,argsO,hh]⟩)
  | true =>
   have hin:=hasT_in hh (by decide)
   refine .inl ⟨k+1,ts.length+1,by simp,by omega,by omega,by omega,?_⟩
   unfold tailO
   simp only [List.length_nil,if_true,List.nil_append,List.length_singleton,Nat.one_ne_zero,if_false]
   unfold argsO rowO
   rw [if_pos hh]
   cases rd (k+1) <;> rfl
 ·simp only [hz,if_false]
  obtain ⟨m,rfl⟩:∃ m',m=m'+1:=⟨m - 1,by omega⟩
  cases h1:hasT ts k [41] with
  | true =>
   have hin:=hasT_in h1 (by decide)
   have h2:hasT ts k [44]=false:=by
    unfold hasT at h1 ⊢
    rw [eq_of_beq h1]
    rfl
   refine .inr (.inl ⟨k+1,by simp,by omega,by omega,?_⟩)
   unfold tailO
   rw [if_neg hz,rowLoop]
   simp [h2,expO,h1]
  | false =>
   cases h2:hasT ts k [44] with
   | false =>
    refine .inr (.inr ⟨k,2,by simp [erN],hk,?_⟩)
    unfold tailO
    rw [if_neg hz,rowLoop]
    simp [expO,h1,h2]
   | true =>
    have hin:=hasT_in h2 (by decide)
    by_cases h8:acc.length=8∧k+1 < ts.length
    ·refine .inr (.inr ⟨k+1,1,by simp [h8,erN],by omega,?_⟩)
     unfold tailO
     rw [if_neg hz,rowLoop,if_pos h2,if_pos h8]
    ·refine .inl ⟨k+1,m,by simp [h8],by omega,by omega,by omega,?_⟩
     unfold tailO
     rw [if_neg hz,rowLoop,if_pos h2,if_neg h8]
     cases rd (k+1) with
     | no i=>rfl
     | ok x k2 =>
      show _=(if (acc++[x]).length=0 then _ else _)
      rw [if_neg (hlen x)]
/-- A reading of the reference's reader: it says what the plain reading says, and where an error stands it stays. -/
def GenC {α:Type} (F:Nat) (args:Array Value) (b:Nat) (A:Option Addr) (c:Nat) (ts:List Tok) (V:Holds α) (Sh:Value→Prop) (rd:Nat→Out α):Prop :=
 ∀ (w:World) (k:Nat) (er:Int) (O:Out α),Cont O er (rd k=O)→Rd w b A c ts k er→k≤ts.length→Calls Tryz.prog F args w fun e w'=>REnds b A c ts V Sh w O e w'
section
variable {α β:Type} {b:Nat} {A:Option Addr} {c:Nat} {ts:List Tok}
/-- What a reading leaves. -/
def Left (b:Nat) (A:Option Addr) (c:Nat) (ts:List Tok) (V:Holds α) (Sh:Value→Prop) (OT:Out β) (f:α→Nat→Out β) (w:World) (k:Nat) (e:Ending) (w':World):Prop :=
 ∃ v k' er',e=.returned v∧Sh v∧k'≤ts.length∧Rd w' b A c ts k' er'∧PFr b w w'∧Cont OT er' (∃ x,V x v w.heap.size w'.heap.size w'∧k < k'∧f x k'=OT)
theorem GenC.cont {F:Nat} {args:Array Value} {V:Holds α} {Sh:Value→Prop} {rd:Nat→Out α} (hG:GenC F args b A c ts V Sh rd) (hF:Fwd ts rd) (hS:∀ x v lo hi w,V x v lo hi w→Sh v) {OT:Out β} {f:α→Nat→Out β} {w:World} {k:Nat} {er:Int}
  (h:Rd w b A c ts k er) (hk:k≤ts.length) (hc:Cont OT er (bindO (rd k) f=OT)) :
  Calls Tryz.prog F args w fun e w'=>Left b A c ts V Sh OT f w k e w':=by
 rcases hc with ⟨rfl,h1⟩ | ⟨i,rfl,rfl⟩
 ·refine (hG w k 0 (rd k) (.inl ⟨rfl,rfl⟩) h hk).mono ?_
  intro e w' hq
  cases hr:rd k with
  | ok x k' =>
   rw [hr] at hq h1
   obtain ⟨v,rfl,hV,hp,hf⟩:=hq
   obtain ⟨h2,h3⟩:=hF _ _ _ hr
   exact ⟨v,k',0,rfl,hS _ _ _ _ _ hV,h3,hp,hf,.inl ⟨rfl,x,hV,h2,h1⟩⟩
  | no i =>
   rw [hr] at hq h1
   obtain ⟨v,k',rfl,hs,h3,hp,hf⟩:=hq
   exact ⟨v,k',erN i,rfl,hs,h3,hp,hf,.inr ⟨i,rfl,h1.symm⟩⟩
 ·refine (hG w k (erN i) (.no i) (.inr ⟨i,rfl,rfl⟩) h hk).mono ?_
  rintro e w' ⟨v,k',rfl,hs,h3,hp,hf⟩
  exact ⟨v,k',erN i,rfl,hs,h3,hp,hf,.inr ⟨i,rfl,rfl⟩⟩
/-- What is returned, and the error's number. -/
theorem rends_of {V:Holds α} {Sh:Value→Prop} {OT:Out α} {w w':World} {v:Value} {k:Nat} {er:Int} (hk:k≤ts.length) (hs:Sh v) (hp:Rd w' b A c ts k er) (hf:PFr b w w') (hc:Cont OT er (∃ x,V x v w.heap.size w'.heap.size w'∧.ok x k=OT)):REnds b A c ts V Sh w OT (.returned v) w':=by
 rcases hc with ⟨rfl,x,hv,rfl⟩ | ⟨i,rfl,rfl⟩
 ·exact ⟨v,rfl,hv,hp,hf⟩
 ·exact ⟨v,k,rfl,hs,hk,hp,hf⟩
/-- A name. -/
theorem rname_cont {OT:Out β} {f:List UInt8→Nat→Out β} {w:World} {k:Nat} {er:Int} (h:Rd w b A c ts k er) (hk:k≤ts.length) (hc:Cont OT er (bindO (nameO ts k) f=OT)) :
  Calls Tryz.prog 98 #[.pointer (some ⟨b,0,none⟩),.int .i64 1] w fun e w'=>∃ y k' er',e=.returned (.string y)∧k'≤ts.length∧Rd w' b A c ts k' er'∧PFr b w w'∧Cont OT er' (∃ s,y=bs s∧k < k'∧f s k'=OT):=by
 rcases hc with ⟨rfl,h1⟩ | ⟨i,rfl,rfl⟩
 ·refine (rname_any w b A c ts k h).mono ?_
  intro e w' hq
  cases hn:nameO ts k with
  | ok s k' =>
   rw [hn] at hq h1
   obtain ⟨rfl,hp,hf⟩:=hq
   obtain ⟨h2,h3⟩:=nameO_fwd ts _ _ _ hn
   exact ⟨_,_,_,rfl,h3,hp,hf,.inl ⟨rfl,s,rfl,h2,h1⟩⟩
  | no i =>
   rw [hn] at hq h1
   obtain ⟨rfl,hp,hf⟩:=hq
   have hi:i=2:=by
    unfold nameO at hn
    split at hn
    ·cases hn
    ·injection hn with hn
     exact hn.symm
   subst hi
   exact ⟨_,_,_,rfl,hk,hp,hf,.inr ⟨2,rfl,h1.symm⟩⟩
 ·refine (rword_err w b A c ts k (erN i) 1 h (erN_ne i)).mono ?_
  rintro e w' ⟨rfl,hp,hf⟩
  exact ⟨_,_,_,rfl,hk,hp,hf,.inr ⟨i,rfl,rfl⟩⟩
/-- A variable. -/
theorem rvar_cont {OT:Out β} {f:List UInt8→Nat→Out β} {w:World} {k:Nat} {er:Int} (h:Rd w b A c ts k er) (hk:k≤ts.length) (hc:Cont OT er (bindO (varO ts k) f=OT)) :
  Calls Tryz.prog 98 #[.pointer (some ⟨b,0,none⟩),.int .i64 2] w fun e w'=>∃ y k' er',e=.returned (.string y)∧k'≤ts.length∧Rd w' b A c ts k' er'∧PFr b w w'∧Cont OT er' (∃ s,y=bs s∧k < k'∧f s k'=OT):=by
 rcases hc with ⟨rfl,h1⟩ | ⟨i,rfl,rfl⟩
 ·refine (rvar_any w b A c ts k h).mono ?_
  intro e w' hq
  cases hn:varO ts k with
  | ok s k' =>
   rw [hn] at hq h1
   obtain ⟨rfl,hp,hf⟩:=hq
   obtain ⟨h2,h3⟩:=varO_fwd ts _ _ _ hn
   exact ⟨_,_,_,rfl,h3,hp,hf,.inl ⟨rfl,s,rfl,h2,h1⟩⟩
  | no i =>
   rw [hn] at hq h1
   obtain ⟨rfl,hp,hf⟩:=hq
   have hi:i=2:=by
    unfold varO at hn
    split at hn
    ·cases hn
    ·injection hn with hn
     exact hn.symm
   subst hi
   exact ⟨_,_,_,rfl,hk,hp,hf,.inr ⟨2,rfl,h1.symm⟩⟩
 ·refine (rword_err w b A c ts k (erN i) 2 h (erN_ne i)).mono ?_
  rintro e w' ⟨rfl,hp,hf⟩
  exact ⟨_,_,_,rfl,hk,hp,hf,.inr ⟨i,rfl,rfl⟩⟩
/-- A mark or word that must stand here. -/
theorem rneed_cont (hw:WF ts) {OT:Out β} {f:Nat→Out β} {w:World} {k:Nat} {er:Int} (s:ByteArray) (hs:KW s.data.toList) (h:Rd w b A c ts k er) (hk:k≤ts.length) (hc:Cont OT er (bindO (expO ts k s.data.toList) (fun _ k'=>f k')=OT)) :
  Calls Tryz.prog 59 #[.pointer (some ⟨b,0,none⟩),.string s] w fun e w'=>∃ k' er',e=.returned (.tuple #[])∧k'≤ts.length∧Rd w' b A c ts k' er'∧PFr b w w'∧Cont OT er' (k < k'∧f k'=OT):=by
 have hfw:=h.few
 refine (rneed_any w b A c ts hw k er s hs h (by omega)).mono ?_
 rintro e w' ⟨rfl,hp,hf⟩
 rcases hc with ⟨rfl,h1⟩ | ⟨i,rfl,rfl⟩
 ·rw [isB_ok] at hp
  unfold expO at h1
  unfold needE at hp
  cases hh:hasT ts k s.data.toList with
  | true =>
   rw [hh] at hp h1
   have hin:=hasT_in hh hs.1
   simp only [if_true,Bool.true_eq_false,and_false,if_false] at hp h1
   exact ⟨_,_,rfl,by omega,hp,hf,.inl ⟨rfl,by omega,h1⟩⟩
  | false =>
   rw [hh] at hp h1
   simp only [if_true,Bool.false_eq_true,and_self,if_false] at hp h1
   exact ⟨_,_,rfl,hk,hp,hf,.inr ⟨2,rfl,h1.symm⟩⟩
 ·rw [isB_err (erN_ne i)] at hp
  unfold needE at hp
  simp only [erN_ne i,false_and,Bool.false_eq_true,if_false] at hp
  exact ⟨_,_,rfl,hk,hp,hf,.inr ⟨i,rfl,rfl⟩⟩
/-- A mark or word that doesn't stand here. -/
theorem rgot_not (hw:WF ts) {w:World} {k:Nat} {er:Int} (s:ByteArray) (hs:KW s.data.toList) (h:Rd w b A c ts k er) (hk:k≤ts.length) (hq:isB ts k er s.data.toList=false) :
  Calls Tryz.prog 97 #[.pointer (some ⟨b,0,none⟩),.string s] w fun e w'=>e=.returned (.bool false)∧Rd w' b A c ts k er∧PFr b w w':=by
 have hfw:=h.few
 have h1:=rgot_any w b A c ts hw k er s hs h (by omega)
 rw [hq] at h1
 simpa using h1
/-- One that does. -/
theorem rgot_yes (hw:WF ts) {w:World} {k:Nat} (s:ByteArray) (hs:KW s.data.toList) (h:Rd w b A c ts k 0) (hq:hasT ts k s.data.toList=true) :
  Calls Tryz.prog 97 #[.pointer (some ⟨b,0,none⟩),.string s] w fun e w'=>e=.returned (.bool true)∧Rd w' b A c ts (k+1) 0∧PFr b w w':=by
 have hfw:=h.few
 have hin:=hasT_in hq hs.1
 have h1:=rgot_any w b A c ts hw k 0 s hs h (by omega)
 rw [isB_ok,hq] at h1
 simpa using h1
end
theorem TermV.sh {m:Nat}:∀ x v lo hi w,TermV m x v lo hi w→ShTerm v:=fun _ _ _ _ _ h=>TermV.this m _ _ _ _ _ h
theorem TypeV.sh {m:Nat}:∀ x v lo hi w,TypeV m x v lo hi w→ShTy v:=fun _ _ _ _ _ h=>TypeV.this m _ _ _ _ _ h
/-- A term, at whatever nest. -/
theorem rterm_genc (b:Nat) (A:Option Addr) (c:Nat) (ts:List Tok) (hw:WF ts) (ne:Int) (h0:0≤ne) (h1:ne≤70000) :
  GenC 102 #[.pointer (some ⟨b,0,none⟩),.int .i64 (ne+1)] b A c ts (TermV 66) ShTerm (termO ts 66 ne):=by
 intro w k er O hc h hk
 refine rterm_gen b A c ts hw 65 ne h0 h1 (Lib.hid (fun hn=>rterm_any b A c ts hw 64 (ne+1) (by omega) (by omega) (by omega))) w k er O ?_ h hk
 rcases hc with h | h
 ·exact .inl h
 ·exact .inr h
/-- A type, at whatever nest. -/
theorem rtype_genc (b:Nat) (A:Option Addr) (c:Nat) (ts:List Tok) (hw:WF ts) (ne:Int) (h0:0≤ne) (h1:ne≤70000) :
  GenC 101 #[.pointer (some ⟨b,0,none⟩),.int .i64 (ne+1)] b A c ts (TypeV 66) ShTy (typeO ts 66 ne):=by
 intro w k er O hc h hk
 refine rtype_gen b A c ts hw 65 ne h0 h1 (Lib.hid (fun hn=>rtype_any b A c ts hw 64 (ne+1) (by omega) (by omega) (by omega))) w k er O ?_ h hk
 rcases hc with h | h
 ·exact .inl h
 ·exact .inr h
end Lx
end Go.Proofs.YtajomoclbpobhaaGreatDoor
namespace Go.Proofs.YtajomoclbpobhaaGreatDoor
set_option linter.unusedSimpArgs false
set_option linter.unusedVariables false
namespace Lx
open Go Go.RowKit
/-- A row of things in cells, its own block from B on. -/
structure RowH {α:Type} (t:TypeId) (sz:Nat) (V:Holds α) (B:Nat) (wr:World) (s:Option Addr) (cap:Nat) (acc:List α) (vs:List Value) (g:Nat):Prop where
 val:(acc=[]∧s=none∧cap=0) ∨ s=some ⟨g,0,none⟩
 own:wr.ownsRow B t sz (.slice s acc.length cap) acc.length (vs.flatMap cellsL)
 items:Items V B wr.heap.size g wr acc vs
section
variable {α:Type} {t:TypeId} {sz:Nat} {V V':Holds α} {B b:Nat} {w wr w4 w6:World} {s:Option Addr} {cap:Nat} {acc:List α} {vs:List Value} {g:Nat}
theorem RowH.fr (h:RowH t sz V B wr s cap acc vs g) (hV:Stable V) (hb:b < B) (hf:PFr b wr w4):RowH t sz V B w4 s cap acc vs g :=
 ⟨h.val,own_fr h.own hf hb,Items.fr hV hf hb h.items⟩
theorem RowH.imp (h:RowH t sz V B wr s cap acc vs g) (hVV:∀ x v lo hi w,V x v lo hi w→V' x v lo hi w):RowH t sz V' B wr s cap acc vs g:=⟨h.val,h.own,h.items.imp hVV⟩
theorem RowH.held (h:RowH t sz V B wr s cap acc vs g):ArgsV t sz V acc (.slice s acc.length cap) B wr.heap.size wr:=by
 rcases h.val with ⟨rfl,rfl,rfl⟩ | rfl
 ·exact .inl ⟨rfl,rfl⟩
 ·exact .inr ⟨g,cap,vs,rfl,(h.own.lt g rfl).2,h.own,h.items⟩
theorem RowH.ownB (h:RowH t sz V B wr s cap acc vs g) {j:Nat} (hj:(Value.slice s acc.length cap).ownBlock=some j):B≤j∧j < wr.heap.size:=h.own.lt j hj
/-- Behind an append to the row: all but its own block is as it was. -/
theorem RowH.grow (h:RowH t sz V B wr s cap acc vs g) (hb:b < B) (hB:B≤wr.heap.size) (hw:w.heap.size≤B) (hf:PFr b w wr) {o:Obj} (hf4:PFr b wr w4) (hg:(w4.alloc o).grownBy w6 (Value.slice s acc.length cap).ownBlock) :
  PFr b w w6∧w4.heap.size≤w6.heap.size∧(∀ j,j < w4.heap.size→some j ≠ (Value.slice s acc.length cap).ownBlock→w6.heap[j]?=w4.heap[j]?)∧(∀ j,j < B→w6.heap[j]?=w4.heap[j]?):=by
 have hs4:=hf4.size
 have hfr:PFr b w w6:=((hf.trans hf4).alloc o).grown hg (fun j hj=>Nat.le_trans hw (h.ownB hj).1)
 have hblk:∀ j,j < w4.heap.size→some j ≠ (Value.slice s acc.length cap).ownBlock→w6.heap[j]?=w4.heap[j]?:=fun j hj hn=>(hg.block j (by simp;omega) hn).trans (Below.heap_alloc w4 o j hj)
 exact ⟨hfr,by have:=hg.size;simp at this;omega,hblk,fun j hj=>hblk j (by omega) (fun e=>by have:=(h.ownB e.symm).1;omega)⟩
theorem RowH.snoc (h:RowH t sz V B wr s cap acc vs g) (hV:Stable V) (hb:b < B) (hB:B≤wr.heap.size) {x2:α} {v2:Value} {o:Obj} {lo4 g2 cap2:Nat} (hf4:PFr b wr w4) (hlo:wr.heap.size≤lo4) (hv4:V x2 v2 lo4 w4.heap.size w4)
  (hown:w6.ownsRow B t sz (.slice (some ⟨g2,0,none⟩) (acc.length+1) cap2) (acc.length+1) (vs.flatMap cellsL++cellsL v2)) (hg:(w4.alloc o).grownBy w6 (Value.slice s acc.length cap).ownBlock) (hat:(Value.slice s acc.length cap).ownBlock=some g2 ∨ g2=(w4.alloc o).heap.size) :
  RowH t sz V B w6 (some ⟨g2,0,none⟩) cap2 (acc++[x2]) (vs++[v2]) g2:=by
 have hs4:=hf4.size
 have hs6:w4.heap.size≤w6.heap.size:=by have:=hg.size;simp at this;omega
 have hblk:∀ j,j < w4.heap.size→some j ≠ (Value.slice s acc.length cap).ownBlock→w6.heap[j]?=w4.heap[j]?:=fun j hj hn=>(hg.block j (by simp;omega) hn).trans (Below.heap_alloc w4 o j hj)
 have hlen:(acc++[x2]).length=acc.length+1:=by simp
 refine ⟨.inr rfl,by rw [hlen,flat_snoc];exact hown,?_⟩
 have i1:=Items.fr hV hf4 hb h.items
 rcases h.val with ⟨rfl,rfl,rfl⟩ | rfl
 ·match vs,i1 with
  | [],_ =>
   have hg2:g2=(w4.alloc o).heap.size:=by
    rcases hat with e | e
    ·cases e
    ·exact e
   refine ⟨⟨lo4,w4.heap.size,by omega,hs6,by rw [hg2];simp <;> omega,?_⟩,trivial⟩
   exact hV _ _ _ _ _ _ hv4 (fun j _ hj=>hblk j hj (fun e=>by cases e))
 ·have hg3:=h.ownB (j:=g) rfl
  have i2:=Items.snoc (x:=x2) (v:=v2) ⟨lo4,w4.heap.size,by omega,Nat.le_refl _,by omega,hv4⟩ i1
  exact Items.step hV (fun j _ j2 j3=>hblk j j2 (fun e=>j3 (Option.some.inj e))) hs6 (by rcases hat with e | e;exact .inl (Option.some.inj e).symm;exact .inr (by rw [e];simp)) i2
/-- A row of one thing, in a new block. -/
theorem RowH.one {x:α} {v:Value} {cs:Array Value} {lo hi:Nat} (hV:Stable V) (hv:V x v lo hi w) (hlo:B≤lo) (hB:B≤w.heap.size) (hhi:hi≤w.heap.size) (hcs:cellsL v=cs.toList) (hsz:cs.size=sz) :
  RowH t sz V B (w.alloc (.cells cs t)) (some ⟨w.heap.size,0,none⟩) 1 [x] [v] w.heap.size:=by
 refine ⟨.inr rfl,?_,⟨⟨lo,hi,hlo,by simp;omega,by omega,hV _ _ _ _ _ _ hv (fun j _ hj=>Below.heap_alloc w _ j (by omega))⟩,trivial⟩⟩
 have e:[v].flatMap cellsL=cs.toList:=by simp [hcs]
 rw [e]
 exact World.ownsRow_lit w cs 1 (by omega) (by unfold maxLen;omega) (by rw [hsz,Nat.one_mul])
end
/-- Goal's shape. -/
def ShGo (v:Value):Prop:=∃ z1 z2 z3 z4 z5 z6 z7 z8 z9 za zb zc zd ze zf zg zh zi zj zk,v=.agg #[.int .i64 z1,.int .i64 z2,.string z3,.int .i64 z4,.slice z5 z6 z7,.int .i64 z8,.string z9,.int .i64 za,.slice zb zc zd,.string ze,.slice zf zg zh,.slice zi zj zk]
def shGoV:Holds GoalT:=fun _ v _ _ _=>ShGo v
theorem shGoV.stable:Stable shGoV:=fun _ _ _ _ _ _ h _=>h
theorem GoalV.sh {d:Nat}:∀ x v lo hi w,GoalV d x v lo hi w→ShGo v:=fun _ _ _ _ _ h=>GoalV.this d _ _ _ _ _ h
def tailG (rdC:Nat→Out GoalT) (ts:List Tok) (m:Nat) (acc:List GoalT) (k:Nat):Out GoalT:=bindO (rowLoop rdC ts [59] 16384 m k acc) (fun l k'=>.ok (joinG 6 l) k')
def headG (rdC:Nat→Out GoalT) (ts:List Tok) (m:Nat) (acc:List GoalT) (k:Nat):Out GoalT:=bindO (rdC k) (fun x k'=>tailG rdC ts m (acc++[x]) k')
def tailA (rd:Nat→Out GoalT) (ts:List Tok) (T:GoalT→Nat→Out GoalT) (m:Nat) (acc:List GoalT) (k:Nat):Out GoalT:=bindO (rowLoop rd ts [44] 16384 m k acc) (fun l k'=>T (joinG 5 l) k')
theorem goalO_eq (rd:Nat→Out GoalT) (ts:List Tok) (k:Nat):goalO rd ts k=headG (joinO rd ts [44] 5) ts (ts.length+1) [] k:=by
 unfold goalO headG tailG
 rw [joinO]
 unfold rowO
 cases joinO rd ts [44] 5 k with
 | no i=>rfl
 | ok x k' =>
  show _=bindO (rowLoop (joinO rd ts [44] 5) ts [59] 16384 (ts.length+1) k' [x]) _
  dsimp only
  cases rowLoop (joinO rd ts [44] 5) ts [59] 16384 (ts.length+1) k' [x] <;> rfl
theorem headG_eq (rd:Nat→Out GoalT) (ts:List Tok) (m:Nat) (acc:List GoalT) (k:Nat) :
  headG (joinO rd ts [44] 5) ts m acc k=bindO (rd k) (fun x k1=>tailA rd ts (fun g k'=>tailG (joinO rd ts [44] 5) ts m (acc++[g]) k') (ts.length+1) [x] k1):=by
 unfold headG tailA
 generalize tailG (joinO rd ts [44] 5) ts m=T
 unfold joinO rowO
 cases rd k with
 | no i=>rfl
 | ok x k' =>
  show _=bindO (rowLoop rd ts [44] 16384 (ts.length+1) k' [x]) _
  dsimp only
  cases rowLoop rd ts [44] 16384 (ts.length+1) k' [x] <;> rfl
theorem tailG_yes {rdC:Nat→Out GoalT} {ts:List Tok} {m:Nat} {acc:List GoalT} {k:Nat} (h:hasT ts k [59]=true) (hn:acc.length≤k) (hfw:ts.length≤16384):tailG rdC ts (m+1) acc k=headG rdC ts m acc (k+1):=by
 unfold tailG headG
 rw [rowLoop,if_pos h,if_neg (by omega)]
 cases rdC (k+1) <;> rfl
theorem tailG_no {rdC:Nat→Out GoalT} {ts:List Tok} {m:Nat} {acc:List GoalT} {k:Nat} (h:hasT ts k [59]=false):tailG rdC ts (m+1) acc k=.ok (joinG 6 acc) k:=by
 unfold tailG
 rw [rowLoop,if_neg (by rw [h];decide)]
 rfl
theorem tailA_yes {rd:Nat→Out GoalT} {ts:List Tok} {T:GoalT→Nat→Out GoalT} {m:Nat} {acc:List GoalT} {k:Nat} (h:hasT ts k [44]=true) (hn:acc.length≤k) (hfw:ts.length≤16384) :
  tailA rd ts T (m+1) acc k=bindO (rd (k+1)) (fun x k1=>tailA rd ts T m (acc++[x]) k1):=by
 unfold tailA
 rw [rowLoop,if_pos h,if_neg (by omega)]
 cases rd (k+1) <;> rfl
theorem tailA_no {rd:Nat→Out GoalT} {ts:List Tok} {T:GoalT→Nat→Out GoalT} {m:Nat} {acc:List GoalT} {k:Nat} (h:hasT ts k [44]=false):tailA rd ts T (m+1) acc k=T (joinG 5 acc) k:=by
 unfold tailA
 rw [rowLoop,if_neg (by rw [h];decide)]
 rfl
end Lx
end Go.Proofs.YtajomoclbpobhaaGreatDoor
namespace Go.Proofs.YtajomoclbpobhaaGreatDoor
set_option linter.unusedSimpArgs false
set_option linter.unusedVariables false
namespace Lx
open Go Go.RowKit
theorem kw_semi:KW (ByteArray.mk #[59]).data.toList:=⟨by simp,4,.inr rfl,rfl⟩
theorem infoGo12:(Tryz.prog.info? 31).map (·.size)=some 12:=by kernel_rfl
def zeroGB (w:World) (B:Nat):Prop:=w.heap[B]?=some (.cells #[.int .i64 0,.int .i64 0,.string ⟨#[]⟩,.int .i64 0,.slice none 0 0,.int .i64 0,.string ⟨#[]⟩,.int .i64 0,.slice none 0 0,.string ⟨#[]⟩,.slice none 0 0,.slice none 0 0] 31 (0,0))
theorem box12r {w w':World} {o:Obj} {b:Nat} {cs:Array Value} (hf:PFr b (w.alloc o) w') (hb:b < w.heap.size) (h:(w.alloc o).heap[w.heap.size]?=some (.cells cs 31 (0,0))):w'.heap[w.heap.size]?=some (.cells cs 31 (0,0)) :=
 (hf.block w.heap.size (by simp) (Nat.ne_of_gt hb)).trans h
/-- The result's twelve cells are written. -/
theorem rput12 {w w3:World} {b:Nat} {A:Option Addr} {c:Nat} {ts:List Tok} {k k0:Nat} {er er0:Int} (h:Rd w b A c ts k0 er0) (hf:PFr b w w3) (hp:Rd w3 b A c ts k er) (hz:zeroGB w3 w.heap.size) (x0 x1 x2 x3 x4 x5 x6 x7 x8 x9 x10 x11:Value) :
  ((((((((((((w3.setCell ⟨w.heap.size,0,none⟩ x0).setCell ⟨w.heap.size,1,none⟩ x1).setCell ⟨w.heap.size,2,none⟩ x2).setCell ⟨w.heap.size,3,none⟩ x3).setCell ⟨w.heap.size,4,none⟩ x4).setCell ⟨w.heap.size,5,none⟩ x5).setCell ⟨w.heap.size,6,none⟩ x6).setCell ⟨w.heap.size,7,none⟩ x7).setCell ⟨w.heap.size,8,none⟩ x8).setCell ⟨w.heap.size,9,none⟩ x9).setCell ⟨w.heap.size,10,none⟩ x10).setCell ⟨w.heap.size,11,none⟩ x11).heap[w.heap.size]?=some (.cells #[x0,x1,x2,x3,x4,x5,x6,x7,x8,x9,x10,x11] 31 (0,0)) ∧
  Rd ((((((((((((w3.setCell ⟨w.heap.size,0,none⟩ x0).setCell ⟨w.heap.size,1,none⟩ x1).setCell ⟨w.heap.size,2,none⟩ x2).setCell ⟨w.heap.size,3,none⟩ x3).setCell ⟨w.heap.size,4,none⟩ x4).setCell ⟨w.heap.size,5,none⟩ x5).setCell ⟨w.heap.size,6,none⟩ x6).setCell ⟨w.heap.size,7,none⟩ x7).setCell ⟨w.heap.size,8,none⟩ x8).setCell ⟨w.heap.size,9,none⟩ x9).setCell ⟨w.heap.size,10,none⟩ x10).setCell ⟨w.heap.size,11,none⟩ x11) b A c ts k er ∧
  PFr b w ((((((((((((w3.setCell ⟨w.heap.size,0,none⟩ x0).setCell ⟨w.heap.size,1,none⟩ x1).setCell ⟨w.heap.size,2,none⟩ x2).setCell ⟨w.heap.size,3,none⟩ x3).setCell ⟨w.heap.size,4,none⟩ x4).setCell ⟨w.heap.size,5,none⟩ x5).setCell ⟨w.heap.size,6,none⟩ x6).setCell ⟨w.heap.size,7,none⟩ x7).setCell ⟨w.heap.size,8,none⟩ x8).setCell ⟨w.heap.size,9,none⟩ x9).setCell ⟨w.heap.size,10,none⟩ x10).setCell ⟨w.heap.size,11,none⟩ x11) ∧
  HiEq (w.heap.size+1) w3 ((((((((((((w3.setCell ⟨w.heap.size,0,none⟩ x0).setCell ⟨w.heap.size,1,none⟩ x1).setCell ⟨w.heap.size,2,none⟩ x2).setCell ⟨w.heap.size,3,none⟩ x3).setCell ⟨w.heap.size,4,none⟩ x4).setCell ⟨w.heap.size,5,none⟩ x5).setCell ⟨w.heap.size,6,none⟩ x6).setCell ⟨w.heap.size,7,none⟩ x7).setCell ⟨w.heap.size,8,none⟩ x8).setCell ⟨w.heap.size,9,none⟩ x9).setCell ⟨w.heap.size,10,none⟩ x10).setCell ⟨w.heap.size,11,none⟩ x11):=by
 have hfr:PFr b w ((((((((((((w3.setCell ⟨w.heap.size,0,none⟩ x0).setCell ⟨w.heap.size,1,none⟩ x1).setCell ⟨w.heap.size,2,none⟩ x2).setCell ⟨w.heap.size,3,none⟩ x3).setCell ⟨w.heap.size,4,none⟩ x4).setCell ⟨w.heap.size,5,none⟩ x5).setCell ⟨w.heap.size,6,none⟩ x6).setCell ⟨w.heap.size,7,none⟩ x7).setCell ⟨w.heap.size,8,none⟩ x8).setCell ⟨w.heap.size,9,none⟩ x9).setCell ⟨w.heap.size,10,none⟩ x10).setCell ⟨w.heap.size,11,none⟩ x11):=((((((((((((hf.putNew (Nat.le_refl _) 0 x0).putNew (Nat.le_refl _) 1 x1).putNew (Nat.le_refl _) 2 x2).putNew (Nat.le_refl _) 3 x3).putNew (Nat.le_refl _) 4 x4).putNew (Nat.le_refl _) 5 x5).putNew (Nat.le_refl _) 6 x6).putNew (Nat.le_refl _) 7 x7).putNew (Nat.le_refl _) 8 x8).putNew (Nat.le_refl _) 9 x9).putNew (Nat.le_refl _) 10 x10).putNew (Nat.le_refl _) 11 x11)
 have hn:∀ j,j ≠ w.heap.size→((((((((((((w3.setCell ⟨w.heap.size,0,none⟩ x0).setCell ⟨w.heap.size,1,none⟩ x1).setCell ⟨w.heap.size,2,none⟩ x2).setCell ⟨w.heap.size,3,none⟩ x3).setCell ⟨w.heap.size,4,none⟩ x4).setCell ⟨w.heap.size,5,none⟩ x5).setCell ⟨w.heap.size,6,none⟩ x6).setCell ⟨w.heap.size,7,none⟩ x7).setCell ⟨w.heap.size,8,none⟩ x8).setCell ⟨w.heap.size,9,none⟩ x9).setCell ⟨w.heap.size,10,none⟩ x10).setCell ⟨w.heap.size,11,none⟩ x11).heap[j]?=w3.heap[j]?:=fun j hj=>by
  rw [Below.heap_setCell _ _ _ j hj,Below.heap_setCell _ _ _ j hj,Below.heap_setCell _ _ _ j hj,Below.heap_setCell _ _ _ j hj,Below.heap_setCell _ _ _ j hj,Below.heap_setCell _ _ _ j hj,Below.heap_setCell _ _ _ j hj,Below.heap_setCell _ _ _ j hj,Below.heap_setCell _ _ _ j hj,Below.heap_setCell _ _ _ j hj,Below.heap_setCell _ _ _ j hj,Below.heap_setCell _ _ _ j hj]
 refine ⟨(blk_put _ _ 11 x11 (blk_put _ _ 10 x10 (blk_put _ _ 9 x9 (blk_put _ _ 8 x8 (blk_put _ _ 7 x7 (blk_put _ _ 6 x6 (blk_put _ _ 5 x5 (blk_put _ _ 4 x4 (blk_put _ _ 3 x3 (blk_put _ _ 2 x2 (blk_put _ _ 1 x1 (blk_put _ _ 0 x0 hz (by show 0 < 12;decide)) (by show 1 < 12;decide)) (by show 2 < 12;decide)) (by show 3 < 12;decide)) (by show 4 < 12;decide)) (by show 5 < 12;decide)) (by show 6 < 12;decide)) (by show 7 < 12;decide)) (by show 8 < 12;decide)) (by show 9 < 12;decide)) (by show 10 < 12;decide)) (by show 11 < 12;decide)),h.move hfr ((hn b (Nat.ne_of_lt h.lt)).trans hp.blk) hp.near hp.nest0 hp.nest1,hfr,?_,fun j hj=>hn j (by omega)⟩
 simp [World.setCell]
theorem Cont.pull {α β:Type} {OT:Out β} {er:Int} {P:α→Prop} (a:α) (h:Cont OT er (∃ x,P x)):∃ x,Cont OT er (P x):=by
 rcases h with ⟨e,x,hx⟩ | h
 ·exact ⟨x,.inl ⟨e,hx⟩⟩
 ·exact ⟨a,.inr h⟩
/-- What the outer loop holds at its head. -/
structure GoI (b:Nat) (A:Option Addr) (c:Nat) (ts:List Tok) (OT:Out GoalT) (rG:Nat→Out GoalT) (d:Nat) (w wr:World) (s:Option Addr) (cap:Nat) (acc:List GoalT) (vs:List Value) (g m k:Nat) (er:Int):Prop where
 wd:Rd wr b A c ts k er
 le:k≤ts.length
 fr:PFr b w wr
 sz:w.heap.size+1≤wr.heap.size
 zero:zeroGB wr w.heap.size
 way:(er=0∧RowH 31 12 (GoalV (d+1)) (w.heap.size+1) wr s cap acc vs g∧acc.length≤k∧ts.length < k+m∧headG (joinO rG ts [44] 5) ts m acc k=OT) ∨
  (acc=[]∧s=some ⟨w.heap.size+1,0,none⟩∧cap=0∧er ≠ 0∧∃ i,er=erN i∧OT=.no i)
/-- What the inner loop holds. -/
structure GaI (b:Nat) (A:Option Addr) (c:Nat) (ts:List Tok) (OT:Out GoalT) (rG:Nat→Out GoalT) (U:GoalT→Nat→Out GoalT) (d:Nat) (wo wr:World) (k0:Nat) (s:Option Addr) (cap:Nat) (acc:List GoalT) (vs:List Value) (g m k:Nat) (er:Int):Prop where
 row:RowH 31 12 shGoV wo.heap.size wr s cap acc vs g
 ne:1≤acc.length
 wd:Rd wr b A c ts k er
 le:k≤ts.length
 fr:PFr b wo wr
 cont:Cont OT er (RowH 31 12 (GoalV d) wo.heap.size wr s cap acc vs g∧k0 < k∧acc.length≤k∧ts.length < k+m∧tailA rG ts U m acc k=OT)
theorem goI_start {b:Nat} {A:Option Addr} {c:Nat} {ts:List Tok} {OT:Out GoalT} {rG:Nat→Out GoalT} {d:Nat} {w:World} {k:Nat} {er:Int} (h:Rd w b A c ts k er) (hk:k≤ts.length) (hc:Cont OT er (goalO rG ts k=OT)) :
  GoI b A c ts OT rG d w ((w.alloc (.cells #[.int .i64 0,.int .i64 0,.string ⟨#[]⟩,.int .i64 0,.slice none 0 0,.int .i64 0,.string ⟨#[]⟩,.int .i64 0,.slice none 0 0,.string ⟨#[]⟩,.slice none 0 0,.slice none 0 0] 31)).alloc (.cells #[] 31)) (some ⟨w.heap.size+1,0,none⟩) 0 [] [] (w.heap.size+1) (ts.length+1) k er:=by
 have hs:(w.alloc (.cells #[.int .i64 0,.int .i64 0,.string ⟨#[]⟩,.int .i64 0,.slice none 0 0,.int .i64 0,.string ⟨#[]⟩,.int .i64 0,.slice none 0 0,.string ⟨#[]⟩,.slice none 0 0,.slice none 0 0] 31)).heap.size=w.heap.size+1:=by simp
 refine ⟨(h.alloc _).alloc _,hk,((PFr.refl b w).alloc _).alloc _,by simp,(Below.heap_alloc _ _ _ (by simp)).trans (heap_alloc_new w _),?_⟩
 rcases hc with ⟨rfl,h1⟩ | ⟨i,rfl,rfl⟩
 ·refine .inl ⟨rfl,⟨.inr rfl,?_,trivial⟩,Nat.zero_le _,by omega,by rw [← goalO_eq];exact h1⟩
  rw [← hs]
  exact World.ownsRow_made _ #[] 0 (Nat.le_refl _) (by unfold maxLen;omega) rfl
 ·exact .inr ⟨rfl,rfl,rfl,erN_ne i,i,rfl,rfl⟩
theorem gaI_start {b:Nat} {A:Option Addr} {c:Nat} {ts:List Tok} {OT:Out GoalT} {rG:Nat→Out GoalT} {U:GoalT→Nat→Out GoalT} {d:Nat} {wo w4:World} {k0 k:Nat} {er:Int} {C:Array Value} (hC:C.size=12) (hs:ShGo (.agg C)) (hp:Rd w4 b A c ts k er) (hk:k≤ts.length) (hf:PFr b wo w4)
  (hc:Cont OT er (∃ x,GoalV d x (.agg C) wo.heap.size w4.heap.size w4∧k0 < k∧tailA rG ts U (ts.length+1) [x] k=OT)) :
  ∃ x,GaI b A c ts OT rG U d wo (w4.alloc (.cells C 31)) k0 (some ⟨w4.heap.size,0,none⟩) 1 [x] [.agg C] w4.heap.size (ts.length+1) k er:=by
 obtain ⟨x,hx⟩:=Cont.pull (.mk 0 zeroT zeroT [] [] []) hc
 refine ⟨x,⟨RowH.one (lo:=wo.heap.size) (hi:=w4.heap.size) shGoV.stable hs (Nat.le_refl _) hf.size (Nat.le_refl _) rfl hC,Nat.le_refl _,hp.alloc _,hk,hf.alloc _,hx.imp ?_⟩⟩
 rintro ⟨h1,h2,h3⟩
 exact ⟨RowH.one (GoalV.stable d) h1 (Nat.le_refl _) hf.size (Nat.le_refl _) rfl hC,h2,by simp;omega,by omega,h3⟩
theorem gaI_next {b:Nat} {A:Option Addr} {c:Nat} {ts:List Tok} {OT:Out GoalT} {rG:Nat→Out GoalT} {U:GoalT→Nat→Out GoalT} {d:Nat} {wo wr w4 w6:World} {k0 kr k m m':Nat} {s:Option Addr} {cap:Nat} {acc:List GoalT} {vs:List Value} {g g2 cap2:Nat} {er0 er:Int} {v:Value} {o:Obj}
  (h0:Rd wo b A c ts k0 er0) (hk0:k0 < kr) (hmm:ts.length < kr+1+m') (hI:GaI b A c ts OT rG U d wo wr k0 s cap acc vs g m kr 0) (hs:ShGo v) (hk:k≤ts.length) (hf:PFr b wr w4) (hp:Rd w4 b A c ts k er)
  {lo:Nat} (hlo:wr.heap.size≤lo) (hc:Cont OT er (∃ x,GoalV d x v lo w4.heap.size w4∧kr+1 < k∧tailA rG ts U m' (acc++[x]) k=OT))
  (hown:w6.ownsRow wo.heap.size 31 12 (.slice (some ⟨g2,0,none⟩) (acc.length+1) cap2) (acc.length+1) (vs.flatMap cellsL++cellsL v)) (hg:(w4.alloc o).grownBy w6 (Value.slice s acc.length cap).ownBlock) (hat:(Value.slice s acc.length cap).ownBlock=some g2 ∨ g2=(w4.alloc o).heap.size) :
  ∃ x,GaI b A c ts OT rG U d wo w6 k0 (some ⟨g2,0,none⟩) cap2 (acc++[x]) (vs++[v]) g2 m' k er:=by
 obtain ⟨x,hx⟩:=Cont.pull (.mk 0 zeroT zeroT [] [] []) hc
 obtain ⟨hr,hle,hcl,_,_⟩:=hI.cont.ok
 obtain ⟨q1,q2,q3,q4⟩:=hI.row.grow (w:=wo) h0.lt hI.fr.size (Nat.le_refl _) hI.fr hf hg
 have hp6:Rd w6 b A c ts k er:=h0.move q1 ((q4 b h0.lt).trans hp.blk) hp.near hp.nest0 hp.nest1
 refine ⟨x,⟨hI.row.snoc shGoV.stable h0.lt hI.fr.size hf (Nat.le_refl _) hs hown hg hat,by simp,hp6,hk,q1,hx.imp ?_⟩⟩
 rintro ⟨h1,h2,h3⟩
 exact ⟨hr.snoc (GoalV.stable d) h0.lt hI.fr.size hf hlo h1 hown hg hat,by omega,by simp;omega,by omega,h3⟩
/-- What stands behind the append to the outer row. -/
structure GoE (b:Nat) (A:Option Addr) (c:Nat) (ts:List Tok) (OT:Out GoalT) (rG:Nat→Out GoalT) (d:Nat) (w wr:World) (s:Option Addr) (cap:Nat) (acc:List GoalT) (x:GoalT) (vs:List Value) (v:Value) (g m k0 k:Nat) (er:Int):Prop where
 wd:Rd wr b A c ts k er
 le:k≤ts.length
 fr:PFr b w wr
 sz:w.heap.size+1≤wr.heap.size
 zero:zeroGB wr w.heap.size
 sh:ShGo v
 row:RowH 31 12 shGoV (w.heap.size+1) wr s cap (acc++[x]) (vs++[v]) g
 cont:Cont OT er (RowH 31 12 (GoalV (d+1)) (w.heap.size+1) wr s cap (acc++[x]) (vs++[v]) g∧k0 < k∧(acc++[x]).length≤k∧ts.length < k+m∧tailG (joinO rG ts [44] 5) ts m (acc++[x]) k=OT)
theorem goE_next {b:Nat} {A:Option Addr} {c:Nat} {ts:List Tok} {OT:Out GoalT} {rG:Nat→Out GoalT} {d:Nat} {w wo w5 w6:World} {k00 kr k m:Nat} {s:Option Addr} {cap:Nat} {acc:List GoalT} {vs:List Value} {g g3 cap3:Nat} {er0 er:Int} {v:Value} {o:Obj}
  (h0:Rd w b A c ts k00 er0) (hI:GoI b A c ts OT rG d w wo s cap acc vs g m kr 0) (hf:PFr b wo w5) (hp:Rd w5 b A c ts k er) (hk:k≤ts.length) (hs:ShGo v)
  (hc:Cont OT er (∃ x,GoalV (d+1) x v wo.heap.size w5.heap.size w5∧kr < k∧tailG (joinO rG ts [44] 5) ts m (acc++[x]) k=OT))
  (hown:w6.ownsRow (w.heap.size+1) 31 12 (.slice (some ⟨g3,0,none⟩) (acc.length+1) cap3) (acc.length+1) (vs.flatMap cellsL++cellsL v)) (hg:(w5.alloc o).grownBy w6 (Value.slice s acc.length cap).ownBlock) (hat:(Value.slice s acc.length cap).ownBlock=some g3 ∨ g3=(w5.alloc o).heap.size) :
  ∃ x,GoE b A c ts OT rG d w w6 (some ⟨g3,0,none⟩) cap3 acc x vs v g3 m kr k er:=by
 obtain ⟨x,hx⟩:=Cont.pull (.mk 0 zeroT zeroT [] [] []) hc
 rcases hI.way with ⟨_,hr,hle,hfu,_⟩ | ⟨_,_,_,h,_⟩
 case inr=>exact absurd rfl h
 have hb:=h0.lt
 obtain ⟨q1,q2,q3,q4⟩:=hr.grow (w:=w) (by omega) hI.sz (Nat.le_succ _) hI.fr hf hg
 have hp6:Rd w6 b A c ts k er:=h0.move q1 ((q4 b (by omega)).trans hp.blk) hp.near hp.nest0 hp.nest1
 have hsz:=hf.size
 have hz6:zeroGB w6 w.heap.size:=(q4 w.heap.size (by omega)).trans ((hf.block w.heap.size (by have:=hI.sz;omega) (by omega)).trans hI.zero)
 refine ⟨x,⟨hp6,hk,q1,by have:=hI.sz;omega,hz6,hs,(hr.imp GoalV.sh).snoc shGoV.stable (by omega) hI.sz hf (Nat.le_refl _) hs hown hg hat,hx.imp ?_⟩⟩
 rintro ⟨h1,h2,h3⟩
 exact ⟨hr.snoc (GoalV.stable (d+1)) (by omega) hI.sz hf (Nat.le_refl _) h1 hown hg hat,h2,by simp;omega,by omega,h3⟩
/-- The next round. -/
theorem goI_next {b:Nat} {A:Option Addr} {c:Nat} {ts:List Tok} {OT:Out GoalT} {rG:Nat→Out GoalT} {d:Nat} {w w6 w7:World} {k00 kr k m:Nat} {s:Option Addr} {cap:Nat} {acc:List GoalT} {x:GoalT} {vs:List Value} {v:Value} {g:Nat} {er0:Int}
  (h0:Rd w b A c ts k00 er0) (hE:GoE b A c ts OT rG d w w6 s cap acc x vs v g m kr k 0) (hh:hasT ts k [59]=true) (hf:PFr b w6 w7) (hp:Rd w7 b A c ts (k+1) 0) :
  kr < k∧∃ m',GoI b A c ts OT rG d w w7 s cap (acc++[x]) (vs++[v]) g m' (k+1) 0:=by
 obtain ⟨hr,hk,hle,hfu,hT⟩:=hE.cont.ok
 have hb:=h0.lt
 have hin:=hasT_in hh (by decide)
 obtain ⟨m,rfl⟩:∃ q,m=q+1:=⟨m - 1,by omega⟩
 rw [tailG_yes hh hle h0.few] at hT
 have hsz:=hf.size
 have hz:zeroGB w7 w.heap.size:=(hf.block w.heap.size (by have:=hE.sz;omega) (by omega)).trans hE.zero
 exact ⟨hk,m,⟨hp,by omega,hE.fr.trans hf,by have:=hE.sz;omega,hz,.inl ⟨rfl,hr.fr (GoalV.stable _) (by omega) hf,by omega,by omega,hT⟩⟩⟩
theorem goE_done {b:Nat} {A:Option Addr} {c:Nat} {ts:List Tok} {OT:Out GoalT} {rG:Nat→Out GoalT} {d:Nat} {w w6 w7:World} {k00 kr k m:Nat} {s:Option Addr} {cap:Nat} {acc:List GoalT} {x:GoalT} {vs:List Value} {v:Value} {g:Nat} {er er0:Int}
  (h0:Rd w b A c ts k00 er0) (hE:GoE b A c ts OT rG d w w6 s cap acc x vs v g m kr k er) (hq:isB ts k er [59]=false) (hf:PFr b w6 w7) :
  zeroGB w7 w.heap.size∧PFr b w w7∧RowH 31 12 shGoV (w.heap.size+1) w7 s cap (acc++[x]) (vs++[v]) g∧Cont OT er (RowH 31 12 (GoalV (d+1)) (w.heap.size+1) w7 s cap (acc++[x]) (vs++[v]) g∧.ok (joinG 6 (acc++[x])) k=OT):=by
 have hb:=h0.lt
 have hz:zeroGB w7 w.heap.size:=(hf.block w.heap.size (by have:=hE.sz;omega) (by omega)).trans hE.zero
 refine ⟨hz,hE.fr.trans hf,hE.row.fr shGoV.stable (by omega) hf,?_⟩
 rcases hE.cont with ⟨rfl,hr,hk,hle,hfu,hT⟩ | h
 ·obtain ⟨m,rfl⟩:∃ q,m=q+1:=⟨m - 1,by have:=hE.le;omega⟩
  rw [isB_ok] at hq
  rw [tailG_no hq] at hT
  exact .inl ⟨rfl,hr.fr (GoalV.stable _) (by omega) hf,hT⟩
 ·exact .inr h
theorem list_one {α:Type} {l:List α} (h:l.length=1):∃ y,l=[y]:=by
 match l,h with
 | [y],_=>exact ⟨y,rfl⟩
theorem joinG_many {kind:Int} {l:List GoalT} (h:l.length ≠ 1):joinG kind l=.mk kind zeroT zeroT [] [] l:=by
 match l,h with
 | [],_=>rfl
 | [_],h=>exact absurd rfl h
 | _ :: _ :: _,_=>rfl
/-- The first goal of a row of one, cell by cell. -/
theorem row_one {V:Holds GoalT} {B:Nat} {w:World} {s:Option Addr} {cap:Nat} {x:GoalT} {v:Value} {g:Nat} (h:RowH 31 12 V B w s cap [x] [v] g) (j:Nat) (hj:j < 12):s=some ⟨g,0,none⟩∧w.cell? ⟨g,j,none⟩=(cellsL v)[j]?:=by
 rcases h.val with ⟨e,_⟩ | rfl
 ·cases e
 ·refine ⟨rfl,?_⟩
  have h1:=h.own.cellAt (g:=g) (cap:=cap) j (by simpa using hj)
  simpa using h1
theorem hi_goal {d:Nat} {x:GoalT} {v:Value} {lo hi N:Nat} {w w':World} (h:GoalV d x v lo hi w) (hN:N≤lo) (hh:HiEq N w w'):GoalV d x v lo hi w':=GoalV.stable d _ _ _ _ _ _ h (fun j j1 _=>hh.block j (by omega))
theorem hi_row {V:Holds GoalT} (hV:Stable V) {l:List GoalT} {v:Value} {lo hi N:Nat} {w w':World} (h:ArgsV 31 12 V l v lo hi w) (hN:N≤lo) (hh:HiEq N w w'):ArgsV 31 12 V l v lo hi w':=ArgsV.stable _ _ hV _ _ _ _ _ _ h (fun j j1 _=>hh.block j (by omega))
set_option maxRecDepth 100000 in
set_option maxHeartbeats 8000000 in
theorem rgoal_genc (b:Nat) (A:Option Addr) (c:Nat) (ts:List Tok) (hw:WF ts) (n:Int) (d:Nat) (rG:Nat→Out GoalT) (hrd:Fwd ts rG)
  (HR:Hid (GenC 123 #[.pointer (some ⟨b,0,none⟩),.int .i64 n] b A c ts (GoalV d) ShGo rG)) :
  GenC 103 #[.pointer (some ⟨b,0,none⟩),.int .i64 n] b A c ts (GoalV (d+2)) ShGo (goalO rG ts):=by
 intro w k er OT hc h hk
 have HP:=Lib.hid h
 have hfw:=h.few
 have HFW:=Lib.hid hrd
 have HWF:=Lib.hid hw
 obtain ⟨i0,hi,hz0,hz1,hz2⟩:=info_parts infoGo
 have HI0:=Lib.hid hi
 have HI1:=Lib.hid hz0
 have HI2:=Lib.hid hz1
 have HI3:=Lib.hid hz2
 have HST:=Lib.hid (goI_start (OT:=OT) (rG:=rG) (d:=d) h hk hc)
 have HBW:=Lib.hid h.lt
 clear h hc hk hi hz0 hz1 hz2 hrd hw
 go_enter Tryz.func103,Tryz.ntmps103
 go_wp2_with fail
 go_loopw [5] (fun v wr=>∃ acc vs g s cap m kr er,v=.slice s acc.length cap∧Hid (GoI b A c ts OT rG d w wr s cap acc vs g m kr er)) (fun _ wr=>meas ts.length b wr)
 case atStart=>exact ⟨[],[],_,_,0,_,_,_,rfl,HST⟩
 case round =>
  obtain ⟨acc,vs,g,s,cap,m,kr,er,rfl,hI⟩:=hrel
  have HI:=hI
  clear hI HST
  have c2:=HI.out.wd.c2
  rcases HI.out.way with ⟨rfl,hrow,hal,hfu,hO⟩ | ⟨rfl,rfl,rfl,hne,i,rfl,rfl⟩
  case inr =>
   have hq:(erN i == 0)=false:=by simpa using hne
   have hzero:=HI.out.zero
   have cz0:=(Lib.cell_of_heap hzero 0).trans rfl
   have cz1:=(Lib.cell_of_heap hzero 1).trans rfl
   have cz2:=(Lib.cell_of_heap hzero 2).trans rfl
   have cz3:=(Lib.cell_of_heap hzero 3).trans rfl
   have cz4:=(Lib.cell_of_heap hzero 4).trans rfl
   have cz5:=(Lib.cell_of_heap hzero 5).trans rfl
   have cz6:=(Lib.cell_of_heap hzero 6).trans rfl
   have cz7:=(Lib.cell_of_heap hzero 7).trans rfl
   have cz8:=(Lib.cell_of_heap hzero 8).trans rfl
   have cz9:=(Lib.cell_of_heap hzero 9).trans rfl
   have cz10:=(Lib.cell_of_heap hzero 10).trans rfl
   have cz11:=(Lib.cell_of_heap hzero 11).trans rfl
   have fz0:=Lib.frozen_of_heap hzero 0
   have fz1:=Lib.frozen_of_heap hzero 1
   have fz2:=Lib.frozen_of_heap hzero 2
   have fz3:=Lib.frozen_of_heap hzero 3
   have fz4:=Lib.frozen_of_heap hzero 4
   have fz5:=Lib.frozen_of_heap hzero 5
   have fz6:=Lib.frozen_of_heap hzero 6
   have fz7:=Lib.frozen_of_heap hzero 7
   have fz8:=Lib.frozen_of_heap hzero 8
   have fz9:=Lib.frozen_of_heap hzero 9
   have fz10:=Lib.frozen_of_heap hzero 10
   have fz11:=Lib.frozen_of_heap hzero 11
   clear hzero
   go_wp2_with fail
   obtain ⟨t0,t1,t2,t3⟩:=rput12 HP.out HI.out.fr HI.out.wd HI.out.zero (.int .i64 6) (.int .i64 0) (.string ⟨#[]⟩) (.int .i64 0) (.slice none 0 0) (.int .i64 0) (.string ⟨#[]⟩) (.int .i64 0) (.slice none 0 0) (.string ⟨#[]⟩) (.slice none 0 0) (.slice (some ⟨w.heap.size+1,0,none⟩) 0 0)
   exact bodyPost_ret (v:=.agg #[.int .i64 6,.int .i64 0,.string ⟨#[]⟩,.int .i64 0,.slice none 0 0,.int .i64 0,.string ⟨#[]⟩,.int .i64 0,.slice none 0 0,.string ⟨#[]⟩,.slice none 0 0,.slice (some ⟨w.heap.size+1,0,none⟩) 0 0]) (results_cell_row Tryz.results103 _ _ w.heap.size 31 #[.int .i64 6,.int .i64 0,.string ⟨#[]⟩,.int .i64 0,.slice none 0 0,.int .i64 0,.string ⟨#[]⟩,.int .i64 0,.slice none 0 0,.string ⟨#[]⟩,.slice none 0 0,.slice (some ⟨w.heap.size+1,0,none⟩) 0 0] (0,0) _ rfl t0 Tryz.underlying31 rfl infoGo12) rfl (rends_of HI.out.le ⟨_,_,_,_,_,_,_,_,_,_,_,_,_,_,_,_,_,_,_,_,rfl⟩ t1 t2 (.inr ⟨i,rfl,rfl⟩))
  case inl =>
   obtain ⟨U,hU⟩:∃ U:GoalT→Nat→Out GoalT,U=fun g k'=>tailG (joinO rG ts [44] 5) ts m (acc++[g]) k':=⟨_,rfl⟩
   have HU:=Lib.hid hU
   have hO2:bindO (rG kr) (fun x k1=>tailA rG ts U (ts.length+1) [x] k1)=OT:=by rw [hU,← headG_eq];exact hO
   have HC:=Lib.hid (HR.out.cont HFW.out GoalV.sh HI.out.wd HI.out.le (.inl ⟨rfl,hO2⟩))
   have hacc:acc.length≤16384:=by have:=HI.out.le;omega
   have HAC:=Lib.hid hacc
   have HROW:=Lib.hid hrow
   clear hO hO2 hU hrow hal hfu
   go_wp2_with fail
   go_at_call 123
   refine HC.out.mono ?_
   rintro e w4 ⟨v4,k4,er4,rfl,⟨u1,u2,u3,u4,u5,u6,u7,u8,u9,ua,ub,uc,ud,ue,uf,ug,uh,ui,uj,uk,rfl⟩,hk4,hp4,hf4,hc4⟩
   obtain ⟨x4,hga⟩:=gaI_start (C:=#[.int .i64 u1,.int .i64 u2,.string u3,.int .i64 u4,.slice u5 u6 u7,.int .i64 u8,.string u9,.int .i64 ua,.slice ub uc ud,.string ue,.slice uf ug uh,.slice ui uj uk]) rfl ⟨_,_,_,_,_,_,_,_,_,_,_,_,_,_,_,_,_,_,_,_,rfl⟩ hp4 hk4 hf4 hc4
   have HGA:=Lib.hid hga
   clear hga hc4 hp4 hf4 hk4 c2 HC
   obtain ⟨wo,hwo⟩:∃ wo:World,wo=wr:=⟨_,rfl⟩
   rw [← hwo] at HI HROW HGA
   have HWO:=Lib.hid hwo
   clear hwo
   go_wp2_with fail
   go_loopw [6] (fun v wr=>∃ acc2 vs2 g2 s2 cap2 m2 k2 er2,v=.slice s2 acc2.length cap2∧Hid (GaI b A c ts OT rG U d wo wr kr s2 cap2 acc2 vs2 g2 m2 k2 er2)) (fun _ wr=>meas ts.length b wr)
   case atStart=>exact ⟨[x4],_,_,_,1,_,_,_,rfl,HGA⟩
   case round =>
    obtain ⟨acc2,vs2,g2,s2,cap2,m2,k2,er2,rfl,hJ⟩:=hrel
    have HJ:=hJ
    clear hJ HGA
    have HBO:Hid (b < wo.heap.size):=Lib.hid HI.out.wd.lt
    cases hq:isB ts k2 er2 [44] with
    | true =>
     obtain ⟨rfl,hh⟩:er2=0∧hasT ts k2 [44]=true:=by simpa [isB] using hq
     obtain ⟨_,hkk,hle2,hfu2,hT⟩:=HJ.out.cont.ok
     have hin:=hasT_in hh (by decide)
     obtain ⟨m2,rfl⟩:∃ q,m2=q+1:=⟨m2 - 1,by omega⟩
     rw [tailA_yes hh hle2 hfw] at hT
     have HG:=Lib.hid (rgot_yes HWF.out ⟨#[44]⟩ kw_comma HJ.out.wd hh)
     have HT:=Lib.hid hT
     have HKK:=Lib.hid hkk
     have HFU2:Hid (ts.length < k2+1+m2):=Lib.hid (by omega)
     have HK2:Hid (k2+1≤ts.length):=Lib.hid (by omega)
     have hle3:acc2.length≤16384:=by omega
     clear hT hh hq hin hle2 hfu2 hkk
     go_wp2_with fail
     go_at_call 97
     refine HG.out.mono ?_
     rintro e w5 ⟨rfl,hp5,hf5⟩
     have HC2:=Lib.hid (HR.out.cont HFW.out GoalV.sh hp5 HK2.out (.inl ⟨rfl,HT.out⟩))
     have HF5:=Lib.hid hf5
     clear hp5 hf5 HG
     go_wp2_with fail
     go_at_call 123
     refine HC2.out.mono ?_
     rintro e w6 ⟨v6,k6,er6,rfl,⟨p1,p2,p3,p4,p5,p6,p7,p8,p9,pa,pb,pc,pd,pe,pf,pg,ph,pi,pj,pk,rfl⟩,hk6,hp6,hf6,hc6⟩
     have HF6:=Lib.hid (HF5.out.trans hf6)
     have HP6:=Lib.hid hp6
     have HC6:=Lib.hid hc6
     have HK6:=Lib.hid hk6
     have HO6:=Lib.hid (own_fr HJ.out.row.own HF6.out HBO.out)
     have hW6:wo.heap.size≤w6.heap.size:=Nat.le_trans HJ.out.fr.size HF6.out.size
     clear hp6 hf6 hc6 hk6 HC2
     go_wp2_with (at_builtin;refine wpList_append_lies _ rfl _ _ 29 rfl (wo.heap.size) 31 i0 (.agg #[.int .i64 0,.int .i64 0,.string ⟨#[]⟩,.int .i64 0,.slice none 0 0,.int .i64 0,.string ⟨#[]⟩,.int .i64 0,.slice none 0 0,.string ⟨#[]⟩,.slice none 0 0,.slice none 0 0]) 12 184 Tryz.underlying29 HI0.out HI1.out HI2.out HI3.out rfl (by decide) _ _ _ rfl (HO6.out.alloc _) ⟨w6.heap.size,0,none⟩ 1 1 [.int .i64 p1,.int .i64 p2,.string p3,.int .i64 p4,.slice p5 p6 p7,.int .i64 p8,.string p9,.int .i64 pa,.slice pb pc pd,.string pe,.slice pf pg ph,.slice pi pj pk] rfl rfl (cells_new _ #[.int .i64 p1,.int .i64 p2,.string p3,.int .i64 p4,.slice p5 p6 p7,.int .i64 p8,.string p9,.int .i64 pa,.slice pb pc pd,.string pe,.slice pf pg ph,.slice pi pj pk] _ _ rfl) (by simp [Value.oneCell']) (by decide) (by unfold maxLen;omega) (by omega) (by simp;omega) _ rfl ?_;intro g7 cap7 w7 hown7 hg7 hat7 _;have HOWN7:=Lib.hid hown7;have HG7:=Lib.hid hg7;have HAT7:=Lib.hid hat7;clear hown7 hg7 hat7)
     obtain ⟨x7,hn7⟩:=gaI_next HI.out.wd HKK.out HFU2.out HJ.out (v:=.agg #[.int .i64 p1,.int .i64 p2,.string p3,.int .i64 p4,.slice p5 p6 p7,.int .i64 p8,.string p9,.int .i64 pa,.slice pb pc pd,.string pe,.slice pf pg ph,.slice pi pj pk]) ⟨_,_,_,_,_,_,_,_,_,_,_,_,_,_,_,_,_,_,_,_,rfl⟩ HK6.out HF6.out HP6.out HF5.out.size HC6.out HOWN7.out HG7.out HAT7.out
     have HN7:=Lib.hid hn7
     clear hn7
     have hl2:(acc2++[x7]).length=acc2.length+1:=by simp
     go_roundw
     case rel=>exact ⟨acc2++[x7],_,_,_,cap7,_,_,_,by rw [hl2],HN7⟩
     case measure =>
      rw [meas_on HJ.out.wd]
      rcases HN7.out.cont with ⟨rfl,_,h2,h3,_⟩ | ⟨i,rfl,_⟩
      ·rw [meas_on HN7.out.wd]
       have:=HC6.out.ok
       obtain ⟨_,_,h5,_⟩:=this
       have h6:=HK2.out
       omega
      ·rw [meas_off HN7.out.wd (erN_ne i)]
       omega
    | false =>
     have HQ:=Lib.hid hq
     have HG:=Lib.hid (rgot_not HWF.out ⟨#[44]⟩ kw_comma HJ.out.wd HJ.out.le hq)
     clear hq
     have hn1:=HJ.out.ne
     go_wp2_with fail
     go_at_call 97
     refine HG.out.mono ?_
     rintro e w5 ⟨rfl,hp5,hf5⟩
     have HP5:=Lib.hid hp5
     have HF5:=Lib.hid (HJ.out.fr.trans hf5)
     have HJ5:=Lib.hid (HJ.out.row.fr shGoV.stable HBO.out hf5)
     have HC5:Hid (Cont OT er2 (RowH 31 12 (GoalV d) wo.heap.size w5 s2 cap2 acc2 vs2 g2∧kr < k2∧tailG (joinO rG ts [44] 5) ts m (acc++[joinG 5 acc2]) k2=OT)):=Lib.hid (by
      rcases HJ.out.cont with ⟨rfl,h1,h2,h3,h4,h5⟩ | h
      ·obtain ⟨m2,rfl⟩:∃ q,m2=q+1:=⟨m2 - 1,by have:=HJ.out.le;omega⟩
       have h6:=HQ.out
       rw [isB_ok] at h6
       rw [tailA_no h6,HU.out] at h5
       exact .inl ⟨rfl,h1.fr (GoalV.stable d) HBO.out hf5,h2,h5⟩
      ·exact .inr h)
     have HK5:=Lib.hid HJ.out.le
     have hW5:w.heap.size+1≤w5.heap.size:=Nat.le_trans HI.out.sz HF5.out.size
     have HO5:=Lib.hid (own_fr HROW.out.own HF5.out (by have:=HBW.out;omega))
     clear hp5 hf5 HG
     have hacc2:=HAC.out
     rcases (show acc2.length=1 ∨ 1 < acc2.length by omega) with h1 | h1
     case' inl =>
      obtain ⟨y,rfl⟩:=list_one h1
      have hvl:=HJ5.out.items.length
      obtain ⟨v5,rfl⟩:=list_one hvl
      obtain ⟨⟨_,_,_,_,_,hsv⟩,_⟩:=HJ5.out.items
      have HSV:=Lib.hid hsv
      obtain ⟨q1,q2,q3,q4,q5,q6,q7,q8,q9,qa,qb,qc,qd,qe,qf,qg,qh,qi,qj,qk,rfl⟩:=hsv
      obtain rfl:=(row_one HJ5.out 0 (by decide)).1
      have c0:w5.cell? ⟨g2,0,none⟩=some (.int .i64 q1):=(row_one HJ5.out 0 (by decide)).2
      have c1:w5.cell? ⟨g2,1,none⟩=some (.int .i64 q2):=(row_one HJ5.out 1 (by decide)).2
      have c2:w5.cell? ⟨g2,2,none⟩=some (.string q3):=(row_one HJ5.out 2 (by decide)).2
      have c3:w5.cell? ⟨g2,3,none⟩=some (.int .i64 q4):=(row_one HJ5.out 3 (by decide)).2
      have c4:w5.cell? ⟨g2,4,none⟩=some (.slice q5 q6 q7):=(row_one HJ5.out 4 (by decide)).2
      have c5:w5.cell? ⟨g2,5,none⟩=some (.int .i64 q8):=(row_one HJ5.out 5 (by decide)).2
      have c6:w5.cell? ⟨g2,6,none⟩=some (.string q9):=(row_one HJ5.out 6 (by decide)).2
      have c7:w5.cell? ⟨g2,7,none⟩=some (.int .i64 qa):=(row_one HJ5.out 7 (by decide)).2
      have c8:w5.cell? ⟨g2,8,none⟩=some (.slice qb qc qd):=(row_one HJ5.out 8 (by decide)).2
      have c9:w5.cell? ⟨g2,9,none⟩=some (.string qe):=(row_one HJ5.out 9 (by decide)).2
      have c10:w5.cell? ⟨g2,10,none⟩=some (.slice qf qg qh):=(row_one HJ5.out 10 (by decide)).2
      have c11:w5.cell? ⟨g2,11,none⟩=some (.slice qi qj qk):=(row_one HJ5.out 11 (by decide)).2
      go_wp2_with (at_builtin;refine wpList_append_lies _ rfl _ _ 29 rfl (w.heap.size+1) 31 i0 (.agg #[.int .i64 0,.int .i64 0,.string ⟨#[]⟩,.int .i64 0,.slice none 0 0,.int .i64 0,.string ⟨#[]⟩,.int .i64 0,.slice none 0 0,.string ⟨#[]⟩,.slice none 0 0,.slice none 0 0]) 12 184 Tryz.underlying29 HI0.out HI1.out HI2.out HI3.out rfl (by decide) _ _ _ rfl (HO5.out.alloc _) ⟨w5.heap.size,0,none⟩ 1 1 [.int .i64 q1,.int .i64 q2,.string q3,.int .i64 q4,.slice q5 q6 q7,.int .i64 q8,.string q9,.int .i64 qa,.slice qb qc qd,.string qe,.slice qf qg qh,.slice qi qj qk] rfl rfl (cells_new _ #[.int .i64 q1,.int .i64 q2,.string q3,.int .i64 q4,.slice q5 q6 q7,.int .i64 q8,.string q9,.int .i64 qa,.slice qb qc qd,.string qe,.slice qf qg qh,.slice qi qj qk] _ _ rfl) (by simp [Value.oneCell']) (by decide) (by unfold maxLen;omega) (by omega) (by simp;omega) _ rfl ?_;intro g7 cap7 w7 hown7 hg7 hat7 _;have HOWN7:=Lib.hid hown7;have HG7:=Lib.hid hg7;have HAT7:=Lib.hid hat7;clear hown7 hg7 hat7)
      obtain ⟨x7,hn7⟩:=goE_next HP.out HI.out HF5.out HP5.out HK5.out (v:=.agg #[.int .i64 q1,.int .i64 q2,.string q3,.int .i64 q4,.slice q5 q6 q7,.int .i64 q8,.string q9,.int .i64 qa,.slice qb qc qd,.string qe,.slice qf qg qh,.slice qi qj qk]) HSV.out (HC5.out.imp (fun q=>by
       obtain ⟨h1,h2,h3⟩:=q
       obtain ⟨⟨p1,p2,p3,p4,p5,p6⟩,_⟩:=h1.items
       exact ⟨_,GoalV.succ _ _ _ _ _ _ (GoalV.wide _ _ _ _ _ _ _ _ p6 p3 p4),h2,h3⟩)) HOWN7.out HG7.out HAT7.out
      obtain ⟨v7,hv7⟩:∃ v7:Value,v7=.agg #[.int .i64 q1,.int .i64 q2,.string q3,.int .i64 q4,.slice q5 q6 q7,.int .i64 q8,.string q9,.int .i64 qa,.slice qb qc qd,.string qe,.slice qf qg qh,.slice qi qj qk]:=⟨_,rfl⟩
      rw [← hv7] at hn7
      clear hv7 HSV c0 c1 c2 c3 c4 c5 c6 c7 c8 c9 c10 c11
     case' inr =>
      have hgt:decide ((1:Int) < (acc2.length:Int))=true:=by simp;omega
      go_wp2_with (at_builtin;refine wpList_append_lies _ rfl _ _ 29 rfl (w.heap.size+1) 31 i0 (.agg #[.int .i64 0,.int .i64 0,.string ⟨#[]⟩,.int .i64 0,.slice none 0 0,.int .i64 0,.string ⟨#[]⟩,.int .i64 0,.slice none 0 0,.string ⟨#[]⟩,.slice none 0 0,.slice none 0 0]) 12 184 Tryz.underlying29 HI0.out HI1.out HI2.out HI3.out rfl (by decide) _ _ _ rfl (HO5.out.alloc _) ⟨w5.heap.size,0,none⟩ 1 1 [.int .i64 5,.int .i64 0,.string ⟨#[]⟩,.int .i64 0,.slice none 0 0,.int .i64 0,.string ⟨#[]⟩,.int .i64 0,.slice none 0 0,.string ⟨#[]⟩,.slice none 0 0,.slice s2 acc2.length cap2] rfl rfl (cells_new _ #[.int .i64 5,.int .i64 0,.string ⟨#[]⟩,.int .i64 0,.slice none 0 0,.int .i64 0,.string ⟨#[]⟩,.int .i64 0,.slice none 0 0,.string ⟨#[]⟩,.slice none 0 0,.slice s2 acc2.length cap2] _ _ rfl) (by simp [Value.oneCell']) (by decide) (by unfold maxLen;omega) (by omega) (by simp;omega) _ rfl ?_;intro g7 cap7 w7 hown7 hg7 hat7 _;have HOWN7:=Lib.hid hown7;have HG7:=Lib.hid hg7;have HAT7:=Lib.hid hat7;clear hown7 hg7 hat7)
      obtain ⟨x7,hn7⟩:=goE_next HP.out HI.out HF5.out HP5.out HK5.out (v:=.agg #[.int .i64 5,.int .i64 0,.string ⟨#[]⟩,.int .i64 0,.slice none 0 0,.int .i64 0,.string ⟨#[]⟩,.int .i64 0,.slice none 0 0,.string ⟨#[]⟩,.slice none 0 0,.slice s2 acc2.length cap2]) ⟨_,_,_,_,_,_,_,_,_,_,_,_,_,_,_,_,_,_,_,_,rfl⟩ (HC5.out.imp (fun q=>by
       obtain ⟨h1,h2,h3⟩:=q
       refine ⟨_,?_,h2,h3⟩
       rw [joinG_many (by omega)]
       exact ⟨_,_,_,_,_,_,_,_,_,_,rfl,zeroT_holds _ _ _,zeroT_holds _ _ _,.inl ⟨rfl,rfl⟩,h1.held⟩)) HOWN7.out HG7.out HAT7.out
      obtain ⟨v7,hv7⟩:∃ v7:Value,v7=.agg #[.int .i64 5,.int .i64 0,.string ⟨#[]⟩,.int .i64 0,.slice none 0 0,.int .i64 0,.string ⟨#[]⟩,.int .i64 0,.slice none 0 0,.string ⟨#[]⟩,.slice none 0 0,.slice s2 acc2.length cap2]:=⟨_,rfl⟩
      rw [← hv7] at hn7
      clear hv7 hgt
     all_goals
      have HN7:=Lib.hid hn7
      clear hn7 HOWN7 HG7 HAT7 HC5 HO5 HJ5 h1 hn1
      cases hs:isB ts k2 er2 [59] with
      | true =>
       obtain ⟨rfl,hh⟩:er2=0∧hasT ts k2 [59]=true:=by simpa [isB] using hs
       have HG:=Lib.hid (rgot_yes HWF.out ⟨#[59]⟩ kw_semi HN7.out.wd hh)
       have HH:=Lib.hid hh
       clear hs hh
       go_wp2_with fail
       go_at_call 97
       refine HG.out.mono ?_
       rintro e w8 ⟨rfl,hp8,hf8⟩
       obtain ⟨hkk,m8,hn8⟩:=goI_next HP.out HN7.out HH.out hf8 hp8
       have HN8:=Lib.hid hn8
       have HK8:=Lib.hid hkk
       clear hp8 hf8 hn8 hkk
       have hl2:(acc++[x7]).length=acc.length+1:=by simp
       go_wp2_with fail
       go_roundw
       case rel=>exact ⟨acc++[x7],_,_,_,cap7,_,_,_,by rw [hl2],HN8⟩
       case measure =>
        rw [← HWO.out,meas_on HI.out.wd,meas_on HN8.out.wd]
        have h3:=HK8.out
        have h4:=HK5.out
        omega
      | false =>
       have HG:=Lib.hid (rgot_not HWF.out ⟨#[59]⟩ kw_semi HN7.out.wd HN7.out.le hs)
       have HS:=Lib.hid hs
       clear hs
       go_wp2_with fail
       go_at_call 97
       refine HG.out.mono ?_
       rintro e w8 ⟨rfl,hp8,hf8⟩
       obtain ⟨hz8,hf9,hr8,hc8⟩:=goE_done HP.out HN7.out HS.out hf8
       have HP8:=Lib.hid hp8
       have HF9:=Lib.hid hf9
       have HR8:=Lib.hid hr8
       have HC8:=Lib.hid hc8
       have HZ8:=Lib.hid hz8
       have cz0:=(Lib.cell_of_heap hz8 0).trans rfl
       have cz1:=(Lib.cell_of_heap hz8 1).trans rfl
       have cz2:=(Lib.cell_of_heap hz8 2).trans rfl
       have cz3:=(Lib.cell_of_heap hz8 3).trans rfl
       have cz4:=(Lib.cell_of_heap hz8 4).trans rfl
       have cz5:=(Lib.cell_of_heap hz8 5).trans rfl
       have cz6:=(Lib.cell_of_heap hz8 6).trans rfl
       have cz7:=(Lib.cell_of_heap hz8 7).trans rfl
       have cz8:=(Lib.cell_of_heap hz8 8).trans rfl
       have cz9:=(Lib.cell_of_heap hz8 9).trans rfl
       have cz10:=(Lib.cell_of_heap hz8 10).trans rfl
       have cz11:=(Lib.cell_of_heap hz8 11).trans rfl
       have fz0:=Lib.frozen_of_heap hz8 0
       have fz1:=Lib.frozen_of_heap hz8 1
       have fz2:=Lib.frozen_of_heap hz8 2
       have fz3:=Lib.frozen_of_heap hz8 3
       have fz4:=Lib.frozen_of_heap hz8 4
       have fz5:=Lib.frozen_of_heap hz8 5
       have fz6:=Lib.frozen_of_heap hz8 6
       have fz7:=Lib.frozen_of_heap hz8 7
       have fz8:=Lib.frozen_of_heap hz8 8
       have fz9:=Lib.frozen_of_heap hz8 9
       have fz10:=Lib.frozen_of_heap hz8 10
       have fz11:=Lib.frozen_of_heap hz8 11
       clear hp8 hf8 hf9 hr8 hc8 HG
       by_cases hnil:acc=[]
       ·subst hnil
        have hvn:=HROW.out.items.length
        obtain rfl:=List.eq_nil_of_length_eq_zero hvn
        have hsh:=HN7.out.sh
        obtain ⟨p1,p2,p3,p4,p5,p6,p7,p8,p9,pa,pb,pc,pd,pe,pf,pg,ph,pi,pj,pk,rfl⟩:=hsh
        have c0:w8.cell? ⟨g7,0,none⟩=some (.int .i64 p1):=(row_one HR8.out 0 (by decide)).2
        have c1:w8.cell? ⟨g7,1,none⟩=some (.int .i64 p2):=(row_one HR8.out 1 (by decide)).2
        have c2:w8.cell? ⟨g7,2,none⟩=some (.string p3):=(row_one HR8.out 2 (by decide)).2
        have c3:w8.cell? ⟨g7,3,none⟩=some (.int .i64 p4):=(row_one HR8.out 3 (by decide)).2
        have c4:w8.cell? ⟨g7,4,none⟩=some (.slice p5 p6 p7):=(row_one HR8.out 4 (by decide)).2
        have c5:w8.cell? ⟨g7,5,none⟩=some (.int .i64 p8):=(row_one HR8.out 5 (by decide)).2
        have c6:w8.cell? ⟨g7,6,none⟩=some (.string p9):=(row_one HR8.out 6 (by decide)).2
        have c7:w8.cell? ⟨g7,7,none⟩=some (.int .i64 pa):=(row_one HR8.out 7 (by decide)).2
        have c8:w8.cell? ⟨g7,8,none⟩=some (.slice pb pc pd):=(row_one HR8.out 8 (by decide)).2
        have c9:w8.cell? ⟨g7,9,none⟩=some (.string pe):=(row_one HR8.out 9 (by decide)).2
        have c10:w8.cell? ⟨g7,10,none⟩=some (.slice pf pg ph):=(row_one HR8.out 10 (by decide)).2
        have c11:w8.cell? ⟨g7,11,none⟩=some (.slice pi pj pk):=(row_one HR8.out 11 (by decide)).2
        clear hz8
        go_wp2_with fail
        obtain ⟨t0,t1,t2,t3⟩:=rput12 HP.out HF9.out HP8.out HZ8.out (.int .i64 p1) (.int .i64 p2) (.string p3) (.int .i64 p4) (.slice p5 p6 p7) (.int .i64 p8) (.string p9) (.int .i64 pa) (.slice pb pc pd) (.string pe) (.slice pf pg ph) (.slice pi pj pk)
        refine bodyPost_ret (v:=.agg #[.int .i64 p1,.int .i64 p2,.string p3,.int .i64 p4,.slice p5 p6 p7,.int .i64 p8,.string p9,.int .i64 pa,.slice pb pc pd,.string pe,.slice pf pg ph,.slice pi pj pk]) (results_cell_row Tryz.results103 _ _ w.heap.size 31 #[.int .i64 p1,.int .i64 p2,.string p3,.int .i64 p4,.slice p5 p6 p7,.int .i64 p8,.string p9,.int .i64 pa,.slice pb pc pd,.string pe,.slice pf pg ph,.slice pi pj pk] (0,0) _ rfl t0 Tryz.underlying31 rfl infoGo12) rfl (rends_of HN7.out.le ⟨_,_,_,_,_,_,_,_,_,_,_,_,_,_,_,_,_,_,_,_,rfl⟩ t1 t2 (HC8.out.imp (fun q=>?_)))
        obtain ⟨h1,h2⟩:=q
        obtain ⟨⟨p1,p2,p3,p4,p5,p6⟩,_⟩:=h1.items
        refine ⟨_,?_,h2⟩
        exact GoalV.succ _ _ _ _ _ _ (GoalV.wide _ _ _ _ _ _ _ _ (hi_goal p6 p3 t3) (by omega) (by rw [t3.size];exact p4))
       ·have hlen:(((acc.length+1:Nat):Int) == 1)=false:=by
         have:acc.length ≠ 0:=fun e=>hnil (List.eq_nil_of_length_eq_zero e)
         simp;omega
        have hlen2:((acc.length:Int)+1 == 1)=false:=by
         have:acc.length ≠ 0:=fun e=>hnil (List.eq_nil_of_length_eq_zero e)
         simp;omega
        clear hz8
        go_wp2_with fail
        obtain ⟨t0,t1,t2,t3⟩:=rput12 HP.out HF9.out HP8.out HZ8.out (.int .i64 6) (.int .i64 0) (.string ⟨#[]⟩) (.int .i64 0) (.slice none 0 0) (.int .i64 0) (.string ⟨#[]⟩) (.int .i64 0) (.slice none 0 0) (.string ⟨#[]⟩) (.slice none 0 0) (.slice (some ⟨g7,0,none⟩) (acc.length+1) cap7)
        refine bodyPost_ret (v:=.agg #[.int .i64 6,.int .i64 0,.string ⟨#[]⟩,.int .i64 0,.slice none 0 0,.int .i64 0,.string ⟨#[]⟩,.int .i64 0,.slice none 0 0,.string ⟨#[]⟩,.slice none 0 0,.slice (some ⟨g7,0,none⟩) (acc.length+1) cap7]) (results_cell_row Tryz.results103 _ _ w.heap.size 31 #[.int .i64 6,.int .i64 0,.string ⟨#[]⟩,.int .i64 0,.slice none 0 0,.int .i64 0,.string ⟨#[]⟩,.int .i64 0,.slice none 0 0,.string ⟨#[]⟩,.slice none 0 0,.slice (some ⟨g7,0,none⟩) (acc.length+1) cap7] (0,0) _ rfl t0 Tryz.underlying31 rfl infoGo12) rfl (rends_of HN7.out.le ⟨_,_,_,_,_,_,_,_,_,_,_,_,_,_,_,_,_,_,_,_,rfl⟩ t1 t2 (HC8.out.imp (fun q=>?_)))
        obtain ⟨h1,h2⟩:=q
        rw [joinG_many (by have:acc.length ≠ 0:=fun e=>hnil (List.eq_nil_of_length_eq_zero e);simp;omega)] at h2
        refine ⟨_,?_,h2⟩
        have h3:=h1.held
        rw [show (acc++[x7]).length=acc.length+1 by simp] at h3
        exact ⟨_,_,_,_,_,_,_,_,_,_,rfl,zeroT_holds _ _ _,zeroT_holds _ _ _,.inl ⟨rfl,rfl⟩,((hi_row (GoalV.stable _) h3 (Nat.le_refl _) t3).wide (by omega) (by rw [t3.size];exact Nat.le_refl _))⟩
end Lx
end Go.Proofs.YtajomoclbpobhaaGreatDoor
namespace Go.Proofs.YtajomoclbpobhaaGreatDoor
set_option linter.unusedSimpArgs false
set_option linter.unusedVariables false
namespace Lx
open Go Go.RowKit
section
variable {α β:Type} {b:Nat} {A:Option Addr} {c:Nat} {ts:List Tok}
theorem no_ne {i:Nat} {P:Prop} (h:(Out.no (i+1):Out β)=.no i):P:=by
 injection h with h
 omega
theorem GenC.contQ {F:Nat} {args:Array Value} {V:Holds α} {Sh:Value→Prop} {rd:Nat→Out α} (hG:GenC F args b A c ts V Sh rd) (hF:Fwd ts rd) (hS:∀ x v lo hi w,V x v lo hi w→Sh v) {OT:Out β} {f:α→Nat→Out β} {w:World} {k:Nat} {er:Int} {Q:Prop}
  (h:Rd w b A c ts k er) (hk:k≤ts.length) (hc:Cont OT er (Q∧bindO (rd k) f=OT)) :
  Calls Tryz.prog F args w fun e w'=>∃ v k' er',e=.returned v∧Sh v∧k'≤ts.length∧Rd w' b A c ts k' er'∧PFr b w w'∧Cont OT er' (Q∧∃ x,V x v w.heap.size w'.heap.size w'∧k < k'∧f x k'=OT):=by
 rcases hc with ⟨rfl,q,h1⟩ | ⟨i,rfl,rfl⟩
 ·refine (hG.cont hF hS h hk (.inl ⟨rfl,h1⟩)).mono ?_
  rintro e w' ⟨v,k',er',rfl,h2,h3,h4,h5,h6⟩
  exact ⟨v,k',er',rfl,h2,h3,h4,h5,h6.imp (fun p=>⟨q,p⟩)⟩
 ·refine (hG.cont (OT:=(.no i:Out β)) (f:=fun _ _=>.no (i+1)) hF hS h hk (.inr ⟨i,rfl,rfl⟩)).mono ?_
  rintro e w' ⟨v,k',er',rfl,h2,h3,h4,h5,h6⟩
  exact ⟨v,k',er',rfl,h2,h3,h4,h5,h6.imp (fun ⟨_,_,_,p⟩=>no_ne p)⟩
theorem rvar_contQ {OT:Out β} {f:List UInt8→Nat→Out β} {w:World} {k:Nat} {er:Int} {Q:Prop} (h:Rd w b A c ts k er) (hk:k≤ts.length) (hc:Cont OT er (Q∧bindO (varO ts k) f=OT)) :
  Calls Tryz.prog 98 #[.pointer (some ⟨b,0,none⟩),.int .i64 2] w fun e w'=>∃ y k' er',e=.returned (.string y)∧k'≤ts.length∧Rd w' b A c ts k' er'∧PFr b w w'∧Cont OT er' (Q∧∃ s,y=bs s∧k < k'∧f s k'=OT):=by
 rcases hc with ⟨rfl,q,h1⟩ | ⟨i,rfl,rfl⟩
 ·refine (rvar_cont h hk (.inl ⟨rfl,h1⟩)).mono ?_
  rintro e w' ⟨y,k',er',rfl,h3,h4,h5,h6⟩
  exact ⟨y,k',er',rfl,h3,h4,h5,h6.imp (fun p=>⟨q,p⟩)⟩
 ·refine (rvar_cont (OT:=(.no i:Out β)) (f:=fun _ _=>.no (i+1)) h hk (.inr ⟨i,rfl,rfl⟩)).mono ?_
  rintro e w' ⟨y,k',er',rfl,h3,h4,h5,h6⟩
  exact ⟨y,k',er',rfl,h3,h4,h5,h6.imp (fun ⟨_,_,_,p⟩=>no_ne p)⟩
theorem rneed_contQ (hw:WF ts) {OT:Out β} {f:Nat→Out β} {w:World} {k:Nat} {er:Int} {Q:Prop} (s:ByteArray) (hs:KW s.data.toList) (h:Rd w b A c ts k er) (hk:k≤ts.length) (hc:Cont OT er (Q∧bindO (expO ts k s.data.toList) (fun _ k'=>f k')=OT)) :
  Calls Tryz.prog 59 #[.pointer (some ⟨b,0,none⟩),.string s] w fun e w'=>∃ k' er',e=.returned (.tuple #[])∧k'≤ts.length∧Rd w' b A c ts k' er'∧PFr b w w'∧Cont OT er' (Q∧k < k'∧f k'=OT):=by
 rcases hc with ⟨rfl,q,h1⟩ | ⟨i,rfl,rfl⟩
 ·refine (rneed_cont hw s hs h hk (.inl ⟨rfl,h1⟩)).mono ?_
  rintro e w' ⟨k',er',rfl,h3,h4,h5,h6⟩
  exact ⟨k',er',rfl,h3,h4,h5,h6.imp (fun p=>⟨q,p⟩)⟩
 ·refine (rneed_cont (OT:=(.no i:Out β)) (f:=fun _=>.no (i+1)) hw s hs h hk (.inr ⟨i,rfl,rfl⟩)).mono ?_
  rintro e w' ⟨k',er',rfl,h3,h4,h5,h6⟩
  exact ⟨k',er',rfl,h3,h4,h5,h6.imp (fun ⟨_,p⟩=>no_ne p)⟩
end
/-- A prim behind its nest. -/
def primR (ts:List Tok) (m:Nat) (ne:Int) (k:Nat):Out GoalT :=
 if hasT ts k [116,114,117,101]=true then .ok (.mk 1 zeroT zeroT [] [] []) (k+1)
 else if hasT ts k [102,97,105,108]=true then .ok (.mk 2 zeroT zeroT [] [] []) (k+1)
 else if hasT ts k [110,111,116]=true then bindO (primO ts m (ne+1) (k+1)) (fun g k'=>.ok (.mk 7 zeroT zeroT [] [] [g]) k')
 else if hasT ts k [116,104,114,111,119]=true then bindO (termO ts 66 (ne+1) (k+1)) (fun t k'=>.ok (.mk 8 t zeroT [] [] []) k')
 else if hasT ts k [116,114,121]=true then bindO (primO ts m (ne+1) (k+1)) (fun g k1=>bindO (expO ts k1 [99,97,116,99,104]) (fun _ k2=>bindO (varO ts k2) (fun s k3=>bindO (expO ts k3 [116,104,101,110]) (fun _ k4=>bindO (primO ts m (ne+1) k4) (fun g2 k5=>.ok (.mk 9 zeroT zeroT s [] [g,g2]) k5)))))
 else if hasT ts k [40]=true then bindO (goalO (primO ts m (ne+1)) ts (k+1)) (fun g k'=>bindO (expO ts k' [41]) (fun _ k2=>.ok g k2))
 else bindO (termO ts 66 (ne+1) k) (fun t k1=>if hasT ts k1 [61]=true then bindO (termO ts 66 (ne+1) (k1+1)) (fun u k2=>.ok (.mk 3 t u [] [] []) k2) else if t.kind=3 then .ok (.mk 4 zeroT zeroT t.name t.args []) k1 else .no 2)
theorem guardO_eq (rd:Nat→Out GoalT) (ts:List Tok) (k:Nat):guardO rd ts k=bindO (rd k) (fun g k1=>bindO (expO ts k1 [99,97,116,99,104]) (fun _ k2=>bindO (varO ts k2) (fun s k3=>bindO (expO ts k3 [116,104,101,110]) (fun _ k4=>bindO (rd k4) (fun g2 k5=>.ok (.mk 9 zeroT zeroT s [] [g,g2]) k5))))):=by
 unfold guardO
 cases rd k with
 | no i=>rfl
 | ok g k1 =>
  show _=bindO (expO ts k1 [99,97,116,99,104]) _
  dsimp only
  cases expO ts k1 [99,97,116,99,104] with
  | no i=>rfl
  | ok u k2 =>
   show _=bindO (varO ts k2) _
   dsimp only
   cases varO ts k2 with
   | no i=>rfl
   | ok s k3 =>
    show _=bindO (expO ts k3 [116,104,101,110]) _
    dsimp only
    cases expO ts k3 [116,104,101,110] with
    | no i=>rfl
    | ok u k4 =>
     show _=bindO (rd k4) _
     dsimp only
     cases rd k4 <;> rfl
theorem uocO_eq (rdT:Nat→Out TermT) (ts:List Tok) (k:Nat):uocO rdT ts k=bindO (rdT k) (fun t k1=>if hasT ts k1 [61]=true then bindO (rdT (k1+1)) (fun u k2=>.ok (.mk 3 t u [] [] []) k2) else if t.kind=3 then .ok (.mk 4 zeroT zeroT t.name t.args []) k1 else .no 2):=by
 unfold uocO
 cases rdT k with
 | no i=>rfl
 | ok t k1 =>
  show _=(if _ then _ else _)
  dsimp only
  split
  ·cases rdT (k1+1) <;> rfl
  ·rfl
theorem primO_eq (ts:List Tok) (m:Nat) (ne:Int) (k:Nat):primO ts (m+1) ne k=bindO (enterO ts k ne) (fun _ _=>primR ts m ne k):=by
 rw [primO]
 cases enterO ts k ne with
 | no i=>rfl
 | ok u k' =>
  show _=primR ts m ne k
  unfold primR
  rw [guardO_eq,uocO_eq]
  dsimp only
  repeat' split
  all_goals first | rfl | skip
  all_goals (first | (simp_all [bindO];done) | skip)
/-- Behind nest: what is left to be read. -/
theorem prim_start {ts:List Tok} {m:Nat} {ne:Int} {k:Nat} {er0 er:Int} {OT:Out GoalT} (hc:Cont OT er0 (primO ts (m+1) ne k=OT)) (hN:nestE ts k er0 (ne+1)=er):Cont OT er ((k < ts.length→ne < 64)∧primR ts m ne k=OT):=by
 subst hN
 rcases hc with ⟨rfl,h1⟩ | ⟨i,rfl,rfl⟩
 ·rw [primO_eq] at h1
  unfold enterO at h1
  unfold nestE
  by_cases h:64 < ne+1∧k < ts.length
  ·rw [if_pos h] at h1
   rw [if_pos ⟨h.1,doneB_in h.2⟩]
   exact .inr ⟨0,rfl,h1.symm⟩
  ·rw [if_neg h] at h1
   rw [if_neg (fun q=>h ⟨q.1,by
    rcases Nat.lt_or_ge k ts.length with hl | hl
    ·exact hl
    ·rw [doneB_out hl] at q
     cases q.2⟩)]
   exact .inl ⟨rfl,fun hl=>by
    rcases Int.lt_or_le ne 64 with h2 | h2
    ·exact h2
    ·exact absurd ⟨by omega,hl⟩ h,h1⟩
 ·rw [nestE_err (erN_ne i)]
  exact .inr ⟨i,rfl,rfl⟩
end Lx
end Go.Proofs.YtajomoclbpobhaaGreatDoor
