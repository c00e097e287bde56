/- Terms as memory holds them, by the blocks that nobody writes; what the reader of a text made is held so. No program stands in this text; conditions: as each states. -/
import Derived.Test.YtiljemkglhloeaaGreatDoorUxA
import Derived.Test.YtiljemkglhloeaaGreatDoorParTerm
import Derived.Test.YtiljemkglhloeaaGreatDoorSameA
namespace Go.Proofs.YtiljemkglhloeaaGreatDoor
set_option linter.unusedSimpArgs false
set_option linter.unusedVariables false
namespace Lx
open Go Go.RowKit
def TermT.kd:TermT→Int | .mk k _ _ _=>k
def TermT.nm:TermT→List UInt8 | .mk _ s _ _=>s
def TermT.nu:TermT→Int | .mk _ _ z _=>z
def TermT.rw:TermT→List TermT | .mk _ _ _ l=>l
/-- A term, so many rows deep. -/
def TmW:Nat→HoldW TermT
 | 0=>fun _ _ _ _=>False
 | d+1=>fun Vol x v w=>match x with
  | .mk k s z l=>∃ va,v=.agg #[.int .i64 k,.string (bs s),.int .i64 z,va]∧RowW 4 (TmW d) Vol l va w
theorem TmW.step:∀ d,StepW (TmW d)
 | 0=>fun _ _ _ _ _ _ h _ _=>h.elim
 | d+1=>by
  rintro Vol Vol' ⟨k,s,z,l⟩ v w w' ⟨va,rfl,h⟩ hk hv
  exact ⟨va,rfl,RowW.step (TmW.step d) _ _ _ _ _ _ h hk hv⟩
theorem TmW.this {d:Nat} {Vol:Nat→Prop} {x:TermT} {v:Value} {w:World} (h:TmW d Vol x v w):∃ A n c,v=.agg #[.int .i64 x.kd,.string (bs x.nm),.int .i64 x.nu,.slice A n c]:=by
 cases d with
 | zero=>exact h.elim
 | succ d =>
  obtain ⟨k,s,z,l⟩:=x
  obtain ⟨va,rfl,h1⟩:=h
  obtain ⟨A,c',rfl⟩:=h1.slice
  exact ⟨A,_,c',rfl⟩
theorem TmW.shape {d:Nat} {Vol:Nat→Prop} {x:TermT} {v:Value} {w:World} (h:TmW d Vol x v w):∃ p q z s n c,v=.agg #[.int .i64 p,.string q,.int .i64 z,.slice s n c]:=by
 obtain ⟨A,n,c,rfl⟩:=h.this
 exact ⟨_,_,_,_,_,_,rfl⟩
theorem tmCells (d:Nat) (Vol:Nat→Prop) (x:TermT) (v:Value) (w:World) (h:TmW d Vol x v w):(cellsL v).length=4:=by
 obtain ⟨A,n,c,rfl⟩:=h.this
 rfl
theorem RowW.ofV {α:Type} {t:TypeId} {sz:Nat} {V:Holds α} {VW:HoldW α} {Vol:Nat→Prop} (hsz:∀ x v lo hi w,V x v lo hi w→(cellsL v).length=sz)
  {l:List α} {v:Value} {lo hi:Nat} {w:World} (h:ArgsV t sz V l v lo hi w) (hn:∀ k,lo≤k→k < hi→¬ Vol k)
  (hV:∀ x v p q,lo≤p→q≤hi→V x v p q w→VW Vol x v w):RowW sz VW Vol l v w:=by
 rcases h with ⟨rfl,rfl⟩ | ⟨g,cap,vs,rfl,hg,hown,hit⟩
 ·exact RowW.nil _ _
 ·have hl:=hit.length
  rcases hown.2 with ⟨e,_⟩ | ⟨g',cap',cur,e,hlo,hb,h1,h2,h5,h6⟩
  ·cases e
  ·injection e with e1 e2 e3
   have e4:g=g':=by injection e1 with e1;injection e1
   subst e4 e3
   refine ⟨_,cap,rfl,h1,h2,fun i hi'=>?_⟩
   obtain ⟨p,q,a1,a2,a3⟩:=hit.at i hi' (by omega)
   refine ⟨g,0,vs[i]'(by omega),rfl,(Array.getElem?_eq_some_iff.1 hb).1,hn g hlo hg,hV _ _ _ _ a1 a2 a3,fun j hj=>?_⟩
   have hbd:i * sz+j < l.length * sz:=by
    have:(i+1) * sz≤l.length * sz:=Nat.mul_le_mul_right sz hi'
    rw [Nat.succ_mul] at this
    omega
   rw [Nat.zero_add,hown.cellAt _ hbd]
   exact flat_at sz vs (Items.mem (fun x v p q h=>hsz x v p q w h) hit) i j (by omega) hj
theorem TmW.ofV:∀ (d:Nat) {x:TermT} {v:Value} {lo hi:Nat} {w:World} {Vol:Nat→Prop},TermV d x v lo hi w→(∀ k,lo≤k→k < hi→¬ Vol k)→TmW d Vol x v w
 | 0,_,_,_,_,_,_,h,_=>h.elim
 | d+1,⟨k,s,z,l⟩,_,_,_,_,_,⟨va,rfl,ha⟩,hn =>
  ⟨va,rfl,RowW.ofV (fun x v lo hi w h=>by obtain ⟨_,_,_,_,_,_,rfl⟩:=TermV.this d _ _ _ _ _ h;rfl) ha hn (fun x v p q h1 h2 h=>TmW.ofV d h (fun k a b=>hn k (by omega) (by omega)))⟩
def TmE:HoldW TermT:=fun Vol x v w=>∃ d,TmW d Vol x v w
theorem TmE.step:StepW TmE:=fun _ _ _ _ _ _ ⟨d,h⟩ hk hv=>⟨d,TmW.step d _ _ _ _ _ _ h hk hv⟩
theorem TmE.this {Vol:Nat→Prop} {x:TermT} {v:Value} {w:World} (h:TmE Vol x v w):∃ A n c,v=.agg #[.int .i64 x.kd,.string (bs x.nm),.int .i64 x.nu,.slice A n c]:=by
 obtain ⟨d,h⟩:=h
 exact h.this
end Lx
end Go.Proofs.YtiljemkglhloeaaGreatDoor
