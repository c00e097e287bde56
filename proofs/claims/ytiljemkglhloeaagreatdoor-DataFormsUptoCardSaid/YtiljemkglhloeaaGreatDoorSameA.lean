/- What a row of things gives at a place: the cells of one thing; and that a row stands where only new blocks have come. No program stands in this text; no conditions. -/
import Derived.Test.YtiljemkglhloeaaGreatDoorItemA
namespace Go.Proofs.YtiljemkglhloeaaGreatDoor
set_option linter.unusedSimpArgs false
set_option linter.unusedVariables false
namespace Lx
open Go Go.RowKit
theorem flat_at (sz:Nat):∀ (vs:List Value),(∀ v ∈ vs,(cellsL v).length=sz)→∀ (i j:Nat) (h:i < vs.length),j < sz→(vs.flatMap cellsL)[i * sz+j]?=(cellsL vs[i])[j]?
 | [],_,i,_,h,_=>by simp at h
 | v :: vs,hl,0,j,_,hj=>by
  rw [List.flatMap_cons,Nat.zero_mul,Nat.zero_add,List.getElem?_append_left (by rw [hl v (by simp)];exact hj)]
  rfl
 | v :: vs,hl,i+1,j,h,hj=>by
  have hv:=hl v (by simp)
  rw [List.flatMap_cons,List.getElem?_append_right (by rw [hv,Nat.succ_mul];omega),hv,show (i+1) * sz+j - sz=i * sz+j by rw [Nat.succ_mul];omega]
  exact flat_at sz vs (fun u hu=>hl u (by simp [hu])) i j (by simpa using h) hj
theorem Items.at {α:Type} {V:Holds α} {lo hi own:Nat} {w:World}:∀ {l:List α} {vs:List Value},Items V lo hi own w l vs→∀ (i:Nat) (h:i < l.length) (h':i < vs.length),∃ p q,lo≤p∧q≤hi∧V l[i] vs[i] p q w
 | [],[],_,i,h,_=>by simp at h
 | _ :: _,_ :: _,⟨⟨p,q,a1,a2,_,a4⟩,_⟩,0,_,_=>⟨p,q,a1,a2,a4⟩
 | _ :: _,_ :: _,⟨_,a5⟩,i+1,h,h'=>Items.at a5 i (by simpa using h) (by simpa using h')
 | [],_ :: _,h,_,_,_=>h.elim
 | _ :: _,[],h,_,_,_=>h.elim
theorem Items.mem {α:Type} {V:Holds α} {lo hi own:Nat} {w:World} {P:Value→Prop} (hP:∀ x v p q,V x v p q w→P v):∀ {l:List α} {vs:List Value},Items V lo hi own w l vs→∀ v ∈ vs,P v
 | [],[],_,_,h=>by simp at h
 | _ :: _,_ :: _,⟨⟨p,q,_,_,_,a4⟩,a5⟩,v,h=>by
  rcases List.mem_cons.1 h with rfl | h
  ·exact hP _ _ _ _ a4
  ·exact Items.mem hP a5 v h
 | [],_ :: _,h,_,_=>h.elim
 | _ :: _,[],h,_,_=>h.elim
/-- A row's slice, and what stands at each place. -/
theorem ArgsV.at {α:Type} {t:TypeId} {sz:Nat} {V:Holds α} (hsz:∀ x v lo hi w,V x v lo hi w→(cellsL v).length=sz) (h0:0 < sz) {l:List α} {v:Value} {lo hi:Nat} {w:World} (h:ArgsV t sz V l v lo hi w) :
  ∃ A c,v=.slice A l.length c∧∀ (i:Nat) (hi':i < l.length),∃ g vi p q,A=some ⟨g,0,none⟩∧lo≤p∧q≤hi∧V l[i] vi p q w∧∀ j,j < sz→w.cell? ⟨g,i * sz+j,none⟩=(cellsL vi)[j]?:=by
 rcases h with ⟨rfl,rfl⟩ | ⟨g,cap,vs,rfl,_,hown,hit⟩
 ·exact ⟨none,0,rfl,fun i hi'=>by simp at hi'⟩
 ·refine ⟨_,cap,rfl,fun i hi'=>?_⟩
  have hl:=hit.length
  obtain ⟨p,q,a1,a2,a3⟩:=hit.at i hi' (by omega)
  refine ⟨g,vs[i]'(by omega),p,q,rfl,a1,a2,a3,fun j hj=>?_⟩
  have hb:i * sz+j < l.length * sz:=by
   have:(i+1) * sz≤l.length * sz:=Nat.mul_le_mul_right sz hi'
   rw [Nat.succ_mul] at this
   omega
  rw [hown.cellAt _ hb]
  exact flat_at sz vs (Items.mem (fun x v p q h=>hsz x v p q w h) hit) i j (by omega) hj
theorem ArgsV.few {α:Type} {t:TypeId} {sz:Nat} {V:Holds α} {l:List α} {v:Value} {lo hi:Nat} {w:World} (h:ArgsV t sz V l v lo hi w):l.length≤maxLen:=by
 rcases h with ⟨rfl,rfl⟩ | ⟨g,cap,vs,rfl,_,hown,hit⟩
 ·exact Nat.zero_le _
 ·rcases hown.2 with ⟨h,_⟩ | ⟨g',cap',cur,h,_,_,h1,h2,_⟩
  ·cases h
  ·omega
theorem TermV.cells {d:Nat} {x:TermT} {v:Value} {lo hi:Nat} {w:World} (h:TermV d x v lo hi w):(cellsL v).length=4:=by
 obtain ⟨p,q,z,s,n,c,rfl⟩:=h.shape
 rfl
theorem TypeV.cells {d:Nat} {x:TypeT} {v:Value} {lo hi:Nat} {w:World} (h:TypeV d x v lo hi w):(cellsL v).length=3:=by
 obtain ⟨_,_,_,_,_,rfl⟩:=TypeV.this d _ _ _ _ _ h
 rfl
theorem GoalV.cells {d:Nat} {x:GoalT} {v:Value} {lo hi:Nat} {w:World} (h:GoalV d x v lo hi w):(cellsL v).length=12:=by
 obtain ⟨_,_,_,_,_,_,_,_,_,_,_,_,_,_,_,_,_,_,_,_,rfl⟩:=GoalV.this d _ _ _ _ _ h
 rfl
end Lx
end Go.Proofs.YtiljemkglhloeaaGreatDoor
