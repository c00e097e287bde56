/- Package unify: a table in memory, some of whose unknowns are bound; what its types say of what all unknowns are. Conditions: as each states. -/
import Derived.Test.YtnpacamcgifabaaDoorVxA
import Derived.Test.YtnpacamcgifabaaDoorUm
import Derived.BigRegion
namespace Go.Proofs.YtnpacamcgifabaaDoor
set_option linter.unusedSimpArgs false
set_option linter.unusedVariables false
namespace Lx
open Go Go.RowKit
/-- The types to which unknowns are bound, and what they come to. -/
structure Bds (m:Nat) (r:Rho) (Bd:Nat→Option TyT) (rk:Nat→Nat):Prop where
 res:Res m r
 free:∀ i,i < m→Bd i=none→r i=fr i
 bound:∀ i t,i < m→Bd i=some t→goodT m t∧r i=sub r t∧r i ≠ fr i
 rank:∀ i u,i < m→Bd i=some (fr u)→rk u < rk i
/-- Where one unknown leads to another bound one, its way may be halved. -/
theorem Bds.half {m:Nat} {r:Rho} {Bd:Nat→Option TyT} {rk:Nat→Nat} (h:Bds m r Bd rk) {u x:Nat} {t:TyT} (hu:u < m) (hx:x < m) (e1:Bd u=some (fr x)) (e2:Bd x=some t):Bds m r (fun i=>if i=u then some t else Bd i) rk:=by
 refine ⟨h.res,fun i hi e=>?_,fun i t' hi e=>?_,fun i w hi e=>?_⟩
 ·by_cases e3:i=u
  ·simp [e3] at e
  ·simp [e3] at e
   exact h.free i hi e
 ·by_cases e3:i=u
  ·subst e3
   simp only [if_true,Option.some.injEq] at e
   subst e
   obtain ⟨_,q1,q2⟩:=h.bound i _ hi e1
   obtain ⟨p0,p1,_⟩:=h.bound x _ hx e2
   exact ⟨p0,by rw [q1,sub_fr,p1],q2⟩
  ·simp [e3] at e
   exact h.bound i t' hi e
 ·by_cases e3:i=u
  ·subst e3
   simp only [if_true,Option.some.injEq] at e
   subst e
   exact Nat.lt_trans (h.rank x w hx e2) (h.rank i x hi e1)
  ·simp [e3] at e
   exact h.rank i w hi e
/-- The address of a table's row: none, if it has no unknowns. -/
def gA (g m:Nat):Option Addr:=if m=0 then none else some ⟨g,0,none⟩
theorem gA_pos {g m i:Nat} (h:i < m):gA g m=some ⟨g,0,none⟩:=if_neg (by omega)
/-- The four cells of an unknown's type. -/
def EntT (Vol:Nat→Prop) (t:Option TyT) (g i:Nat) (w:World):Prop:=match t with
 | none=>w.cell? ⟨g,i * 6,none⟩=some (.int .i64 0)
 | some t=>t.kind ≠ 0∧∃ d v,TyW d Vol t v w∧∀ j,j < 4→w.cell? ⟨g,i * 6+j,none⟩=(cellsL v)[j]?
structure TabT (Vol:Nat→Prop) (b g m cap:Nat) (Bd:Nat→Option TyT) (w:World):Prop where
 blk:w.heap[b]?=some (.cells #[.slice (gA g m) m cap] 86 (0,0))
 row:∃ cs,w.heap[g]?=some (.cells cs 89 (0,0))∧m * 6≤cs.size
 ent:∀ i,i < m→EntT Vol (Bd i) g i w
 volg:Vol g
 volb:¬ Vol b
section
variable {Vol Vol':Nat→Prop} {b g m cap:Nat} {Bd:Nat→Option TyT} {w w':World}
theorem EntT.step {t:Option TyT} {i:Nat} (h:EntT Vol t g i w) (hg:g < w.heap.size) (hk:Kb Vol w w') (hv:∀ k,k < w.heap.size→Vol' k→Vol k) (he:w'.heap[g]?=w.heap[g]?):EntT Vol' t g i w':=by
 cases t with
 | none =>
  show w'.cell? _=_
  rw [World.cell?_of_block he]
  exact h
 | some t =>
  obtain ⟨h0,d,v,h1,h2⟩:=h
  exact ⟨h0,d,v,TyW.step d _ _ _ _ _ _ h1 hk hv,fun j hj=>by rw [World.cell?_of_block he];exact h2 j hj⟩
theorem TabT.blkP (h:TabT Vol b g m cap Bd w) {i:Nat} (hi:i < m):w.heap[b]?=some (.cells #[.slice (some ⟨g,0,none⟩) m cap] 86 (0,0)):=by
 have:=h.blk
 rwa [gA_pos hi] at this
theorem TabT.glt (h:TabT Vol b g m cap Bd w):g < w.heap.size:=by
 obtain ⟨cs,h1,_⟩:=h.row
 exact (Array.getElem?_eq_some_iff.1 h1).1
theorem TabT.blt (h:TabT Vol b g m cap Bd w):b < w.heap.size:=(Array.getElem?_eq_some_iff.1 h.blk).1
theorem TabT.below (h:TabT Vol b g m cap Bd w) (hb:Below w.heap.size w w'):TabT Vol b g m cap Bd w':=by
 obtain ⟨cs,h1,h2⟩:=h.row
 exact ⟨(hb.block b h.blt).trans h.blk,⟨cs,(hb.block g h.glt).trans h1,h2⟩,fun i hi=>(h.ent i hi).step h.glt (Kb.of_below hb) (fun _ _ e=>e) (hb.block g h.glt),h.volg,h.volb⟩
theorem TabT.tab (h:TabT Vol b g m cap Bd w):TabC b m w:=⟨h.blt,_,_,(cellH h.blk 0).trans rfl⟩
end
/-- What a head changes: the types of unknowns alone. -/
structure HeadK (g:Nat) (w w':World):Prop where
 kb:Kb (fun k=>k=g) w w'
 rest:∀ i j,4≤j→j < 6→w'.cell? ⟨g,i * 6+j,none⟩=w.cell? ⟨g,i * 6+j,none⟩
theorem HeadK.refl (g:Nat) (w:World):HeadK g w w:=⟨Kb.refl _ _,fun _ _ _ _=>rfl⟩
theorem HeadK.trans {g:Nat} {a b c:World} (h:HeadK g a b) (k:HeadK g b c):HeadK g a c:=⟨h.kb.trans k.kb,fun i j h1 h2=>(k.rest i j h1 h2).trans (h.rest i j h1 h2)⟩
theorem HeadK.of_below {g:Nat} {a b:World} (hg:g < a.heap.size) (h:Below a.heap.size a b):HeadK g a b:=⟨Kb.of_below h,fun i j _ _=>World.cell?_of_block (h.block g hg)⟩
theorem cell_set_other (w:World) (g q:Nat) (v:Value) (o:Nat) (h:o ≠ q):(w.setCell ⟨g,q,none⟩ v).cell? ⟨g,o,none⟩=w.cell? ⟨g,o,none⟩:=by
 simp only [World.cell?,World.setCell,Array.getElem?_modify]
 by_cases hg:g < w.heap.size
 ·rw [Array.getElem?_eq_getElem hg]
  cases he:w.heap[g] <;> simp [Ne.symm h]
 ·simp [Array.getElem?_eq_none (Nat.not_lt.1 hg)]
end Lx
end Go.Proofs.YtnpacamcgifabaaDoor
