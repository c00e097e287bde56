/- Package unify: use in general: an unknown is noted with each one in the type to which it is bound. Conditions: as each states. -/
import Derived.Test.YtnpacamcgifabaaDoorVk
import Derived.BigRegion
namespace Go.Proofs.YtnpacamcgifabaaDoor
set_option linter.unusedSimpArgs false
set_option linter.unusedVariables false
namespace Lx
open Go Go.RowKit
mutual
theorem occ_le (v:Nat):∀ t,occT v t≤sizeT t
 | .mk k s n l=>by
  rw [occT,sizeT]
  have:=occs_le v l
  split
  ·split <;> omega
  ·omega
theorem occs_le (v:Nat):∀ l,occTs v l≤sizeTs l
 | []=>by rw [occTs];exact Nat.zero_le _
 | x :: l=>by
  rw [occTs,sizeTs]
  have:=occ_le v x
  have:=occs_le v l
  omega
end
theorem occs_snoc (v:Nat):∀ (a:List TyT) (x:TyT),occTs v (a++[x])=occTs v a+occT v x
 | [],x=>by simp [occTs]
 | y :: a,x=>by simp [occTs,occs_snoc v a x,Nat.add_assoc]
theorem sizes_snoc:∀ (a:List TyT) (x:TyT),sizeTs (a++[x])=sizeTs a+sizeT x
 | [],x=>by simp [sizeTs]
 | y :: a,x=>by simp [sizeTs,sizes_snoc a x,Nat.add_assoc]
theorem sizes_take (l:List TyT) (k:Nat):sizeTs (l.take k)≤sizeTs l:=by
 induction l generalizing k with
 | nil=>simp
 | cons x l ih =>
  cases k with
  | zero=>simp [sizeTs]
  | succ k=>rw [List.take_succ_cons,sizeTs,sizeTs];have:=ih k;omega
/-- The lists of users as they lie in memory; the blocks of all of them may be written. -/
structure UsV (Vol:Nat→Prop) (b g m cap:Nat) (us:Nat→List Nat) (vus:Nat→Value) (w:World):Prop where
 blk:w.heap[b]?=some (.cells #[.slice (gA g m) m cap] 86 (0,0))
 row:∃ cs,w.heap[g]?=some (.cells cs 89 (0,0))∧m * 6≤cs.size
 usr:∀ i,i < m→w.cell? ⟨g,i * 6+5,none⟩=some (vus i)
 own:∀ i,i < m→w.ownsRow 0 3 1 (vus i) (us i).length (natsV (us i))
 vol:∀ i,i < m→∀ k,(vus i).ownBlock=some k→Vol k
 apart:∀ i j,i < m→j < m→i ≠ j→∀ k,(vus i).ownBlock=some k→(vus j).ownBlock ≠ some k
 volg:Vol g
 volb:¬ Vol b
def UsS (Vol:Nat→Prop) (b g m cap:Nat) (us:Nat→List Nat) (w:World):Prop:=∃ vus,UsV Vol b g m cap us vus w
/-- Rows of tables but one's are as they were. -/
def KeepB (g:Nat) (w w':World):Prop:=∀ k,k < w.heap.size→k ≠ g→(∃ cs t fz,w.heap[k]?=some (.cells cs t fz)∧3 ≠ t)→w'.heap[k]?=w.heap[k]?
/-- All blocks but those that may be written are as they were, and other tables' rows are. -/
structure KV (Vol:Nat→Prop) (g:Nat) (w w':World):Prop where
 kb:Kb Vol w w'
 old:KeepB g w w'
theorem KV.size {Vol:Nat→Prop} {g:Nat} {w w':World} (h:KV Vol g w w'):w.heap.size≤w'.heap.size:=h.kb.size
theorem KV.refl (Vol:Nat→Prop) (g:Nat) (w:World):KV Vol g w w:=⟨Kb.refl _ _,fun _ _ _ _=>rfl⟩
theorem KV.of_below {Vol:Nat→Prop} {g:Nat} {w w':World} (h:Below w.heap.size w w'):KV Vol g w w':=⟨Kb.of_below h,fun k hk _ _=>h.block k hk⟩
theorem KV.of_g {Vol:Nat→Prop} {g:Nat} {w w':World} (h:Kb (fun k=>k=g) w w') (hg:Vol g):KV Vol g w w':=⟨h.wider (fun k _ (e:k=g)=>by subst e;exact hg),fun k hk hn _=>h.block k hk hn⟩
theorem KeepB.trans {g:Nat} {a b c:World} (h:KeepB g a b) (k:KeepB g b c):KeepB g a c:=fun i hi hn ⟨cs,t,fz,e,ht⟩=>by
 have e1:=h i hi hn ⟨cs,t,fz,e,ht⟩
 have e2:=e1.trans e
 exact (k i (Array.getElem?_eq_some_iff.1 e2).1 hn ⟨cs,t,fz,e2,ht⟩).trans e1
theorem KV.trans {Vol:Nat→Prop} {g:Nat} {a b c:World} (h:KV Vol g a b) (k:KV Vol g b c):KV Vol g a c:=⟨h.kb.trans k.kb,h.old.trans k.old⟩
theorem KV.fresh {Vol S:Nat→Prop} {g:Nat} {a b c:World} (h:KV Vol g a b) (k:Kb S b c) (hs:∀ j,j < a.heap.size→¬ S j):KV Vol g a c :=
 ⟨⟨k.os.trans h.kb.os,k.tape.trans h.kb.tape,k.output.trans h.kb.output,Nat.le_trans h.kb.size k.size,fun j hj hn=>(k.block j (Nat.lt_of_lt_of_le hj h.kb.size) (hs j hj)).trans (h.kb.block j hj hn)⟩,fun j hj hn e=>(k.block j (Nat.lt_of_lt_of_le hj h.kb.size) (hs j hj)).trans (h.old j hj hn e)⟩
/-- What may be written: what could be before, and what is new. -/
def VolX (Vol:Nat→Prop) (N:Nat) (w:World):Nat→Prop:=fun k=>Vol k ∨ (N≤k∧k < w.heap.size)
section
variable {Vol Vol':Nat→Prop} {b g m cap N:Nat} {us us':Nat→List Nat} {vus:Nat→Value} {w w' Y w6:World}
theorem UsV.blt (h:UsV Vol b g m cap us vus w):b < w.heap.size:=(Array.getElem?_eq_some_iff.1 h.blk).1
theorem UsV.blkP (h:UsV Vol b g m cap us vus w) {i:Nat} (hi:i < m):w.heap[b]?=some (.cells #[.slice (some ⟨g,0,none⟩) m cap] 86 (0,0)):=by
 have:=h.blk
 rwa [gA_pos hi] at this
theorem UsV.glt (h:UsV Vol b g m cap us vus w):g < w.heap.size:=by
 obtain ⟨cs,h1,_⟩:=h.row
 exact (Array.getElem?_eq_some_iff.1 h1).1
theorem UsV.later (h:UsV Vol b g m cap us vus w) (hb:Below w.heap.size w w') (hv:∀ k,Vol k→Vol' k) (hn:¬ Vol' b):UsV Vol' b g m cap us vus w':=by
 obtain ⟨cs,h1,h2⟩:=h.row
 exact ⟨(hb.block b h.blt).trans h.blk,⟨cs,(hb.block g h.glt).trans h1,h2⟩,fun i hi=>(World.cell?_of_block (hb.block g h.glt)).trans (h.usr i hi),fun i hi=>own_belowN (h.own i hi) hb,fun i hi k e=>hv k (h.vol i hi k e),h.apart,hv g h.volg,hn⟩
theorem UsV.frozen (h:UsV Vol b g m cap us vus w) (o:Nat):w.frozen? ⟨g,o,none⟩=false:=by
 obtain ⟨cs,h1,_⟩:=h.row
 exact frozenH h1 o
/-- One more user of an unknown. -/
theorem UsV.app (h:UsV Vol b g m cap us vus Y) {u v n:Nat} (hu:u < m) {v6:Value} (hown:w6.ownsRow 0 3 1 v6 n (natsV (us u)++[.int .i64 (v:Int)])) (hg:Y.grownBy w6 (vus u).ownBlock) (hat:v6.ownBlock=(vus u).ownBlock ∨ v6.ownBlock=some Y.heap.size)
  (hv:∀ k,Vol k→Vol' k) (hn:¬ Vol' b) (hnew:v6.ownBlock=some Y.heap.size→Vol' Y.heap.size) (hus:∀ x,us' x=if x=u then us u++[v] else us x) :
  UsV Vol' b g m cap us' (fun x=>if x=u then v6 else vus x) (w6.setCell ⟨g,u * 6+5,none⟩ v6)∧KV Vol g Y (w6.setCell ⟨g,u * 6+5,none⟩ v6)∧∀ i j,j < 6→j ≠ 5→(w6.setCell ⟨g,u * 6+5,none⟩ v6).cell? ⟨g,i * 6+j,none⟩=Y.cell? ⟨g,i * 6+j,none⟩:=by
 obtain ⟨cs,h1,h2⟩:=h.row
 have eg:w6.heap[g]?=Y.heap[g]?:=hg.block g h.glt (owner_ne (by decide) (h.own u hu) h1)
 have eb:w6.heap[b]?=Y.heap[b]?:=hg.block b h.blt (owner_ne (by decide) (h.own u hu) h.blk)
 have hq:=blk_put w6 g (u * 6+5) v6 (eg.trans h1) (by omega)
 have hk:Kb (fun k=>k=g) w6 (w6.setCell ⟨g,u * 6+5,none⟩ v6):=(Kb.refl (fun k=>k=g) w6).put (p:=⟨g,u * 6+5,none⟩) rfl _
 have hbg:b ≠ g:=fun e=>h.volb (e ▸ h.volg)
 have hcell:∀ q,q ≠ u * 6+5→(w6.setCell ⟨g,u * 6+5,none⟩ v6).cell? ⟨g,q,none⟩=Y.cell? ⟨g,q,none⟩:=fun q hne=>by
  rw [cell_set_other _ _ _ _ _ hne];exact World.cell?_of_block eg
 have hlen:(natsV (us u)++[.int .i64 (v:Int)])=natsV (us u++[v]):=by simp [natsV]
 have hn1:n=(us u++[v]).length:=by
  have:=hown.1
  rw [hlen] at this
  simp [natsV] at this
  simp [this]
 refine ⟨⟨((hk.block b (by have:=hg.size;have:=h.blt;omega) hbg).trans eb).trans h.blk,⟨_,hq,by simpa using h2⟩,fun i hi=>?_,fun i hi=>?_,fun i hi k e=>?_,fun i j hi hj hij k e1 e2=>?_,hv g h.volg,hn⟩,?_,fun i j h3 h4=>hcell _ (by omega)⟩
 ·by_cases e:i=u
  ·subst e
   rw [cellH hq]
   simp
  ·rw [hcell _ (by omega),h.usr i hi]
   simp [e]
 ·by_cases e:i=u
  ·subst e
   simp only [if_true,hus]
   rw [← hn1,← hlen]
   exact own_kb hown hk (fun k e1 e2=>by subst e2;exact owner_ne (by decide) hown (eg.trans h1) e1.symm)
  ·simp only [if_neg e,hus]
   have o1:w6.ownsRow 0 3 1 (vus i) (us i).length (natsV (us i)):=(h.own i hi).kept hg (by
    cases hvi:(vus i).ownBlock with
    | none=>exact .inl rfl
    | some k=>exact .inr (fun e3=>h.apart i u hi hu e k hvi e3.symm))
   exact own_kb o1 hk (fun k e1 e2=>by subst e2;exact owner_ne (by decide) o1 (eg.trans h1) e1.symm)
 ·by_cases e1:i=u
  ·subst e1
   simp only [if_true] at e
   rcases hat with e2 | e2
   ·exact hv k (h.vol i hi k (e2 ▸ e))
   ·have q:=hnew e2
    rw [e2] at e;injection e with e;subst e;exact q
  ·simp only [if_neg e1] at e
   exact hv k (h.vol i hi k e)
 ·have hold:∀ x,x < m→∀ k,(vus x).ownBlock=some k→k < Y.heap.size:=fun x hx k e=>((h.own x hx).lt k e).2
  by_cases ei:i=u
  ·subst ei
   have ej:¬ j=i:=fun e=>hij e.symm
   simp only [if_true] at e1
   simp only [if_neg ej] at e2
   rcases hat with e3 | e3
   ·exact h.apart i j hi hj hij k (e3 ▸ e1) e2
   ·rw [e3] at e1;injection e1 with e1
    have:=hold j hj k e2;omega
  ·simp only [if_neg ei] at e1
   by_cases ej:j=u
   ·subst ej
    simp only [if_true] at e2
    rcases hat with e3 | e3
    ·exact h.apart i j hi hj hij k e1 (e3 ▸ e2)
    ·rw [e3] at e2;injection e2 with e2
     have:=hold i hi k e1;omega
   ·simp only [if_neg ej] at e2
    exact h.apart i j hi hj hij k e1 e2
 ·have k1:Kb Vol Y w6:=⟨hg.os,hg.tape,hg.output,hg.size,fun k hk hn=>hg.block k hk (fun e=>hn (h.vol u hu k e.symm))⟩
  refine ⟨k1.trans (hk.wider (fun k _ (e:k=g)=>by subst e;exact h.volg)),fun k hkl hn hbd=>?_⟩
  obtain ⟨cs,tt,fz,e,htt⟩:=hbd
  exact (hk.block k (Nat.lt_of_lt_of_le hkl hg.size) hn).trans (hg.block k hkl (owner_ne htt (h.own u hu) e))
end
def UseC (b g m cap v d:Nat):Prop:=∀ (Vol:Nat→Prop) (us:Nat→List Nat) (t:TyT) (val:Value) (w:World),TyW d Vol t val w→goodT m t→UsS Vol b g m cap us w→(∀ u,u < m→(us u).length+sizeT t≤1000000000000) →
 Calls Tryd.prog 108 #[.pointer (some ⟨b,0,none⟩),.int .i64 v,val] w fun e w'=>e=.returned (.tuple #[])∧UsS (VolX Vol w.heap.size w') b g m cap (bindU us v t) w'∧KV Vol g w w'∧∀ i j,j < 6→j ≠ 5→w'.cell? ⟨g,i * 6+j,none⟩=w.cell? ⟨g,i * 6+j,none⟩
end Lx
end Go.Proofs.YtnpacamcgifabaaDoor
