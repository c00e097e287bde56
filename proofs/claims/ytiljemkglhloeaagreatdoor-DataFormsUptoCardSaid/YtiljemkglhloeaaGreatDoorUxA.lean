/- Rows that are only read, wherever they begin and whatever they share, by the blocks that nobody writes; and a row that grows. No program stands in this text; conditions: as each states. -/
import Derived.Test.YtiljemkglhloeaaGreatDoorParTerm
import Derived.Test.YtiljemkglhloeaaGreatDoorSameA
import Derived.Test.YtiljemkglhloeaaGreatDoorLexA
import Derived.Test.YtiljemkglhloeaaGreatDoorProg
import Derived.WalkKit
import Derived.WalkSpells
import Derived.WalkLawsBesides
import Derived.WalkSmall
import Derived.Lib.Hide
import Derived.Lib.Strings
import Derived.Laws.OwnMore
import Derived.Deep.AppendLies
namespace Go.Proofs.YtiljemkglhloeaaGreatDoor
set_option linter.unusedSimpArgs false
set_option linter.unusedVariables false
namespace Lx
open Go Go.RowKit
/-- All blocks but those of S are as they were. -/
structure Kb (S:Nat→Prop) (w w':World):Prop where
 os:w'.os=w.os
 tape:w'.tape=w.tape
 output:w'.output=w.output
 size:w.heap.size≤w'.heap.size
 block:∀ k,k < w.heap.size→¬ S k→w'.heap[k]?=w.heap[k]?
theorem Kb.refl (S:Nat→Prop) (w:World):Kb S w w:=⟨rfl,rfl,rfl,Nat.le_refl _,fun _ _ _=>rfl⟩
theorem Kb.trans {S:Nat→Prop} {a b c:World} (h:Kb S a b) (k:Kb S b c):Kb S a c :=
 ⟨k.os.trans h.os,k.tape.trans h.tape,k.output.trans h.output,Nat.le_trans h.size k.size,fun i hi hn=>(k.block i (Nat.lt_of_lt_of_le hi h.size) hn).trans (h.block i hi hn)⟩
theorem Kb.wider {S S':Nat→Prop} {a b:World} (h:Kb S a b) (hs:∀ k,k < a.heap.size→S k→S' k):Kb S' a b:=⟨h.os,h.tape,h.output,h.size,fun k hk hn=>h.block k hk (fun e=>hn (hs k hk e))⟩
theorem Kb.of_below {S:Nat→Prop} {a b:World} (h:Below a.heap.size a b):Kb S a b:=⟨h.os,h.tape,h.output,h.size,fun k hk _=>h.block k hk⟩
theorem Kb.below {S:Nat→Prop} {a b:World} (h:Kb S a b) {B:Nat} (hB:B≤a.heap.size) (hs:∀ k,S k→B≤k):Below B a b :=
 ⟨h.os,h.tape,h.output,h.size,fun k hk=>h.block k (by omega) (fun e=>by have:=hs k e;omega)⟩
theorem Kb.alloc {S:Nat→Prop} {a b:World} (h:Kb S a b) (o:Obj):Kb S a (b.alloc o):=h.trans (Kb.of_below ((Below.refl _ _).alloc (Nat.le_refl _) o))
theorem Kb.drewN {S:Nat→Prop} {a b:World} (h:Kb S a b) (n:Nat):Kb S a (b.drewN n):=h.trans (Kb.of_below (below_drewN (Below.refl _ _) n))
theorem Kb.put {S:Nat→Prop} {a b:World} (h:Kb S a b) {p:Addr} (hp:S p.block) (v:Value):Kb S a (b.setCell p v) :=
 ⟨h.os,h.tape,h.output,by have:=h.size;simpa [World.setCell] using this,fun k hk hn=>(Below.heap_setCell b p v k (fun e=>hn (e ▸ hp))).trans (h.block k hk hn)⟩
theorem Kb.grown {S:Nat→Prop} {a b c:World} {row:Option Nat} (h:Kb S a b) (hg:b.grownBy c row) (hr:∀ k,row=some k→S k):Kb S a c :=
 h.trans ⟨hg.os,hg.tape,hg.output,hg.size,fun k hk hn=>hg.block k hk (fun e=>hn (hr k e.symm))⟩
theorem below_alloc (w:World) (o:Obj):Below w.heap.size w (w.alloc o):=(Below.refl _ _).alloc (Nat.le_refl _) o
theorem own_belowN {x y:World} {base sz n:Nat} {e:TypeId} {v:Value} {xs:List Value} (h:x.ownsRow base e sz v n xs) (hb:Below x.heap.size x y):y.ownsRow base e sz v n xs :=
 h.kept (row:=none) ⟨hb.os,hb.tape,hb.output,hb.size,fun k hk _=>hb.block k hk⟩ (by
  cases hv:v.ownBlock with
  | none=>exact .inl rfl
  | some g=>exact .inr (by simp))
theorem heap_alloc_new (w:World) (o:Obj):(w.alloc o).heap[w.heap.size]?=some o:=by
 show (w.heap.push o)[w.heap.size]?=_
 simp
theorem below_drw {B:Nat} {a w:World} (h:Below B a w):Below B a w.drew:=⟨h.os,h.tape,h.output,h.size,h.block⟩
theorem cellH {w:World} {b:Nat} {cs:Array Value} {T:TypeId} {fr:Nat × Nat} (hb:w.heap[b]?=some (.cells cs T fr)) (j:Nat):w.cell? ⟨b,j,none⟩=cs[j]?:=by
 simp [World.cell?,hb]
theorem frozenH {w:World} {b:Nat} {cs:Array Value} {T:TypeId} (hb:w.heap[b]?=some (.cells cs T (0,0))) (j:Nat):w.frozen? ⟨b,j,none⟩=false:=by
 simp [World.frozen?,hb]
theorem put4F {W:World} {N:Nat} {T:TypeId} {z0 z1 z2 z3:Value} (a b c d:Value) (h:W.heap[N]?=some (.cells #[z0,z1,z2,z3] T (0,0))):((((W.setCell ⟨N,0,none⟩ a).setCell ⟨N,1,none⟩ b).setCell ⟨N,2,none⟩ c).setCell ⟨N,3,none⟩ d).heap[N]?=some (.cells #[a,b,c,d] T (0,0)) :=
 blk_put _ _ 3 _ (blk_put _ _ 2 _ (blk_put _ _ 1 _ (blk_put _ _ 0 _ h (by show 0 < 4;decide)) (by show 1 < 4;decide)) (by show 2 < 4;decide)) (by show 3 < 4;decide)
theorem kput4 (W:World) (N:Nat) (a b c d:Value):Kb (fun k=>k=N) W ((((W.setCell ⟨N,0,none⟩ a).setCell ⟨N,1,none⟩ b).setCell ⟨N,2,none⟩ c).setCell ⟨N,3,none⟩ d):=((((Kb.refl (fun k=>k=N) W).put (p:=⟨N,0,none⟩) rfl _).put (p:=⟨N,1,none⟩) rfl _).put (p:=⟨N,2,none⟩) rfl _).put (p:=⟨N,3,none⟩) rfl _
theorem owner_neF {w:World} {base:Nat} {e t:TypeId} {size n B:Nat} {v:Value} {xs:List Value} {cs:Array Value} {fr:Nat × Nat} (hne:e ≠ t) (h:w.ownsRow base e size v n xs) (hB:w.heap[B]?=some (.cells cs t fr)):some B ≠ v.ownBlock:=by
 rcases h.2 with ⟨rfl,_⟩ | ⟨g,cap,cur,rfl,_,hg,_⟩
 ·simp [Value.ownBlock]
 ·intro he
  have:B=g:=by simpa [Value.ownBlock] using he
  subst this
  rw [hg] at hB
  injection hB with hB
  injection hB with _ ht
  exact hne ht
/-- A value that holds a thing in blocks that are there and are none of those that may be written. -/
abbrev HoldW (α:Type):=(Nat→Prop)→α→Value→World→Prop
def StepW {α:Type} (V:HoldW α):Prop:=∀ Vol Vol' x v w w',V Vol x v w→Kb Vol w w'→(∀ k,k < w.heap.size→Vol' k→Vol k)→V Vol' x v w'
/-- A row that is only read. -/
def RowW {α:Type} (sz:Nat) (V:HoldW α):HoldW (List α):=fun Vol l v w=>∃ A c,v=.slice A l.length c∧l.length≤c∧c≤maxLen∧∀ (i:Nat) (hi:i < l.length),∃ b off vi,A=some ⟨b,off,none⟩∧b < w.heap.size∧¬ Vol b∧V Vol l[i] vi w∧∀ j,j < sz→w.cell? ⟨b,off+i * sz+j,none⟩=(cellsL vi)[j]?
section
variable {α:Type} {sz:Nat} {V:HoldW α} {l:List α} {v:Value} {Vol Vol':Nat→Prop} {w w':World}
theorem RowW.step (hV:StepW V):StepW (RowW sz V):=by
 rintro Vol Vol' l v w w' ⟨A,c,rfl,h1,h2,h3⟩ hk hv
 refine ⟨A,c,rfl,h1,h2,fun i hi=>?_⟩
 obtain ⟨b,off,vi,e1,e2,e3,e4,e5⟩:=h3 i hi
 refine ⟨b,off,vi,e1,Nat.lt_of_lt_of_le e2 hk.size,fun e=>e3 (hv b e2 e),hV _ _ _ _ _ _ e4 hk hv,fun j hj=>?_⟩
 rw [← e5 j hj]
 exact World.cell?_of_block (hk.block b e2 e3)
theorem StepW.below (hV:StepW V) {x:α} {v:Value} (h:V Vol x v w) (hb:Below w.heap.size w w'):V Vol x v w':=hV _ _ _ _ _ _ h (Kb.of_below hb) (fun _ _ e=>e)
theorem RowW.nil (Vol:Nat→Prop) (w:World):RowW sz V Vol [] (.slice none 0 0) w:=⟨none,0,rfl,Nat.le_refl _,Nat.zero_le _,fun i hi=>by simp at hi⟩
theorem RowW.slice (h:RowW sz V Vol l v w):∃ A c,v=.slice A l.length c:=by
 obtain ⟨A,c,rfl,_⟩:=h
 exact ⟨A,c,rfl⟩
theorem RowW.few (h:RowW sz V Vol l v w):l.length≤maxLen:=by
 obtain ⟨A,c,rfl,h1,h2,_⟩:=h
 omega
theorem RowW.at {A:Option Addr} {n c:Nat} (h:RowW sz V Vol l (.slice A n c) w) (i:Nat) (hi:i < l.length):∃ b off vi,A=some ⟨b,off,none⟩∧b < w.heap.size∧¬ Vol b∧V Vol l[i] vi w∧∀ j,j < sz→w.cell? ⟨b,off+i * sz+j,none⟩=(cellsL vi)[j]?:=by
 obtain ⟨A',c',e,_,_,h3⟩:=h
 injection e with e1 e2 e3
 subst e1
 exact h3 i hi
end
/-- A row that is being made: its own block from B on; its things in blocks other than its own. -/
structure RowG {α:Type} (t:TypeId) (sz:Nat) (V:HoldW α) (Vol:Nat→Prop) (w wr:World) (s:Option Addr) (cap:Nat) (acc:List α) (vs:List Value):Prop where
 val:(acc=[]∧vs=[]∧s=none∧cap=0) ∨ ∃ g,s=some ⟨g,0,none⟩
 own:wr.ownsRow w.heap.size t sz (.slice s acc.length cap) acc.length (vs.flatMap cellsL)
 len:vs.length=acc.length
 els:∀ (i:Nat) (h:i < acc.length) (h':i < vs.length),V (fun k=>Vol k ∨ s=some ⟨k,0,none⟩) acc[i] vs[i] wr
 below:Below w.heap.size w wr
section
variable {α:Type} {t:TypeId} {sz:Nat} {V:HoldW α} {Vol:Nat→Prop} {w wr w4 w6:World} {s:Option Addr} {cap:Nat} {acc:List α} {vs:List Value}
theorem RowG.start (Vol:Nat→Prop) (w:World):RowG t sz V Vol w w none 0 [] []:=⟨.inl ⟨rfl,rfl,rfl,rfl⟩,World.ownsRow_nil _ _ _ _,rfl,fun i h=>by simp at h,Below.refl _ _⟩
theorem RowG.later (h:RowG t sz V Vol w wr s cap acc vs) (hV:StepW V) (hf:Below wr.heap.size wr w4):RowG t sz V Vol w w4 s cap acc vs :=
 ⟨h.val,own_belowN h.own hf,h.len,fun i h1 h2=>hV.below (h.els i h1 h2) hf,h.below.trans (hf.mono h.below.size)⟩
theorem RowG.mine (h:RowG t sz V Vol w wr s cap acc vs) (hv:∀ k,Vol k→k < w.heap.size):∀ k,(Vol k ∨ s=some ⟨k,0,none⟩)→k < wr.heap.size:=by
 rintro k (e | e)
 ·exact Nat.lt_of_lt_of_le (hv k e) h.below.size
 ·exact (h.own.lt k (by rw [e];rfl)).2
theorem RowG.held (h:RowG t sz V Vol w wr s cap acc vs) (hV:StepW V) (hsz:∀ Vol x v w,V Vol x v w→(cellsL v).length=sz) (hv:∀ k,Vol k→k < w.heap.size):RowW sz V Vol acc (.slice s acc.length cap) wr:=by
 have hcc:acc.length≤cap∧cap≤maxLen:=by
  rcases h.own.2 with ⟨e,_⟩ | ⟨g',cap',cur,e,_,_,h1,h2,_⟩
  ·injection e with _ e2 e3
   omega
  ·injection e with _ _ e3
   omega
 refine ⟨s,cap,rfl,hcc.1,hcc.2,fun i hi=>?_⟩
 have hi2:i < vs.length:=by rw [h.len];exact hi
 have hel:=h.els i hi hi2
 rcases h.own.2 with ⟨_,e⟩ | ⟨g,cap',cur,e,hg,hb,h1,h2,h5,h6⟩
 ·omega
 ·injection e with e _ _
  subst e
  have hlt:g < wr.heap.size:=(Array.getElem?_eq_some_iff.1 hb).1
  refine ⟨g,0,vs[i],rfl,hlt,fun e=>by have:=hv g e;omega,hV _ _ _ _ _ _ hel (Kb.refl _ _) (fun k _ e=>.inl e),fun j hj=>?_⟩
  have hbd:i * sz+j < acc.length * sz:=by
   have h8:(i+1) * sz≤acc.length * sz:=Nat.mul_le_mul_right _ hi
   rw [Nat.succ_mul] at h8
   omega
  rw [Nat.zero_add,h.own.cellAt _ hbd]
  refine flat_at sz vs (fun v hvm=>?_) i j hi2 hj
  obtain ⟨n,hn,rfl⟩:=List.getElem_of_mem hvm
  exact hsz _ _ _ _ (h.els n (by rw [← h.len];exact hn) hn)
theorem RowG.snoc (h:RowG t sz V Vol w wr s cap acc vs) (hV:StepW V) (hvl:∀ k,Vol k→k < w.heap.size) {x2:α} {v2:Value} {o:Obj} {g2 cap2:Nat} (hf4:Below wr.heap.size wr w4) (hv4:V (fun k=>Vol k ∨ s=some ⟨k,0,none⟩) x2 v2 w4)
  (hown:w6.ownsRow w.heap.size t sz (.slice (some ⟨g2,0,none⟩) (acc.length+1) cap2) (acc.length+1) (vs.flatMap cellsL++cellsL v2)) (hg:(w4.alloc o).grownBy w6 (Value.slice s acc.length cap).ownBlock) (hat:(Value.slice s acc.length cap).ownBlock=some g2 ∨ g2=(w4.alloc o).heap.size) :
  RowG t sz V Vol w w6 (some ⟨g2,0,none⟩) cap2 (acc++[x2]) (vs++[v2]):=by
 have hs4:=hf4.size
 have hB:=h.below.size
 have hs6:w4.heap.size≤w6.heap.size:=by have:=hg.size;simp at this;omega
 have hblk:∀ j,j < w4.heap.size→some j ≠ (Value.slice s acc.length cap).ownBlock→w6.heap[j]?=w4.heap[j]?:=fun j hj hn=>(hg.block j (by simp;omega) hn).trans (Below.heap_alloc w4 o j hj)
 have hlen:(acc++[x2]).length=acc.length+1:=by simp
 have hf5:=h.below.trans (hf4.mono hB)
 have hbelow:Below w.heap.size w w6:=⟨hg.os.trans hf5.os,hg.tape.trans hf5.tape,hg.output.trans hf5.output,by omega,fun j hj=>(hblk j (by omega) (fun e=>by have:=(h.own.lt _ e.symm).1;omega)).trans (hf5.block j hj)⟩
 have hkb:Kb (fun k=>Vol k ∨ s=some ⟨k,0,none⟩) w4 w6:=⟨hg.os,hg.tape,hg.output,hs6,fun k hk hn=>hblk k hk (fun e=>hn (.inr (by
  rcases h.val with ⟨_,_,rfl,_⟩ | ⟨g,rfl⟩
  ·cases e
  ·have e2:some k=some g:=e
   rw [Option.some.inj e2])))⟩
 have hnew:∀ k,k < w4.heap.size→(Vol k ∨ (some ⟨g2,0,none⟩:Option Addr)=some ⟨k,0,none⟩)→(Vol k ∨ s=some ⟨k,0,none⟩):=by
  rintro k hk (e | e)
  ·exact .inl e
  ·have e2:g2=k:=by injection e with e;injection e
   subst e2
   rcases hat with e3 | e3
   ·right
    rcases h.val with ⟨_,_,rfl,_⟩ | ⟨g,rfl⟩
    ·cases e3
    ·have e4:some g=some g2:=e3
     rw [Option.some.inj e4]
   ·simp at e3
    omega
 refine ⟨.inr ⟨g2,rfl⟩,by rw [hlen,flat_snoc];exact hown,by simp [h.len],fun i h1 h2=>?_,hbelow⟩
 by_cases hi:i < acc.length
 ·rw [List.getElem_append_left hi,List.getElem_append_left (by rw [h.len];exact hi)]
  exact hV _ _ _ _ _ _ (hV.below (h.els i hi (by rw [h.len];exact hi)) hf4) hkb hnew
 ·have e:i=acc.length:=by rw [hlen] at h1;omega
  subst e
  have e1:(acc++[x2])[acc.length]'h1=x2:=by simp
  have e2:(vs++[v2])[acc.length]'h2=v2:=by
   rw [List.getElem_append_right (by rw [h.len];exact Nat.le_refl _)]
   simp [h.len]
  rw [e1,e2]
  exact hV _ _ _ _ _ _ hv4 hkb hnew
end
end Lx
end Go.Proofs.YtiljemkglhloeaaGreatDoor
