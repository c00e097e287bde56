/- The decoder of data, purely; a row of data in the making. Conditions: as each states. -/
import Derived.Test.YtnpacamcgifabaaDoorDp
import Derived.Test.YtnpacamcgifabaaDoorDi
namespace Go.Proofs.YtnpacamcgifabaaDoor
set_option linter.unusedSimpArgs false
set_option linter.unusedVariables false
namespace Lx
open Go Go.RowKit
/-- So many data, one behind the other. -/
def decsF (f:Nat→List UInt8→Option (DaT × List UInt8 × Nat)):Nat→Nat→List UInt8→Option (List DaT × List UInt8 × Nat)
 | 0,n,r=>some ([],r,n)
 | c+1,n,r=>match f n r with
  | none=>none
  | some (x,r1,n1)=>match decsF f c n1 r1 with
   | none=>none
   | some (l,r2,n2)=>some (x :: l,r2,n2)
/-- What follows the first byte of a constructor. -/
def strD (f:Nat→List UInt8→Option (DaT × List UInt8 × Nat)) (n:Nat):List UInt8→Option (DaT × List UInt8 × Nat)
 | []=>none
 | b :: r2=>if 1≤b.toNat∧b.toNat≤32∧b.toNat≤r2.length then (match r2.drop b.toNat with
  | []=>none
  | a :: r3=>if a.toNat≤8 then (match decsF f a.toNat n r3 with
   | none=>none
   | some (l,r4,n4)=>some (.mk true 0 (bs (r2.take b.toNat)) l,r4,n4)) else none) else none
/-- Data at the beginning of bytes: what is behind, and how many nodes began; so deep at most. -/
def dec:Nat→Nat→List UInt8→Option (DaT × List UInt8 × Nat)
 | 0,_,_=>none
 | k+1,n,r=>if 4096 < n+1 then none else match r with
  | []=>none
  | t :: r1=>if t.toNat=0 then (if r1.length < 8 then none else some (.mk false (numP (r1.take 8) 8) ⟨#[]⟩ [],r1.drop 8,n+1))
   else if t.toNat=1 then strD (dec k) (n+1) r1 else none
def DaE:HoldW DaT:=fun Vol x v w=>∃ d,DaW d Vol x v w
theorem DaE.step:StepW DaE:=fun _ _ _ _ _ _ ⟨d,h⟩ hk hv=>⟨d,DaW.step d _ _ _ _ _ _ h hk hv⟩
theorem DaE.this {Vol:Nat→Prop} {x:DaT} {v:Value} {w:World} (h:DaE Vol x v w):∃ A n c,v=.agg #[.bool x.ctor,.int .i64 x.int,.string x.name,.slice A n c]:=by
 obtain ⟨d,h⟩:=h
 exact h.this
theorem daECells:∀ Vol x v w,DaE Vol x v w→(cellsL v).length=4:=fun Vol x v w ⟨_,h⟩=>daCells _ Vol x v w h
theorem rowED {Vol:Nat→Prop} {l:List DaT} {v:Value} {w:World} (h:RowW 4 DaE Vol l v w):∃ D,RowW 4 (DaW D) Vol l v w:=by
 obtain ⟨A,c,rfl,h1,h2,h3⟩:=h
 have hD:∀ n,n≤l.length→∃ D,∀ (i:Nat) (hi:i < l.length),i < n→∃ b off vi,A=some ⟨b,off,none⟩∧b < w.heap.size∧¬ Vol b∧DaW D Vol l[i] vi w∧∀ j,j < 4→w.cell? ⟨b,off+i * 4+j,none⟩=(cellsL vi)[j]?:=by
  intro n
  induction n with
  | zero=>exact fun _=>⟨0,fun i hi h=>by omega⟩
  | succ n ih =>
   intro hn
   obtain ⟨D,hD⟩:=ih (by omega)
   obtain ⟨b,off,vi,e1,e2,e3,⟨d,e4⟩,e5⟩:=h3 n (by omega)
   refine ⟨max D d,fun i hi hin=>?_⟩
   by_cases e:i=n
   ·subst e
    exact ⟨b,off,vi,e1,e2,e3,DaW.ups (by omega) e4,e5⟩
   ·obtain ⟨b',off',vi',f1,f2,f3,f4,f5⟩:=hD i hi (by omega)
    exact ⟨b',off',vi',f1,f2,f3,DaW.ups (by omega) f4,f5⟩
 obtain ⟨D,hD⟩:=hD l.length (Nat.le_refl _)
 exact ⟨D,A,c,rfl,h1,h2,fun i hi=>hD i hi hi⟩
theorem daE_row {Vol:Nat→Prop} {c:Bool} {n:Int} {s:ByteArray} {l:List DaT} {va:Value} {w:World} (h:RowW 4 DaE Vol l va w):DaE Vol (.mk c n s l) (.agg #[.bool c,.int .i64 n,.string s,va]) w:=by
 obtain ⟨D,hD⟩:=rowED h
 exact ⟨D+1,va,rfl,hD⟩
theorem own_kbD {S:Nat→Prop} {x y:World} {base sz n:Nat} {e:TypeId} {v:Value} {xs:List Value} (h:x.ownsRow base e sz v n xs) (hk:Kb S x y) (hn:∀ k,v.ownBlock=some k→¬ S k):y.ownsRow base e sz v n xs:=by
 refine ⟨h.1,?_⟩
 rcases h.2 with h1 | ⟨g,cap,cur,e,h2,h3,h4⟩
 ·exact .inl h1
 ·refine .inr ⟨g,cap,cur,e,h2,?_,h4⟩
  subst e
  exact (hk.block g (Array.getElem?_eq_some_iff.1 h3).1 (hn g rfl)).trans h3
/-- A row of data that is being made. -/
structure RowD (Vol:Nat→Prop) (w wr:World) (s:Option Addr) (cap:Nat) (acc:List DaT) (vs:List Value):Prop where
 val:(acc=[]∧vs=[]∧s=none∧cap=0) ∨ ∃ k,s=some ⟨k,0,none⟩
 own:wr.ownsRow w.heap.size 68 4 (.slice s acc.length cap) acc.length (vs.flatMap cellsL)
 len:vs.length=acc.length
 els:∀ (i:Nat) (h:i < acc.length) (h':i < vs.length),DaE (fun k=>Vol k ∨ s=some ⟨k,0,none⟩) acc[i] vs[i] wr
 keep:Kb Vol w wr
section
variable {Vol:Nat→Prop} {w wr w4 w6:World} {s:Option Addr} {cap:Nat} {acc:List DaT} {vs:List Value}
theorem RowD.start (Vol:Nat→Prop) (w:World):RowD Vol w w none 0 [] []:=⟨.inl ⟨rfl,rfl,rfl,rfl⟩,World.ownsRow_nil _ _ _ _,rfl,fun i h=>by simp at h,Kb.refl _ _⟩
theorem RowD.mine (h:RowD Vol w wr s cap acc vs) (hv:∀ k,Vol k→k < w.heap.size):∀ k,(Vol k ∨ s=some ⟨k,0,none⟩)→k < wr.heap.size:=by
 rintro k (e | e)
 ·exact Nat.lt_of_lt_of_le (hv k e) h.keep.size
 ·exact (h.own.lt k (by rw [e];rfl)).2
theorem RowD.held (h:RowD Vol w wr s cap acc vs) (hv:∀ k,Vol k→k < w.heap.size):RowW 4 DaE Vol acc (.slice s acc.length cap) wr:=by
 have hcc:acc.length≤cap∧cap≤maxLen:=by
  rcases h.own.2 with ⟨e,_⟩ | ⟨g',cap',cur,e,_,_,h1,h2,_⟩
  ·injection e with _ e2 e3
   omega
  ·injection e with _ _ e3
   omega
 refine ⟨s,cap,rfl,hcc.1,hcc.2,fun i hi=>?_⟩
 have hi2:i < vs.length:=by rw [h.len];exact hi
 have hel:=h.els i hi hi2
 rcases h.own.2 with ⟨_,e⟩ | ⟨k,cap',cur,e,hg,hb,h1,h2,h5,h6⟩
 ·omega
 ·injection e with e _ _
  subst e
  have hlt:k < wr.heap.size:=(Array.getElem?_eq_some_iff.1 hb).1
  refine ⟨k,0,vs[i],rfl,hlt,fun e=>by have:=hv k e;omega,DaE.step _ _ _ _ _ _ hel (Kb.refl _ _) (fun k _ e=>.inl e),fun j hj=>?_⟩
  have hbd:i * 4+j < acc.length * 4:=by omega
  rw [Nat.zero_add,h.own.cellAt _ hbd]
  refine flat_at 4 vs (fun v hvm=>?_) i j hi2 hj
  obtain ⟨n,hn,rfl⟩:=List.getElem_of_mem hvm
  exact daECells _ _ _ _ (h.els n (by rw [← h.len];exact hn) hn)
theorem RowD.snoc (h:RowD Vol w wr s cap acc vs) {x2:DaT} {v2:Value} {o:Obj} {g2 cap2:Nat} (hf4:Kb Vol wr w4) (hv4:DaE (fun k=>Vol k ∨ s=some ⟨k,0,none⟩) x2 v2 w4)
  (hown:w6.ownsRow w.heap.size 68 4 (.slice (some ⟨g2,0,none⟩) (acc.length+1) cap2) (acc.length+1) (vs.flatMap cellsL++cellsL v2)) (hg:(w4.alloc o).grownBy w6 (Value.slice s acc.length cap).ownBlock) (hat:(Value.slice s acc.length cap).ownBlock=some g2 ∨ g2=(w4.alloc o).heap.size) :
  RowD Vol w w6 (some ⟨g2,0,none⟩) cap2 (acc++[x2]) (vs++[v2]):=by
 have hs4:=hf4.size
 have hB:=h.keep.size
 have hs6:w4.heap.size≤w6.heap.size:=by have:=hg.size;simp at this;omega
 have hblk:∀ j,j < w4.heap.size→some j ≠ (Value.slice s acc.length cap).ownBlock→w6.heap[j]?=w4.heap[j]?:=fun j hj hn=>(hg.block j (by simp;omega) hn).trans (Below.heap_alloc w4 o j hj)
 have hlen:(acc++[x2]).length=acc.length+1:=by simp
 have hnown:∀ j,j < w.heap.size→some j ≠ (Value.slice s acc.length cap).ownBlock:=fun j hj e=>by have:=(h.own.lt _ e.symm).1;omega
 have k5:=h.keep.trans hf4
 have hkeep:Kb Vol w w6:=⟨hg.os.trans k5.os,hg.tape.trans k5.tape,hg.output.trans k5.output,by omega,fun j hj hn=>(hblk j (by omega) (hnown j hj)).trans (k5.block j hj hn)⟩
 have hkb:Kb (fun k=>Vol k ∨ s=some ⟨k,0,none⟩) w4 w6:=⟨hg.os,hg.tape,hg.output,hs6,fun k hk hn=>hblk k hk (fun e=>hn (.inr (by
  rcases h.val with ⟨_,_,rfl,_⟩ | ⟨k',rfl⟩
  ·cases e
  ·have e2:some k=some k':=e
   rw [Option.some.inj e2])))⟩
 have hnew:∀ k,k < w4.heap.size→(Vol k ∨ (some ⟨g2,0,none⟩:Option Addr)=some ⟨k,0,none⟩)→(Vol k ∨ s=some ⟨k,0,none⟩):=by
  rintro k hk (e | e)
  ·exact .inl e
  ·have e2:g2=k:=by injection e with e;injection e
   subst e2
   rcases hat with e3 | e3
   ·right
    rcases h.val with ⟨_,_,rfl,_⟩ | ⟨k',rfl⟩
    ·cases e3
    ·have e4:some k'=some g2:=e3
     rw [Option.some.inj e4]
   ·simp at e3
    omega
 have hk4:Kb (fun k=>Vol k ∨ s=some ⟨k,0,none⟩) wr w4:=hf4.wider (fun k _ e=>.inl e)
 refine ⟨.inr ⟨g2,rfl⟩,by rw [hlen,flat_snoc];exact hown,by simp [h.len],fun i h1 h2=>?_,hkeep⟩
 by_cases hi:i < acc.length
 ·rw [List.getElem_append_left hi,List.getElem_append_left (by rw [h.len];exact hi)]
  exact DaE.step _ _ _ _ _ _ (DaE.step _ _ _ _ _ _ (h.els i hi (by rw [h.len];exact hi)) hk4 (fun _ _ e=>e)) hkb hnew
 ·have e:i=acc.length:=by rw [hlen] at h1;omega
  subst e
  have e1:(acc++[x2])[acc.length]'h1=x2:=by simp
  have e2:(vs++[v2])[acc.length]'h2=v2:=by
   rw [List.getElem_append_right (by rw [h.len];exact Nat.le_refl _)]
   simp [h.len]
  rw [e1,e2]
  exact DaE.step _ _ _ _ _ _ hv4 hkb hnew
theorem RowD.go (h:RowD Vol w wr s cap acc vs) (hv:∀ k,Vol k→k < w.heap.size) (hk:Kb Vol wr w4):RowD Vol w w4 s cap acc vs :=
 ⟨h.val,own_kbD h.own hk (fun k e e2=>by have:=(h.own.lt k e).1;have:=hv k e2;omega),h.len,fun j h1 h2=>DaE.step _ _ _ _ _ _ (h.els j h1 h2) (hk.wider (fun k _ e=>.inl e)) (fun _ _ e=>e),h.keep.trans hk⟩
end
end Lx
end Go.Proofs.YtnpacamcgifabaaDoor
