/- A map as the entries that were put in, in their order: what a look-up gives, what a new entry makes of it. Conditions: as each states. -/
import Derived.Test.YtnpacamcgifabaaDoorUxA
import Derived.Maps.OwnOps
import Derived.DeepKeys5
namespace Go.Proofs.YtnpacamcgifabaaDoor
set_option linter.unusedSimpArgs false
set_option linter.unusedVariables false
namespace Lx
open Go Go.RowKit
open Go.Maps (Keyed)
open Go.ChangeMaps (setBlock)
def MapB (P:Program) (k:TypeId) (b:Nat) (m:List (Value × Value)) (w:World):Prop:=∃ es clock,w.heap[b]?=some (.map es clock)∧es.toList.map (fun e=>(e.key,e.val))=m∧∀ p ∈ m,∃ l,keyOf P k p.1=some l
section
variable {P:Program} {k e t:TypeId} {b:Nat} {m:List (Value × Value)} {w w':World} {key val z:Value} {kl:Lit}
theorem MapB.lt (h:MapB P k b m w):b < w.heap.size:=by
 obtain ⟨es,clock,hb,_⟩:=h
 exact (Array.getElem?_eq_some_iff.1 hb).1
theorem MapB.kb {S:Nat→Prop} (h:MapB P k b m w) (hk:Kb S w w') (hn:¬ S b):MapB P k b m w':=by
 have hlt:=h.lt
 obtain ⟨es,clock,hb,h1⟩:=h
 exact ⟨es,clock,(hk.block b hlt hn).trans hb,h1⟩
theorem MapB.below (h:MapB P k b m w) (hb:Below w.heap.size w w'):MapB P k b m w':=h.kb (S:=fun _=>False) (Kb.of_below hb) (fun e=>e)
theorem MapB.made (w:World):MapB P k w.heap.size [] (w.alloc (.map #[] 0)):=⟨#[],0,(MapKept.heap_alloc w _).1,rfl,fun p hp=>by simp at hp⟩
theorem MapB.look (K:Keyed P k) (ht:P.underlying t=some (.map k e)) (hz:(zeroValue e).run P w=.ok z w) (h:MapB P k b m w) (hkey:keyOf P k key=some kl) :
  ((∀ p ∈ m,p.1 ≠ key)∧(Instr.lookup t (.map (some b)) key true).run P w=.ok (.tuple #[z,.bool false]) w) ∨ ∃ v,(key,v) ∈ m∧(Instr.lookup t (.map (some b)) key true).run P w=.ok (.tuple #[v,.bool true]) w:=by
 obtain ⟨es,clock,hb,rfl,hl⟩:=h
 have hes:∀ x ∈ es.toList,∃ l,keyOf P k x.key=some l:=fun x hx=>hl (x.key,x.val) (List.mem_map.2 ⟨x,hx,rfl⟩)
 rcases K.find w hkey es.toList hes with ⟨h1,h2⟩ | ⟨j,e0,h1,h2,h3⟩
 ·refine .inl ⟨fun p hp=>?_,by simp [Instr.lookup,run_underlying ht,MapKept.run_getObj_map hb,K.check w _ hkey,h1,hz,Result.andThen]⟩
  obtain ⟨x,hx,rfl⟩:=List.mem_map.1 hp
  exact h2 x hx
 ·refine .inr ⟨e0.val,List.mem_map.2 ⟨e0,List.mem_of_getElem? h2,by rw [h3]⟩,by simp [Instr.lookup,run_underlying ht,MapKept.run_getObj_map hb,K.check w _ hkey,h1,Result.andThen]⟩
theorem MapB.put (K:Keyed P k) (ht:P.underlying t=some (.map k e)) (h:MapB P k b m w) (hkey:keyOf P k key=some kl) (hno:∀ p ∈ m,p.1 ≠ key) :
  ∃ W,(Instr.mapUpdate t (.map (some b)) key val).run P w=.ok () W∧MapB P k b (m++[(key,val)]) W∧Kb (fun j=>j=b) w W:=by
 have hlt:=h.lt
 obtain ⟨es,clock,hb,rfl,hl⟩:=h
 have hes:∀ x ∈ es.toList,∃ l,keyOf P k x.key=some l:=fun x hx=>hl (x.key,x.val) (List.mem_map.2 ⟨x,hx,rfl⟩)
 rcases K.find w hkey es.toList hes with ⟨h1,h2⟩ | ⟨j,e0,h1,h2,h3⟩
 ·refine ⟨setBlock w b (.map (es.push ⟨key,val,clock⟩) (clock+1)),by simp [Instr.mapUpdate,run_underlying ht,MapKept.run_getObj_map hb,K.check w false hkey,h1,MapKept.run_setObj_map _ hb,Result.andThen,setBlock],⟨es.push ⟨key,val,clock⟩,clock+1,?_,?_,?_⟩,⟨rfl,rfl,rfl,?_,?_⟩⟩
  ·simp [setBlock,hlt]
  ·simp
  ·intro p hp
   rcases List.mem_append.1 hp with hp | hp
   ·exact hl p hp
   ·rw [List.mem_singleton.1 hp]
    exact ⟨_,hkey⟩
  ·simp [setBlock]
  ·intro j hj hn
   simp [setBlock,Array.getElem?_setIfInBounds,Ne.symm hn]
 ·exact absurd h3 (hno (e0.key,e0.val) (List.mem_map.2 ⟨e0,List.mem_of_getElem? h2,rfl⟩))
end
theorem keyInt:Keyed Tryd.prog 3:=Maps.int_keyed Tryd.underlying3
theorem zeroInt (w:World):(zeroValue 3).run Tryd.prog w=.ok (.int .i64 0) w:=by kernel_rfl
/-- A number's place in a list. -/
def posN (u:Nat):List Nat→Nat
 | []=>0
 | x :: l=>if x=u then 0 else posN u l+1
theorem posN_at:∀ (l:List Nat) (i:Nat) (h:i < l.length),l.Nodup→posN l[i] l=i
 | x :: l,0,_,_=>by simp [posN]
 | x :: l,i+1,h,hn=>by
  have h1:=List.nodup_cons.1 hn
  have hi:i < l.length:=by simpa using h
  have hne:¬ x=l[i]:=fun e=>h1.1 (e ▸ List.getElem_mem hi)
  simp only [List.getElem_cons_succ,posN,if_neg hne,posN_at l i hi h1.2]
theorem posN_map (ρ:Nat→Nat) (u:Nat):∀ l:List Nat,(∀ a ∈ l,ρ a=ρ u→a=u)→posN (ρ u) (l.map ρ)=posN u l
 | [],_=>rfl
 | x :: l,h=>by
  have ih:=posN_map ρ u l (fun a ha=>h a (List.mem_cons_of_mem _ ha))
  simp only [List.map_cons,posN]
  by_cases e:x=u
  ·subst e;simp
  ·have:¬ ρ x=ρ u:=fun e2=>e (h x (List.mem_cons_self ..) e2)
   rw [if_neg e,if_neg this,ih]
/-- The numbers given so far: each unknown with its place. -/
def entM (met:List Nat):List (Value × Value):=met.zipIdx.map fun p=>(.int .i64 (p.1:Int),.int .i64 (p.2:Int))
def MetB (mp:Nat) (met:List Nat) (w:World):Prop:=MapB Tryd.prog 3 mp (entM met) w∧met.Nodup∧met.length≤1000000
theorem entM_mem {met:List Nat} {u:Nat} {v:Value} (h:(Value.int .i64 (u:Int),v) ∈ entM met) (hn:met.Nodup):u ∈ met∧v=.int .i64 ((posN u met:Nat):Int):=by
 obtain ⟨⟨a,i⟩,hp,e⟩:=List.mem_map.1 h
 injection e with e1 e2
 injection e1 with _ e1
 have e1:(a:Int)=(u:Int):=e1
 obtain rfl:a=u:=by omega
 obtain ⟨hi,ha⟩:=List.mk_mem_zipIdx_iff_getElem?.1 hp |> fun h=>List.getElem?_eq_some_iff.1 h
 subst ha
 refine ⟨List.getElem_mem _,?_⟩
 rw [← e2]
 simp only [posN_at _ _ hi hn]
theorem entM_in {met:List Nat} {u:Nat} (h:u ∈ met):∃ v,(Value.int .i64 (u:Int),v) ∈ entM met:=by
 obtain ⟨i,hi,rfl⟩:=List.getElem_of_mem h
 exact ⟨_,List.mem_map.2 ⟨(met[i],i),List.mk_mem_zipIdx_iff_getElem?.2 (List.getElem?_eq_getElem hi),rfl⟩⟩
theorem entM_snoc (met:List Nat) (u:Nat):entM (met++[u])=entM met++[(.int .i64 (u:Int),.int .i64 (met.length:Int))]:=by
 simp [entM,List.zipIdx_append]
section
variable {mp:Nat} {met:List Nat} {w w':World}
theorem MetB.kb {S:Nat→Prop} (h:MetB mp met w) (hk:Kb S w w') (hn:¬ S mp):MetB mp met w':=⟨h.1.kb hk hn,h.2⟩
theorem MetB.below (h:MetB mp met w) (hb:Below w.heap.size w w'):MetB mp met w':=⟨h.1.below hb,h.2⟩
theorem MetB.obj (h:MetB mp met w):∃ es clock,w.heap[mp]?=some (.map es clock)∧es.size=met.length:=by
 obtain ⟨⟨es,clock,hb,h1,_⟩,_⟩:=h
 refine ⟨es,clock,hb,?_⟩
 have:=congrArg List.length h1
 simpa [entM] using this
theorem keyI {n:Int} (hn:(Lit.int .i64 n).wf=true):∃ kl,keyOf Tryd.prog 3 (.int .i64 n)=some kl:=⟨_,Go.Maps.keyOf_int_mk Tryd.underlying3 hn⟩
end
end Lx
end Go.Proofs.YtnpacamcgifabaaDoor
