/- A row of resolved types that a statement's walk makes. No program is walked in this text; conditions: as each states. -/
/- Resolve of a type that is not refused, by how large it comes; two errors that are one are not unequal; a pair's parts later. Conditions: as each states. -/
import Derived.Test.YtdegmeoapgibiaaDoorWd
import Derived.Test.YtdegmeoapgibiaaDoorWb
namespace Go.Proofs.YtdegmeoapgibiaaDoor
set_option linter.unusedSimpArgs false
set_option linter.unusedVariables false
namespace Lx
open Go Go.RowKit
section
variable {Vol Vol' S:Nat→Prop} {b g m cap:Nat} {r:Rho} {w w':World}
/-- Blocks of types are written; what may be written is another set. -/
theorem St.swap (h:St Vol b g m cap r w) (hk:Kb S w w') (hS:∀ k,S k→Vol k∧∃ cs fz,w.heap[k]?=some (.cells cs 32 fz)) (hv:∀ k,k < w.heap.size→Vol' k→Vol k) (hg:Vol' g) (ho:∀ k,Vol k→Vol' k ∨ ∃ cs fz,w.heap[k]?=some (.cells cs 32 fz)):St Vol' b g m cap r w':=by
 obtain ⟨hbl,hgl,hnb,hvg⟩:=h.lows
 obtain ⟨rk,B,us,rkU,⟨Bd,h1,h1b,h1c⟩,h2,⟨vus,h3⟩,h4⟩:=h
 obtain ⟨cs',q1,q2⟩:=h3.row
 have hsg:¬ S g:=fun e=>by
  obtain ⟨_,cs,fz,q⟩:=hS g e
  rw [q1] at q
  injection q with q
  injection q with _ ht
  exact absurd ht (by decide)
 have eg:=hk.block g hgl hsg
 have hnb':¬ Vol' b:=fun e=>hnb (hv b hbl e)
 exact ⟨rk,B,us,rkU,⟨Bd,h1,h1b,h1c.go hk (fun k e=>(hS k e).1) hsg hv hg⟩,fun i hi=>(World.cell?_of_block eg).trans (h2 i hi),⟨vus,(hk.block b hbl (fun e=>hnb (hS b e).1)).trans h3.blk,⟨cs',eg.trans q1,q2⟩,fun i hi=>(World.cell?_of_block eg).trans (h3.usr i hi),fun i hi=>own_kb (h3.own i hi) hk (fun k e1 e2=>by
  obtain ⟨_,cs,fz,q⟩:=hS k e2
  exact owner_ne (by decide) (h3.own i hi) q e1.symm),fun i hi k e=>(ho k (h3.vol i hi k e)).elim id (fun ⟨cs,fz,q⟩=>absurd e.symm (owner_ne (by decide) (h3.own i hi) q)),h3.apart,hg,hnb'⟩,h4⟩
end
/-- The row so far; the table's state beside it. -/
structure WasR (Vol:Nat→Prop) (b g m cap:Nat) (W0 w1 wr:World) (r:Rho) (S c:Nat) (acc:List TyT) (vs:List Value):Prop where
 own:wr.ownsRow w1.heap.size 32 4 (.slice (some ⟨S,0,none⟩) acc.length c) acc.length (vs.flatMap cellsL)
 len:vs.length=acc.length
 els:∀ (i:Nat) (h:i < acc.length) (h':i < vs.length),TyE (fun k=>Vol k ∨ k=S) acc[i] vs[i] wr
 ls:LS b g m cap W0 wr r (fun k=>Vol k ∨ k=S)
 kb:Kb Vol w1 wr
 low:∀ k,Vol k→k < w1.heap.size
 lo:W0.heap.size≤w1.heap.size
section
variable {Vol:Nat→Prop} {b g m cap S c:Nat} {W0 w1 wr w4 Wx w6:World} {r:Rho} {acc:List TyT} {vs:List Value}
theorem WasR.start (h:LS b g m cap W0 w1 r Vol):WasR Vol b g m cap W0 w1 (w1.alloc (.cells #[] 32)) r w1.heap.size 0 [] []:=by
 have hb:=below_alloc w1 (.cells #[] 32)
 have hvg:=h.1.lows.2.2.2
 refine ⟨⟨rfl,.inr ⟨w1.heap.size,0,#[],rfl,Nat.le_refl _,heap_alloc_new _ _,Nat.le_refl _,Nat.zero_le _,rfl,rfl⟩⟩,rfl,fun i h=>by simp at h,h.go (h.1.wide hb (fun k hk e=>e.elim id (fun e=>by omega)) (fun _ e=>.inl e)) h.2.1 (Kb.of_below hb) (fun k hk e=>e.elim id (fun e=>by omega)) (fun k e=>e.elim (fun e=>Nat.lt_of_lt_of_le (h.2.2.1 k e).2 hb.size) (fun e=>by subst e;simp)),Kb.of_below hb,fun k e=>(h.2.2.1 k e).2,h.2.2.2.size⟩
theorem WasR.blk (h:WasR Vol b g m cap W0 w1 wr r S c acc vs):∃ cur,wr.heap[S]?=some (.cells cur 32 (0,0))∧w1.heap.size≤S:=by
 rcases h.own.2 with ⟨e,_⟩ | ⟨k,cap',cur,e,hg,hb,_⟩
 ·cases e
 ·injection e with e _ _
  injection e with e
  injection e with e
  subst e
  exact ⟨cur,hb,hg⟩
theorem WasR.vol (h:WasR Vol b g m cap W0 w1 wr r S c acc vs):Vol g∧g ≠ S:=by
 obtain ⟨cur,hb,hs⟩:=h.blk
 have hne:g ≠ S:=by
  intro e
  obtain ⟨rk,B,us,rkU,_,_,⟨vus,h3⟩,_⟩:=h.ls.1
  obtain ⟨cs,q,_⟩:=h3.row
  rw [e,hb] at q
  injection q with q
  injection q with _ ht
  exact absurd ht (by decide)
 exact ⟨(h.ls.1.lows.2.2.2).elim id (fun e=>absurd e hne),hne⟩
/-- Heads' halving, new blocks. -/
theorem WasR.later (h:WasR Vol b g m cap W0 w1 wr r S c acc vs) (hL:LS b g m cap W0 w4 r (fun k=>Vol k ∨ k=S)) (hk:Kb (fun k=>k=g) wr w4):WasR Vol b g m cap W0 w1 w4 r S c acc vs:=by
 obtain ⟨hvg,hne⟩:=h.vol
 have hkv:Kb Vol wr w4:=hk.wider (fun k _ (e:k=g)=>by subst e;exact hvg)
 exact ⟨own_kb h.own hk (fun k e (e2:k=g)=>by
  have e3:S=k:=by injection e
  exact hne (e2.symm.trans e3.symm)),h.len,fun i h1 h2=>TyE.step _ _ _ _ _ _ (h.els i h1 h2) (hkv.wider (fun k _ e=>.inl e)) (fun _ _ e=>e),hL,h.kb.trans hkv,h.low,h.lo⟩
theorem WasR.below (h:WasR Vol b g m cap W0 w1 wr r S c acc vs) (hb:Below wr.heap.size wr w4):WasR Vol b g m cap W0 w1 w4 r S c acc vs:=h.later (h.ls.below hb) (Kb.of_below hb)
theorem WasR.snoc (h:WasR Vol b g m cap W0 w1 Wx r S c acc vs) {x2:TyT} {v2:Value} {g2 cap2:Nat} (hv2:TyE (fun k=>Vol k ∨ k=S) x2 v2 Wx)
  (hown:w6.ownsRow w1.heap.size 32 4 (.slice (some ⟨g2,0,none⟩) (acc.length+1) cap2) (acc.length+1) (vs.flatMap cellsL++cellsL v2)) (hg:Wx.grownBy w6 (some S)) (hat:some S=some g2 ∨ g2=Wx.heap.size) :
  WasR Vol b g m cap W0 w1 w6 r g2 cap2 (acc++[x2]) (vs++[v2]):=by
 obtain ⟨cur,hb,hs⟩:=h.blk
 obtain ⟨hvg,hne⟩:=h.vol
 have hlen:(acc++[x2]).length=acc.length+1:=by simp
 have k6:Kb (fun k=>k=S) Wx w6:=⟨hg.os,hg.tape,hg.output,hg.size,fun k hk hn=>hg.block k hk (fun e=>hn (by injection e))⟩
 have hsl:S < Wx.heap.size:=(Array.getElem?_eq_some_iff.1 hb).1
 have hnew:∀ k,k < Wx.heap.size→(Vol k ∨ k=g2)→(Vol k ∨ k=S):=fun k hk e=>by
  rcases e with e | e
  ·exact .inl e
  ·rcases hat with e3 | e3
   ·injection e3 with e3;exact .inr (e.trans e3.symm)
   ·omega
 have hlt2:=(hown.lt g2 rfl)
 have hkV:Kb (fun k=>Vol k ∨ k=S) Wx w6:=k6.wider (fun k _ e=>.inr e)
 have hst:=h.ls.1.swap k6 (fun k (e:k=S)=>⟨.inr e,cur,(0,0),e ▸ hb⟩) hnew (.inl hvg) (fun k e=>e.elim (fun e=>.inl (.inl e)) (fun e=>.inr ⟨cur,(0,0),e ▸ hb⟩))
 refine ⟨by rw [hlen,flat_snoc];exact hown,by simp [h.len],fun i h1 h2=>?_,?_,h.kb.join k6 (fun j hj (e:j=S)=>by omega),h.low,h.lo⟩
 ·by_cases hi:i < acc.length
  ·rw [List.getElem_append_left hi,List.getElem_append_left (by rw [h.len];exact hi)]
   exact TyE.step _ _ _ _ _ _ (h.els i hi (by rw [h.len];exact hi)) hkV hnew
  ·have e:i=acc.length:=by rw [hlen] at h1;omega
   subst e
   have e1:(acc++[x2])[acc.length]'h1=x2:=by simp
   have e2:(vs++[v2])[acc.length]'h2=v2:=by
    rw [List.getElem_append_right (by rw [h.len];exact Nat.le_refl _)]
    simp [h.len]
   rw [e1,e2]
   exact TyE.step _ _ _ _ _ _ hv2 hkV hnew
 ·exact h.ls.go hst h.ls.2.1 hkV hnew (fun k e=>e.elim (fun e=>by have:=h.low k e;have:=h.kb.size;have:=hg.size;omega) (fun e=>by subst e;exact hlt2.2))
theorem WasR.fin (h:WasR Vol b g m cap W0 w1 wr r S c acc vs):RowW 4 TyE Vol acc (.slice (some ⟨S,0,none⟩) acc.length c) wr∧LS b g m cap W0 wr r Vol:=by
 obtain ⟨cur,hb,hs⟩:=h.blk
 obtain ⟨hvg,hne⟩:=h.vol
 have hst:=h.ls.1.narrow (Vol:=Vol) (fun k e=>.inl e) hvg (fun k e=>e.elim .inl (fun e=>.inr ⟨cur,(0,0),e ▸ hb⟩))
 refine ⟨?_,hst,h.ls.2.1,fun k e=>h.ls.2.2.1 k (.inl e),h.ls.2.2.2⟩
 have hcc:acc.length≤c∧c≤maxLen:=by
  rcases h.own.2 with ⟨e,_⟩ | ⟨g',cap',cur,e,_,_,h1,h2,_⟩
  ·cases e
  ·injection e with _ _ e3
   omega
 refine ⟨_,c,rfl,hcc.1,hcc.2,fun i hi=>?_⟩
 have hi2:i < vs.length:=by rw [h.len];exact hi
 have hel:=h.els i hi hi2
 refine ⟨S,0,vs[i],rfl,(Array.getElem?_eq_some_iff.1 hb).1,fun e=>by have:=h.low S e;omega,TyE.step _ _ _ _ _ _ hel (Kb.refl _ _) (fun k _ e=>.inl e),fun j hj=>?_⟩
 rw [Nat.zero_add,h.own.cellAt _ (by omega)]
 refine flat_at 4 vs (fun v hvm=>?_) i j hi2 hj
 obtain ⟨n,hn,rfl⟩:=List.getElem_of_mem hvm
 exact tyECells _ _ _ _ (h.els n (by rw [← h.len];exact hn) hn)
end
end Lx
end Go.Proofs.YtdegmeoapgibiaaDoor
namespace Go.Proofs.YtdegmeoapgibiaaDoor
set_option linter.unusedSimpArgs false
set_option linter.unusedVariables false
namespace Lx
open Go Go.RowKit
theorem Sents.below0 {w w':World} {f:Nat→Addr} (h:Sents w f) (hb:Below w.heap.size w w'):Sents w' f:=h.below hb
theorem neqE_same (a:Addr) (W:World):(binOp .neq 38 (errP a) (errP a)).run Tryd.prog W=.ok (.bool false) W:=by
 obtain ⟨i,hi,hc⟩:∃ i,Tryd.prog.info? 125=some i∧i.comparable=true:=by
  have h:(Tryd.prog.info? 125).map (·.comparable)=some true:=by kernel_rfl
  cases h2:Tryd.prog.info? 125 with
  | none=>rw [h2] at h;cases h
  | some i=>rw [h2] at h;exact ⟨i,rfl,by simpa using h⟩
 obtain ⟨j,hj⟩:∃ j,Tryd.prog.info? 141=some j:=by
  have h:(Tryd.prog.info? 141).isSome=true:=by kernel_rfl
  exact Option.isSome_iff_exists.1 h
 simp only [binOp]
 simp [Op.equal,Op.maxDepth,run_equalIn_iface_ptr_same W 9998 a Tryd.underlying38 Tryd.underlying125 hi hc hj]
section
variable {fe:Nat→Addr} {b g m cap:Nat} {W0 W:World} {r:Rho} {Vol:Nat→Prop}
theorem ls_fit (hE:ErrU fe W0) (h:LS b g m cap W0 W r Vol) {d:Nat} {x:TyT} {v:Value} (hx:TyW d Vol x v W) (hfx:fewT x) (hsx:smallT x) (hs:strange (m:Int) x=false) (hz:sizeT (sub r (cleanT x))≤200) :
  Calls Tryd.prog 16 #[.pointer (some ⟨b,0,none⟩),v] W fun e w'=>∃ v',e=.returned (.tuple #[v',.nilIface])∧LS b g m cap W0 w' r Vol∧Kb (fun k=>k=g) W w'∧TyE Vol (sub r (cleanT x)) v' w':=by
 refine (ls_resolve hE h hx hfx hsx).mono ?_
 rintro e w' ⟨v',er,e1,e2,e3,⟨rfl,_,_,e5⟩ | ⟨_,_,_,e5⟩ | ⟨_,_,e5⟩⟩
 ·exact ⟨v',e1,e2,e3,e5⟩
 ·omega
 ·rw [hs] at e5;cases e5
theorem ls_big (hE:ErrU fe W0) (h:LS b g m cap W0 W r Vol) {d:Nat} {x:TyT} {v:Value} (hx:TyW d Vol x v W) (hfx:fewT x) (hsx:smallT x) (hs:strange (m:Int) x=false) (hz:200 < sizeT (sub r (cleanT x))) :
  Calls Tryd.prog 16 #[.pointer (some ⟨b,0,none⟩),v] W fun e w'=>e=.returned (.tuple #[zeroTy,errP (fe 0)])∧LS b g m cap W0 w' r Vol∧Kb (fun k=>k=g) W w':=by
 refine (ls_resolve hE h hx hfx hsx).mono ?_
 rintro e w' ⟨v',er,e1,e2,e3,⟨_,_,e5,_⟩ | ⟨rfl,rfl,_,_⟩ | ⟨_,_,e5⟩⟩
 ·omega
 ·exact ⟨e1,e2,e3⟩
 ·rw [hs] at e5;cases e5
theorem tyGo {d:Nat} {Vol Vol':Nat→Prop} {x:TyT} {v:Value} {w w':World} (h:TyW d Vol x v w) (hk:Kb Vol w w') (hv:∀ k,k < w.heap.size→Vol' k→Vol k):TyW d Vol' x v w':=TyW.step d _ _ _ _ _ _ h hk hv
theorem LS.kbg (h:LS b g m cap W0 W r Vol) {w w':World} (hk:Kb (fun k=>k=g) w w'):Kb Vol w w':=hk.wider (fun k _ (e:k=g)=>by subst e;exact h.1.lows.2.2.2)
theorem same_eq {Vol Vol2:Nat→Prop} {x:TyT} {v1 v2:Value} {w:World} (h1:TyE Vol x v1 w) (h2:TyE Vol2 x v2 w):Calls Tryd.prog 10 #[v1,v2] w fun e w'=>e=.returned (.bool true)∧Below w.heap.size w w':=by
 obtain ⟨d1,h1⟩:=h1
 obtain ⟨d2,h2⟩:=h2
 have h:=same_any (max d1 d2) Vol Vol2 x x v1 v2 w (TyW.ups (Nat.le_max_left _ _) h1) (TyW.ups (Nat.le_max_right _ _) h2)
 rw [eqT_self] at h
 exact h
end
end Lx
end Go.Proofs.YtdegmeoapgibiaaDoor
