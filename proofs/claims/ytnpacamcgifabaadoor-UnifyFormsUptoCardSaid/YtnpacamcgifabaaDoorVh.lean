/- Package unify: resolved in general: what a type comes to, in new memory. Conditions: as each states. -/
import Derived.Test.YtnpacamcgifabaaDoorVg
import Derived.Deep.Slices
namespace Go.Proofs.YtnpacamcgifabaaDoor
set_option linter.unusedSimpArgs false
set_option linter.unusedVariables false
namespace Lx
open Go Go.RowKit
def TyE:HoldW TyT:=fun Vol t v w=>∃ d,TyW d Vol t v w
theorem TyE.step:StepW TyE:=fun _ _ _ _ _ _ ⟨d,h⟩ hk hv=>⟨d,TyW.step d _ _ _ _ _ _ h hk hv⟩
theorem TyE.this {Vol:Nat→Prop} {x:TyT} {v:Value} {w:World} (h:TyE Vol x v w):∃ A n c,v=.agg #[.int .i64 x.kind,.string x.name,.int .i64 x.var,.slice A n c]:=by
 obtain ⟨d,h⟩:=h
 exact h.this
theorem tyECells:∀ Vol x v w,TyE Vol x v w→(cellsL v).length=4:=fun Vol x v w ⟨_,h⟩=>tyCells Vol x v w h
theorem TyW.up1:∀ (d:Nat) (Vol:Nat→Prop) (x:TyT) (v:Value) (w:World),TyW d Vol x v w→TyW (d+1) Vol x v w
 | 0,_,_,_,_,h=>h.elim
 | d+1,Vol,.mk k s n l,v,w,⟨va,hv,A,c,e,h1,h2,h3⟩=>⟨va,hv,A,c,e,h1,h2,fun i hi=>by
  obtain ⟨b,off,vi,e1,e2,e3,e4,e5⟩:=h3 i hi
  exact ⟨b,off,vi,e1,e2,e3,TyW.up1 d Vol _ _ w e4,e5⟩⟩
theorem TyW.ups {d d':Nat} (h:d≤d') {Vol:Nat→Prop} {x:TyT} {v:Value} {w:World} (hx:TyW d Vol x v w):TyW d' Vol x v w:=by
 induction h with
 | refl=>exact hx
 | step _ ih=>exact TyW.up1 _ _ _ _ _ ih
/-- One depth for all of a row. -/
theorem rowE {Vol:Nat→Prop} {l:List TyT} {v:Value} {w:World} (h:RowW 4 TyE Vol l v w):∃ D,RowW 4 (TyW D) Vol l v w:=by
 obtain ⟨A,c,rfl,h1,h2,h3⟩:=h
 obtain ⟨D,hD⟩:=Go.Deep.fuel_lt (n:=l.length) (q:=fun i D=>∀ hi:i < l.length,∃ b off vi,A=some ⟨b,off,none⟩∧b < w.heap.size∧¬ Vol b∧TyW D Vol l[i] vi w∧∀ j,j < 4→w.cell? ⟨b,off+i * 4+j,none⟩=(cellsL vi)[j]?)
  (fun i a b hab h hi=>by
   obtain ⟨b',off,vi,e1,e2,e3,e4,e5⟩:=h hi
   exact ⟨b',off,vi,e1,e2,e3,e4.ups hab,e5⟩)
  (fun i hi=>by
   obtain ⟨b',off,vi,e1,e2,e3,⟨d,e4⟩,e5⟩:=h3 i hi
   exact ⟨d,fun _=>⟨b',off,vi,e1,e2,e3,e4,e5⟩⟩)
 exact ⟨D,A,c,rfl,h1,h2,fun i hi=>hD i hi hi⟩
theorem TabT.go {S Vol Vol':Nat→Prop} {b g m cap:Nat} {Bd:Nat→Option TyT} {w w':World} (h:TabT Vol b g m cap Bd w) (hk:Kb S w w') (hS:∀ k,S k→Vol k) (hg:¬ S g) (hv:∀ k,k < w.heap.size→Vol' k→Vol k) (hvg:Vol' g):TabT Vol' b g m cap Bd w':=by
 obtain ⟨cs,h1,h2⟩:=h.row
 have eg:=hk.block g h.glt hg
 exact ⟨(hk.block b h.blt (fun e=>h.volb (hS b e))).trans h.blk,⟨cs,eg.trans h1,h2⟩,fun i hi=>(h.ent i hi).step h.glt (hk.wider (fun k _ e=>hS k e)) hv eg,hvg,fun e=>h.volb (hv b h.blt e)⟩
/-- A row that is being made while heads halve ways. -/
structure RowK (Vol:Nat→Prop) (g:Nat) (w wr:World) (s:Option Addr) (cap:Nat) (acc:List TyT) (vs:List Value):Prop where
 val:(acc=[]∧vs=[]∧s=none∧cap=0) ∨ ∃ k,s=some ⟨k,0,none⟩
 own:wr.ownsRow w.heap.size 32 4 (.slice s acc.length cap) acc.length (vs.flatMap cellsL)
 len:vs.length=acc.length
 els:∀ (i:Nat) (h:i < acc.length) (h':i < vs.length),TyE (fun k=>Vol k ∨ s=some ⟨k,0,none⟩) acc[i] vs[i] wr
 keep:HeadK g w wr
section
variable {Vol:Nat→Prop} {g:Nat} {w wr w4 w6:World} {s:Option Addr} {cap:Nat} {acc:List TyT} {vs:List Value}
theorem RowK.start (Vol:Nat→Prop) (g:Nat) (w:World):RowK Vol g w w none 0 [] []:=⟨.inl ⟨rfl,rfl,rfl,rfl⟩,World.ownsRow_nil _ _ _ _,rfl,fun i h=>by simp at h,HeadK.refl _ _⟩
theorem RowK.mine (h:RowK Vol g w wr s cap acc vs) (hv:∀ k,Vol k→k < w.heap.size):∀ k,(Vol k ∨ s=some ⟨k,0,none⟩)→k < wr.heap.size:=by
 rintro k (e | e)
 ·exact Nat.lt_of_lt_of_le (hv k e) h.keep.kb.size
 ·exact (h.own.lt k (by rw [e];rfl)).2
theorem RowK.held (h:RowK Vol g w wr s cap acc vs) (hv:∀ k,Vol k→k < w.heap.size):RowW 4 TyE Vol acc (.slice s acc.length cap) wr:=by
 have hcc:acc.length≤cap∧cap≤maxLen:=by
  rcases h.own.2 with ⟨e,_⟩ | ⟨g',cap',cur,e,_,_,h1,h2,_⟩
  ·injection e with _ e2 e3
   omega
  ·injection e with _ _ e3
   omega
 refine ⟨s,cap,rfl,hcc.1,hcc.2,fun i hi=>?_⟩
 have hi2:i < vs.length:=by rw [h.len];exact hi
 have hel:=h.els i hi hi2
 rcases h.own.2 with ⟨_,e⟩ | ⟨k,cap',cur,e,hg,hb,h1,h2,h5,h6⟩
 ·omega
 ·injection e with e _ _
  subst e
  have hlt:k < wr.heap.size:=(Array.getElem?_eq_some_iff.1 hb).1
  refine ⟨k,0,vs[i],rfl,hlt,fun e=>by have:=hv k e;omega,TyE.step _ _ _ _ _ _ hel (Kb.refl _ _) (fun k _ e=>.inl e),fun j hj=>?_⟩
  have hbd:i * 4+j < acc.length * 4:=by omega
  rw [Nat.zero_add,h.own.cellAt _ hbd]
  refine flat_at 4 vs (fun v hvm=>?_) i j hi2 hj
  obtain ⟨n,hn,rfl⟩:=List.getElem_of_mem hvm
  exact tyECells _ _ _ _ (h.els n (by rw [← h.len];exact hn) hn)
theorem RowK.grow (h:RowK Vol g w wr s cap acc vs) (hgw:g < w.heap.size) {o:Obj} {g2:Nat} (hsz:w.heap.size≤w4.heap.size) (hg:(w4.alloc o).grownBy w6 (Value.slice s acc.length cap).ownBlock) (hat:(Value.slice s acc.length cap).ownBlock=some g2 ∨ g2=(w4.alloc o).heap.size) :
  Kb (fun k=>s=some ⟨k,0,none⟩) w4 w6∧(∀ k,k < w4.heap.size→(Vol k ∨ (some ⟨g2,0,none⟩:Option Addr)=some ⟨k,0,none⟩)→(Vol k ∨ s=some ⟨k,0,none⟩))∧s ≠ some ⟨g,0,none⟩∧g2 ≠ g:=by
 have hs6:w4.heap.size≤w6.heap.size:=by have:=hg.size;simp at this;omega
 have hblk:∀ j,j < w4.heap.size→some j ≠ (Value.slice s acc.length cap).ownBlock→w6.heap[j]?=w4.heap[j]?:=fun j hj hn=>(hg.block j (by simp;omega) hn).trans (Below.heap_alloc w4 o j hj)
 have hkb:Kb (fun k=>s=some ⟨k,0,none⟩) w4 w6:=⟨hg.os,hg.tape,hg.output,hs6,fun k hk hn=>hblk k hk (fun e=>hn ((by
  rcases h.val with ⟨_,_,rfl,_⟩ | ⟨k',rfl⟩
  ·cases e
  ·have e2:some k=some k':=e
   rw [Option.some.inj e2])))⟩
 have hnew:∀ k,k < w4.heap.size→(Vol k ∨ (some ⟨g2,0,none⟩:Option Addr)=some ⟨k,0,none⟩)→(Vol k ∨ s=some ⟨k,0,none⟩):=by
  rintro k hk (e | e)
  ·exact .inl e
  ·have e2:g2=k:=by injection e with e;injection e
   subst e2
   rcases hat with e3 | e3
   ·right
    rcases h.val with ⟨_,_,rfl,_⟩ | ⟨k',rfl⟩
    ·cases e3
    ·have e4:some k'=some g2:=e3
     rw [Option.some.inj e4]
   ·simp at e3
    omega
 refine ⟨hkb,hnew,fun e=>?_,fun e=>?_⟩
 ·have:=(h.own.lt g (by rw [e];rfl)).1
  omega
 ·subst e
  rcases hat with e | e
  ·have:=(h.own.lt g2 e).1
   omega
  ·simp at e
   omega
theorem RowK.snoc (h:RowK Vol g w wr s cap acc vs) (hvg:Vol g) (hgw:g < w.heap.size) {x2:TyT} {v2:Value} {o:Obj} {g2 cap2:Nat} (hf4:HeadK g wr w4) (hv4:TyE (fun k=>Vol k ∨ s=some ⟨k,0,none⟩) x2 v2 w4)
  (hown:w6.ownsRow w.heap.size 32 4 (.slice (some ⟨g2,0,none⟩) (acc.length+1) cap2) (acc.length+1) (vs.flatMap cellsL++cellsL v2)) (hg:(w4.alloc o).grownBy w6 (Value.slice s acc.length cap).ownBlock) (hat:(Value.slice s acc.length cap).ownBlock=some g2 ∨ g2=(w4.alloc o).heap.size) :
  RowK Vol g w w6 (some ⟨g2,0,none⟩) cap2 (acc++[x2]) (vs++[v2]):=by
 have hs4:=hf4.kb.size
 have hB:=h.keep.kb.size
 have hs6:w4.heap.size≤w6.heap.size:=by have:=hg.size;simp at this;omega
 have hblk:∀ j,j < w4.heap.size→some j ≠ (Value.slice s acc.length cap).ownBlock→w6.heap[j]?=w4.heap[j]?:=fun j hj hn=>(hg.block j (by simp;omega) hn).trans (Below.heap_alloc w4 o j hj)
 have hlen:(acc++[x2]).length=acc.length+1:=by simp
 have hnown:∀ j,j < w.heap.size→some j ≠ (Value.slice s acc.length cap).ownBlock:=fun j hj e=>by have:=(h.own.lt _ e.symm).1;omega
 have k5:=h.keep.trans hf4
 have hkeep:HeadK g w w6:=⟨⟨hg.os.trans k5.kb.os,hg.tape.trans k5.kb.tape,hg.output.trans k5.kb.output,by omega,fun j hj hn=>(hblk j (by omega) (hnown j hj)).trans (k5.kb.block j hj hn)⟩,fun i j h1 h2=>(World.cell?_of_block (hblk g (by omega) (hnown g hgw))).trans (k5.rest i j h1 h2)⟩
 have hkb:Kb (fun k=>Vol k ∨ s=some ⟨k,0,none⟩) w4 w6:=⟨hg.os,hg.tape,hg.output,hs6,fun k hk hn=>hblk k hk (fun e=>hn (.inr (by
  rcases h.val with ⟨_,_,rfl,_⟩ | ⟨k',rfl⟩
  ·cases e
  ·have e2:some k=some k':=e
   rw [Option.some.inj e2])))⟩
 have hnew:∀ k,k < w4.heap.size→(Vol k ∨ (some ⟨g2,0,none⟩:Option Addr)=some ⟨k,0,none⟩)→(Vol k ∨ s=some ⟨k,0,none⟩):=by
  rintro k hk (e | e)
  ·exact .inl e
  ·have e2:g2=k:=by injection e with e;injection e
   subst e2
   rcases hat with e3 | e3
   ·right
    rcases h.val with ⟨_,_,rfl,_⟩ | ⟨k',rfl⟩
    ·cases e3
    ·have e4:some k'=some g2:=e3
     rw [Option.some.inj e4]
   ·simp at e3
    omega
 have hk4:Kb (fun k=>Vol k ∨ s=some ⟨k,0,none⟩) wr w4:=hf4.kb.wider (fun k _ (e:k=g)=>by subst e;exact .inl hvg)
 refine ⟨.inr ⟨g2,rfl⟩,by rw [hlen,flat_snoc];exact hown,by simp [h.len],fun i h1 h2=>?_,hkeep⟩
 by_cases hi:i < acc.length
 ·rw [List.getElem_append_left hi,List.getElem_append_left (by rw [h.len];exact hi)]
  exact TyE.step _ _ _ _ _ _ (TyE.step _ _ _ _ _ _ (h.els i hi (by rw [h.len];exact hi)) hk4 (fun _ _ e=>e)) hkb hnew
 ·have e:i=acc.length:=by rw [hlen] at h1;omega
  subst e
  have e1:(acc++[x2])[acc.length]'h1=x2:=by simp
  have e2:(vs++[v2])[acc.length]'h2=v2:=by
   rw [List.getElem_append_right (by rw [h.len];exact Nat.le_refl _)]
   simp [h.len]
  rw [e1,e2]
  exact TyE.step _ _ _ _ _ _ hv4 hkb hnew
end
def ResC (b g m cap:Nat) (r:Rho) (rk:Nat→Nat) (s:Nat):Prop:=∀ (Vol:Nat→Prop) (F:Nat→Prop) (t:TyT) (val:Value) (w:World),TyE Vol t val w→goodT m t→sizeT (sub r t) < s→TSt Vol b g m cap r rk F w→(∀ k,Vol k→k < w.heap.size) →
 Calls Tryd.prog 57 #[.pointer (some ⟨b,0,none⟩),val] w fun e w'=>∃ v',e=.returned v'∧TyE Vol (sub r t) v' w'∧TSt Vol b g m cap r rk F w'∧HeadK g w w'
section
variable (b g m cap:Nat) (r:Rho) (rk:Nat→Nat) (s:Nat) (Vol F:Nat→Prop)
set_option maxRecDepth 100000 in
set_option maxHeartbeats 4000000 in
theorem eachRes (HC:Hid (ResC b g m cap r rk s)) (d:Nat) (l:List TyT) (v:Value) (w:World) (hv:RowW 4 (TyW d) Vol l v w) (hl:l.length≤1000000) (gt:goodTs m l) (hs:∀ (i:Nat) (h:i < l.length),sizeT (sub r l[i]) < s) (hT:TSt Vol b g m cap r rk F w) (hvl:∀ k,Vol k→k < w.heap.size) :
  Calls Tryd.prog 67 #[v,.func (.func 57) #[.pointer (some ⟨b,0,none⟩)] #[]] w fun e w'=>∃ v',e=.returned v'∧RowW 4 TyE Vol (subs r l) v' w'∧TSt Vol b g m cap r rk F w'∧HeadK g w w':=by
 obtain ⟨A,c,rfl⟩:=hv.slice
 have HV:=Lib.hid hv
 have HVL:=Lib.hid hvl
 have HGT:=Lib.hid gt
 have HSZ:=Lib.hid hs
 have HT:=Lib.hid hT
 have HVG:=Lib.hid hT.volg
 have HG:=Lib.hid hT.glt
 obtain ⟨i0,hi0,hz0,hz1,hz2⟩:=info_parts infoTy
 have HI0:=Lib.hid hi0
 have HI1:=Lib.hid hz0
 have HI2:=Lib.hid hz1
 have HI3:=Lib.hid hz2
 clear hi0 hz0 hz1 hz2 hv hvl gt hs hT
 go_enter Tryd.func67,Tryd.ntmps67
 go_wp2_with fail
 go_loopw [5,10] (fun v t wr=>∃ (k:Nat) (s':Option Addr) (cap':Nat) (vs:List Value),k≤l.length∧t=.int .i64 k∧v=.slice s' k cap'∧Hid (RowK Vol g w wr s' cap' (subs r (l.take k)) vs)∧Hid (TSt (fun k=>Vol k ∨ s'=some ⟨k,0,none⟩) b g m cap r rk F wr)) (fun _ t _=>l.length - (intOf t).toNat)
 case atStart=>exact ⟨0,none,0,[],Nat.zero_le _,rfl,rfl,Lib.hid (by rw [List.take_zero,subs];exact RowK.start Vol g w),Lib.hid (HT.out.vol (fun k _ e=>e.elim id (fun e=>by cases e)) (.inl HVG.out))⟩
 case round =>
  obtain ⟨k,s',cap',vs,hk,rfl,rfl,HR,HTK⟩:=hrel
  have hlk:(subs r (l.take k)).length=k:=by rw [subs_length,List.length_take];omega
  have HLK:=Lib.hid hlk
  by_cases hlt:k < l.length
  ·have hsl:∀ j,j < w.heap.size→s' ≠ some ⟨j,0,none⟩:=fun j hj e=>by have:=(HR.out.own.lt j (by rw [e];rfl)).1;omega
   obtain ⟨gg,o,vi,rfl,hg,_,hvi,hc⟩:=RowW.at (RowW.step (TyW.step d) Vol (fun k=>Vol k ∨ s'=some ⟨k,0,none⟩) _ _ _ _ HV.out (HR.out.keep.kb.wider (fun k _ (e:k=g)=>by subst e;exact HVG.out)) (fun j hj e=>e.elim id (fun e=>absurd e (hsl j hj)))) k hlt
   obtain ⟨B1,n1,c1,rfl⟩:=hvi.this
   have a0:=(hc 0 (by decide)).trans rfl
   have a1:=(hc 1 (by decide)).trans rfl
   have a2:=(hc 2 (by decide)).trans rfl
   have a3:=(hc 3 (by decide)).trans rfl
   simp only [cellsL,Value.cells,List.getElem?_cons_zero,List.getElem?_cons_succ,Nat.add_zero] at a0 a1 a2 a3
   have hk0:(0:Int)≤(k:Int):=by omega
   have hk1:(k:Int) < (l.length:Int):=by omega
   have hdc:decide (k < l.length)=true:=by simpa using hlt
   have HTKK:=Lib.hid (show subs r (l.take (k+1))=subs r (l.take k)++[sub r l[k]] by rw [List.take_succ_eq_append_getElem hlt,subs_map,subs_map,List.map_append,List.map_singleton])
   have HBZ:=Lib.hid (below_alloc wr (.cells #[.int .i64 l[k].kind,.string l[k].name,.int .i64 l[k].var,.slice B1 n1 c1] 32))
   have HMN:=Lib.hid (HR.out.mine HVL.out)
   have hTS:=HTK.out
   have HX:=Lib.hid (HC.out _ F l[k] _ _ ⟨d,(TyW.step d).below hvi HBZ.out⟩ (goodTs_mem HGT.out hlt) (HSZ.out k hlt) (hTS.below HBZ.out) (fun k e=>Nat.lt_of_lt_of_le (HMN.out k e) HBZ.out.size))
   clear hc hvi hlk hTS hsl
   have HXZ:=Lib.hid (HeadK.of_below (Nat.lt_of_lt_of_le HG.out HR.out.keep.kb.size) HBZ.out)
   generalize l[k]=x at *
   go_wp2_with (first
    | (go_at_call 57;refine HX.out.mono ?_;rintro e w4 ⟨v4,rfl,hv4,ht4,hk4⟩;obtain ⟨y5,y6,y7,hv4e⟩:=hv4.this;generalize hkk:(sub r x).kind=z0 at hv4e;generalize hnn:(sub r x).name=z1 at hv4e;generalize hvv:(sub r x).var=z2 at hv4e;subst hv4e;clear hkk hnn hvv;have HV4:=Lib.hid hv4;have HT4:=Lib.hid ht4;have HK4:=Lib.hid (HXZ.out.trans hk4);have HO4:=Lib.hid (own_kb HR.out.own HK4.out.kb (fun k e (e2:k=g)=>by have:=(HR.out.own.lt k e).1;have:=HG.out;omega));have hs4:=HR.out.keep.kb.size;have hs5:=HK4.out.kb.size;rw [HLK.out] at HO4;clear hv4 ht4 hk4)
    | (at_builtin;refine wpList_append_lies _ rfl _ _ 27 rfl w.heap.size 32 i0 (.agg #[.int .i64 0,.string ⟨#[]⟩,.int .i64 0,.slice none 0 0]) 4 56 Tryd.underlying27 HI0.out HI1.out HI2.out HI3.out rfl (by decide) _ _ _ rfl (HO4.out.alloc _) ⟨w4.heap.size,0,none⟩ 1 1 [.int .i64 z0,.string z1,.int .i64 z2,.slice y5 y6 y7] rfl rfl (cells_new _ #[.int .i64 z0,.string z1,.int .i64 z2,.slice y5 y6 y7] _ _ rfl) (by simp [Value.oneCell']) (by decide) (by unfold maxLen;omega) (by omega) (by simp;omega) _ rfl ?_;intro g2 cap2 w6 hown6 hg6 hat6 _;have HO6:=Lib.hid hown6;have HG6:=Lib.hid hg6;have HA6:=Lib.hid hat6;clear hown6 hg6 hat6))
   have HNX:Hid (RowK Vol g w w6 (some ⟨g2,0,none⟩) cap2 (subs r (l.take (k+1))) (vs++[Value.agg #[.int .i64 z0,.string z1,.int .i64 z2,.slice y5 y6 y7]])):=Lib.hid (by
    rw [HTKK.out]
    exact HR.out.snoc HVG.out HG.out HK4.out HV4.out (by rw [HLK.out];exact HO6.out) (by rw [HLK.out];exact HG6.out) (by rw [HLK.out];exact HA6.out))
   have HT6:Hid (TSt (fun k=>Vol k ∨ (some ⟨g2,0,none⟩:Option Addr)=some ⟨k,0,none⟩) b g m cap r rk F w6):=Lib.hid (by
    obtain ⟨q1,q2,q3,q4⟩:=HR.out.grow HG.out (w4:=w4) (by omega) (by rw [HLK.out];exact HG6.out) (by rw [HLK.out];exact HA6.out)
    obtain ⟨Bd,p1,p2,p3⟩:=HT4.out
    exact ⟨Bd,p1,p2,p3.go q1 (fun k e=>.inr e) q3 q2 (.inl HVG.out)⟩)
   go_roundw
   case rel=>exact ⟨k+1,some ⟨g2,0,none⟩,cap2,_,by omega,by go_num,rfl,HNX,HT6⟩
   case measure=>simp [intOf];omega
  ·obtain rfl:k=l.length:=by omega
   have hdc:decide (l.length < l.length)=false:=by simp
   rw [List.take_length] at HR
   go_wp2_with fail
   go_ret
   refine ⟨_,rfl,?_,HTK.out.vol (fun k _ e=>.inl e) HVG.out,HR.out.keep⟩
   have h1:=HR.out.held HVL.out
   rw [subs_length] at h1
   exact h1
theorem len_size:∀ l:List TyT,l.length≤sizeTs l
 | []=>Nat.le_refl _
 | x :: l=>by
  have:=len_size l
  have:=size_pos x
  simp [sizeTs];omega
set_option maxRecDepth 100000 in
set_option maxHeartbeats 4000000 in
theorem res_step (hs6:s≤1000000) (HC:Hid (ResC b g m cap r rk s)):ResC b g m cap r rk (s+1):=by
 intro Vol F t val w hv gt hs hT hvl
 obtain ⟨A,l,c,rfl⟩:=hv.this
 have hB:Below w.heap.size w ((w.alloc (.cells #[.int .i64 t.kind,.string t.name,.int .i64 t.var,.slice A l c] 32)).alloc (.cells #[.int .i64 0,.string ⟨#[]⟩,.int .i64 0,.slice none 0 0] 32)):=(below_alloc _ _).alloc (by simp) _
 have hback:∀ k,k < w.heap.size→(Vol k ∨ k=w.heap.size ∨ k=w.heap.size+1)→Vol k:=fun k hk e=>by
  rcases e with e | e | e
  ·exact e
  ·omega
  ·omega
 have h0:((w.alloc (.cells #[.int .i64 t.kind,.string t.name,.int .i64 t.var,.slice A l c] 32)).alloc (.cells #[.int .i64 0,.string ⟨#[]⟩,.int .i64 0,.slice none 0 0] 32)).heap[w.heap.size]?=some (.cells #[.int .i64 t.kind,.string t.name,.int .i64 t.var,.slice A l c] 32):=(Below.heap_alloc _ _ w.heap.size (by simp)).trans (heap_alloc_new _ _)
 have h1:((w.alloc (.cells #[.int .i64 t.kind,.string t.name,.int .i64 t.var,.slice A l c] 32)).alloc (.cells #[.int .i64 0,.string ⟨#[]⟩,.int .i64 0,.slice none 0 0] 32)).heap[w.heap.size+1]?=some (.cells #[.int .i64 0,.string ⟨#[]⟩,.int .i64 0,.slice none 0 0] 32):=by
  have:=heap_alloc_new (w.alloc (.cells #[.int .i64 t.kind,.string t.name,.int .i64 t.var,.slice A l c] 32)) (.cells #[.int .i64 0,.string ⟨#[]⟩,.int .i64 0,.slice none 0 0] 32)
  simpa using this
 have HG:=Lib.hid hT.glt
 have HVG:=Lib.hid hT.volg
 have HT:=Lib.hid ((hT.vol hback (.inl hT.volg)).below hB)
 have HV:=Lib.hid (TyE.step _ _ _ _ _ _ hv (Kb.of_below hB) hback)
 have H0:=Lib.hid h0
 have H1:=Lib.hid h1
 have HSZ:=Lib.hid (show w.heap.size+2=((w.alloc (.cells #[.int .i64 t.kind,.string t.name,.int .i64 t.var,.slice A l c] 32)).alloc (.cells #[.int .i64 0,.string ⟨#[]⟩,.int .i64 0,.slice none 0 0] 32)).heap.size by simp)
 have HKB:=Lib.hid (HeadK.of_below hT.glt hB)
 have HVL:=Lib.hid hvl
 have HGT:=Lib.hid gt
 have HS:=Lib.hid hs
 have HS6:=Lib.hid hs6
 clear hB hback h0 h1 hT hv gt hs hvl hs6
 go_enter Tryd.func57,Tryd.ntmps57
 go_wp2_with fail
 generalize ((w.alloc (.cells #[.int .i64 t.kind,.string t.name,.int .i64 t.var,.slice A l c] 32)).alloc (.cells #[.int .i64 0,.string ⟨#[]⟩,.int .i64 0,.slice none 0 0] 32))=Y at HT HV H0 H1 HSZ HKB ⊢
 have hvz:∀ k,(Vol k ∨ k=w.heap.size ∨ k=w.heap.size+1)→k < Y.heap.size:=fun k e=>by
  have:=HSZ.out
  rcases e with e | e | e
  ·have:=HVL.out k e;omega
  ·omega
  ·omega
 refine (head_st HT.out t HGT.out _ HV.out hvz).mono ?_
 rintro e w1 ⟨t',v',rfl,gt',es,hun,hv',hT1,hK1⟩
 obtain ⟨A',l',c',rfl⟩:=TyE.this hv'
 have HT1:=Lib.hid hT1
 have HV1:Hid (TyE _ t' _ w1):=Lib.hid hv'
 have HG1:=Lib.hid gt'
 have HES:=Lib.hid es
 have HUN:=Lib.hid hun
 have H01:=Lib.hid ((hK1.kb.block w.heap.size (by have:=HSZ.out;omega) (by have:=HG.out;omega)).trans H0.out)
 have H11:=Lib.hid ((hK1.kb.block (w.heap.size+1) (by have:=HSZ.out;omega) (by have:=HG.out;omega)).trans H1.out)
 have HKB1:=Lib.hid (HKB.out.trans hK1)
 have HSZ1:=Lib.hid (show w.heap.size+2≤w1.heap.size by have:=HSZ.out;have:=hK1.kb.size;omega)
 have HVZ1:=Lib.hid (fun k e=>Nat.lt_of_lt_of_le (hvz k e) hK1.kb.size)
 clear hT1 hv' gt' es hun hK1 hvz HT HV H0 H1 HKB HSZ
 have x0:=(cellH H01.out 0).trans rfl
 have x1:=(cellH H01.out 1).trans rfl
 have x2:=(cellH H01.out 2).trans rfl
 have x3:=(cellH H01.out 3).trans rfl
 have f0:=frozenH H01.out 0
 have f1:=frozenH H01.out 1
 have f2:=frozenH H01.out 2
 have f3:=frozenH H01.out 3
 have hk:=kput4 w1 w.heap.size (.int .i64 t'.kind) (.string t'.name) (.int .i64 t'.var) (.slice A' l' c')
 have hq:=put4 (.int .i64 t'.kind) (.string t'.name) (.int .i64 t'.var) (.slice A' l' c') H01.out
 have hr:=(hk.block (w.heap.size+1) (by have:=HSZ1.out;omega) (by omega)).trans H11.out
 have y3:=(cellH hq 3).trans rfl
 go_wp2_with fail
 have HTW:=Lib.hid (HT1.out.kb hk (fun k e=>.inr (.inl e)) (by have:=HG.out;omega))
 have HVW:=Lib.hid (TyE.step _ _ _ _ _ _ HV1.out (hk.wider (S':=fun k=>Vol k ∨ k=w.heap.size ∨ k=w.heap.size+1) (fun k _ e=>.inr (.inl e))) (fun _ _ e=>e))
 have HKW:Hid (HeadK g w _):=Lib.hid (by
  have k0:=HKB1.out.kb
  exact (⟨⟨hk.os.trans k0.os,hk.tape.trans k0.tape,hk.output.trans k0.output,Nat.le_trans k0.size hk.size,fun j hj hn=>(hk.block j (Nat.lt_of_lt_of_le hj k0.size) (fun e=>by omega)).trans (k0.block j hj hn)⟩,fun i j h1 h2=>(World.cell?_of_block (hk.block g HT1.out.glt (by have:=HG.out;omega))).trans (HKB1.out.rest i j h1 h2)⟩:HeadK g w _))
 have HSX:=Lib.hid hk.size
 clear x0 x1 x2 x3 f0 f1 f2 f3 y3 H01 H11
 generalize ((((w1.setCell ⟨w.heap.size,0,none⟩ (.int .i64 t'.kind)).setCell ⟨w.heap.size,1,none⟩ (.string t'.name)).setCell ⟨w.heap.size,2,none⟩ (.int .i64 t'.var)).setCell ⟨w.heap.size,3,none⟩ (.slice A' l' c'))=X at hk hq hr HTW HVW HKW HSX ⊢
 clear hk
 have HSIZE:Hid (1+sizeTs (subs r t'.args) < s+1 ∨ t'.args=[]):=Lib.hid (by
  by_cases k4:t'.kind=4
  ·right
   obtain ⟨u,hu,rfl⟩:=good_free HG1.out k4
   rfl
  ·left
   have h1:=HS.out
   rw [← HES.out,size_sub k4] at h1
   exact h1)
 have HSS:Hid (∀ (i:Nat) (h:i < t'.args.length),sizeT (sub r t'.args[i]) < s):=Lib.hid (fun i h=>by
  rcases HSIZE.out with h1 | h1
  ·have h2:=sizeTs_mem (l:=subs r t'.args) (i:=i) (by rw [subs_length];exact h)
   have h3:(subs r t'.args)[i]'(by rw [subs_length];exact h)=sub r t'.args[i]:=by simp [subs_map]
   rw [h3] at h2
   omega
  ·rw [h1] at h;simp at h)
 have HLEN:Hid (t'.args.length≤1000000):=Lib.hid (by
  rcases HSIZE.out with h1 | h1
  ·have h2:=len_size (subs r t'.args)
   rw [subs_length] at h2
   have:=HS6.out
   omega
  ·rw [h1];simp)
 have HGA:Hid (goodTs m t'.args):=Lib.hid (by
  by_cases k4:t'.kind=4
  ·obtain ⟨u,hu,rfl⟩:=good_free HG1.out k4
   trivial
  ·exact good_args HG1.out k4)
 have HTREE:Hid (sub r t=.mk t'.kind t'.name t'.var (subs r t'.args)):=Lib.hid (by
  rw [← HES.out]
  by_cases k4:t'.kind=4
  ·rw [HUN.out k4]
   obtain ⟨u,hu,rfl⟩:=good_free HG1.out k4
   rfl
  ·exact sub_args k4)
 obtain ⟨dd,hdd⟩:=HVW.out
 obtain ⟨dr,hrow⟩:=hdd.row
 have HROW:=Lib.hid hrow
 clear hdd hrow
 refine (eachRes b g m cap r rk s _ F HC dr t'.args _ X HROW.out HLEN.out HGA.out HSS.out HTW.out (fun k e=>Nat.lt_of_lt_of_le (HVZ1.out k e) HSX.out)).mono ?_
 rintro e w2 ⟨v2,rfl,hv2,hT2,hK2⟩
 obtain ⟨A2,c2,hve⟩:=hv2.slice
 generalize hll:(subs r t'.args).length=l2 at hve
 subst hve
 have HV2:=Lib.hid hv2
 have HT2:=Lib.hid hT2
 have HK2:=Lib.hid (HKW.out.trans hK2)
 have HQ2:=Lib.hid ((hK2.kb.block w.heap.size (by have:=HSX.out;have:=HSZ1.out;omega) (by have:=HG.out;omega)).trans hq)
 have HR2:=Lib.hid ((hK2.kb.block (w.heap.size+1) (by have:=HSX.out;have:=HSZ1.out;omega) (by have:=HG.out;omega)).trans hr)
 have HSZ2:=Lib.hid (show w.heap.size+2≤w2.heap.size by have:=HSX.out;have:=HSZ1.out;have:=hK2.kb.size;omega)
 clear hv2 hT2 hK2 hq hr hll
 have x0:=(cellH HQ2.out 0).trans rfl
 have x1:=(cellH HQ2.out 1).trans rfl
 have x2:=(cellH HQ2.out 2).trans rfl
 have x3:=(cellH HQ2.out 3).trans rfl
 have fx3:=frozenH HQ2.out 3
 have r0:=(cellH HR2.out 0).trans rfl
 have r1:=(cellH HR2.out 1).trans rfl
 have r2:=(cellH HR2.out 2).trans rfl
 have r3:=(cellH HR2.out 3).trans rfl
 have fr0:=frozenH HR2.out 0
 have fr1:=frozenH HR2.out 1
 have fr2:=frozenH HR2.out 2
 have fr3:=frozenH HR2.out 3
 go_wp2_with fail
 have hr':=(Below.heap_setCell w2 ⟨w.heap.size,3,none⟩ (.slice A2 l2 c2) (w.heap.size+1) (by show w.heap.size+1 ≠ w.heap.size;omega)).trans HR2.out
 have hq2:=put4 (.int .i64 t'.kind) (.string t'.name) (.int .i64 t'.var) (.slice A2 l2 c2) hr'
 have hk2:=((Kb.refl (fun j=>j=w.heap.size ∨ j=w.heap.size+1) w2).put (p:=⟨w.heap.size,3,none⟩) (.inl rfl) (.slice A2 l2 c2)).trans ((kput4 (w2.setCell ⟨w.heap.size,3,none⟩ (.slice A2 l2 c2)) (w.heap.size+1) (.int .i64 t'.kind) (.string t'.name) (.int .i64 t'.var) (.slice A2 l2 c2)).wider (fun k _ e=>.inr e))
 clear x0 x1 x2 x3 fx3 r0 r1 r2 r3 fr0 fr1 fr2 fr3 hr'
 generalize (((((w2.setCell ⟨w.heap.size,3,none⟩ (.slice A2 l2 c2)).setCell ⟨w.heap.size+1,0,none⟩ (.int .i64 t'.kind)).setCell ⟨w.heap.size+1,1,none⟩ (.string t'.name)).setCell ⟨w.heap.size+1,2,none⟩ (.int .i64 t'.var)).setCell ⟨w.heap.size+1,3,none⟩ (.slice A2 l2 c2))=W at hq2 hk2 ⊢
 have c0:=(cellH hq2 0).trans rfl
 have c1:=(cellH hq2 1).trans rfl
 have c2':=(cellH hq2 2).trans rfl
 have c3:=(cellH hq2 3).trans rfl
 have hgl:=HG.out
 have hkW:Kb (fun k=>Vol k ∨ k=w.heap.size ∨ k=w.heap.size+1) w2 W:=hk2.wider (fun k _ e=>.inr e)
 refine bodyPost_ret (v:=.agg #[.int .i64 t'.kind,.string t'.name,.int .i64 t'.var,.slice A2 l2 c2]) (by simp [results,Tryd.results57,go_sem,c0,c1,c2',c3]) rfl ⟨_,rfl,?_,?_,?_⟩
 ·rw [HTREE.out]
  obtain ⟨D,hD⟩:=rowE (RowW.step TyE.step _ Vol _ _ _ _ HV2.out hkW (fun k _ e=>.inl e))
  exact ⟨D+1,_,rfl,hD⟩
 ·exact (HT2.out.kb hk2 (fun k e=>.inr e) (by omega)).vol (fun k _ e=>.inl e) HVG.out
 ·have k0:=HK2.out.kb
  exact ⟨⟨hk2.os.trans k0.os,hk2.tape.trans k0.tape,hk2.output.trans k0.output,Nat.le_trans k0.size hk2.size,fun j hj hn=>(hk2.block j (Nat.lt_of_lt_of_le hj k0.size) (fun e=>by omega)).trans (k0.block j hj hn)⟩,fun i j h1 h2=>(World.cell?_of_block (hk2.block g HT2.out.glt (by omega))).trans (HK2.out.rest i j h1 h2)⟩
theorem res_any:∀ s,s≤1000000→ResC b g m cap r rk s
 | 0,_=>fun _ _ _ _ _ _ _ h _ _=>absurd h (by omega)
 | s+1,h=>res_step b g m cap r rk s (by omega) (Lib.hid (res_any s (by omega)))
end
end Lx
end Go.Proofs.YtnpacamcgifabaaDoor
