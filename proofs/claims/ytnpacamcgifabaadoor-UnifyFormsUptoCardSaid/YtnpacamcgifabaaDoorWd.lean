/- A table at its start; Resolve and Unify by the state that a statement's walk keeps. No program is walked in this text; conditions: as each states. -/
import Derived.Test.YtnpacamcgifabaaDoorVz
import Derived.Test.YtnpacamcgifabaaDoorWa
import Derived.Test.YtnpacamcgifabaaDoorUs
namespace Go.Proofs.YtnpacamcgifabaaDoor
set_option linter.unusedSimpArgs false
set_option linter.unusedVariables false
namespace Lx
open Go Go.RowKit
theorem res_fr (m:Nat):Res m fr:=⟨fun v hv=>good_fr hv,fun v _=>sub_fr fr v⟩
theorem size_fr (v:Nat):sizeT (fr v)=1:=by simp [fr,sizeT,sizeTs]
/-- A new table's state. -/
theorem st_start {B B0 b m c g0:Nat} {A:Option Addr} {cs0:Array Value} {w:World} (hT:TabF B b m A c w) (h0:m=0→A=none) (hg:w.heap[g0]?=some (.cells cs0 89 (0,0))) (hg0:B0≤g0) (hB:B0≤B):∃ g,B0≤g∧St (fun k=>k=g) b g m c fr w:=by
 obtain ⟨g,hgB,hA,cs,hrow,hcs,hcell⟩:∃ g,B0≤g∧A=gA g m∧∃ cs,w.heap[g]?=some (.cells cs 89 (0,0))∧m * 6≤cs.size∧∀ i j,i < m→j < 6→w.cell? ⟨g,i * 6+j,none⟩=bind0[j]?:=by
  by_cases hm:m=0
  ·subst hm
   exact ⟨g0,hg0,by rw [h0 rfl];rfl,cs0,hg,by omega,fun i j hi=>by omega⟩
  ·have ho:=hT.own
   have hlt:=fun k e=>(ho.lt k e).1
   rcases ho.2 with ⟨_,e⟩ | ⟨g,cap',cur,e,_,hb,h1,h2,h5,h6⟩
   ·omega
   ·injection e with e1 _ _
    subst e1
    have hsz:m * 6≤cur.size:=by
     rcases Nat.lt_or_ge cur.size (m * 6) with hh | hh
     ·have h7:=ho.cellAt (m * 6 - 1) (by omega)
      rw [cellH hb,Array.getElem?_eq_none (by omega)] at h7
      have h8:(freeCells m)[m * 6 - 1]?=bind0[5]?:=by
       have:=freeCells_at m (m - 1) 5 (by omega) (by decide)
       rw [← this]
       congr 1
       omega
      rw [h8] at h7
      cases h7
     ·exact hh
    refine ⟨g,Nat.le_trans hB (hlt g rfl),by rw [gA_pos (i:=0) (by omega)],cur,hb,hsz,fun i j hi hj=>?_⟩
    rw [ho.cellAt _ (by omega)]
    exact freeCells_at m i j hi hj
 have hbg:b ≠ g:=by
  intro e
  have:=hT.blk
  rw [e,hrow] at this
  injection this with this
  injection this with _ ht
  exact absurd ht (by decide)
 have hbl:w.heap[b]?=some (.cells #[.slice (gA g m) m c] 86 (0,0)):=by rw [← hA];exact hT.blk
 refine ⟨g,hgB,fun _=>0,fun _=>none,fun _=>[],fun _=>0,⟨fun _=>none,⟨res_fr m,fun _ _ _=>rfl,fun _ _ _ e=>(by cases e),fun _ _ _ e=>(by cases e)⟩,fun _=>Iff.rfl,⟨hbl,⟨cs,hrow,hcs⟩,fun i hi=>hcell i 0 hi (by decide),rfl,hbg⟩⟩,fun i hi=>?_,⟨fun _=>.slice none 0 0,hbl,⟨cs,hrow,hcs⟩,fun i hi=>hcell i 5 hi (by decide),fun _ _=>World.ownsRow_nil _ _ _ _,fun _ _ _ e=>(by cases e),fun _ _ _ _ _ _ e=>(by cases e),rfl,hbg⟩,⟨fun _ _ _=>rfl,fun _ _ _ e=>(by cases e),fun _ _ _ e=>(by cases e),fun _ _ _ _=>rfl,fun _ _ _ h=>(by cases h)⟩⟩
 rw [hcell i 4 hi (by decide)]
 show _=some (Value.int .i64 ((sizeT (fr i):Nat):Int))
 rw [size_fr]
 rfl
mutual
theorem clean_good {m:Nat}:∀ x:TyT,goodT m x→cleanT x=x
 | .mk k s n l=>fun h=>by
  rw [goodT] at h
  rw [cleanT]
  rcases h with ⟨rfl,rfl,rfl,rfl⟩ | ⟨rfl,rfl,rfl⟩ | ⟨rfl,rfl,rfl,i,hi,rfl⟩ | ⟨rfl,rfl,hl⟩
  ·rfl
  ·rfl
  ·rfl
  ·simp only [if_true]
   rw [cleans_good l hl]
theorem cleans_good {m:Nat}:∀ l:List TyT,goodTs m l→cleanTs l=l
 | []=>fun _=>by rw [cleanTs]
 | x :: l=>fun h=>by rw [cleanTs,clean_good x h.1,cleans_good l h.2]
end
mutual
theorem strange_good {m:Nat}:∀ x:TyT,goodT m x→strange (m:Int) x=false
 | .mk k s n l=>fun h=>by
  rw [goodT] at h
  rw [strange]
  rcases h with ⟨rfl,rfl,rfl,rfl⟩ | ⟨rfl,rfl,rfl⟩ | ⟨rfl,rfl,rfl,i,hi,rfl⟩ | ⟨rfl,rfl,hl⟩
  ·rfl
  ·rfl
  ·have h1:¬ ((m:Int)≤(i:Int)):=by omega
   have h2:¬ ((i:Int) < 0):=by omega
   simp [h1,h2]
  ·simpa using stranges_good l hl
theorem stranges_good {m:Nat}:∀ l:List TyT,goodTs m l→stranges (m:Int) l=false
 | []=>fun _=>by rw [stranges]
 | x :: l=>fun h=>by rw [stranges,strange_good x h.1,stranges_good l h.2];rfl
end
mutual
theorem few_small:∀ x:TyT,sizeT x≤1000000000→fewT x
 | .mk k s n l=>fun h=>by
  rw [sizeT] at h
  have:=len_size l
  exact ⟨by omega,fews_small l (by omega)⟩
theorem fews_small:∀ l:List TyT,sizeTs l≤1000000000→fewTs l
 | []=>fun _=>trivial
 | x :: l=>fun h=>by
  rw [sizeTs] at h
  exact ⟨few_small x (by omega),fews_small l (by omega)⟩
end
mutual
theorem Unif.self {m:Nat}:∀ {r:Rho} {A B:TyT} {e:Nat} {r':Rho},Unif m r A B e r'→A=B→e=0∧r'=r
 | _,_,_,_,_,.same r v,_=>⟨rfl,rfl⟩
 | _,_,_,_,_,.left r v B e r' hne _,h=>absurd h.symm hne
 | _,_,_,_,_,.right r v A e r' hne _,h=>absurd (by rw [h];rfl) hne
 | _,_,_,_,_,.clash r A B _ _ hc,h=>by
  subst h
  rcases hc with hc | hc | hc <;> exact absurd rfl hc
 | _,_,_,_,_,.args r A B e r' _ _ _ _ hu,h=>hu.self (by rw [h])
theorem Unifs.self {m:Nat}:∀ {r:Rho} {la lb:List TyT} {e:Nat} {r':Rho},Unifs m r la lb e r'→la=lb→e=0∧r'=r
 | _,_,_,_,_,.nil r,_=>⟨rfl,rfl⟩
 | _,_,_,_,_,.stop r a b la lb e r' hu he,h=>by
  injection h with h1 h2
  exact absurd (hu.self (by rw [h1])).1 he
 | _,_,_,_,_,.step r r1 a b la lb e r' hu hs,h=>by
  injection h with h1 h2
  obtain ⟨_,e2⟩:=hu.self (by rw [h1])
  obtain ⟨e3,e4⟩:=hs.self h2
  exact ⟨e3,e4.trans e2⟩
end
/-- What a statement's walk keeps of a table. -/
def LS (b g m cap:Nat) (W0 W:World) (r:Rho) (Vol:Nat→Prop):Prop:=St Vol b g m cap r W∧(∀ x,x < m→sizeT (r x)≤200)∧(∀ k,Vol k→W0.heap.size≤k∧k < W.heap.size)∧Below W0.heap.size W0 W
section
variable {fe:Nat→Addr} {b g m cap:Nat} {W0 W W':World} {r r':Rho} {Vol Vol':Nat→Prop}
theorem LS.below (h:LS b g m cap W0 W r Vol) (hb:Below W.heap.size W W'):LS b g m cap W0 W' r Vol :=
 ⟨h.1.wide hb (fun _ _ e=>e) (fun _ e=>e),h.2.1,fun k e=>⟨(h.2.2.1 k e).1,Nat.lt_of_lt_of_le (h.2.2.1 k e).2 hb.size⟩,h.2.2.2.trans (hb.mono h.2.2.2.size)⟩
theorem LS.err (h:LS b g m cap W0 W r Vol) (hE:ErrU fe W0):ErrV fe Vol W :=
 ⟨ErrU.stay fe W0 W hE h.2.2.2,fun e=>absurd (World.block_lt_of_cell? W0 _ hE.large) (Nat.not_lt.2 (h.2.2.1 _ e).1),fun e=>absurd (World.block_lt_of_cell? W0 _ hE.state) (Nat.not_lt.2 (h.2.2.1 _ e).1),fun e=>absurd (World.block_lt_of_cell? W0 _ hE.types) (Nat.not_lt.2 (h.2.2.1 _ e).1)⟩
theorem LS.go (h:LS b g m cap W0 W r Vol) (hS:St Vol' b g m cap r' W') (hf:∀ x,x < m→sizeT (r' x)≤200) (hk:Kb Vol W W') (h1:∀ k,k < W.heap.size→Vol' k→Vol k) (h2:∀ k,Vol' k→k < W'.heap.size):LS b g m cap W0 W' r' Vol':=by
 have hw:=h.2.2.2.size
 refine ⟨hS,hf,fun k e=>⟨?_,h2 k e⟩,h.2.2.2.trans (hk.below hw (fun k e=>(h.2.2.1 k e).1))⟩
 rcases Nat.lt_or_ge k W.heap.size with hlt | hge
 ·exact (h.2.2.1 k (h1 k hlt e)).1
 ·omega
theorem ls_resolve (hE:ErrU fe W0) (h:LS b g m cap W0 W r Vol) {d:Nat} {x:TyT} {v:Value} (hx:TyW d Vol x v W) (hfx:fewT x) (hsx:smallT x) :
  Calls Tryd.prog 20 #[.pointer (some ⟨b,0,none⟩),v] W fun e w'=>∃ v' er,e=.returned (.tuple #[v',er])∧LS b g m cap W0 w' r Vol∧Kb (fun k=>k=g) W w' ∧
   ((er=.nilIface∧strange (m:Int) x=false∧sizeT (sub r (cleanT x))≤200∧TyE Vol (sub r (cleanT x)) v' w') ∨
    (v'=zeroTy∧er=errP (fe 0)∧strange (m:Int) x=false∧200 < sizeT (sub r (cleanT x))) ∨
    (v'=zeroTy∧er=errP (fe 1)∧strange (m:Int) x=true)):=by
 refine (Resolve_any fe b g m cap d Vol r x v W hx hfx hsx h.1 h.2.1 (h.err hE) (fun k e=>(h.2.2.1 k e).2)).mono ?_
 rintro e w' ⟨v',er,e1,e2,e3,e4⟩
 have hvg:=h.1.lows.2.2.2
 exact ⟨v',er,e1,h.go e2 h.2.1 (e3.wider (fun k _ (e:k=g)=>by subst e;exact hvg)) (fun _ _ e=>e) (fun k e=>Nat.lt_of_lt_of_le (h.2.2.1 k e).2 e3.size),e3,e4⟩
/-- Resolve of a type that is clean and small. -/
theorem ls_good (hE:ErrU fe W0) (h:LS b g m cap W0 W r Vol) {x:TyT} {v:Value} (hx:TyE Vol x v W) (gx:goodT m x) (hz:sizeT (sub r x)≤200) :
  Calls Tryd.prog 20 #[.pointer (some ⟨b,0,none⟩),v] W fun e w'=>∃ v',e=.returned (.tuple #[v',.nilIface])∧LS b g m cap W0 w' r Vol∧Kb (fun k=>k=g) W w'∧TyE Vol (sub r x) v' w':=by
 obtain ⟨d,hx⟩:=hx
 have h1:=size_sub_le _ x (Nat.le_refl _) gx r
 have hc:=clean_good x gx
 refine (ls_resolve hE h hx (few_small x (by omega)) (by unfold smallT;rw [hc];omega)).mono ?_
 rintro e w' ⟨v',er,e1,e2,e3,e4⟩
 rw [hc] at e4
 rcases e4 with ⟨rfl,_,_,e5⟩ | ⟨_,_,_,e5⟩ | ⟨_,_,e5⟩
 ·exact ⟨v',e1,e2,e3,e5⟩
 ·omega
 ·rw [strange_good x gx] at e5;cases e5
/-- Resolve of an unknown. -/
theorem ls_free (hE:ErrU fe W0) (h:LS b g m cap W0 W r Vol) {i:Nat} (hi:i < m) :
  Calls Tryd.prog 20 #[.pointer (some ⟨b,0,none⟩),.agg #[.int .i64 4,.string ⟨#[]⟩,.int .i64 (i:Int),.slice none 0 0]] W fun e w'=>∃ v',e=.returned (.tuple #[v',.nilIface])∧LS b g m cap W0 w' r Vol∧Kb (fun k=>k=g) W w'∧TyE Vol (r i) v' w':=by
 refine (ls_good hE h (x:=fr i) ⟨1,_,rfl,RowW.nil _ _⟩ (good_fr hi) (by rw [sub_fr];exact h.2.1 i hi)).mono ?_
 rintro e w' ⟨v',e1,e2,e3,e4⟩
 rw [sub_fr] at e4
 exact ⟨v',e1,e2,e3,e4⟩
theorem ls_unifyK (hE:ErrU fe W0) (hms:m≤1000000000) (h:LS b g m cap W0 W r Vol) {d:Nat} {x y:TyT} {v1 v2:Value} (hx:TyW d Vol x v1 W) (hy:TyW d Vol y v2 W) (hfx:fewT x) (hfy:fewT y) (hsx:smallT x) (hsy:smallT y) :
  Calls Tryd.prog 18 #[.pointer (some ⟨b,0,none⟩),v1,v2] W fun e w'=>∃ z r' Vol',e=.returned z∧LS b g m cap W0 w' r' Vol'∧KV Vol g W w'∧(∀ k,k < W.heap.size→Vol' k→Vol k)∧(∀ k,Vol k→Vol' k)∧Ext m r r' ∧
   ((z=.nilIface∧strange (m:Int) x=false∧strange (m:Int) y=false∧sizeT (cleanT x)≤200∧sizeT (cleanT y)≤200∧sub r' (cleanT x)=sub r' (cleanT y)) ∨ (∃ a,z=errP a)):=by
 have hR:=h.1.res
 refine (Unify_any fe b g m cap d hms Vol r x y v1 v2 W hx hy hfx hfy hsx hsy h.1 h.2.1 (h.err hE) (fun k e=>(h.2.2.1 k e).2)).mono ?_
 rintro e w' (⟨rfl,_,hb⟩ | ⟨rfl,_,_,_,hb⟩ | ⟨s1,s2,z1,z2,code,r',Vol',hu,rfl,p3,p4,p5,p6,p7⟩)
 ·exact ⟨_,r,Vol,rfl,h.below hb,KV.of_below hb,fun _ _ e=>e,fun _ e=>e,Ext.refl hR,.inr ⟨_,rfl⟩⟩
 ·exact ⟨_,r,Vol,rfl,h.below hb,KV.of_below hb,fun _ _ e=>e,fun _ e=>e,Ext.refl hR,.inr ⟨_,rfl⟩⟩
 ·have g1:=good_clean m x s1
  have g2:=good_clean m y s2
  obtain ⟨hn,heq⟩:=hu.next hR (good_sub hR.good _ g1) (good_sub hR.good _ g2) ((Ext.refl hR).sub g1) ((Ext.refl hR).sub g2)
  refine ⟨_,r',Vol',rfl,h.go p6 (hn.few h.2.1) p7.kb p3 p5,p7,p3,p4,hn.ext,?_⟩
  by_cases hc:code=0
  ·subst hc
   refine .inl ⟨rfl,s1,s2,z1,z2,?_⟩
   have:=heq rfl
   rwa [hn.ext.sub g1,hn.ext.sub g2] at this
  ·right
   unfold errC
   rw [if_neg hc]
   split
   ·exact ⟨_,rfl⟩
   ·exact ⟨_,rfl⟩
theorem ls_unify (hE:ErrU fe W0) (hms:m≤1000000000) (h:LS b g m cap W0 W r Vol) {d:Nat} {x y:TyT} {v1 v2:Value} (hx:TyW d Vol x v1 W) (hy:TyW d Vol y v2 W) (hfx:fewT x) (hfy:fewT y) (hsx:smallT x) (hsy:smallT y) :
  Calls Tryd.prog 18 #[.pointer (some ⟨b,0,none⟩),v1,v2] W fun e w'=>∃ z r' Vol',e=.returned z∧LS b g m cap W0 w' r' Vol'∧Kb Vol W w'∧(∀ k,k < W.heap.size→Vol' k→Vol k)∧(∀ k,Vol k→Vol' k)∧Ext m r r' ∧
   ((z=.nilIface∧strange (m:Int) x=false∧strange (m:Int) y=false∧sizeT (cleanT x)≤200∧sizeT (cleanT y)≤200∧sub r' (cleanT x)=sub r' (cleanT y)) ∨ (∃ a,z=errP a)):=by
 refine (ls_unifyK hE hms h hx hy hfx hfy hsx hsy).mono ?_
 rintro e w' ⟨z,r',Vol',e1,e2,e3,e4⟩
 exact ⟨z,r',Vol',e1,e2,e3.kb,e4⟩
/-- Unify of two types that are the same already. -/
theorem ls_again (hE:ErrU fe W0) (hms:m≤1000000000) (h:LS b g m cap W0 W r Vol) {d:Nat} {x y:TyT} {v1 v2:Value} (hx:TyW d Vol x v1 W) (hy:TyW d Vol y v2 W) (hfx:fewT x) (hfy:fewT y) (s1:strange (m:Int) x=false) (s2:strange (m:Int) y=false) (z1:sizeT (cleanT x)≤200) (z2:sizeT (cleanT y)≤200) (he:sub r (cleanT x)=sub r (cleanT y)) :
  Calls Tryd.prog 18 #[.pointer (some ⟨b,0,none⟩),v1,v2] W fun e w'=>∃ Vol',e=.returned .nilIface∧LS b g m cap W0 w' r Vol'∧Kb Vol W w'∧(∀ k,k < W.heap.size→Vol' k→Vol k)∧(∀ k,Vol k→Vol' k):=by
 refine (Unify_any fe b g m cap d hms Vol r x y v1 v2 W hx hy hfx hfy (by unfold smallT;omega) (by unfold smallT;omega) h.1 h.2.1 (h.err hE) (fun k e=>(h.2.2.1 k e).2)).mono ?_
 rintro e w' (⟨_,q,_⟩ | ⟨_,_,_,q,_⟩ | ⟨_,_,_,_,code,r',Vol',hu,rfl,p3,p4,p5,p6,p7⟩)
 ·rw [s1,s2] at q;rcases q with q | q <;> cases q
 ·omega
 ·obtain ⟨rfl,rfl⟩:=hu.self he
  exact ⟨Vol',rfl,h.go p6 h.2.1 p7.kb p3 p5,p7.kb,p3,p4⟩
end
end Lx
end Go.Proofs.YtnpacamcgifabaaDoor
