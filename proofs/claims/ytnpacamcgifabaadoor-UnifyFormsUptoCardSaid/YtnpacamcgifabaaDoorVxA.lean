/- Substitution in types with unknowns, and what unifying two types does to what all unknowns are. No program stands in this text; no conditions. -/
/- What unifying two types does: what all unknowns are goes on, and both types become one. No program stands in this text; no conditions. -/
/- Any two types can be gone through: unifying comes to an end. No program stands in this text; no conditions. -/
import Derived.Test.YtnpacamcgifabaaDoorUk
namespace Go.Proofs.YtnpacamcgifabaaDoor
set_option linter.unusedSimpArgs false
set_option linter.unusedVariables false
namespace Lx
open Go Go.RowKit
abbrev Rho:=Nat→TyT
/-- An unknown as a type. -/
def fr (v:Nat):TyT:=.mk 4 ⟨#[]⟩ v []
mutual
/-- A type that is clean and of the table. -/
def goodT (m:Nat):TyT→Prop
 | .mk k s n l=>(k=1∧s=⟨#[]⟩∧n=0∧l=[]) ∨ (k=3∧n=0∧l=[]) ∨ (k=4∧s=⟨#[]⟩∧l=[]∧∃ i:Nat,i < m∧n=i) ∨ (k=2∧n=0∧goodTs m l)
def goodTs (m:Nat):List TyT→Prop
 | []=>True
 | x :: l=>goodT m x∧goodTs m l
end
mutual
/-- A type with each unknown replaced. -/
def sub (r:Rho):TyT→TyT
 | .mk k s n l=>if k=4 then r n.toNat else .mk k s n (subs r l)
def subs (r:Rho):List TyT→List TyT
 | []=>[]
 | x :: l=>sub r x :: subs r l
end
mutual
def sizeT:TyT→Nat
 | .mk _ _ _ l=>1+sizeTs l
def sizeTs:List TyT→Nat
 | []=>0
 | x :: l=>sizeT x+sizeTs l
end
mutual
/-- How often an unknown stands in a type. -/
def occT (v:Nat):TyT→Nat
 | .mk k _ n l=>if k=4 then (if n.toNat=v then 1 else 0) else occTs v l
def occTs (v:Nat):List TyT→Nat
 | []=>0
 | x :: l=>occT v x+occTs v l
end
theorem subs_map (r:Rho):∀ l,subs r l=l.map (sub r)
 | []=>by simp [subs]
 | x :: l=>by simp [subs,subs_map r l]
theorem subs_length (r:Rho) (l:List TyT):(subs r l).length=l.length:=by rw [subs_map,List.length_map]
theorem sub_fr (r:Rho) (v:Nat):sub r (fr v)=r v:=by simp [fr,sub]
theorem occ_fr (v u:Nat):occT v (fr u)=if u=v then 1 else 0:=by simp [fr,occT]
theorem size_pos:∀ t,1≤sizeT t
 | .mk _ _ _ _=>by simp [sizeT]
theorem good_fr {m v:Nat} (h:v < m):goodT m (fr v):=by
 rw [fr,goodT]
 exact .inr (.inr (.inl ⟨rfl,rfl,rfl,v,h,rfl⟩))
theorem goodTs_mem {m:Nat}:∀ {l:List TyT},goodTs m l→∀ {k:Nat} (h:k < l.length),goodT m l[k]
 | [],_,k,h=>by simp at h
 | x :: l,hf,0,_=>hf.1
 | x :: l,hf,k+1,h=>goodTs_mem hf.2 (by simpa using h)
theorem good_free {m:Nat} {t:TyT} (h:goodT m t) (hk:t.kind=4):∃ v,v < m∧t=fr v:=by
 obtain ⟨k,s,n,l⟩:=t
 have hk:k=4:=hk
 subst hk
 rcases h with ⟨e,_⟩ | ⟨e,_⟩ | ⟨_,rfl,rfl,i,hi,rfl⟩ | ⟨e,_⟩
 ·cases e
 ·cases e
 ·exact ⟨i,hi,rfl⟩
 ·cases e
mutual
theorem sub_sub (r r':Rho):∀ t,sub r' (sub r t)=sub (fun v=>sub r' (r v)) t
 | .mk k s n l=>by
  by_cases h:k=4
  ·simp [sub,h]
  ·simp [sub,h,subs_subs r r' l]
theorem subs_subs (r r':Rho):∀ l,subs r' (subs r l)=subs (fun v=>sub r' (r v)) l
 | []=>by simp [subs]
 | x :: l=>by simp [subs,sub_sub r r' x,subs_subs r r' l]
end
mutual
theorem sub_congr {m:Nat} {r r':Rho} (h:∀ v,v < m→r v=r' v):∀ t,goodT m t→sub r t=sub r' t
 | .mk k s n l=>fun hg=>by
  rcases hg with ⟨rfl,rfl,rfl,rfl⟩ | ⟨rfl,rfl,rfl⟩ | ⟨rfl,rfl,rfl,i,hi,rfl⟩ | ⟨rfl,rfl,hl⟩
  ·simp [sub,subs]
  ·simp [sub,subs]
  ·simp [sub,h i hi]
  ·simp [sub,subs_congr h l hl]
theorem subs_congr {m:Nat} {r r':Rho} (h:∀ v,v < m→r v=r' v):∀ l,goodTs m l→subs r l=subs r' l
 | []=>fun _=>by simp [subs]
 | x :: l=>fun hg=>by simp [subs,sub_congr h x hg.1,subs_congr h l hg.2]
end
mutual
theorem sub_id {m:Nat}:∀ t,goodT m t→sub fr t=t
 | .mk k s n l=>fun hg=>by
  rcases hg with ⟨rfl,rfl,rfl,rfl⟩ | ⟨rfl,rfl,rfl⟩ | ⟨rfl,rfl,rfl,i,hi,rfl⟩ | ⟨rfl,rfl,hl⟩
  ·simp [sub,subs]
  ·simp [sub,subs]
  ·simp [sub,fr]
  ·simp [sub,subs_id l hl]
theorem subs_id {m:Nat}:∀ l,goodTs m l→subs fr l=l
 | []=>fun _=>by simp [subs]
 | x :: l=>fun hg=>by simp [subs,sub_id x hg.1,subs_id l hg.2]
end
mutual
theorem good_sub {m:Nat} {r:Rho} (h:∀ v,v < m→goodT m (r v)):∀ t,goodT m t→goodT m (sub r t)
 | .mk k s n l=>fun hg=>by
  rcases hg with ⟨rfl,rfl,rfl,rfl⟩ | ⟨rfl,rfl,rfl⟩ | ⟨rfl,rfl,rfl,i,hi,rfl⟩ | ⟨rfl,rfl,hl⟩
  ·simp [sub,subs,goodT]
  ·simp [sub,subs,goodT]
  ·simpa [sub] using h i hi
  ·simp [sub,goodT]
   exact goods_sub h l hl
theorem goods_sub {m:Nat} {r:Rho} (h:∀ v,v < m→goodT m (r v)):∀ l,goodTs m l→goodTs m (subs r l)
 | []=>fun _=>by rw [subs];trivial
 | x :: l=>fun hg=>by rw [subs];exact ⟨good_sub h x hg.1,goods_sub h l hg.2⟩
end
/-- One unknown replaced. -/
def one (v:Nat) (A:TyT):Rho:=fun u=>if u=v then A else fr u
mutual
theorem sub_one_none {m v:Nat} {A:TyT}:∀ t,goodT m t→occT v t=0→sub (one v A) t=t
 | .mk k s n l=>fun hg ho=>by
  rcases hg with ⟨rfl,rfl,rfl,rfl⟩ | ⟨rfl,rfl,rfl⟩ | ⟨rfl,rfl,rfl,i,hi,rfl⟩ | ⟨rfl,rfl,hl⟩
  ·simp [sub,subs]
  ·simp [sub,subs]
  ·have:¬ i=v:=by simpa [occT] using ho
   simp [sub,one,this,fr]
  ·simp [sub,subs_one_none l hl (by simpa [occT] using ho)]
theorem subs_one_none {m v:Nat} {A:TyT}:∀ l,goodTs m l→occTs v l=0→subs (one v A) l=l
 | []=>fun _ _=>by simp [subs]
 | x :: l=>fun hg ho=>by
  rw [occTs] at ho
  have h1:occT v x=0:=by omega
  have h2:occTs v l=0:=by omega
  simp [subs,sub_one_none x hg.1 h1,subs_one_none l hg.2 h2]
end
mutual
theorem size_one {m v:Nat} {A:TyT}:∀ t,goodT m t→sizeT (sub (one v A) t)=sizeT t+occT v t * (sizeT A - 1)
 | .mk k s n l=>fun hg=>by
  rcases hg with ⟨rfl,rfl,rfl,rfl⟩ | ⟨rfl,rfl,rfl⟩ | ⟨rfl,rfl,rfl,i,hi,rfl⟩ | ⟨rfl,rfl,hl⟩
  ·simp [sub,subs,sizeT,occT,occTs]
  ·simp [sub,subs,sizeT,occT,occTs]
  ·have:=size_pos A
   by_cases e:i=v
   ·simp [sub,one,e,sizeT,occT,sizeTs];omega
   ·simp [sub,one,e,sizeT,occT,sizeTs,fr]
  ·simp [sub,sizeT,occT,sizes_one l hl];omega
theorem sizes_one {m v:Nat} {A:TyT}:∀ l,goodTs m l→sizeTs (subs (one v A) l)=sizeTs l+occTs v l * (sizeT A - 1)
 | []=>fun _=>by simp [subs,sizeTs,occTs]
 | x :: l=>fun hg=>by
  simp only [subs,sizeTs,occTs,size_one x hg.1,sizes_one l hg.2,Nat.add_mul];omega
end
mutual
theorem occ_one {m v u:Nat} {A:TyT} (hu:occT u A=0):∀ t,goodT m t→occT u (sub (one v A) t)=if u=v then 0 else occT u t
 | .mk k s n l=>fun hg=>by
  rcases hg with ⟨rfl,rfl,rfl,rfl⟩ | ⟨rfl,rfl,rfl⟩ | ⟨rfl,rfl,rfl,i,hi,rfl⟩ | ⟨rfl,rfl,hl⟩
  ·simp [sub,subs,occT,occTs]
  ·simp [sub,subs,occT,occTs]
  ·by_cases e:i=v
   ·subst e
    simp [sub,one,hu,occT]
    intro h;exact fun e=>h e.symm
   ·by_cases e2:u=v
    ·subst e2
     simp [sub,one,e,occ_fr]
    ·simp [sub,one,e,e2,occ_fr,occT]
  ·simp [sub,occT,occs_one hu l hl]
theorem occs_one {m v u:Nat} {A:TyT} (hu:occT u A=0):∀ l,goodTs m l→occTs u (subs (one v A) l)=if u=v then 0 else occTs u l
 | []=>fun _=>by simp [subs,occTs]
 | x :: l=>fun hg=>by
  simp only [subs,occTs,occ_one hu x hg.1,occs_one hu l hg.2];split <;> simp
end
/-- What all unknowns are: types without bound unknowns. -/
structure Res (m:Nat) (r:Rho):Prop where
 good:∀ v,v < m→goodT m (r v)
 idem:∀ v,v < m→sub r (r v)=r v
/-- Binding an unknown that is not bound: 0: bound; 1: it stands in the type; 2: something gets too large. -/
inductive Bind (m:Nat) (r:Rho) (v:Nat) (A:TyT):Nat→Rho→Prop
 | inside:occT v A ≠ 0→Bind m r v A 1 r
 | large:occT v A=0→(∃ x,x < m∧200 < sizeT (sub (one v A) (r x)))→Bind m r v A 2 r
 | done:occT v A=0→(∀ x,x < m→sizeT (sub (one v A) (r x))≤200)→Bind m r v A 0 (fun x=>sub (one v A) (r x))
mutual
inductive Unif (m:Nat):Rho→TyT→TyT→Nat→Rho→Prop
 | same (r:Rho) (v:Nat):Unif m r (fr v) (fr v) 0 r
 | left (r:Rho) (v:Nat) (B:TyT) (e:Nat) (r':Rho):B ≠ fr v→Bind m r v B e r'→Unif m r (fr v) B e r'
 | right (r:Rho) (v:Nat) (A:TyT) (e:Nat) (r':Rho):A.kind ≠ 4→Bind m r v A e r'→Unif m r A (fr v) e r'
 | clash (r:Rho) (A B:TyT):A.kind ≠ 4→B.kind ≠ 4→(A.kind ≠ B.kind ∨ A.name ≠ B.name ∨ A.args.length ≠ B.args.length)→Unif m r A B 1 r
 | args (r:Rho) (A B:TyT) (e:Nat) (r':Rho):A.kind ≠ 4→A.kind=B.kind→A.name=B.name→A.args.length=B.args.length→Unifs m r A.args B.args e r'→Unif m r A B e r'
inductive Unifs (m:Nat):Rho→List TyT→List TyT→Nat→Rho→Prop
 | nil (r:Rho):Unifs m r [] [] 0 r
 | stop (r:Rho) (a b:TyT) (la lb:List TyT) (e:Nat) (r':Rho):Unif m r (sub r a) (sub r b) e r'→e ≠ 0→Unifs m r (a :: la) (b :: lb) e r'
 | step (r r1:Rho) (a b:TyT) (la lb:List TyT) (e:Nat) (r':Rho):Unif m r (sub r a) (sub r b) 0 r1→Unifs m r1 la lb e r'→Unifs m r (a :: la) (b :: lb) e r'
end
end Lx
end Go.Proofs.YtnpacamcgifabaaDoor
namespace Go.Proofs.YtnpacamcgifabaaDoor
set_option linter.unusedSimpArgs false
set_option linter.unusedVariables false
namespace Lx
open Go Go.RowKit
/-- What was goes on: each unknown is what it was, with further ones replaced. -/
def Ext (m:Nat) (r r':Rho):Prop:=∀ v,v < m→r' v=sub r' (r v)
theorem Ext.sub {m:Nat} {r r':Rho} (h:Ext m r r') {t:TyT} (ht:goodT m t):Lx.sub r' (Lx.sub r t)=Lx.sub r' t:=by
 rw [sub_sub]
 exact sub_congr (fun v hv=>(h v hv).symm) t ht
theorem Ext.refl {m:Nat} {r:Rho} (h:Res m r):Ext m r r:=fun v hv=>(h.idem v hv).symm
theorem Ext.trans {m:Nat} {r r1 r2:Rho} (g:Res m r) (h:Ext m r r1) (k:Ext m r1 r2):Ext m r r2:=fun v hv=>by
 rw [k v hv,h v hv,k.sub (g.good v hv)]
theorem Res.fr_of {m:Nat} {r:Rho} (h:Res m r) {v:Nat} (hv:sub r (fr v)=fr v):r v=fr v:=by rwa [sub_fr] at hv
section
variable {m:Nat} {r r':Rho} {v:Nat} {A:TyT} {e:Nat}
theorem bind_self (h:Res m r) (hA:goodT m A) (hr:sub r A=A) (ho:occT v A=0):sub (fun x=>sub (one v A) (r x)) A=A:=by
 rw [← sub_sub,hr]
 exact sub_one_none A hA ho
theorem bind_at (h:Res m r) (hv:r v=fr v) (hA:goodT m A) (hr:sub r A=A) (ho:occT v A=0) (u:Nat):sub (fun x=>sub (one v A) (r x)) (one v A u)=sub (one v A) (r u):=by
 unfold one
 by_cases e:u=v
 ·subst e
  simp only [if_true]
  rw [show (fun x=>sub (fun w=>if w=u then A else fr w) (r x))=(fun x=>sub (one u A) (r x)) from rfl,bind_self h hA hr ho,hv]
  simp [sub_fr]
 ·simp only [if_neg e]
  rw [sub_fr]
theorem bind_ext (h:Res m r):Ext m r (fun x=>sub (one v A) (r x)):=fun x hx=>by
 show sub (one v A) (r x)=_
 conv=>lhs;rw [← h.idem x hx]
 rw [sub_sub]
theorem good_one (hA:goodT m A):∀ u,u < m→goodT m (one v A u):=fun u hu=>by
 unfold one
 split
 ·exact hA
 ·exact good_fr hu
theorem bind_res (h:Res m r) (hv:r v=fr v) (hA:goodT m A) (hr:sub r A=A) (ho:occT v A=0):Res m (fun x=>sub (one v A) (r x)):=by
 refine ⟨fun x hx=>good_sub (good_one hA) _ (h.good x hx),fun x hx=>?_⟩
 show sub _ (sub (one v A) (r x))=sub (one v A) (r x)
 rw [sub_sub]
 have e:(fun u=>sub (fun x=>sub (one v A) (r x)) (one v A u))=(fun x=>sub (one v A) (r x)):=funext (bind_at h hv hA hr ho)
 rw [e]
 exact (bind_ext h x hx).symm
/-- All that is promised of a state behind a unification. -/
structure Next (m:Nat) (r r':Rho):Prop where
 res:Res m r'
 ext:Ext m r r'
 few:(∀ x,x < m→sizeT (r x)≤200)→∀ x,x < m→sizeT (r' x)≤200
theorem Next.refl (h:Res m r):Next m r r:=⟨h,Ext.refl h,fun h=>h⟩
theorem Next.trans {r2:Rho} (g:Res m r) (h:Next m r r') (k:Next m r' r2):Next m r r2:=⟨k.res,h.ext.trans g k.ext,fun x=>k.few (h.few x)⟩
theorem Bind.next (hb:Bind m r v A e r') (h:Res m r) (hv:r v=fr v) (hA:goodT m A) (hr:sub r A=A):Next m r r'∧(e=0→sub r' (fr v)=sub r' A):=by
 cases hb with
 | inside ho=>exact ⟨Next.refl h,fun e=>by cases e⟩
 | large ho _=>exact ⟨Next.refl h,fun e=>by cases e⟩
 | done ho hs =>
  refine ⟨⟨bind_res h hv hA hr ho,bind_ext h,fun _=>hs⟩,fun _=>?_⟩
  rw [bind_self h hA hr ho,sub_fr]
  show sub (one v A) (r v)=A
  rw [hv,sub_fr,one,if_pos rfl]
theorem bind_is (m:Nat) (r:Rho) (v:Nat) (A:TyT):∃ e r',Bind m r v A e r':=by
 by_cases ho:occT v A=0
 ·by_cases hs:∃ x,x < m∧200 < sizeT (sub (one v A) (r x))
  ·exact ⟨_,_,.large ho hs⟩
  ·exact ⟨_,_,.done ho (fun x hx=>by
    rcases Nat.lt_or_ge 200 (sizeT (sub (one v A) (r x))) with h | h
    ·exact absurd ⟨x,hx,h⟩ hs
    ·exact h)⟩
 ·exact ⟨_,_,.inside ho⟩
end
theorem good_args {m:Nat} {t:TyT} (h:goodT m t) (hk:t.kind ≠ 4):goodTs m t.args:=by
 obtain ⟨k,s,n,l⟩:=t
 rw [goodT] at h
 rcases h with ⟨_,_,_,e⟩ | ⟨_,_,e⟩ | ⟨e,_⟩ | ⟨_,_,h⟩
 ·show goodTs m l;rw [e];trivial
 ·show goodTs m l;rw [e];trivial
 ·exact absurd e hk
 ·exact h
theorem sub_args {r:Rho} {t:TyT} (hk:t.kind ≠ 4):sub r t=.mk t.kind t.name t.var (subs r t.args):=by
 obtain ⟨k,s,n,l⟩:=t
 have hk:k ≠ 4:=hk
 simp [sub,hk,TyT.kind,TyT.name,TyT.var,TyT.args]
theorem good_var {m:Nat} {t:TyT} (h:goodT m t) (hk:t.kind ≠ 4):t.var=0:=by
 obtain ⟨k,s,n,l⟩:=t
 rw [goodT] at h
 rcases h with ⟨_,_,e,_⟩ | ⟨_,e,_⟩ | ⟨e,_⟩ | ⟨_,e,_⟩
 ·exact e
 ·exact e
 ·exact absurd e hk
 ·exact e
theorem res_args {r:Rho} {t:TyT} (hk:t.kind ≠ 4) (h:sub r t=t):subs r t.args=t.args:=by
 rw [sub_args hk] at h
 have h2:=congrArg TyT.args h
 exact h2
mutual
theorem Unif.next {m:Nat}:∀ {r:Rho} {A B:TyT} {e:Nat} {r':Rho},Unif m r A B e r'→Res m r→goodT m A→goodT m B→sub r A=A→sub r B=B→Next m r r'∧(e=0→sub r' A=sub r' B)
 | _,_,_,_,_,.same r v,h,_,_,_,_=>⟨Next.refl h,fun _=>rfl⟩
 | _,_,_,_,_,.left r v B e r' _ hb,h,_,gB,hA,hB=>hb.next h (h.fr_of hA) gB hB
 | _,_,_,_,_,.right r v A e r' _ hb,h,gA,_,hA,hB=>by
  obtain ⟨h1,h2⟩:=hb.next h (h.fr_of hB) gA hA
  exact ⟨h1,fun e=>(h2 e).symm⟩
 | _,_,_,_,_,.clash r A B _ _ _,h,_,_,_,_=>⟨Next.refl h,fun e=>by cases e⟩
 | _,_,_,_,_,.args r A B e r' k4 hk hn hl hu,h,gA,gB,hA,hB=>by
  have k4':B.kind ≠ 4:=hk ▸ k4
  obtain ⟨h1,h2⟩:=hu.next h (good_args gA k4) (good_args gB k4') 
  refine ⟨h1,fun e0=>?_⟩
  rw [sub_args k4,sub_args k4',hk,hn,good_var gA k4,good_var gB k4',h2 e0]
theorem Unifs.next {m:Nat}:∀ {r:Rho} {la lb:List TyT} {e:Nat} {r':Rho},Unifs m r la lb e r'→Res m r→goodTs m la→goodTs m lb→Next m r r'∧(e=0→subs r' la=subs r' lb)
 | _,_,_,_,_,.nil r,h,_,_=>⟨Next.refl h,fun _=>rfl⟩
 | _,_,_,_,_,.stop r a b la lb e r' hu he,h,gA,gB=>by
  have ga:=good_sub h.good a gA.1
  have gb:=good_sub h.good b gB.1
  obtain ⟨h1,_⟩:=hu.next h ga gb ((Ext.refl h).sub gA.1) ((Ext.refl h).sub gB.1)
  exact ⟨h1,fun e0=>absurd e0 he⟩
 | _,_,_,_,_,.step r r1 a b la lb e r' hu hs,h,gA,gB=>by
  have ga:=good_sub h.good a gA.1
  have gb:=good_sub h.good b gB.1
  obtain ⟨h1,h2⟩:=hu.next h ga gb ((Ext.refl h).sub gA.1) ((Ext.refl h).sub gB.1)
  obtain ⟨h3,h4⟩:=hs.next h1.res gA.2 gB.2
  refine ⟨h1.trans h h3,fun e0=>?_⟩
  have q:=h2 rfl
  rw [h1.ext.sub gA.1,h1.ext.sub gB.1] at q
  have q2:=congrArg (sub r') q
  rw [h3.ext.sub gA.1,h3.ext.sub gB.1] at q2
  rw [subs,subs,q2,h4 e0]
end
end Lx
end Go.Proofs.YtnpacamcgifabaaDoor
namespace Go.Proofs.YtnpacamcgifabaaDoor
set_option linter.unusedSimpArgs false
set_option linter.unusedVariables false
namespace Lx
open Go Go.RowKit
def isFr (v:Nat) (t:TyT):Bool:=t.kind == 4 && t.var == (v:Int)
theorem isFr_fr (v u:Nat):isFr v (fr u)=decide (u=v):=by
 by_cases h:u=v
 ·subst h;simp [isFr,fr,TyT.kind,TyT.var]
 ·have:¬ ((u:Int)=(v:Int)):=by omega
  simp [isFr,fr,TyT.kind,TyT.var,h];omega
theorem isFr_good {m v:Nat} {t:TyT} (h:goodT m t) (hf:isFr v t=true):t=fr v:=by
 simp only [isFr,Bool.and_eq_true,beq_iff_eq] at hf
 obtain ⟨u,hu,rfl⟩:=good_free h hf.1
 have:(u:Int)=(v:Int):=hf.2
 rw [show u=v by omega]
/-- How many unknowns are not bound. -/
def unb (r:Rho):Nat→Nat
 | 0=>0
 | k+1=>unb r k+(if isFr k (r k) then 1 else 0)
theorem unb_le {r r':Rho}:∀ {m:Nat},(∀ x,x < m→isFr x (r' x)=true→isFr x (r x)=true)→unb r' m≤unb r m
 | 0,_=>Nat.le_refl _
 | k+1,h=>by
  have h1:=unb_le (m:=k) (fun x hx=>h x (by omega))
  have h2:=h k (by omega)
  simp only [unb]
  cases e1:isFr k (r' k)
  ·simp;omega
  ·rw [h2 e1];simp;omega
theorem unb_lt {r r':Rho} {v:Nat}:∀ {m:Nat},(∀ x,x < m→isFr x (r' x)=true→isFr x (r x)=true)→v < m→isFr v (r v)=true→isFr v (r' v)=false→unb r' m < unb r m
 | 0,_,hv,_,_=>by omega
 | k+1,h,hv,h1,h2=>by
  have h3:=h k (by omega)
  simp only [unb]
  by_cases e:v=k
  ·subst e
   have:=unb_le (r:=r) (r':=r') (m:=v) (fun x hx=>h x (by omega))
   rw [h1,h2];simp;omega
  ·have:=unb_lt (m:=k) (fun x hx=>h x (by omega)) (by omega) h1 h2
   cases e1:isFr k (r' k)
   ·simp;omega
   ·rw [h3 e1];simp;omega
section
variable {m:Nat} {r r':Rho} {v:Nat} {A:TyT} {e:Nat}
theorem kind_sub {r:Rho} {t:TyT} (hk:t.kind ≠ 4):(sub r t).kind=t.kind:=by rw [sub_args hk];rfl
theorem Bind.less (hb:Bind m r v A e r') (h:Res m r) (hvm:v < m) (hv:r v=fr v) (hA:goodT m A) (hr:sub r A=A):r'=r ∨ unb r' m < unb r m:=by
 cases hb with
 | inside _=>exact .inl rfl
 | large _ _=>exact .inl rfl
 | done ho hs =>
  right
  refine unb_lt (v:=v) (fun x hx hf=>?_) hvm (by rw [hv,isFr_fr];simp) ?_
  ·have hf:isFr x (sub (one v A) (r x))=true:=hf
   have hg:=isFr_good (good_sub (good_one hA) _ (h.good x hx)) hf
   by_cases k4:(r x).kind=4
   ·obtain ⟨y,hy,e⟩:=good_free (h.good x hx) k4
    rw [e,sub_fr,one] at hg
    split at hg
    ·have:r x=fr x:=by
      rw [hg,sub_fr] at hr
      exact hr
     rw [this,isFr_fr];simp
    ·rw [e,hg,isFr_fr];simp
   ·have:=congrArg TyT.kind hg
    rw [kind_sub k4] at this
    exact absurd this k4
  ·cases hq:isFr v (sub (one v A) (r v))
   ·rfl
   ·have hg:=isFr_good (good_sub (good_one hA) _ (h.good v hvm)) hq
    rw [hv,sub_fr,one,if_pos rfl] at hg
    rw [hg,occ_fr] at ho
    simp at ho
end
theorem fr_lt {m v:Nat} (h:goodT m (fr v)):v < m:=by
 rw [fr,goodT] at h
 rcases h with ⟨e,_⟩ | ⟨e,_⟩ | ⟨_,_,_,i,hi,e⟩ | ⟨e,_⟩
 ·cases e
 ·cases e
 ·omega
 ·cases e
mutual
theorem Unif.less {m:Nat}:∀ {r:Rho} {A B:TyT} {e:Nat} {r':Rho},Unif m r A B e r'→Res m r→goodT m A→goodT m B→sub r A=A→sub r B=B→r'=r ∨ unb r' m < unb r m
 | _,_,_,_,_,.same r v,_,_,_,_,_=>.inl rfl
 | _,_,_,_,_,.left r v B e r' _ hb,h,gA,gB,hA,hB=>hb.less h (fr_lt gA) (h.fr_of hA) gB hB
 | _,_,_,_,_,.right r v A e r' _ hb,h,gA,gB,hA,hB=>hb.less h (fr_lt gB) (h.fr_of hB) gA hA
 | _,_,_,_,_,.clash r A B _ _ _,_,_,_,_,_=>.inl rfl
 | _,_,_,_,_,.args r A B e r' k4 hk _ _ hu,h,gA,gB,hA,hB=>hu.less h (good_args gA k4) (good_args gB (hk ▸ k4))
theorem Unifs.less {m:Nat}:∀ {r:Rho} {la lb:List TyT} {e:Nat} {r':Rho},Unifs m r la lb e r'→Res m r→goodTs m la→goodTs m lb→r'=r ∨ unb r' m < unb r m
 | _,_,_,_,_,.nil r,_,_,_=>.inl rfl
 | _,_,_,_,_,.stop r a b la lb e r' hu he,h,gA,gB=>hu.less h (good_sub h.good a gA.1) (good_sub h.good b gB.1) ((Ext.refl h).sub gA.1) ((Ext.refl h).sub gB.1)
 | _,_,_,_,_,.step r r1 a b la lb e r' hu hs,h,gA,gB=>by
  have h1:=hu.less h (good_sub h.good a gA.1) (good_sub h.good b gB.1) ((Ext.refl h).sub gA.1) ((Ext.refl h).sub gB.1)
  obtain ⟨hn,_⟩:=hu.next h (good_sub h.good a gA.1) (good_sub h.good b gB.1) ((Ext.refl h).sub gA.1) ((Ext.refl h).sub gB.1)
  have h2:=hs.less hn.res gA.2 gB.2
  rcases h1 with rfl | h1
  ·exact h2
  ·rcases h2 with rfl | h2
   ·exact .inr h1
   ·exact .inr (by omega)
end
theorem unifs_is {m n s:Nat} (hout:∀ (r:Rho) (A B:TyT),unb r m < n→Res m r→goodT m A→goodT m B→sub r A=A→sub r B=B→∃ e r',Unif m r A B e r')
  (r0:Rho) (hn:unb r0 m=n) (hin:∀ A B:TyT,sizeT A < s→goodT m A→goodT m B→sub r0 A=A→sub r0 B=B→∃ e r',Unif m r0 A B e r') :
  ∀ (la lb:List TyT) (r:Rho),la.length=lb.length→(r=r0 ∨ unb r m < n)→sizeTs la < s→Res m r→goodTs m la→goodTs m lb→subs r0 la=la→subs r0 lb=lb→∃ e r',Unifs m r la lb e r'
 | [],[],r,_,_,_,_,_,_,_,_=>⟨_,_,.nil r⟩
 | [],_ :: _,_,h,_,_,_,_,_,_,_=>by simp at h
 | _ :: _,[],_,h,_,_,_,_,_,_,_=>by simp at h
 | a :: la,b :: lb,r,hl,hr,hs,h,gA,gB,hA,hB=>by
  rw [sizeTs] at hs
  rw [subs] at hA hB
  have ea:=(List.cons.inj hA).1
  have eb:=(List.cons.inj hB).1
  have ga:=good_sub h.good a gA.1
  have gb:=good_sub h.good b gB.1
  have ia:=(Ext.refl h).sub gA.1
  have ib:=(Ext.refl h).sub gB.1
  obtain ⟨e,r1,hu⟩:∃ e r',Unif m r (sub r a) (sub r b) e r':=by
   rcases hr with rfl | hr
   ·rw [ea,eb]
    exact hin a b (by omega) gA.1 gB.1 ea eb
   ·exact hout r _ _ hr h ga gb ia ib
  by_cases he:e=0
  ·subst he
   obtain ⟨hnx,_⟩:=hu.next h ga gb ia ib
   have hls:=hu.less h ga gb ia ib
   obtain ⟨e,r',hus⟩:=unifs_is hout r0 hn hin la lb r1 (by simpa using hl) (by
    rcases hls with rfl | hls
    ·exact hr
    ·right
     rcases hr with rfl | hr
     ·omega
     ·omega) (by omega) hnx.res gA.2 gB.2 (List.cons.inj hA).2 (List.cons.inj hB).2
   exact ⟨e,r',.step r r1 a b la lb e r' hu hus⟩
  ·exact ⟨e,r1,.stop r a b la lb e r1 hu he⟩
theorem unif_is (m:Nat):∀ (n s:Nat) (r:Rho) (A B:TyT),unb r m=n→sizeT A=s→Res m r→goodT m A→goodT m B→sub r A=A→sub r B=B→∃ e r',Unif m r A B e r':=by
 intro n
 induction n using Nat.strongRecOn with
 | _ n ihn =>
 intro s
 induction s using Nat.strongRecOn with
 | _ s ihs =>
 intro r A B hn hs h gA gB hA hB
 by_cases kA:A.kind=4
 ·obtain ⟨v,hv,rfl⟩:=good_free gA kA
  by_cases e:B=fr v
  ·subst e
   exact ⟨_,_,.same r v⟩
  ·obtain ⟨e1,r',hb⟩:=bind_is m r v B
   exact ⟨_,_,.left r v B e1 r' e hb⟩
 ·by_cases kB:B.kind=4
  ·obtain ⟨v,hv,rfl⟩:=good_free gB kB
   obtain ⟨e1,r',hb⟩:=bind_is m r v A
   exact ⟨_,_,.right r v A e1 r' kA hb⟩
  ·by_cases hc:A.kind ≠ B.kind ∨ A.name ≠ B.name ∨ A.args.length ≠ B.args.length
   ·exact ⟨_,_,.clash r A B kA kB hc⟩
   ·have h1:A.kind=B.kind:=Classical.byContradiction fun e=>hc (.inl e)
    have h2:A.name=B.name:=Classical.byContradiction fun e=>hc (.inr (.inl e))
    have h3:A.args.length=B.args.length:=Classical.byContradiction fun e=>hc (.inr (.inr e))
    obtain ⟨e,r',hu⟩:=unifs_is (m:=m) (n:=n) (s:=s) (fun r A B hlt=>ihn _ hlt _ r A B rfl rfl) r hn (fun A B hlt=>ihs _ hlt r A B hn rfl h) A.args B.args r h3 (.inl rfl) (by
     obtain ⟨k,t,z,l⟩:=A
     rw [sizeT] at hs
     show sizeTs l < s
     omega) h (good_args gA kA) (good_args gB kB) (res_args kA hA) (res_args kB hB)
    exact ⟨e,r',.args r A B e r' kA h1 h2 h3 hu⟩
end Lx
end Go.Proofs.YtnpacamcgifabaaDoor
