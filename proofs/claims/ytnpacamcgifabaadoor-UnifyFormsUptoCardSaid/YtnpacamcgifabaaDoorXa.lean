/- What unifying yields is most general; turned round, it yields the same but for which unknowns stand for it; renumbering does not see that. No program is walked in this text; no conditions. -/
import Derived.Test.YtnpacamcgifabaaDoorWd
import Derived.Test.YtnpacamcgifabaaDoorMa
namespace Go.Proofs.YtnpacamcgifabaaDoor
set_option linter.unusedSimpArgs false
set_option linter.unusedVariables false
namespace Lx
open Go Go.RowKit
mutual
theorem occ_size {m v:Nat} (s:Rho):∀ t,goodT m t→occT v t ≠ 0→sizeT (s v)≤sizeT (sub s t)
 | .mk k nm z l=>fun hg ho=>by
  by_cases k4:k=4
  ·subst k4
   obtain ⟨i,hi,e⟩:=good_free hg rfl
   rw [e] at ho ⊢
   rw [occ_fr] at ho
   have:i=v:=by
    by_cases e:i=v
    ·exact e
    ·simp [e] at ho
   subst this
   rw [sub_fr]
   exact Nat.le_refl _
  ·rw [sub_args (t:=.mk k nm z l) k4]
   have h1:=occs_size s l (good_args hg k4) (by simpa [occT,k4] using ho)
   show _≤sizeT (.mk k nm z (subs s l))
   rw [sizeT]
   omega
theorem occs_size {m v:Nat} (s:Rho):∀ l,goodTs m l→occTs v l ≠ 0→sizeT (s v)≤sizeTs (subs s l)
 | []=>fun _ ho=>by simp [occTs] at ho
 | x :: l=>fun hg ho=>by
  rw [subs,sizeTs]
  have e:occTs v (x :: l)=occT v x+occTs v l:=by rw [occTs]
  by_cases h1:occT v x=0
  ·have:=occs_size (v:=v) s l hg.2 (by omega)
   omega
  ·have:=occ_size s x hg.1 h1
   omega
end
theorem occ_more {m v:Nat} (s:Rho) (t:TyT) (hg:goodT m t) (ho:occT v t ≠ 0) (hne:t ≠ fr v):sizeT (s v) < sizeT (sub s t):=by
 have k4:t.kind ≠ 4:=by
  intro k4
  obtain ⟨i,hi,e⟩:=good_free hg k4
  rw [e,occ_fr] at ho
  by_cases e2:i=v
  ·exact hne (e2 ▸ e)
  ·simp [e2] at ho
 have h1:=occs_size s t.args (good_args hg k4) (by rw [← occT_args k4];exact ho)
 rw [size_sub k4]
 omega
section
variable {m:Nat}
/-- What goes beyond a state. -/
def Over (m:Nat) (r s:Rho):Prop:=∀ v,v < m→sub s (r v)=s v
theorem Over.sub {r s:Rho} (h:Over m r s) {t:TyT} (gt:goodT m t):Lx.sub s (Lx.sub r t)=Lx.sub s t:=by
 rw [sub_sub]
 exact sub_congr h t gt
theorem Bind.mgu {r r':Rho} {v e:Nat} {B:TyT} (hb:Bind m r v B e r') (hR:Res m r) (gB:goodT m B) (hne:B ≠ fr v) (s:Rho) (hs:Over m r s) (he:sub s (fr v)=sub s B):e ≠ 1∧(e=0→Over m r' s):=by
 rw [sub_fr] at he
 cases hb with
 | inside ho =>
  exfalso
  have:=occ_more s B gB ho hne
  rw [he] at this
  omega
 | large _ _=>exact ⟨by decide,fun h=>by cases h⟩
 | done ho _ =>
  refine ⟨by decide,fun _ x hx=>?_⟩
  show Lx.sub s (Lx.sub (one v B) (r x))=s x
  rw [sub_sub,← hs x hx]
  refine sub_congr (fun u hu=>?_) _ (hR.good x hx)
  unfold one
  split
  ·next e=>rw [e,he]
  ·rw [sub_fr]
end
mutual
theorem Unif.mgu {m:Nat}:∀ {r:Rho} {A B:TyT} {e:Nat} {r':Rho},Unif m r A B e r'→Res m r→goodT m A→goodT m B→sub r A=A→sub r B=B→∀ s,Over m r s→sub s A=sub s B→e ≠ 1∧(e=0→Over m r' s)
 | _,_,_,_,_,.same r v,_,_,_,_,_=>fun s hs _=>⟨by decide,fun _=>hs⟩
 | _,_,_,_,_,.left r v B e r' hne hb,h,_,gB,_,_=>fun s hs he=>hb.mgu h gB hne s hs he
 | _,_,_,_,_,.right r v A e r' hne hb,h,gA,_,_,_=>fun s hs he=>hb.mgu h gA (fun e=>hne (by rw [e];rfl)) s hs he.symm
 | _,_,_,_,_,.clash r A B kA kB hc,_,_,_,_,_=>fun s _ he=>by
  exfalso
  rw [sub_args kA,sub_args kB] at he
  injection he with e1 e2 _ e4
  rcases hc with hc | hc | hc
  ·exact hc e1
  ·exact hc e2
  ·have:=congrArg List.length e4
   rw [subs_length,subs_length] at this
   exact hc this
 | _,_,_,_,_,.args r A B e r' kA hk hn hl hu,h,gA,gB,hA,hB=>fun s hs he=>by
  have kB:B.kind ≠ 4:=hk ▸ kA
  rw [sub_args kA,sub_args kB] at he
  injection he with _ _ _ e4
  exact hu.mgu h (good_args gA kA) (good_args gB kB) s hs e4
theorem Unifs.mgu {m:Nat}:∀ {r:Rho} {la lb:List TyT} {e:Nat} {r':Rho},Unifs m r la lb e r'→Res m r→goodTs m la→goodTs m lb→∀ s,Over m r s→subs s la=subs s lb→e ≠ 1∧(e=0→Over m r' s)
 | _,_,_,_,_,.nil r,_,_,_=>fun s hs _=>⟨by decide,fun _=>hs⟩
 | _,_,_,_,_,.stop r a b la lb e r' hu he,h,gA,gB=>fun s hs hq=>by
  rw [subs,subs] at hq
  injection hq with q1 q2
  exact hu.mgu h (good_sub h.good a gA.1) (good_sub h.good b gB.1) ((Ext.refl h).sub gA.1) ((Ext.refl h).sub gB.1) s hs (by rw [hs.sub gA.1,hs.sub gB.1];exact q1)
 | _,_,_,_,_,.step r r1 a b la lb e r' hu hus,h,gA,gB=>fun s hs hq=>by
  rw [subs,subs] at hq
  injection hq with q1 q2
  have ga:=good_sub h.good a gA.1
  have gb:=good_sub h.good b gB.1
  obtain ⟨_,h1⟩:=hu.mgu h ga gb ((Ext.refl h).sub gA.1) ((Ext.refl h).sub gB.1) s hs (by rw [hs.sub gA.1,hs.sub gB.1];exact q1)
  obtain ⟨hn,_⟩:=hu.next h ga gb ((Ext.refl h).sub gA.1) ((Ext.refl h).sub gB.1)
  exact hus.mgu hn.res gA.2 gB.2 s (h1 rfl) q2
end
mutual
theorem Unif.code {m:Nat}:∀ {r:Rho} {A B:TyT} {e:Nat} {r':Rho},Unif m r A B e r'→e=0 ∨ e=1 ∨ e=2
 | _,_,_,_,_,.same _ _=>.inl rfl
 | _,_,_,_,_,.left _ _ _ _ _ _ hb=>by cases hb <;> simp
 | _,_,_,_,_,.right _ _ _ _ _ _ hb=>by cases hb <;> simp
 | _,_,_,_,_,.clash _ _ _ _ _ _=>.inr (.inl rfl)
 | _,_,_,_,_,.args _ _ _ _ _ _ _ _ _ hu=>hu.code
theorem Unifs.code {m:Nat}:∀ {r:Rho} {la lb:List TyT} {e:Nat} {r':Rho},Unifs m r la lb e r'→e=0 ∨ e=1 ∨ e=2
 | _,_,_,_,_,.nil _=>.inl rfl
 | _,_,_,_,_,.stop _ _ _ _ _ _ _ hu _=>hu.code
 | _,_,_,_,_,.step _ _ _ _ _ _ _ _ _ hus=>hus.code
end
/-- Turned round. -/
theorem unif_turn {m:Nat} {A B:TyT} {e1 e2:Nat} {r1 r2:Rho} (h1:Unif m fr A B e1 r1) (h2:Unif m fr B A e2 r2) (gA:goodT m A) (gB:goodT m B) (n1:e1 ≠ 2) (n2:e2 ≠ 2):e1=e2∧(e1=0→Over m r1 r2∧Over m r2 r1∧Res m r1∧Res m r2):=by
 have hR:=res_fr m
 have iA:=sub_id A gA
 have iB:=sub_id B gB
 obtain ⟨x1,y1⟩:=h1.next hR gA gB iA iB
 obtain ⟨x2,y2⟩:=h2.next hR gB gA iB iA
 have ov:∀ s,Over m fr s:=fun s v _=>sub_fr s v
 have c1:=h1.code
 have c2:=h2.code
 have k1:e1=0→e2 ≠ 1∧(e2=0→Over m r2 r1):=fun e=>h2.mgu hR gB gA iB iA r1 (ov _) (y1 e).symm
 have k2:e2=0→e1 ≠ 1∧(e1=0→Over m r1 r2):=fun e=>h1.mgu hR gA gB iA iB r2 (ov _) (y2 e).symm
 refine ⟨?_,fun e=>?_⟩
 ·rcases c1 with c1 | c1 | c1
  ·have:=(k1 c1).1;omega
  ·rcases c2 with c2 | c2 | c2
   ·exact absurd c1 (k2 c2).1
   ·omega
   ·omega
  ·omega
 ·have q:=k1 e
  have e2z:e2=0:=by have:=q.1;omega
  exact ⟨(k2 e2z).2 e,q.2 e2z,x1.res,x2.res⟩
/-! Renumbering. -/
mutual
/-- A type's unknowns numbered anew, with those met so far. -/
def pl (met:List Nat):TyT→List Nat × TyT
 | .mk k s n l=>if k=4 then (if n.toNat ∈ met then (met,fr (posN n.toNat met)) else (met++[n.toNat],fr met.length)) else ((pls met l).1,.mk k s n (pls met l).2)
def pls (met:List Nat):List TyT→List Nat × List TyT
 | []=>(met,[])
 | x :: l=>((pls (pl met x).1 l).1,(pl met x).2 :: (pls (pl met x).1 l).2)
end
theorem pl_ne (met:List Nat) {k:Int} (s:ByteArray) (n:Int) (l:List TyT) (h:k ≠ 4):pl met (.mk k s n l)=((pls met l).1,.mk k s n (pls met l).2):=by rw [pl,if_neg h]
mutual
def allU (P:Nat→Prop):TyT→Prop
 | .mk k _ n l=>if k=4 then P n.toNat else allUs P l
def allUs (P:Nat→Prop):List TyT→Prop
 | []=>True
 | x :: l=>allU P x∧allUs P l
end
mutual
theorem allU_fix {m:Nat} {r:Rho}:∀ t,goodT m t→sub r t=t→allU (fun u=>u < m∧r u=fr u) t
 | .mk k s n l=>fun hg hs=>by
  rw [allU]
  by_cases k4:k=4
  ·subst k4
   obtain ⟨i,hi,e⟩:=good_free hg rfl
   injection e with _ e1 e2 e3
   subst e1 e2 e3
   simp only [if_true]
   have h2:sub r (fr i)=fr i:=hs
   rw [sub_fr] at h2
   exact ⟨hi,h2⟩
  ·rw [if_neg k4]
   exact allUs_fix l (good_args hg k4) (res_args (t:=.mk k s n l) k4 hs)
theorem allUs_fix {m:Nat} {r:Rho}:∀ l,goodTs m l→subs r l=l→allUs (fun u=>u < m∧r u=fr u) l
 | []=>fun _ _=>trivial
 | x :: l=>fun hg hs=>by
  rw [subs] at hs
  injection hs with h1 h2
  exact ⟨allU_fix x hg.1 h1,allUs_fix l hg.2 h2⟩
end
mutual
theorem pl_ren {m:Nat} {P:Nat→Prop} {ρ:Nat→Nat} {s:Rho} (hinj:∀ a b,P a→P b→ρ a=ρ b→a=b) (hs:∀ a,P a→s a=fr (ρ a)):∀ t,goodT m t→allU P t→∀ met:List Nat,(∀ a ∈ met,P a)→pl (met.map ρ) (sub s t)=((pl met t).1.map ρ,(pl met t).2)∧∀ a ∈ (pl met t).1,P a
 | .mk k nm n l=>fun hg ha met hm=>by
  rw [allU] at ha
  by_cases k4:k=4
  ·subst k4
   obtain ⟨i,hi,e⟩:=good_free hg rfl
   injection e with _ e1 e2 e3
   subst e1 e2 e3
   have ha:P i:=by simpa using ha
   have e4:sub s (.mk 4 ⟨#[]⟩ (i:Int) [])=fr (ρ i):=(sub_fr s i).trans (hs i ha)
   rw [e4,fr,pl,pl]
   simp only [if_true,Int.toNat_natCast]
   by_cases hin:i ∈ met
   ·have h2:ρ i ∈ met.map ρ:=List.mem_map.2 ⟨i,hin,rfl⟩
    rw [if_pos hin,if_pos h2,posN_map ρ i met (fun a hm' he=>hinj a i (hm a hm') ha he)]
    exact ⟨rfl,hm⟩
   ·have h2:¬ ρ i ∈ met.map ρ:=fun h=>by
     obtain ⟨a,h3,h4⟩:=List.mem_map.1 h
     exact hin (hinj a i (hm a h3) ha h4 ▸ h3)
    rw [if_neg hin,if_neg h2]
    refine ⟨by simp,fun a h=>?_⟩
    rcases List.mem_append.1 h with h | h
    ·exact hm a h
    ·rw [List.mem_singleton.1 h];exact ha
  ·rw [if_neg k4] at ha
   obtain ⟨h1,h2⟩:=pls_ren hinj hs l (good_args hg k4) ha met hm
   rw [sub_args (t:=.mk k nm n l) k4,pl_ne met nm n l k4]
   show pl _ (.mk k nm n (subs s l))=_∧_
   rw [pl_ne _ nm n _ k4,h1]
   exact ⟨rfl,h2⟩
theorem pls_ren {m:Nat} {P:Nat→Prop} {ρ:Nat→Nat} {s:Rho} (hinj:∀ a b,P a→P b→ρ a=ρ b→a=b) (hs:∀ a,P a→s a=fr (ρ a)):∀ l,goodTs m l→allUs P l→∀ met:List Nat,(∀ a ∈ met,P a)→pls (met.map ρ) (subs s l)=((pls met l).1.map ρ,(pls met l).2)∧∀ a ∈ (pls met l).1,P a
 | []=>fun _ _ met hm=>by
  rw [subs,pls,pls]
  exact ⟨rfl,hm⟩
 | x :: l=>fun hg ha met hm=>by
  obtain ⟨h1,h2⟩:=pl_ren hinj hs x hg.1 ha.1 met hm
  obtain ⟨h3,h4⟩:=pls_ren hinj hs l hg.2 ha.2 (pl met x).1 h2
  rw [subs,pls,pls,h1]
  simp only
  rw [h3]
  exact ⟨rfl,h4⟩
end
/-- Two ways that go beyond one another are the same, renumbered. -/
theorem plain_turn {m:Nat} {r1 r2:Rho} (h12:Over m r1 r2) (h21:Over m r2 r1) (R1:Res m r1) (R2:Res m r2):(pls [] ((List.range m).map r1)).2=(pls [] ((List.range m).map r2)).2:=by
 have hfix:∀ u,u < m→r1 u=fr u→∃ w,w < m∧r2 u=fr w∧r1 w=fr u:=fun u hu e=>by
  have h1:=h21 u hu
  rw [e] at h1
  have k4:(r2 u).kind=4:=by
   by_cases k4:(r2 u).kind=4
   ·exact k4
   ·have:=congrArg TyT.kind h1
    rw [kind_sub k4] at this
    exact this
  obtain ⟨w,hw,e2⟩:=good_free (R2.good u hu) k4
  rw [e2,sub_fr] at h1
  exact ⟨w,hw,e2,h1⟩
 have e:(List.range m).map r2=subs r2 ((List.range m).map r1):=by
  rw [subs_map,List.map_map]
  exact List.map_congr_left (fun v hv=>(h12 v (List.mem_range.1 hv)).symm)
 have g1:goodTs m ((List.range m).map r1):=by
  have:∀ l:List Nat,(∀ v ∈ l,v < m)→goodTs m (l.map r1):=fun l=>by
   induction l with
   | nil=>exact fun _=>trivial
   | cons v l ih=>exact fun h=>⟨R1.good v (h v (List.mem_cons_self ..)),ih (fun u hu=>h u (List.mem_cons_of_mem _ hu))⟩
  exact this _ (fun v hv=>List.mem_range.1 hv)
 have i1:subs r1 ((List.range m).map r1)=(List.range m).map r1:=by
  rw [subs_map,List.map_map]
  exact List.map_congr_left (fun v hv=>R1.idem v (List.mem_range.1 hv))
 obtain ⟨q,_⟩:=pls_ren (m:=m) (P:=fun u=>u < m∧r1 u=fr u) (ρ:=fun u=>(r2 u).var.toNat) (s:=r2) (fun a b ha hb he=>by
  obtain ⟨w1,_,x1,y1⟩:=hfix a ha.1 ha.2
  obtain ⟨w2,_,x2,y2⟩:=hfix b hb.1 hb.2
  rw [x1,x2] at he
  have he:w1=w2:=by simpa [fr,TyT.var] using he
  subst he
  rw [y1] at y2
  injection y2 with _ _ y2
  omega) (fun a ha=>by
  obtain ⟨w1,_,x1,_⟩:=hfix a ha.1 ha.2
  rw [x1]
  simp [fr,TyT.var]) _ g1 (allUs_fix _ g1 i1) [] (fun a h=>by simp at h)
 rw [e]
 have q2:pls [] (subs r2 ((List.range m).map r1))=_:=q
 rw [q2]
end Lx
end Go.Proofs.YtnpacamcgifabaaDoor
