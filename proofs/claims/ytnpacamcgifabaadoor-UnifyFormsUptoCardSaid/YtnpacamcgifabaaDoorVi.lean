/- How often an unknown stands in what each other one comes to, by the lists of who uses whom. No program stands in this text; no conditions. -/
import Derived.Test.YtnpacamcgifabaaDoorVxA
namespace Go.Proofs.YtnpacamcgifabaaDoor
set_option linter.unusedSimpArgs false
set_option linter.unusedVariables false
namespace Lx
open Go Go.RowKit
def sumN (f:Nat→Nat):Nat→Nat
 | 0=>0
 | k+1=>sumN f k+f k
theorem sumN_zero:∀ (m:Nat) (f:Nat→Nat),(∀ u,u < m→f u=0)→sumN f m=0
 | 0,_,_=>rfl
 | m+1,f,h=>by rw [sumN,sumN_zero m f (fun u hu=>h u (by omega)),h m (by omega)]
theorem sumN_congr:∀ (m:Nat) (f g:Nat→Nat),(∀ u,u < m→f u=g u)→sumN f m=sumN g m
 | 0,_,_,_=>rfl
 | m+1,f,g,h=>by rw [sumN,sumN,sumN_congr m f g (fun u hu=>h u (by omega)),h m (by omega)]
theorem sumN_le:∀ (m:Nat) (f g:Nat→Nat),(∀ u,u < m→f u≤g u)→sumN f m≤sumN g m
 | 0,_,_,_=>Nat.le_refl _
 | m+1,f,g,h=>by
  rw [sumN,sumN]
  have:=sumN_le m f g (fun u hu=>h u (by omega))
  have:=h m (by omega)
  omega
theorem sumN_add:∀ (m:Nat) (f g:Nat→Nat),sumN (fun u=>f u+g u) m=sumN f m+sumN g m
 | 0,_,_=>rfl
 | m+1,f,g=>by rw [sumN,sumN,sumN,sumN_add m f g];omega
theorem sumN_one:∀ (m:Nat) (f:Nat→Nat) (i:Nat),i < m→(∀ u,u < m→u ≠ i→f u=0)→sumN f m=f i
 | 0,_,_,h,_=>by omega
 | m+1,f,i,hi,h=>by
  rw [sumN]
  by_cases e:i=m
  ·subst e
   rw [sumN_zero i f (fun u hu=>h u (by omega) (by omega))];omega
  ·rw [sumN_one m f i (by omega) (fun u hu hn=>h u (by omega) hn),h m (by omega) (fun x=>e x.symm),Nat.add_zero]
theorem sumN_mem (m:Nat) (f:Nat→Nat) {i:Nat} (hi:i < m):f i≤sumN f m:=by
 induction m with
 | zero=>omega
 | succ m ih =>
  rw [sumN]
  by_cases e:i=m
  ·subst e;omega
  ·have:=ih (by omega);omega
mutual
/-- An unknown stands in what a type comes to as often as in what its unknowns come to. -/
theorem occ_sub {m:Nat} (r:Rho) (v:Nat):∀ t,goodT m t→occT v (sub r t)=sumN (fun u=>occT u t * occT v (r u)) m
 | .mk k s n l=>fun hg=>by
  rw [goodT] at hg
  rcases hg with ⟨rfl,rfl,rfl,rfl⟩ | ⟨rfl,rfl,rfl⟩ | ⟨rfl,rfl,rfl,i,hi,rfl⟩ | ⟨rfl,rfl,hl⟩
  ·rw [sumN_zero _ _ (fun u _=>by simp [occT,occTs])]
   simp [sub,subs,occT,occTs]
  ·rw [sumN_zero _ _ (fun u _=>by simp [occT,occTs])]
   simp [sub,subs,occT,occTs]
  ·rw [sumN_one m _ i hi (fun u _ hn=>by simp [occT,Ne.symm hn])]
   simp [sub,occT]
  ·have h1:∀ u,occT u (.mk 2 s 0 l)=occTs u l:=fun u=>by simp [occT]
   simp only [h1]
   rw [← occs_sub r v l hl]
   simp [sub,occT]
theorem occs_sub {m:Nat} (r:Rho) (v:Nat):∀ l,goodTs m l→occTs v (subs r l)=sumN (fun u=>occTs u l * occT v (r u)) m
 | []=>fun _=>by
  rw [sumN_zero _ _ (fun u _=>by simp [occTs])]
  simp [subs,occTs]
 | x :: l=>fun hg=>by
  simp only [subs,occTs,Nat.add_mul]
  rw [sumN_add,← occ_sub r v x hg.1,← occs_sub r v l hg.2]
end
theorem sizes_sub {m:Nat}:∀ (r:Rho) (t:TyT),goodT m t→∀ u,u < m→occT u t ≠ 0→t.kind ≠ 4→sizeT (r u) < sizeT (sub r t):=by
 have key:∀ (r:Rho) (n:Nat) (t:TyT),sizeT t≤n→goodT m t→∀ u,occT u t ≠ 0→sizeT (r u)≤sizeT (sub r t):=by
  intro r n
  induction n with
  | zero=>intro t ht;have:=size_pos t;omega
  | succ n ih =>
   intro t ht gt u hu
   by_cases k4:t.kind=4
   ·obtain ⟨w,hw,rfl⟩:=good_free gt k4
    rw [occ_fr] at hu
    by_cases e:w=u
    ·subst e;rw [sub_fr];exact Nat.le_refl _
    ·simp [e] at hu
   ·have gl:=good_args gt k4
    obtain ⟨k,s,z,l⟩:=t
    have k4:k ≠ 4:=k4
    have hs:sizeTs l≤n:=by rw [sizeT] at ht;omega
    have ho:occTs u l ≠ 0:=by simpa [occT,k4] using hu
    have:∀ l':List TyT,sizeTs l'≤n→goodTs m l'→occTs u l' ≠ 0→sizeT (r u)≤sizeTs (subs r l'):=by
     intro l'
     induction l' with
     | nil=>intro _ _ h;simp [occTs] at h
     | cons y l' ih2 =>
      intro h1 h2 h3
      rw [sizeTs] at h1
      rw [subs,sizeTs]
      rw [occTs] at h3
      by_cases e:occT u y=0
      ·have:=ih2 (by omega) h2.2 (by omega)
       omega
      ·have:=ih y (by omega) h2.1 u e
       omega
    have:=this l hs gl ho
    simp [sub,k4,sizeT]
    omega
 intro r t gt u hu ho k4
 have gl:=good_args gt k4
 obtain ⟨k,s,z,l⟩:=t
 have k4:k ≠ 4:=k4
 have ho:occTs u l ≠ 0:=by simpa [occT,k4] using ho
 have:∀ l':List TyT,goodTs m l'→occTs u l' ≠ 0→sizeT (r u)≤sizeTs (subs r l'):=by
  intro l'
  induction l' with
  | nil=>intro _ h;simp [occTs] at h
  | cons y l' ih2 =>
   intro h2 h3
   rw [subs,sizeTs]
   rw [occTs] at h3
   by_cases e:occT u y=0
   ·have:=ih2 h2.2 (by omega)
    omega
   ·have:=key r _ y (Nat.le_refl _) h2.1 u e
    omega
 have:=this l gl ho
 simp [sub,k4,sizeT]
 omega
/-- Who uses whom: for each unknown those that were bound to types with it in them, each as often as it stands there. -/
structure Uses (m:Nat) (r:Rho) (B:Nat→Option TyT) (us:Nat→List Nat) (rk:Nat→Nat):Prop where
 free:∀ x,x < m→B x=none→r x=fr x
 bound:∀ x t,x < m→B x=some t→goodT m t∧r x=sub r t
 rank:∀ x u,x < m→B x=some (fr u)→rk u < rk x
 count:∀ u x,u < m→x < m→(us u).count x=(match B x with | none=>0 | some t=>occT u t)
 lt:∀ u,u < m→∀ x ∈ us u,x < m
section
variable {m:Nat} {r:Rho} {B:Nat→Option TyT} {us:Nat→List Nat} {rk:Nat→Nat} {v:Nat}
theorem count_flat (us:Nat→List Nat) (x:Nat):∀ P:List Nat,(∀ u ∈ P,u < m)→(P.flatMap us).count x=sumN (fun u=>P.count u * (us u).count x) m
 | [],_=>by rw [sumN_zero _ _ (fun u _=>by simp)];simp
 | y :: P,h=>by
  rw [List.flatMap_cons,List.count_append,count_flat us x P (fun u hu=>h u (by simp [hu]))]
  have h1:∀ u,(y :: P).count u * (us u).count x=(if u=y then (us u).count x else 0)+P.count u * (us u).count x:=fun u=>by
   rw [List.count_cons]
   by_cases e:u=y
   ·subst e;simp [Nat.add_mul];omega
   ·have:¬ y=u:=fun h=>e h.symm
    simp [e,this]
  have h2:sumN (fun u=>(if u=y then (us u).count x else 0)) m=(us y).count x:=by
   rw [sumN_one m _ y (h y (by simp)) (fun u _ hn=>by simp [hn])];simp
  rw [sumN_congr m _ _ (fun u _=>h1 u),sumN_add,h2]
/-- What goes on from v, one step further, is never more than what stands there. -/
theorem grown_le (h:Uses m r B us rk) (hv:B v=none) (hvm:v < m) (P:List Nat) (hP:∀ u ∈ P,u < m) (hc:∀ u,u < m→P.count u≤occT v (r u)):∀ x,x < m→(v :: P.flatMap us).count x≤occT v (r x):=by
 intro x hx
 rw [List.count_cons,count_flat us x P hP]
 cases hB:B x with
 | none =>
  rw [sumN_zero _ _ (fun u hu=>by rw [h.count u x hu hx,hB];simp),h.free x hx hB,occ_fr]
  by_cases e:x=v
  ·subst e;simp
  ·have:¬ v=x:=fun h=>e h.symm
   simp [e,this]
 | some t =>
  obtain ⟨gt,et⟩:=h.bound x t hx hB
  have hne:¬ v=x:=fun e=>by subst e;rw [hv] at hB;cases hB
  rw [et,occ_sub r v t gt]
  simp only [beq_iff_eq,hne,if_false,Nat.add_zero]
  refine sumN_le _ _ _ (fun u hu=>?_)
  rw [h.count u x hu hx,hB,Nat.mul_comm]
  exact Nat.mul_le_mul_left _ (hc u hu)
/-- Where nothing is left to go on to, it is just what stands there. -/
theorem grown_eq (h:Uses m r B us rk) (hv:B v=none) (hvm:v < m) (L:List Nat) (hL:∀ u ∈ L,u < m) (he:∀ x,x < m→L.count x=(v :: L.flatMap us).count x):∀ x,x < m→L.count x=occT v (r x):=by
 have key:∀ (n k:Nat) (x:Nat),x < m→sizeT (r x)=n→rk x=k→L.count x=occT v (r x):=by
  intro n
  induction n using Nat.strongRecOn with
  | _ n ihn =>
  intro k
  induction k using Nat.strongRecOn with
  | _ k ihk =>
  intro x hx hn hk
  rw [he x hx,List.count_cons,count_flat us x L hL]
  cases hB:B x with
  | none =>
   rw [sumN_zero _ _ (fun u hu=>by rw [h.count u x hu hx,hB];simp),h.free x hx hB,occ_fr]
   by_cases e:x=v
   ·subst e;simp
   ·have:¬ v=x:=fun h=>e h.symm
    simp [e,this]
  | some t =>
   obtain ⟨gt,et⟩:=h.bound x t hx hB
   have hne:¬ v=x:=fun e=>by subst e;rw [hv] at hB;cases hB
   rw [et,occ_sub r v t gt]
   simp only [beq_iff_eq,hne,if_false,Nat.add_zero]
   refine sumN_congr _ _ _ (fun u hu=>?_)
   rw [h.count u x hu hx,hB]
   by_cases e:occT u t=0
   ·simp [e]
   ·rw [Nat.mul_comm]
    congr 1
    by_cases k4:t.kind=4
    ·obtain ⟨y,hy,rfl⟩:=good_free gt k4
     rw [occ_fr] at e
     have ey:y=u:=Classical.byContradiction fun h=>e (by simp [h])
     subst ey
     have hr:=h.rank x y hx hB
     rw [sub_fr] at et
     exact ihk (rk y) (by omega) y hy (by rw [← et];exact hn) rfl
    ·have:=sizes_sub r t gt u hu e k4
     rw [← et,hn] at this
     exact ihn _ this _ u hu rfl rfl
 exact fun x hx=>key _ _ x hx rfl rfl
end
end Lx
end Go.Proofs.YtnpacamcgifabaaDoor
