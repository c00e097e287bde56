/- Growing and binding, by the lists of who uses whom. No program stands in this text; no conditions. -/
import Derived.Test.YtnpacamcgifabaaDoorVi
import Derived.Test.YtnpacamcgifabaaDoorVd
namespace Go.Proofs.YtnpacamcgifabaaDoor
set_option linter.unusedSimpArgs false
set_option linter.unusedVariables false
namespace Lx
open Go Go.RowKit
theorem len_sum (m:Nat):∀ L:List Nat,(∀ u ∈ L,u < m)→L.length=sumN (fun x=>L.count x) m
 | [],_=>by rw [sumN_zero _ _ (fun u _=>by simp)];rfl
 | y :: L,h=>by
  have h1:∀ u,(y :: L).count u=(if u=y then 1 else 0)+L.count u:=fun u=>by
   rw [List.count_cons]
   by_cases e:u=y
   ·subst e;simp;omega
   ·have:¬ y=u:=fun h=>e h.symm
    simp [e,this]
  have h2:sumN (fun u=>(if u=y then 1 else 0)) m=1:=by
   rw [sumN_one m _ y (h y (by simp)) (fun u _ hn=>by simp [hn])];simp
  rw [sumN_congr m _ _ (fun u _=>h1 u),sumN_add,h2,← len_sum m L (fun u hu=>h u (by simp [hu])),List.length_cons]
  omega
theorem sum_const:∀ (m B:Nat),sumN (fun _=>B) m=m * B
 | 0,B=>by simp [sumN]
 | m+1,B=>by rw [sumN,sum_const m B,Nat.succ_mul]
/-- Growing: L: each as often as it grows; the first k of them have grown. -/
structure GrowI (m:Nat) (us:Nat→List Nat) (r:Rho) (v more:Nat) (f:Nat→Nat) (L:List Nat) (k:Nat):Prop where
 le:k≤L.length
 shape:L=v :: (L.take k).flatMap us
 lt:∀ u ∈ L,u < m
 few:∀ x,x < m→f x+more * (L.take k).count x≤200
 cnt:∀ x,x < m→L.count x≤occT v (r x)
section
variable {m:Nat} {r:Rho} {B:Nat→Option TyT} {us:Nat→List Nat} {rk:Nat→Nat} {v more k:Nat} {f:Nat→Nat} {L:List Nat}
theorem GrowI.start (h:Uses m r B us rk) (hv:B v=none) (hvm:v < m) (hf:∀ x,x < m→f x≤200):GrowI m us r v more f [v] 0:=by
 refine ⟨Nat.zero_le _,by simp,fun u hu=>by simp at hu;omega,fun x hx=>by simpa using hf x hx,fun x hx=>?_⟩
 have:=grown_le h hv hvm [] (fun u hu=>by simp at hu) (fun u hu=>by simp) x hx
 simpa using this
theorem take_lt (h:GrowI m us r v more f L k):∀ u ∈ L.take k,u < m:=fun u hu=>h.lt u (List.mem_of_mem_take hu)
theorem GrowI.step (h:Uses m r B us rk) (hv:B v=none) (hvm:v < m) (g:GrowI m us r v more f L k) (hk:k < L.length) (hf:f L[k]+more * ((L.take k).count L[k]+1)≤200):GrowI m us r v more f (L++us L[k]) (k+1):=by
 have hlt:L[k] < m:=g.lt _ (List.getElem_mem hk)
 have htk:(L++us L[k]).take (k+1)=L.take k++[L[k]]:=by
  rw [List.take_append_of_le_length (by omega),List.take_succ_eq_append_getElem hk]
 have hsh:L++us L[k]=v :: (L.take k++[L[k]]).flatMap us:=by
  rw [List.flatMap_append,List.flatMap_cons,List.flatMap_nil,List.append_nil,← List.cons_append,← g.shape]
 refine ⟨by simp;omega,by rw [htk];exact hsh,fun u hu=>?_,fun x hx=>?_,fun x hx=>?_⟩
 ·rcases List.mem_append.1 hu with hu | hu
  ·exact g.lt u hu
  ·exact h.lt _ hlt u hu
 ·rw [htk,List.count_append]
  by_cases e:x=L[k]
  ·subst e;simpa using hf
  ·have h0:([L[k]]:List Nat).count x=0:=by
    rw [List.count_eq_zero];simpa using e
   rw [h0]
   exact g.few x hx
 ·rw [hsh]
  refine grown_le h hv hvm _ (fun u hu=>?_) (fun u hu=>?_) x hx
  ·rcases List.mem_append.1 hu with hu | hu
   ·exact take_lt g u hu
   ·have:=List.mem_singleton.1 hu;omega
  ·rw [← List.take_succ_eq_append_getElem hk]
   exact Nat.le_trans ((List.take_sublist _ _).count_le u) (g.cnt u hu)
/-- What has grown too large would be too large indeed. -/
theorem GrowI.fails (g:GrowI m us r v more f L k) (hk:k < L.length) (hf:200 < f L[k]+more * ((L.take k).count L[k]+1)):∃ x,x < m∧200 < f x+more * occT v (r x):=by
 have hlt:L[k] < m:=g.lt _ (List.getElem_mem hk)
 refine ⟨L[k],hlt,Nat.lt_of_lt_of_le hf (Nat.add_le_add_left (Nat.mul_le_mul_left _ ?_) _)⟩
 have h1:(L.take (k+1)).count L[k]=(L.take k).count L[k]+1:=by
  rw [List.take_succ_eq_append_getElem hk,List.count_append];simp
 rw [← h1]
 exact Nat.le_trans ((List.take_sublist _ _).count_le _) (g.cnt _ hlt)
/-- At the end each has grown as often as the unknown stands in it. -/
theorem GrowI.ends (h:Uses m r B us rk) (hv:B v=none) (hvm:v < m) (g:GrowI m us r v more f L L.length):(∀ x,x < m→L.count x=occT v (r x))∧∀ x,x < m→f x+more * occT v (r x)≤200:=by
 have hs:=g.shape
 rw [List.take_length] at hs
 have h1:∀ x,x < m→L.count x=occT v (r x):=grown_eq h hv hvm L g.lt (fun x _=>congrArg (List.count x) hs)
 refine ⟨h1,fun x hx=>?_⟩
 have:=g.few x hx
 rw [List.take_length,h1 x hx] at this
 exact this
theorem GrowI.short (g:GrowI m us r v more f L k) (C:Nat) (hC:∀ x,x < m→occT v (r x)≤C):L.length≤m * C:=by
 rw [len_sum m L g.lt,← sum_const m C]
 exact sumN_le _ _ _ (fun x hx=>Nat.le_trans (g.cnt x hx) (hC x hx))
/-- An unknown that isn't bound is bound. -/
def bindB (B:Nat→Option TyT) (v:Nat) (t:TyT):Nat→Option TyT:=fun i=>if i=v then some t else B i
def bindU (us:Nat→List Nat) (v:Nat) (t:TyT):Nat→List Nat:=fun u=>us u++List.replicate (occT u t) v
def bindK (B:Nat→Option TyT) (rk:Nat→Nat) (v:Nat):Nat→Nat:=fun x=>if x ≠ v∧B x=none then 0 else rk x+1
theorem bind_rank {t:TyT} (hr:∀ x u,x < m→B x=some (fr u)→rk u < rk x) (hl:∀ u,t=fr u→u ≠ v∧B u=none):∀ x u,x < m→bindB B v t x=some (fr u)→bindK B rk v u < bindK B rk v x:=by
 intro x u hx e
 unfold bindB at e
 by_cases ex:x=v
 ·subst ex
  simp only [if_true,Option.some.injEq] at e
  have:=hl u e
  simp [bindK,this]
 ·simp only [if_neg ex] at e
  have h1:=hr x u hx e
  have h2:bindK B rk v x=rk x+1:=by simp [bindK,e]
  rw [h2]
  unfold bindK
  split <;> omega
theorem Uses.bind {t A:TyT} (h:Uses m r B us rk) (hR:Res m r) (hv:B v=none) (hvm:v < m) (gt:goodT m t) (es:sub r t=A) (ho:occT v A=0) (hl:∀ u,t=fr u→u ≠ v∧B u=none) :
  Uses m (fun x=>sub (one v A) (r x)) (bindB B v t) (bindU us v t) (bindK B rk v):=by
 have gA:goodT m A:=by rw [← es];exact good_sub hR.good t gt
 refine ⟨fun x hx e=>?_,fun x t' hx e=>?_,bind_rank h.rank hl,fun u x hu hx=>?_,fun u hu x hx=>?_⟩
 ·unfold bindB at e
  by_cases ex:x=v
  ·simp [ex] at e
  ·simp only [if_neg ex] at e
   rw [h.free x hx e,sub_fr]
   simp [one,ex]
 ·unfold bindB at e
  by_cases ex:x=v
  ·subst ex
   simp only [if_true,Option.some.injEq] at e
   subst e
   refine ⟨gt,?_⟩
   rw [h.free x hx hv,sub_fr,← sub_sub,es,sub_one_none A gA ho]
   simp [one]
  ·simp only [if_neg ex] at e
   obtain ⟨p1,p2⟩:=h.bound x t' hx e
   refine ⟨p1,?_⟩
   rw [← sub_sub,← p2]
 ·unfold bindU bindB
  rw [List.count_append,h.count u x hu hx,List.count_replicate]
  by_cases ex:x=v
  ·subst ex;simp [hv]
  ·have:¬ v=x:=fun e=>ex e.symm
   simp [ex,this]
 ·unfold bindU at hx
  rcases List.mem_append.1 hx with hx | hx
  ·exact h.lt u hu x hx
  ·rw [List.eq_of_mem_replicate hx];exact hvm
theorem Bds.bind {t A:TyT} (h:Bds m r B rk) (hv:B v=none) (hvm:v < m) (gt:goodT m t) (es:sub r t=A) (ho:occT v A=0) (hl:∀ u,t=fr u→u ≠ v∧B u=none) :
  Bds m (fun x=>sub (one v A) (r x)) (bindB B v t) (bindK B rk v):=by
 have hR:=h.res
 have gA:goodT m A:=by rw [← es];exact good_sub hR.good t gt
 have hrA:sub r A=A:=by
  rw [← es,sub_sub]
  exact sub_congr (m:=m) (fun i hi=>hR.idem i hi) t gt
 have hrv:r v=fr v:=h.free v hvm hv
 have hA0:∀ i,i < m→r i ≠ fr i→A ≠ fr i:=fun i hi hn e=>hn (by
  have:=hrA
  rw [e,sub_fr] at this
  exact this)
 refine ⟨bind_res hR hrv gA hrA ho,fun x hx e=>?_,fun x t' hx e=>?_,bind_rank h.rank hl⟩
 ·unfold bindB at e
  by_cases ex:x=v
  ·simp [ex] at e
  ·simp only [if_neg ex] at e
   rw [h.free x hx e,sub_fr]
   simp [one,ex]
 ·unfold bindB at e
  by_cases ex:x=v
  ·subst ex
   simp only [if_true,Option.some.injEq] at e
   subst e
   have e1:sub (one x A) (r x)=A:=by rw [hrv,sub_fr];simp [one]
   refine ⟨gt,?_,?_⟩
   ·rw [e1,← sub_sub,es,sub_one_none A gA ho]
   ·rw [e1]
    intro e2
    rw [e2,occ_fr] at ho
    simp at ho
  ·simp only [if_neg ex] at e
   obtain ⟨p1,p2,p3⟩:=h.bound x t' hx e
   refine ⟨p1,by rw [← sub_sub,← p2],fun e2=>?_⟩
   by_cases k4:(r x).kind=4
   ·obtain ⟨j,hj,ej⟩:=good_free (hR.good x hx) k4
    rw [ej,sub_fr] at e2
    unfold one at e2
    by_cases ejv:j=v
    ·rw [if_pos ejv] at e2
     exact hA0 x hx p3 e2
    ·rw [if_neg ejv] at e2
     exact p3 (ej.trans e2)
   ·have:=congrArg TyT.kind e2
    rw [kind_sub k4] at this
    exact k4 this
end
end Lx
end Go.Proofs.YtnpacamcgifabaaDoor
