/- Package unify: the table's whole state: types, counts, lists of users. Conditions: as each states. -/
/- Package unify: an unknown's type is stored; the errors' variables; the whole state. Conditions: as each states. -/
/- Package unify: grow, by the table's state. Conditions: as each states. -/
import Derived.Test.YtnpacamcgifabaaDoorVn
namespace Go.Proofs.YtnpacamcgifabaaDoor
set_option linter.unusedSimpArgs false
set_option linter.unusedVariables false
namespace Lx
open Go Go.RowKit
section
variable {Vol Vol':Nat→Prop} {b g m cap:Nat} {r:Rho} {rk:Nat→Nat} {F:Nat→Prop} {Bd:Nat→Option TyT} {us:Nat→List Nat} {vus:Nat→Value} {f:Nat→Nat} {w w':World}
/-- An unknown's type, where its four cells are as they were. -/
theorem EntT.cells {t:Option TyT} {i:Nat} (h:EntT Vol t g i w) (hk:Kb Vol w w') (hv:∀ k,k < w.heap.size→Vol' k→Vol k) (hc:∀ j,j < 4→w'.cell? ⟨g,i * 6+j,none⟩=w.cell? ⟨g,i * 6+j,none⟩):EntT Vol' t g i w':=by
 cases t with
 | none =>
  have:=hc 0 (by decide)
  rw [Nat.add_zero] at this
  exact this.trans h
 | some t =>
  obtain ⟨h0,d,v,h1,h2⟩:=h
  exact ⟨h0,d,v,TyW.step d _ _ _ _ _ _ h1 hk hv,fun j hj=>(hc j hj).trans (h2 j hj)⟩
theorem TabT.cells (h:TabT Vol b g m cap Bd w) (hk:Kb Vol w w') (hv:∀ k,k < w.heap.size→Vol' k→Vol k) (hg:Vol' g) (hrow:∃ cs,w'.heap[g]?=some (.cells cs 89 (0,0))∧m * 6≤cs.size)
  (hc:∀ i j,j < 4→w'.cell? ⟨g,i * 6+j,none⟩=w.cell? ⟨g,i * 6+j,none⟩):TabT Vol' b g m cap Bd w' :=
 ⟨(hk.block b h.blt h.volb).trans h.blk,hrow,fun i hi=>(h.ent i hi).cells hk hv (fun j hj=>hc i j hj),hg,fun e=>h.volb (hv b h.blt e)⟩
theorem TSt.cells (h:TSt Vol b g m cap r rk F w) (hk:Kb Vol w w') (hv:∀ k,k < w.heap.size→Vol' k→Vol k) (hg:Vol' g) (hrow:∃ cs,w'.heap[g]?=some (.cells cs 89 (0,0))∧m * 6≤cs.size)
  (hc:∀ i j,j < 4→w'.cell? ⟨g,i * 6+j,none⟩=w.cell? ⟨g,i * 6+j,none⟩):TSt Vol' b g m cap r rk F w':=by
 obtain ⟨Bd,h1,h2,h3⟩:=h
 exact ⟨Bd,h1,h2,h3.cells hk hv hg hrow hc⟩
/-- The counts of nodes, by their cells. -/
def CntG (g m:Nat) (f:Nat→Nat) (w:World):Prop:=∀ i,i < m→w.cell? ⟨g,i * 6+4,none⟩=some (.int .i64 (f i:Int))
theorem CntG.cntN (h:CntG g m (fun x=>sizeT (r x)) w) (hT:TSt Vol b g m cap r rk F w):CntN b m r w:=by
 obtain ⟨Bd,_,_,h3⟩:=hT
 exact fun i hi=>⟨h3.blt,g,cap,(cellH (h3.blkP hi) 0).trans rfl,h3.glt,h i hi⟩
/-- What grow is given. -/
theorem grow_pre (hC:CntG g m f w) (hU:UsV Vol b g m cap us vus w):GrS b g m cap w.heap.size us vus w f w :=
 ⟨hU.blk,hU.row,hC,hU.usr,hU.own,fun i hi k e=>((hU.own i hi).lt k e).2,hU.blt,hU.glt,rfl,Kb.refl _ _,fun _ _ _ _=>rfl⟩
/-- What grow leaves. -/
theorem grow_post {f':Nat→Nat} (hT:TSt Vol b g m cap r rk F w) (hU:UsV Vol b g m cap us vus w) (h:GrS b g m cap w.heap.size us vus w f' w') :
  TSt Vol b g m cap r rk F w'∧CntG g m f' w'∧UsV Vol b g m cap us vus w'∧KV Vol g w w':=by
 have hk:Kb Vol w w':=h.kb.wider (fun k _ (e:k=g)=>by subst e;exact hU.volg)
 exact ⟨hT.cells hk (fun _ _ e=>e) hU.volg h.row (fun i j hj=>h.rest i j (by omega) (by omega)),h.nod,⟨h.blk,h.row,h.usr,h.own,hU.vol,hU.apart,hU.volg,hU.volb⟩,⟨hk,fun k hkl hn _=>h.kb.block k hkl hn⟩⟩
/-- The lists of users, where their cells are as they were. -/
theorem UsV.cells (h:UsV Vol b g m cap us vus w) (hk:Kb (fun k=>k=g) w w') (hrow:∃ cs,w'.heap[g]?=some (.cells cs 89 (0,0))∧m * 6≤cs.size) (hc:∀ i,w'.cell? ⟨g,i * 6+5,none⟩=w.cell? ⟨g,i * 6+5,none⟩):UsV Vol b g m cap us vus w':=by
 have hbg:b ≠ g:=fun e=>h.volb (e ▸ h.volg)
 obtain ⟨cs,q1,_⟩:=h.row
 exact ⟨(hk.block b h.blt hbg).trans h.blk,hrow,fun i hi=>(hc i).trans (h.usr i hi),fun i hi=>own_kb (h.own i hi) hk (fun k e1 e2=>by subst e2;exact owner_ne (by decide) (h.own i hi) q1 e1.symm),h.vol,h.apart,h.volg,h.volb⟩
/-- A head, an occurs: only types of unknowns change. -/
theorem UsS.head (h:UsS Vol b g m cap us w) (hT:TSt Vol b g m cap r rk F w') (hk:HeadK g w w'):UsS Vol b g m cap us w':=by
 obtain ⟨vus,h⟩:=h
 obtain ⟨Bd,_,_,h3⟩:=hT
 exact ⟨vus,h.cells hk.kb h3.row (fun i=>hk.rest i 5 (by decide) (by decide))⟩
theorem CntG.head (h:CntG g m f w) (hk:HeadK g w w'):CntG g m f w':=fun i hi=>(hk.rest i 4 (by decide) (by decide)).trans (h i hi)
theorem CntG.use (h:CntG g m f w) (hc:∀ i j,j < 6→j ≠ 5→w'.cell? ⟨g,i * 6+j,none⟩=w.cell? ⟨g,i * 6+j,none⟩):CntG g m f w':=fun i hi=>(hc i 4 (by decide) (by decide)).trans (h i hi)
/-- Behind use: types and counts are as they were. -/
theorem TSt.use (h:TSt Vol b g m cap r rk F w) {N:Nat} (hN:N=w.heap.size) (hU:UsS (VolX Vol N w') b g m cap us w') (hk:Kb Vol w w') (hc:∀ i j,j < 6→j ≠ 5→w'.cell? ⟨g,i * 6+j,none⟩=w.cell? ⟨g,i * 6+j,none⟩):TSt (VolX Vol N w') b g m cap r rk F w':=by
 obtain ⟨vus,hU⟩:=hU
 exact h.cells hk (fun k hk e=>e.elim id (fun q=>by omega)) hU.volg hU.row (fun i j hj=>hc i j (by omega) (by omega))
end
/-- No list of users is long. -/
theorem Uses.short {m:Nat} {r:Rho} {B:Nat→Option TyT} {us:Nat→List Nat} {rk:Nat→Nat} (h:Uses m r B us rk) (hf:∀ x,x < m→sizeT (r x)≤200):∀ u,u < m→(us u).length≤m * 200:=by
 have key:∀ n (t:TyT),sizeT t≤n→goodT m t→∀ r:Rho,sizeT t≤sizeT (sub r t):=by
  intro n
  induction n with
  | zero=>intro t ht;have:=size_pos t;omega
  | succ n ih =>
   intro t ht gt r
   by_cases k4:t.kind=4
   ·obtain ⟨w,_,rfl⟩:=good_free gt k4
    rw [sub_fr]
    exact size_pos (r w)
   ·have gl:=good_args gt k4
    rw [sub_args k4]
    obtain ⟨k,s,z,l⟩:=t
    have hs:sizeTs l≤n:=by rw [sizeT] at ht;omega
    show sizeT (.mk k s z l)≤sizeT (.mk k s z (subs r l))
    rw [sizeT,sizeT]
    have:∀ l':List TyT,sizeTs l'≤n→goodTs m l'→sizeTs l'≤sizeTs (subs r l'):=by
     intro l'
     induction l' with
     | nil=>intro _ _;simp [subs,sizeTs]
     | cons y l' ih2 =>
      intro h1 h2
      rw [sizeTs] at h1
      rw [subs,sizeTs,sizeTs]
      have:=ih2 (by omega) h2.2
      have:=ih y (by omega) h2.1 r
      omega
    have:=this l hs gl
    omega
 intro u hu
 rw [len_sum m (us u) (h.lt u hu),← sum_const m 200]
 refine sumN_le _ _ _ (fun x hx=>?_)
 rw [h.count u x hu hx]
 cases hB:B x with
 | none=>exact Nat.zero_le _
 | some t =>
  obtain ⟨gt,et⟩:=h.bound x t hx hB
  have h1:=occ_le u t
  have h2:=key _ t (Nat.le_refl _) gt r
  have h3:=hf x hx
  rw [et] at h3
  show occT u t≤200
  omega
end Lx
end Go.Proofs.YtnpacamcgifabaaDoor
namespace Go.Proofs.YtnpacamcgifabaaDoor
set_option linter.unusedSimpArgs false
set_option linter.unusedVariables false
namespace Lx
open Go Go.RowKit
/-- The three errors, in blocks that are not written. -/
structure ErrV (f:Nat→Addr) (Vol:Nat→Prop) (w:World):Prop where
 err:ErrU f w
 large:¬ Vol 0
 state:¬ Vol 1
 types:¬ Vol 3
theorem ErrV.keep {f:Nat→Addr} {Vol Vol':Nat→Prop} {w w':World} (h:ErrV f Vol w) (hk:Kb Vol w w') (hv:∀ k,k < w.heap.size→Vol' k→Vol k):ErrV f Vol' w':=by
 have l1:=World.block_lt_of_cell? w _ h.err.large
 have l2:=World.block_lt_of_cell? w _ h.err.state
 have l3:=World.block_lt_of_cell? w _ h.err.types
 exact ⟨⟨(World.cell?_of_block (hk.block _ l1 h.large)).trans h.err.large,(World.cell?_of_block (hk.block _ l2 h.state)).trans h.err.state,(World.cell?_of_block (hk.block _ l3 h.types)).trans h.err.types⟩,fun e=>h.large (hv _ l1 e),fun e=>h.state (hv _ l2 e),fun e=>h.types (hv _ l3 e)⟩
theorem good_kind {m:Nat} {t:TyT} (h:goodT m t):t.kind ≠ 0:=by
 obtain ⟨k,s,n,l⟩:=t
 rw [goodT] at h
 show k ≠ 0
 rcases h with ⟨rfl,_⟩ | ⟨rfl,_⟩ | ⟨rfl,_⟩ | ⟨rfl,_⟩ <;> decide
section
variable {Vol:Nat→Prop} {b g m cap:Nat} {r:Rho} {rk:Nat→Nat} {F:Nat→Prop} {w:World}
/-- An unknown that is not bound is bound to a type. -/
theorem TSt.bind (h:TSt Vol b g m cap r rk F w) {v:Nat} (hvm:v < m) (hF:F v) {t A:TyT} (gt:goodT m t) (es:sub r t=A) (ho:occT v A=0) (hl:∀ u,t=fr u→u ≠ v∧F u) {P:Option Addr} {l c:Nat}
  (ht:∃ d,TyW d Vol t (.agg #[.int .i64 t.kind,.string t.name,.int .i64 t.var,.slice P l c]) w) :
  (∃ rk',TSt Vol b g m cap (fun x=>sub (one v A) (r x)) rk' (fun i=>F i∧i ≠ v) ((((w.setCell ⟨g,v * 6,none⟩ (.int .i64 t.kind)).setCell ⟨g,v * 6+1,none⟩ (.string t.name)).setCell ⟨g,v * 6+2,none⟩ (.int .i64 t.var)).setCell ⟨g,v * 6+3,none⟩ (.slice P l c))) ∧
  HeadK g w ((((w.setCell ⟨g,v * 6,none⟩ (.int .i64 t.kind)).setCell ⟨g,v * 6+1,none⟩ (.string t.name)).setCell ⟨g,v * 6+2,none⟩ (.int .i64 t.var)).setCell ⟨g,v * 6+3,none⟩ (.slice P l c)):=by
 obtain ⟨Bd,h1,h2,h3⟩:=h
 obtain ⟨q1,q2⟩:=h3.set hvm (good_kind gt) ht h3.ne
 refine ⟨⟨bindK Bd rk v,bindB Bd v t,h1.bind ((h2 v).2 hF) hvm gt es ho (fun u e=>⟨(hl u e).1,(h2 u).2 (hl u e).2⟩),fun i=>?_,q1⟩,q2⟩
 unfold bindB
 by_cases e:i=v
 ·subst e;simp
 ·simp [e,h2 i]
end
/-- The state of a table: what its unknowns come to is r. -/
def St (Vol:Nat→Prop) (b g m cap:Nat) (r:Rho) (w:World):Prop:=∃ (rk:Nat→Nat) (B:Nat→Option TyT) (us:Nat→List Nat) (rkU:Nat→Nat),TSt Vol b g m cap r rk (fun i=>B i=none) w∧CntG g m (fun x=>sizeT (r x)) w∧UsS Vol b g m cap us w∧Uses m r B us rkU
section
variable {Vol:Nat→Prop} {b g m cap:Nat} {r:Rho} {w w':World}
theorem St.res (h:St Vol b g m cap r w):Res m r:=by
 obtain ⟨rk,B,us,rkU,h1,_⟩:=h
 exact h1.res
/-- How large each becomes when one is bound. -/
theorem sizes_bind {m:Nat} {r:Rho} (hR:Res m r) {v:Nat} {A:TyT} (x:Nat) (hx:x < m):sizeT (sub (one v A) (r x))=sizeT (r x)+(sizeT A - 1) * occT v (r x):=by
 rw [size_one (r x) (hR.good x hx),Nat.mul_comm]
/-- All is as it was but for heads' halving. -/
theorem St.head (h:St Vol b g m cap r w) (hk:HeadK g w w') (hT:∀ rk F,TSt Vol b g m cap r rk F w→TSt Vol b g m cap r rk F w'):St Vol b g m cap r w':=by
 obtain ⟨rk,B,us,rkU,h1,h2,h3,h4⟩:=h
 have h5:=hT _ _ h1
 exact ⟨rk,B,us,rkU,h5,h2.head hk,h3.head h5 hk,h4⟩
end
end Lx
end Go.Proofs.YtnpacamcgifabaaDoor
namespace Go.Proofs.YtnpacamcgifabaaDoor
set_option linter.unusedSimpArgs false
set_option linter.unusedVariables false
namespace Lx
open Go Go.RowKit
/-- An unknown that comes to itself is not bound. -/
theorem TSt.freeOf {Vol:Nat→Prop} {b g m cap:Nat} {r:Rho} {rk:Nat→Nat} {F:Nat→Prop} {w:World} (h:TSt Vol b g m cap r rk F w) {v:Nat} (hvm:v < m) (hrv:r v=fr v):F v:=by
 obtain ⟨Bd,h1,h2,_⟩:=h
 refine (h2 v).1 ?_
 cases hB:Bd v with
 | none=>rfl
 | some t=>exact absurd hrv (h1.bound v t hvm hB).2.2
/-- What grow does, for unknowns of at most 200 nodes. -/
theorem grow_st (Vol:Nat→Prop) (b g m cap:Nat) (r:Rho) (B:Nat→Option TyT) (us:Nat→List Nat) (rk rkU:Nat→Nat) (v M:Nat) (HU:Uses m r B us rkU) (HB:B v=none) (hvm:v < m) (hf:∀ x,x < m→sizeT (r x)≤200) (hM:M≤100000) (hms:m≤1000000000) (w:World)
  (hT:TSt Vol b g m cap r rk (fun i=>B i=none) w) (hC:CntG g m (fun x=>sizeT (r x)) w) (hS:UsS Vol b g m cap us w) :
  Calls Tryd.prog 107 #[.pointer (some ⟨b,0,none⟩),.int .i64 v,.int .i64 M] w fun e w' =>
   TSt Vol b g m cap r rk (fun i=>B i=none) w'∧UsS Vol b g m cap us w'∧KV Vol g w w' ∧
   ((e=.returned (.bool true)∧(∀ x,x < m→sizeT (r x)+M * occT v (r x)≤200)∧CntG g m (fun x=>sizeT (r x)+M * occT v (r x)) w') ∨
    (e=.returned (.bool false)∧(∃ x,x < m∧200 < sizeT (r x)+M * occT v (r x))∧CntG g m (fun x=>sizeT (r x)) w')):=by
 by_cases h0:M=0
 ·subst h0
  refine (grow_zero (.pointer (some ⟨b,0,none⟩)) (.int .i64 v) w).mono ?_
  rintro e w' ⟨rfl,rfl⟩
  exact ⟨hT,hS,KV.refl _ _ _,.inl ⟨rfl,fun x hx=>by have:=hf x hx;omega,fun i hi=>by have:=hC i hi;simpa using this⟩⟩
 ·obtain ⟨vus,hS⟩:=hS
  refine (grow_gen b g m cap r B us rkU vus (fun x=>sizeT (r x)) v M (Lib.hid HU) (Lib.hid HB) (Lib.hid hvm) (Lib.hid hf) (Lib.hid (fun x hx=>Nat.le_trans (occ_le v (r x)) (hf x hx))) (by omega) hM hms w (grow_pre hC hS)).mono ?_
  rintro e w' (⟨rfl,h1,h2⟩ | ⟨rfl,h1,h2⟩)
  ·obtain ⟨p1,p2,p3,p4⟩:=grow_post hT hS h2
   exact ⟨p1,⟨vus,p3⟩,p4,.inl ⟨rfl,h1,p2⟩⟩
  ·obtain ⟨p1,p2,p3,p4⟩:=grow_post hT hS h2
   exact ⟨p1,⟨vus,p3⟩,p4,.inr ⟨rfl,h1,p2⟩⟩
end Lx
end Go.Proofs.YtnpacamcgifabaaDoor
