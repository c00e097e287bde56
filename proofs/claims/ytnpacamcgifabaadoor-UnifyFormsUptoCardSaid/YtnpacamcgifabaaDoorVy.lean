/- Package unify: Unify in general. Conditions: as each states. -/
import Derived.Test.YtnpacamcgifabaaDoorVx
namespace Go.Proofs.YtnpacamcgifabaaDoor
set_option linter.unusedSimpArgs false
set_option linter.unusedVariables false
namespace Lx
open Go Go.RowKit
theorem uni_any (fe:Nat→Addr) (b g m cap:Nat) (hms:m≤1000000000):∀ n s,UniC fe b g m cap n s:=by
 intro n
 induction n with
 | zero =>
  intro s
  induction s with
  | zero =>
   intro Vol r t1 t2 v1 v2 w h
   exfalso
   rcases h with h | ⟨_,h⟩ <;> omega
  | succ s ih=>exact uni_step fe b g m cap 0 s hms (Lib.hid ih)
 | succ n ihn =>
  intro s
  induction s with
  | zero =>
   intro Vol r t1 t2 v1 v2 w h
   refine ihn (sizeT (sub r t1)+1) Vol r t1 t2 v1 v2 w ?_
   rcases h with h | ⟨_,h⟩
   ·rcases Nat.lt_or_ge (unb r m) n with h2 | h2
    ·exact .inl h2
    ·exact .inr ⟨by omega,by omega⟩
   ·omega
  | succ s ih=>exact uni_step fe b g m cap (n+1) s hms (Lib.hid ih)
mutual
theorem good_clean (m:Nat):∀ x:TyT,strange (m:Int) x=false→goodT m (cleanT x)
 | .mk k s n l=>fun h=>by
  rw [cleanT]
  by_cases k2:k=2
  ·subst k2
   simp only [strange] at h
   simp only [if_true]
   rw [goodT]
   exact .inr (.inr (.inr ⟨rfl,rfl,goods_clean m l (by simpa using h)⟩))
  ·rw [if_neg k2]
   by_cases k3:k=3
   ·subst k3
    simp only [if_true]
    rw [goodT]
    exact .inr (.inl ⟨rfl,rfl,rfl⟩)
   ·rw [if_neg k3]
    by_cases k4:k=4
    ·subst k4
     simp only [if_true]
     simp [strange] at h
     rw [goodT]
     exact .inr (.inr (.inl ⟨rfl,rfl,rfl,n.toNat,by omega,by omega⟩))
    ·rw [if_neg k4]
     by_cases k1:k=1
     ·subst k1
      rw [goodT]
      exact .inl ⟨rfl,rfl,rfl,rfl⟩
     ·simp [strange,k1,k2,k3,k4] at h
theorem goods_clean (m:Nat):∀ l:List TyT,stranges (m:Int) l=false→goodTs m (cleanTs l)
 | []=>fun _=>by rw [cleanTs];trivial
 | x :: l=>fun h=>by
  rw [stranges,Bool.or_eq_false_iff] at h
  rw [cleanTs]
  exact ⟨good_clean m x h.1,goods_clean m l h.2⟩
end
mutual
theorem size_clean:∀ x:TyT,((sizeT (cleanT x):Nat):Int)=nodesZ x
 | .mk k s n l=>by
  rw [cleanT,nodesZ]
  by_cases k2:k=2
  ·subst k2
   simp only [if_true,sizeT]
   have:=sizes_clean l
   omega
  ·rw [if_neg k2,if_neg k2]
   by_cases k3:k=3
   ·simp [k3,sizeT,sizeTs]
   ·rw [if_neg k3]
    by_cases k4:k=4
    ·simp [k4,sizeT,sizeTs]
    ·simp [k4,sizeT,sizeTs]
theorem sizes_clean:∀ l:List TyT,((sizeTs (cleanTs l):Nat):Int)=nodesZs l
 | []=>by simp [cleanTs,sizeTs,nodesZs]
 | x :: l=>by
  rw [cleanTs,sizeTs,nodesZs]
  have:=size_clean x
  have:=sizes_clean l
  omega
end
/-- A type of no more nodes than the bound on what comes in. -/
def smallT (x:TyT):Prop:=sizeT (cleanT x)≤1000000000
theorem large_small {x:TyT} (h:smallT x):largeT x=decide (200 < sizeT (cleanT x)):=by
 unfold smallT at h
 unfold largeT
 rw [← size_clean x,IntWalk.i64_in _ (by omega)]
 by_cases h2:200 < sizeT (cleanT x)
 ·simp [h2];omega
 ·simp [h2];omega
set_option maxRecDepth 100000 in
set_option maxHeartbeats 4000000 in
theorem unify_genV (f:Nat→Addr) (b m d:Nat) (Vol:Nat→Prop) (x y:TyT) (v1 v2:Value) (Q:Value→World→Prop) (w:World) (hx:TyW d Vol x v1 w) (hy:TyW d Vol y v2 w) (hfx:fewT x) (hfy:fewT y) (hvl:∀ k,Vol k→k < w.heap.size) (ht:TabC b m w) (he:ErrU f w) (hnr:refuseV f m [x,y]=.nilIface)
  (HU:Hid (∀ W vA vB,Below w.heap.size w W→TyW d Vol (cleanT x) vA W→TyW d Vol (cleanT y) vB W→Calls Tryd.prog 50 #[.pointer (some ⟨b,0,none⟩),vA,vB] W fun e w'=>∃ z,e=.returned z∧Q z w')) :
  Calls Tryd.prog 18 #[.pointer (some ⟨b,0,none⟩),v1,v2] w fun e w'=>∃ z,e=.returned z∧Q z w':=by
 obtain ⟨A1,n1,c1,rfl⟩:=hx.this
 obtain ⟨A2,n2,c2,rfl⟩:=hy.this
 have hb2:Below w.heap.size w ((w.alloc (.cells #[.int .i64 x.kind,.string x.name,.int .i64 x.var,.slice A1 n1 c1] 32)).alloc (.cells #[.int .i64 y.kind,.string y.name,.int .i64 y.var,.slice A2 n2 c2] 32)):=(below_alloc _ _).alloc (by simp) _
 have hvl2:∀ k,Vol k→k < ((w.alloc (.cells #[.int .i64 x.kind,.string x.name,.int .i64 x.var,.slice A1 n1 c1] 32)).alloc (.cells #[.int .i64 y.kind,.string y.name,.int .i64 y.var,.slice A2 n2 c2] 32)).heap.size:=fun k e=>Nat.lt_of_lt_of_le (hvl k e) hb2.size
 have hrow:=row2 ((TyW.step d).below hx hb2) ((TyW.step d).below hy hb2) hvl2
 have hsz:((w.alloc (.cells #[.int .i64 x.kind,.string x.name,.int .i64 x.var,.slice A1 n1 c1] 32)).alloc (.cells #[.int .i64 y.kind,.string y.name,.int .i64 y.var,.slice A2 n2 c2] 32)).heap.size=w.heap.size+2:=by simp
 rw [hsz] at hrow
 have hb3:=hb2.alloc (by rw [hsz];omega) (.cells #[.int .i64 x.kind,.string x.name,.int .i64 x.var,.slice A1 n1 c1,.int .i64 y.kind,.string y.name,.int .i64 y.var,.slice A2 n2 c2] 32)
 have HR:=Lib.hid (refuse_any f b m d Vol [x,y] _ _ hrow (TabC.stay b m _ _ ht hb3) (ErrU.stay f _ _ he hb3))
 rw [hnr] at HR
 have HO1:Hid (∀ W,Below w.heap.size w W→Calls Tryd.prog 51 #[.agg #[.int .i64 x.kind,.string x.name,.int .i64 x.var,.slice A1 n1 c1]] W fun e w'=>∃ v',e=.returned v'∧TyW d Vol (cleanT x) v' w'∧Below W.heap.size W w'):=Lib.hid (fun W hb=>own_any d Vol x _ W ((TyW.step d).below hx hb) hfx (fun k e=>Nat.lt_of_lt_of_le (hvl k e) hb.size))
 have HO2:Hid (∀ W,Below w.heap.size w W→Calls Tryd.prog 51 #[.agg #[.int .i64 y.kind,.string y.name,.int .i64 y.var,.slice A2 n2 c2]] W fun e w'=>∃ v',e=.returned v'∧TyW d Vol (cleanT y) v' w'∧Below W.heap.size W w'):=Lib.hid (fun W hb=>own_any d Vol y _ W ((TyW.step d).below hy hb) hfy (fun k e=>Nat.lt_of_lt_of_le (hvl k e) hb.size))
 have HN0:=Lib.hid ((Below.heap_alloc _ (.cells #[.int .i64 x.kind,.string x.name,.int .i64 x.var,.slice A1 n1 c1,.int .i64 y.kind,.string y.name,.int .i64 y.var,.slice A2 n2 c2] 32) w.heap.size (by simp;omega)).trans ((Below.heap_alloc (w.alloc (.cells #[.int .i64 x.kind,.string x.name,.int .i64 x.var,.slice A1 n1 c1] 32)) (.cells #[.int .i64 y.kind,.string y.name,.int .i64 y.var,.slice A2 n2 c2] 32) w.heap.size (by simp)).trans (heap_alloc_new w (.cells #[.int .i64 x.kind,.string x.name,.int .i64 x.var,.slice A1 n1 c1] 32))))
 have hnn:=heap_alloc_new (w.alloc (.cells #[.int .i64 x.kind,.string x.name,.int .i64 x.var,.slice A1 n1 c1] 32)) (.cells #[.int .i64 y.kind,.string y.name,.int .i64 y.var,.slice A2 n2 c2] 32)
 rw [show (w.alloc (.cells #[.int .i64 x.kind,.string x.name,.int .i64 x.var,.slice A1 n1 c1] 32)).heap.size=w.heap.size+1 by simp] at hnn
 have HN1:=Lib.hid ((Below.heap_alloc _ (.cells #[.int .i64 x.kind,.string x.name,.int .i64 x.var,.slice A1 n1 c1,.int .i64 y.kind,.string y.name,.int .i64 y.var,.slice A2 n2 c2] 32) (w.heap.size+1) (by rw [hsz];omega)).trans hnn)
 have HB3:=Lib.hid hb3
 have HS3:=Lib.hid (show (((w.alloc (.cells #[.int .i64 x.kind,.string x.name,.int .i64 x.var,.slice A1 n1 c1] 32)).alloc (.cells #[.int .i64 y.kind,.string y.name,.int .i64 y.var,.slice A2 n2 c2] 32)).alloc (.cells #[.int .i64 x.kind,.string x.name,.int .i64 x.var,.slice A1 n1 c1,.int .i64 y.kind,.string y.name,.int .i64 y.var,.slice A2 n2 c2] 32)).heap.size=w.heap.size+3 by simp)
 clear hb2 hvl2 hrow hsz hb3 hnn hx hy hfx hfy hvl ht he hnr
 go_enter Tryd.func18,Tryd.ntmps18
 go_wp2_with fail
 refine HR.out.mono ?_
 rintro e w1 ⟨rfl,hb1⟩
 have HB1:=Lib.hid (HB3.out.trans (hb1.mono HB3.out.size))
 have HA:=Lib.hid ((hb1.block w.heap.size (by have:=HS3.out;omega)).trans HN0.out)
 have HC:=Lib.hid ((hb1.block (w.heap.size+1) (by have:=HS3.out;omega)).trans HN1.out)
 have HSA:=Lib.hid (show w.heap.size+3≤w1.heap.size by have:=HS3.out;have:=hb1.size;omega)
 clear hb1 HR HN0 HN1 HB3 HS3
 go_upto_region 4 with fail
 have HA:Hid (w1.drew.heap[w.heap.size]?=_):=HA
 have HC:Hid (w1.drew.heap[w.heap.size+1]?=_):=HC
 have HSA:Hid (w.heap.size+3≤w1.drew.heap.size):=HSA
 have HB1:=Lib.hid (below_drw HB1.out)
 have a0:=(cellH HA.out 0).trans rfl
 have a1:=(cellH HA.out 1).trans rfl
 have a2:=(cellH HA.out 2).trans rfl
 have a3:=(cellH HA.out 3).trans rfl
 have b0:=(cellH HC.out 0).trans rfl
 have b1:=(cellH HC.out 1).trans rfl
 have b2:=(cellH HC.out 2).trans rfl
 have b3:=(cellH HC.out 3).trans rfl
 go_region_with (first
  | (go_at_call 51;with_reducible refine (HO1.out _ HB1.out).mono ?_;rintro e wA ⟨vA,rfl,hvA,hbA⟩;have HVA:=Lib.hid hvA;have HBA:=Lib.hid (HB1.out.trans (hbA.mono HB1.out.size));have HCA:=Lib.hid ((hbA.block (w.heap.size+1) (by have:=HSA.out;omega)).trans HC.out);have d0:=(cellH HCA.out 0).trans rfl;have d1:=(cellH HCA.out 1).trans rfl;have d2:=(cellH HCA.out 2).trans rfl;have d3:=(cellH HCA.out 3).trans rfl;clear hvA hbA)
  | (go_at_call 51;with_reducible refine (HO2.out _ HBA.out).mono ?_;rintro e wB ⟨vB,rfl,hvB,hbB⟩;have HVB:=Lib.hid hvB;have HVA2:=Lib.hid ((TyW.step d).below HVA.out hbB);have HBB:=Lib.hid (HBA.out.trans (hbB.mono HBA.out.size));clear hvB hbB)
  | (go_at_call 50;refine (HU.out _ _ _ HBB.out HVA2.out HVB.out).mono ?_;rintro e wC ⟨z,rfl,hQC⟩;have HQC:=Lib.hid hQC;clear hQC))
 all_goals
  go_wp2_with fail
  go_ret
  exact ⟨_,rfl,HQC.out⟩
set_option maxRecDepth 100000 in
set_option maxHeartbeats 4000000 in
theorem unify_ref (f:Nat→Addr) (b m d:Nat) (Vol:Nat→Prop) (x y:TyT) (v1 v2:Value) (a:Addr) (w:World) (hx:TyW d Vol x v1 w) (hy:TyW d Vol y v2 w) (hvl:∀ k,Vol k→k < w.heap.size) (ht:TabC b m w) (he:ErrU f w) (hnr:refuseV f m [x,y]=errP a) :
  Calls Tryd.prog 18 #[.pointer (some ⟨b,0,none⟩),v1,v2] w fun e w'=>e=.returned (errP a)∧Below w.heap.size w w':=by
 obtain ⟨A1,n1,c1,rfl⟩:=hx.this
 obtain ⟨A2,n2,c2,rfl⟩:=hy.this
 have hb2:Below w.heap.size w ((w.alloc (.cells #[.int .i64 x.kind,.string x.name,.int .i64 x.var,.slice A1 n1 c1] 32)).alloc (.cells #[.int .i64 y.kind,.string y.name,.int .i64 y.var,.slice A2 n2 c2] 32)):=(below_alloc _ _).alloc (by simp) _
 have hvl2:∀ k,Vol k→k < ((w.alloc (.cells #[.int .i64 x.kind,.string x.name,.int .i64 x.var,.slice A1 n1 c1] 32)).alloc (.cells #[.int .i64 y.kind,.string y.name,.int .i64 y.var,.slice A2 n2 c2] 32)).heap.size:=fun k e=>Nat.lt_of_lt_of_le (hvl k e) hb2.size
 have hrow:=row2 ((TyW.step d).below hx hb2) ((TyW.step d).below hy hb2) hvl2
 have hsz:((w.alloc (.cells #[.int .i64 x.kind,.string x.name,.int .i64 x.var,.slice A1 n1 c1] 32)).alloc (.cells #[.int .i64 y.kind,.string y.name,.int .i64 y.var,.slice A2 n2 c2] 32)).heap.size=w.heap.size+2:=by simp
 rw [hsz] at hrow
 have hb3:=hb2.alloc (by rw [hsz];omega) (.cells #[.int .i64 x.kind,.string x.name,.int .i64 x.var,.slice A1 n1 c1,.int .i64 y.kind,.string y.name,.int .i64 y.var,.slice A2 n2 c2] 32)
 have HR:=Lib.hid (refuse_any f b m d Vol [x,y] _ _ hrow (TabC.stay b m _ _ ht hb3) (ErrU.stay f _ _ he hb3))
 rw [hnr] at HR
 have HB3:=Lib.hid hb3
 clear hb2 hvl2 hrow hsz hb3 hx hy hvl ht he hnr
 go_enter Tryd.func18,Tryd.ntmps18
 go_wp2_with fail
 refine HR.out.mono ?_
 rintro e w1 ⟨rfl,hb1⟩
 have HB1:=Lib.hid (HB3.out.trans (hb1.mono HB3.out.size))
 clear hb1 HR HB3
 go_wp2_with fail
 go_ret
 exact ⟨rfl,HB1.out⟩
/-- What Unify leaves. -/
def UnifyP (fe:Nat→Addr) (Vol:Nat→Prop) (b g m cap:Nat) (r:Rho) (x y:TyT) (w:World) (e:Ending) (w':World):Prop :=
 (e=.returned (errP (fe 1))∧(strange (m:Int) x=true ∨ strange (m:Int) y=true)∧Below w.heap.size w w') ∨
 (e=.returned (errP (fe 0))∧strange (m:Int) x=false∧strange (m:Int) y=false∧(200 < sizeT (cleanT x) ∨ 200 < sizeT (cleanT y))∧Below w.heap.size w w') ∨
 (strange (m:Int) x=false∧strange (m:Int) y=false∧sizeT (cleanT x)≤200∧sizeT (cleanT y)≤200∧UniP fe Vol b g m cap r (sub r (cleanT x)) (sub r (cleanT y)) w e w')
theorem Unify_any (fe:Nat→Addr) (b g m cap d:Nat) (hms:m≤1000000000) (Vol:Nat→Prop) (r:Rho) (x y:TyT) (v1 v2:Value) (w:World) (hx:TyW d Vol x v1 w) (hy:TyW d Vol y v2 w) (hfx:fewT x) (hfy:fewT y) (hsx:smallT x) (hsy:smallT y) (hS:St Vol b g m cap r w) (hf:∀ x,x < m→sizeT (r x)≤200) (he:ErrV fe Vol w) (hvl:∀ k,Vol k→k < w.heap.size) :
  Calls Tryd.prog 18 #[.pointer (some ⟨b,0,none⟩),v1,v2] w (UnifyP fe Vol b g m cap r x y w):=by
 have ht:TabC b m w:=by
  obtain ⟨rk,B,us,rkU,⟨Bd,_,_,h3⟩,_⟩:=hS
  exact h3.tab
 have lx:=large_small hsx
 have ly:=large_small hsy
 by_cases h1:strange (m:Int) x=true ∨ strange (m:Int) y=true
 ·refine (unify_ref fe b m d Vol x y v1 v2 (fe 1) w hx hy hvl ht he.err ?_).mono ?_
  ·rcases h1 with h1 | h1 <;> simp [refuseV,h1]
  ·rintro e w' ⟨rfl,hb⟩
   exact .inl ⟨rfl,h1,hb⟩
 ·have s1:strange (m:Int) x=false:=by cases h:strange (m:Int) x;rfl;exact absurd (.inl h) h1
  have s2:strange (m:Int) y=false:=by cases h:strange (m:Int) y;rfl;exact absurd (.inr h) h1
  by_cases h2:200 < sizeT (cleanT x) ∨ 200 < sizeT (cleanT y)
  ·refine (unify_ref fe b m d Vol x y v1 v2 (fe 0) w hx hy hvl ht he.err ?_).mono ?_
   ·rcases h2 with h2 | h2 <;> simp [refuseV,s1,s2,lx,ly,h2]
   ·rintro e w' ⟨rfl,hb⟩
    exact .inr (.inl ⟨rfl,s1,s2,h2,hb⟩)
  ·have z1:sizeT (cleanT x)≤200:=by omega
   have z2:sizeT (cleanT y)≤200:=by omega
   have hnr:refuseV fe m [x,y]=.nilIface:=by
    have q1:¬ 200 < sizeT (cleanT x):=by omega
    have q2:¬ 200 < sizeT (cleanT y):=by omega
    simp [refuseV,s1,s2,lx,ly,q1,q2]
   refine (unify_genV fe b m d Vol x y v1 v2 (fun z w'=>UniP fe Vol b g m cap r (sub r (cleanT x)) (sub r (cleanT y)) w (.returned z) w') w hx hy hfx hfy hvl ht he.err hnr (Lib.hid (fun W vA vB hb hA hB=>?_))).mono ?_
   ·refine (uni_any fe b g m cap hms (unb r m) (sizeT (sub r (cleanT x))+1) Vol r _ _ vA vB W (.inr ⟨rfl,by omega⟩) ⟨d,hA⟩ ⟨d,hB⟩ (good_clean m x s1) (good_clean m y s2) z1 z2 (hS.wide hb (fun _ _ e=>e) (fun _ e=>e)) hf (he.keep (Kb.of_below hb) (fun _ _ e=>e)) (fun k e=>Nat.lt_of_lt_of_le (hvl k e) hb.size)).mono ?_
    rintro e w' ⟨code,r',Vol',p1,rfl,p3,p4,p5,p6,p7⟩
    exact ⟨_,rfl,code,r',Vol',p1,rfl,fun k hk e=>p3 k (Nat.lt_of_lt_of_le hk hb.size) e,p4,p5,p6,(KV.of_below hb).trans p7⟩
   ·rintro e w' ⟨z,rfl,hP⟩
    exact .inr (.inr ⟨s1,s2,z1,z2,hP⟩)
end Lx
end Go.Proofs.YtnpacamcgifabaaDoor
