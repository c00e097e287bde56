/- Package unify: a head whose type is small as it stands. Conditions: as each states. -/
/- Package unify: what unify leaves, in general; from what bind leaves. No program is walked in this text; no conditions. -/
/- Package unify: the table's whole state behind new blocks and behind writes into boxes; rows of types unified one behind the other. Conditions: as each states. -/
/- Package unify: the memory of unify behind both heads; what each way leaves. No program is walked in this text; conditions: as each states. -/
import Derived.Test.YtnpacamcgifabaaDoorVr
namespace Go.Proofs.YtnpacamcgifabaaDoor
set_option linter.unusedSimpArgs false
set_option linter.unusedVariables false
namespace Lx
open Go Go.RowKit
mutual
/-- What a type comes to, where no unknown comes to more than 200 nodes. -/
theorem size_sub_few {m:Nat} (r:Rho) (hf:∀ x,x < m→sizeT (r x)≤200):∀ t,goodT m t→sizeT (sub r t)≤sizeT t * 200
 | .mk k s n l=>fun hg=>by
  by_cases k4:k=4
  ·subst k4
   obtain ⟨u,hu,e⟩:=good_free hg rfl
   rw [e,sub_fr]
   have:=hf u hu
   have:=size_pos (fr u)
   omega
  ·rw [sub_args (t:=.mk k s n l) k4]
   have h1:=sizes_sub_few r hf l (good_args hg k4)
   show sizeT (.mk k s n (subs r l))≤_
   rw [sizeT,sizeT]
   omega
theorem sizes_sub_few {m:Nat} (r:Rho) (hf:∀ x,x < m→sizeT (r x)≤200):∀ l,goodTs m l→sizeTs (subs r l)≤sizeTs l * 200
 | []=>fun _=>by simp [subs,sizeTs]
 | x :: l=>fun hg=>by
  rw [subs,sizeTs,sizeTs]
  have h1:=size_sub_few r hf x hg.1
  have h2:=sizes_sub_few r hf l hg.2
  omega
end
theorem size_arg {t:TyT} {i:Nat} (h:i < t.args.length):sizeT t.args[i] < sizeT t:=by
 obtain ⟨k,s,n,l⟩:=t
 have:=sizeTs_mem (l:=l) (i:=i) h
 show sizeT l[i] < _
 rw [sizeT]
 omega
/-- A head: small as it stands, if the type was and the unknowns are. -/
theorem head_uni (Vol:Nat→Prop) (b g m cap:Nat) (r:Rho) (rk:Nat→Nat) (F:Nat→Prop) (w:World) (h:TSt Vol b g m cap r rk F w) (hf:∀ x,x < m→sizeT (r x)≤200) (t:TyT) (gt:goodT m t) (ht:sizeT t≤200) (v:Value) (hv:∃ d,TyW d Vol t v w) (hvl:∀ k,Vol k→k < w.heap.size) :
  Calls Tryd.prog 85 #[.pointer (some ⟨b,0,none⟩),v] w fun e w'=>∃ t' v',e=.returned v'∧goodT m t'∧sub r t'=sub r t∧(t'.kind=4→sub r t'=t')∧sizeT t'≤200∧(∃ d,TyW d Vol t' v' w')∧TSt Vol b g m cap r rk F w'∧HeadK g w w':=by
 by_cases k4:t.kind=4
 ·refine (head_st h t gt v hv hvl).mono ?_
  rintro e w' ⟨t',v',e1,e2,e3,e4,e5,e6,e7⟩
  refine ⟨t',v',e1,e2,e3,e4,?_,e5,e6,e7⟩
  have h1:=size_sub_le _ t' (Nat.le_refl _) e2 r
  obtain ⟨u,hu,e⟩:=good_free gt k4
  rw [e3,e,sub_fr] at h1
  exact Nat.le_trans h1 (hf u hu)
 ·obtain ⟨d,hv⟩:=hv
  obtain ⟨A,l,c,rfl⟩:=hv.this
  refine (head_other b t.kind t.var t.name A l c w k4).mono ?_
  rintro e w' ⟨e1,hb⟩
  exact ⟨t,_,e1,gt,rfl,fun e=>absurd e k4,ht,⟨d,(TyW.step d).below hv hb⟩,h.below hb,HeadK.of_below h.glt hb⟩
end Lx
end Go.Proofs.YtnpacamcgifabaaDoor
namespace Go.Proofs.YtnpacamcgifabaaDoor
set_option linter.unusedSimpArgs false
set_option linter.unusedVariables false
namespace Lx
open Go Go.RowKit
/-- What unifying leaves. -/
def UniP (fe:Nat→Addr) (Vol:Nat→Prop) (b g m cap:Nat) (r:Rho) (A B:TyT) (w:World) (e:Ending) (w':World):Prop :=
 ∃ (code:Nat) (r':Rho) (Vol':Nat→Prop),Unif m r A B code r'∧e=.returned (errC fe code)∧(∀ k,k < w.heap.size→Vol' k→Vol k)∧(∀ k,Vol k→Vol' k)∧(∀ k,Vol' k→k < w'.heap.size)∧St Vol' b g m cap r' w'∧KV Vol g w w'
/-- The same of rows of types. -/
def UnisP (fe:Nat→Addr) (Vol:Nat→Prop) (b g m cap:Nat) (r:Rho) (la lb:List TyT) (w:World) (e:Ending) (w':World):Prop :=
 ∃ (code:Nat) (r':Rho) (Vol':Nat→Prop),Unifs m r la lb code r'∧e=.returned (errC fe code)∧(∀ k,k < w.heap.size→Vol' k→Vol k)∧(∀ k,Vol k→Vol' k)∧(∀ k,Vol' k→k < w'.heap.size)∧St Vol' b g m cap r' w'∧KV Vol g w w'
section
variable {fe:Nat→Addr} {Vol VolB:Nat→Prop} {b g m cap:Nat} {r:Rho} {v:Nat} {A B:TyT} {w w1 w':World} {e:Ending}
/-- Behind heads and boxes: VolB: what may be written then. -/
theorem BindP.left (h:BindP fe VolB b g m cap r v B w1 e w') (hne:B ≠ fr v) (hk:KV Vol g w w1) (h1:∀ k,k < w.heap.size→VolB k→Vol k) (h2:∀ k,Vol k→VolB k):UniP fe Vol b g m cap r (fr v) B w e w':=by
 obtain ⟨code,r',Vol',p1,p2,p3,p4,p5,p6,p7⟩:=h
 exact ⟨code,r',Vol',.left r v B code r' hne p1,p2,fun k hk1 e=>h1 k hk1 (p3 k (Nat.lt_of_lt_of_le hk1 hk.size) e),fun k e=>p4 k (h2 k e),p5,p6,hk.join p7 h1⟩
theorem BindP.right (h:BindP fe VolB b g m cap r v A w1 e w') (hne:A.kind ≠ 4) (hk:KV Vol g w w1) (h1:∀ k,k < w.heap.size→VolB k→Vol k) (h2:∀ k,Vol k→VolB k):UniP fe Vol b g m cap r A (fr v) w e w':=by
 obtain ⟨code,r',Vol',p1,p2,p3,p4,p5,p6,p7⟩:=h
 exact ⟨code,r',Vol',.right r v A code r' hne p1,p2,fun k hk1 e=>h1 k hk1 (p3 k (Nat.lt_of_lt_of_le hk1 hk.size) e),fun k e=>p4 k (h2 k e),p5,p6,hk.join p7 h1⟩
theorem UnisP.args (h:UnisP fe VolB b g m cap r A.args B.args w1 e w') (k4:A.kind ≠ 4) (e1:A.kind=B.kind) (e2:A.name=B.name) (e3:A.args.length=B.args.length) (hk:KV Vol g w w1) (h1:∀ k,k < w.heap.size→VolB k→Vol k) (h2:∀ k,Vol k→VolB k):UniP fe Vol b g m cap r A B w e w':=by
 obtain ⟨code,r',Vol',p1,p2,p3,p4,p5,p6,p7⟩:=h
 exact ⟨code,r',Vol',.args r A B code r' k4 e1 e2 e3 p1,p2,fun k hk1 e=>h1 k hk1 (p3 k (Nat.lt_of_lt_of_le hk1 hk.size) e),fun k e=>p4 k (h2 k e),p5,p6,hk.join p7 h1⟩
/-- Nothing is bound: the same unknown, or a clash. -/
theorem UniP.still {code:Nat} (hu:Unif m r A B code r) (he:e=.returned (errC fe code)) (hS:St VolB b g m cap r w') (hk:KV Vol g w w') (h1:∀ k,k < w.heap.size→VolB k→Vol k) (h2:∀ k,Vol k→VolB k) (h3:∀ k,VolB k→k < w'.heap.size):UniP fe Vol b g m cap r A B w e w' :=
 ⟨code,r,VolB,hu,he,h1,h2,h3,hS,hk⟩
end
end Lx
end Go.Proofs.YtnpacamcgifabaaDoor
namespace Go.Proofs.YtnpacamcgifabaaDoor
set_option linter.unusedSimpArgs false
set_option linter.unusedVariables false
namespace Lx
open Go Go.RowKit
section
variable {Vol Vol':Nat→Prop} {b g m cap:Nat} {r:Rho} {w w':World}
theorem St.lows (h:St Vol b g m cap r w):b < w.heap.size∧g < w.heap.size∧¬ Vol b∧Vol g:=by
 obtain ⟨rk,B,us,rkU,h1,h2,h3,h4⟩:=h
 exact h3.lows
/-- New blocks; what may be written then. -/
theorem St.wide (h:St Vol b g m cap r w) (hb:Below w.heap.size w w') (hv:∀ k,k < w.heap.size→Vol' k→Vol k) (hv2:∀ k,Vol k→Vol' k):St Vol' b g m cap r w':=by
 obtain ⟨hbl,hgl,hnb,hvg⟩:=h.lows
 obtain ⟨rk,B,us,rkU,h1,h2,h3,h4⟩:=h
 exact ⟨rk,B,us,rkU,(h1.vol hv (hv2 g hvg)).below hb,fun i hi=>(World.cell?_of_block (hb.block g hgl)).trans (h2 i hi),h3.wider hb hv2 (fun e=>hnb (hv b hbl e)),h4⟩
/-- A box of a type is written. -/
theorem St.put {N:Nat} {cs:Array Value} {fz:Nat × Nat} (h:St Vol b g m cap r w) (hN:w.heap[N]?=some (.cells cs 32 fz)) (hvN:Vol N) (hk:Kb (fun k=>k=N) w w'):St Vol b g m cap r w':=by
 obtain ⟨hbl,hgl,hnb,hvg⟩:=h.lows
 obtain ⟨rk,B,us,rkU,h1,h2,⟨vus,h3⟩,h4⟩:=h
 obtain ⟨cs',q1,q2⟩:=h3.row
 have hne:g ≠ N:=by
  intro e
  subst e
  rw [q1] at hN
  injection hN with hN
  injection hN with _ ht
  exact absurd ht (by decide)
 have eg:=hk.block g hgl hne
 exact ⟨rk,B,us,rkU,h1.kb hk (fun k e=>e ▸ hvN) (fun e=>hne e),fun i hi=>(World.cell?_of_block eg).trans (h2 i hi),⟨vus,(hk.block b hbl (fun e=>hnb (e ▸ hvN))).trans h3.blk,⟨cs',eg.trans q1,q2⟩,fun i hi=>(World.cell?_of_block eg).trans (h3.usr i hi),fun i hi=>own_kb (h3.own i hi) hk (fun k e1 e2=>owner_ne (by decide) (h3.own i hi) hN (e1.trans (congrArg some e2)).symm),h3.vol,h3.apart,h3.volg,h3.volb⟩,h4⟩
/-- Boxes of types need not be among what may be written. -/
theorem St.narrow (h:St Vol' b g m cap r w) (hv:∀ k,Vol k→Vol' k) (hg:Vol g) (hn:∀ k,Vol' k→Vol k ∨ ∃ cs fz,w.heap[k]?=some (.cells cs 32 fz)):St Vol b g m cap r w:=by
 obtain ⟨rk,B,us,rkU,h1,h2,⟨vus,h3⟩,h4⟩:=h
 exact ⟨rk,B,us,rkU,h1.vol (fun k _ e=>hv k e) hg,h2,⟨vus,h3.blk,h3.row,h3.usr,h3.own,fun i hi k e=>(hn k (h3.vol i hi k e)).elim id (fun ⟨cs,fz,q⟩=>absurd e.symm (owner_ne (by decide) (h3.own i hi) q)),h3.apart,hg,fun e=>h3.volb (hv b e)⟩,h4⟩
/-- A head, by the whole state. -/
theorem head_S (h:St Vol b g m cap r w) (hf:∀ x,x < m→sizeT (r x)≤200) (t:TyT) (gt:goodT m t) (ht:sizeT t≤200) (v:Value) (hv:∃ d,TyW d Vol t v w) (hvl:∀ k,Vol k→k < w.heap.size) :
  Calls Tryd.prog 85 #[.pointer (some ⟨b,0,none⟩),v] w fun e w'=>∃ t' v',e=.returned v'∧goodT m t'∧sub r t'=sub r t∧(t'.kind=4→sub r t'=t')∧sizeT t'≤200∧(∃ d,TyW d Vol t' v' w')∧St Vol b g m cap r w'∧HeadK g w w':=by
 obtain ⟨rk,B,us,rkU,h1,h2,h3,h4⟩:=h
 refine (head_uni Vol b g m cap r rk _ w h1 hf t gt ht v hv hvl).mono ?_
 rintro e w' ⟨t',v',e1,e2,e3,e4,e5,e6,e7,e8⟩
 exact ⟨t',v',e1,e2,e3,e4,e5,e6,⟨rk,B,us,rkU,e7,h2.head e8,h3.head e7 e8,h4⟩,e8⟩
end
theorem Unifs.append {m:Nat}:∀ {la lb:List TyT} {r r1:Rho} {lc ld:List TyT} {e:Nat} {r2:Rho},Unifs m r la lb 0 r1→Unifs m r1 lc ld e r2→Unifs m r (la++lc) (lb++ld) e r2
 | [],lb,r,r1,lc,ld,e,r2,h,k=>by
  cases h
  exact k
 | a :: la,lb,r,r1,lc,ld,e,r2,h,k=>by
  cases h with
  | stop _ _ b _ lb' _ _ hu he=>exact absurd rfl he
  | step _ r' _ b _ lb' _ _ hu hs=>exact .step r r' a b _ _ e r2 hu (Unifs.append hs k)
theorem subs_take {r:Rho} {la:List TyT} {q:Nat} (h:q < la.length):subs r (la.take (q+1))=subs r (la.take q)++[sub r la[q]]:=by
 rw [List.take_succ_eq_append_getElem h,subs_map,subs_map,List.map_append]
 rfl
theorem subs_split {r:Rho} {la:List TyT} {q:Nat} (h:q < la.length):subs r la=subs r (la.take q)++(sub r la[q] :: subs r (la.drop (q+1))):=by
 conv=>lhs;rw [← List.take_append_drop q la,List.drop_eq_getElem_cons h]
 rw [subs_map,subs_map,subs_map,List.map_append]
 rfl
/-- The arguments are gone through up to the q-th. -/
def UL (Vol:Nat→Prop) (b g m cap:Nat) (r:Rho) (la lb:List TyT) (W:World) (q:Nat) (rq:Rho) (Volq:Nat→Prop) (wr:World):Prop :=
 Unifs m r (subs r (la.take q)) (subs r (lb.take q)) 0 rq∧Next m r rq∧(rq=r ∨ unb rq m < unb r m)∧(∀ k,k < W.heap.size→Volq k→Vol k)∧(∀ k,Vol k→Volq k)∧(∀ k,Volq k→k < wr.heap.size)∧St Volq b g m cap rq wr∧KV Vol g W wr
section
variable {fe:Nat→Addr} {Vol Volq:Nat→Prop} {b g m cap q:Nat} {r rq:Rho} {la lb:List TyT} {W wr wr1 w':World} {e:Ending}
theorem UL.start (hS:St Vol b g m cap r W) (hvl:∀ k,Vol k→k < W.heap.size):UL Vol b g m cap r la lb W 0 r Vol W :=
 ⟨by simp [subs];exact .nil r,Next.refl hS.res,.inl rfl,fun _ _ e=>e,fun _ e=>e,hvl,hS,KV.refl _ _ _⟩
theorem UL.fin (h:UL Vol b g m cap r la lb W q rq Volq wr) (ha:q=la.length) (hb:q=lb.length) (he:e=.returned .nilIface):UnisP fe Vol b g m cap r (subs r la) (subs r lb) W e wr:=by
 obtain ⟨h1,h2,h3,h4,h5,h6,h7,h8⟩:=h
 rw [ha,List.take_length] at h1
 rw [← ha,hb,List.take_length] at h1
 exact ⟨0,rq,Volq,h1,he,h4,h5,h6,h7,h8⟩
theorem UL.more (h:UL Vol b g m cap r la lb W q rq Volq wr) (ha:q < la.length) (hb:q < lb.length) (ga:goodTs m la) (gb:goodTs m lb) (hR:Res m r) (h1:Below wr.heap.size wr wr1) (hU:UniP fe Volq b g m cap rq (sub rq la[q]) (sub rq lb[q]) wr1 e w') :
  (e=.returned .nilIface∧∃ r' Vol',UL Vol b g m cap r la lb W (q+1) r' Vol' w') ∨ ((∃ a,e=.returned (errP a))∧UnisP fe Vol b g m cap r (subs r la) (subs r lb) W e w'):=by
 obtain ⟨p1,p2,p3,p4,p5,p6,p7,p8⟩:=h
 obtain ⟨code,r',Vol',u1,u2,u3,u4,u5,u6,u7⟩:=hU
 have gaq:=goodTs_mem ga ha
 have gbq:=goodTs_mem gb hb
 have hu:Unif m rq (sub rq (sub r la[q])) (sub rq (sub r lb[q])) code r':=by rw [p2.ext.sub gaq,p2.ext.sub gbq];exact u1
 have hw1:wr.heap.size≤wr1.heap.size:=h1.size
 have hWw:=p8.size
 have k1:∀ k,k < W.heap.size→Vol' k→Vol k:=fun k hk e=>p4 k hk (u3 k (by omega) e)
 have k2:∀ k,Vol k→Vol' k:=fun k e=>u4 k (p5 k e)
 have k3:KV Vol g W w':=(p8.trans (KV.of_below h1)).join u7 p4
 by_cases hc:code=0
 ·subst hc
  have hr:=p2.res
  have e1:=good_sub hr.good _ gaq
  have e2:=good_sub hr.good _ gbq
  have n1:=(u1.next hr e1 e2 ((Ext.refl hr).sub gaq) ((Ext.refl hr).sub gbq)).1
  have n2:=u1.less hr e1 e2 ((Ext.refl hr).sub gaq) ((Ext.refl hr).sub gbq)
  refine .inl ⟨u2,r',Vol',?_,p2.trans hR n1,?_,k1,k2,u5,u6,k3⟩
  ·rw [subs_take ha,subs_take hb]
   exact p1.append (.step rq r' _ _ [] [] 0 r' hu (.nil r'))
  ·rcases n2 with n2 | n2
   ·subst n2;exact p3
   ·rcases p3 with p3 | p3
    ·subst p3;exact .inr n2
    ·exact .inr (by omega)
 ·refine .inr ⟨?_,code,r',Vol',?_,u2,k1,k2,u5,u6,k3⟩
  ·unfold errC at u2
   rw [if_neg hc] at u2
   split at u2
   ·exact ⟨_,u2⟩
   ·exact ⟨_,u2⟩
  ·rw [subs_split ha,subs_split hb]
   exact p1.append (.stop rq _ _ _ _ code r' hu hc)
end
end Lx
end Go.Proofs.YtnpacamcgifabaaDoor
namespace Go.Proofs.YtnpacamcgifabaaDoor
set_option linter.unusedSimpArgs false
set_option linter.unusedVariables false
namespace Lx
open Go Go.RowKit
theorem TyW.rowE {d:Nat} {Vol:Nat→Prop} {x:TyT} {k s n va:Value} {w:World} (h:TyW d Vol x (.agg #[k,s,n,va]) w):∃ d',RowW 4 (TyW d') Vol x.args va w:=by
 cases d with
 | zero=>exact h.elim
 | succ d =>
  obtain ⟨k',s',n',l⟩:=x
  obtain ⟨va',e,h1⟩:=h
  injection e with e
  have e2:=congrArg (fun a:Array Value=>a[3]?) e
  have e3:va=va':=by simpa using e2
  exact ⟨d,e3 ▸ h1⟩
theorem RowW.len {α:Type} {sz:Nat} {V:HoldW α} {Vol:Nat→Prop} {l:List α} {A:Option Addr} {n c:Nat} {w:World} (h:RowW sz V Vol l (.slice A n c) w):n=l.length:=by
 obtain ⟨A',c',e,_⟩:=h
 injection e
theorem bytes_eq {a b:ByteArray} (h:a.toList=b.toList):a=b:=by
 rw [ByteArray.toList_eq,ByteArray.toList_eq] at h
 exact ByteArray.ext (Array.toList_inj.mp h)
theorem tyHead {g d:Nat} {Vol:Nat→Prop} {t:TyT} {v:Value} {w w':World} (hg:Vol g) (h:TyW d Vol t v w) (hk:HeadK g w w'):TyW d Vol t v w':=TyW.step d _ _ _ _ _ _ h (hk.kb.wider (fun k _ (e:k=g)=>by subst e;exact hg)) (fun _ _ e=>e)
/-- Behind both heads: the two boxes, what they hold, the state. -/
structure UHd (Vol:Nat→Prop) (b g m cap:Nat) (r:Rho) (t1 t2:TyT) (w W:World) (x1 x2:TyT) (P1 P2:Option Addr) (n1 n2 m1 m2:Nat):Prop where
 g1:goodT m x1
 g2:goodT m x2
 s1:sub r x1=sub r t1
 s2:sub r x2=sub r t2
 f1:x1.kind=4→sub r x1=x1
 f2:x2.kind=4→sub r x2=x2
 z1:sizeT x1≤200
 z2:sizeT x2≤200
 b1:W.heap[w.heap.size]?=some (.cells #[.int .i64 x1.kind,.string x1.name,.int .i64 x1.var,.slice P1 n1 m1] 32 (0,0))
 b2:W.heap[w.heap.size+1]?=some (.cells #[.int .i64 x2.kind,.string x2.name,.int .i64 x2.var,.slice P2 n2 m2] 32 (0,0))
 h1:∃ d,TyW d Vol x1 (.agg #[.int .i64 x1.kind,.string x1.name,.int .i64 x1.var,.slice P1 n1 m1]) W
 h2:∃ d,TyW d Vol x2 (.agg #[.int .i64 x2.kind,.string x2.name,.int .i64 x2.var,.slice P2 n2 m2]) W
 st:St Vol b g m cap r W
 kb:KV Vol g w W
 sz:w.heap.size+2≤W.heap.size
section
variable {fe:Nat→Addr} {Vol:Nat→Prop} {b g m cap:Nat} {r:Rho} {t1 t2 x1 x2:TyT} {P1 P2:Option Addr} {n1 n2 m1 m2:Nat} {w W wB w':World} {e:Ending}
theorem uh_of {z0 z1 z2 z3 y0 y1 y2 y3:Value} (hvl:∀ k,Vol k→k < w.heap.size) (hvg:Vol g) (q1:goodT m x1) (q2:goodT m x2) (q3:sub r x1=sub r t1) (q4:sub r x2=sub r t2) (q5:x1.kind=4→sub r x1=x1) (q6:x2.kind=4→sub r x2=x2) (q7:sizeT x1≤200) (q8:sizeT x2≤200)
  (hA:∃ d,TyW d (fun k=>Vol k ∨ k=w.heap.size ∨ k=w.heap.size+1) x1 (.agg #[.int .i64 x1.kind,.string x1.name,.int .i64 x1.var,.slice P1 n1 m1]) wB)
  (hB:∃ d,TyW d (fun k=>Vol k ∨ k=w.heap.size ∨ k=w.heap.size+1) x2 (.agg #[.int .i64 x2.kind,.string x2.name,.int .i64 x2.var,.slice P2 n2 m2]) wB)
  (hS:St (fun k=>Vol k ∨ k=w.heap.size ∨ k=w.heap.size+1) b g m cap r wB) (hK:KV Vol g w wB)
  (h0:wB.heap[w.heap.size]?=some (.cells #[z0,z1,z2,z3] 32 (0,0))) (h1:wB.heap[w.heap.size+1]?=some (.cells #[y0,y1,y2,y3] 32 (0,0))) :
  UHd Vol b g m cap r t1 t2 w ((((((((wB.setCell ⟨w.heap.size,0,none⟩ (.int .i64 x1.kind)).setCell ⟨w.heap.size,1,none⟩ (.string x1.name)).setCell ⟨w.heap.size,2,none⟩ (.int .i64 x1.var)).setCell ⟨w.heap.size,3,none⟩ (.slice P1 n1 m1)).setCell ⟨w.heap.size+1,0,none⟩ (.int .i64 x2.kind)).setCell ⟨w.heap.size+1,1,none⟩ (.string x2.name)).setCell ⟨w.heap.size+1,2,none⟩ (.int .i64 x2.var)).setCell ⟨w.heap.size+1,3,none⟩ (.slice P2 n2 m2)) x1 x2 P1 P2 n1 n2 m1 m2:=by
 have l0:w.heap.size < wB.heap.size:=(Array.getElem?_eq_some_iff.1 h0).1
 have l1:w.heap.size+1 < wB.heap.size:=(Array.getElem?_eq_some_iff.1 h1).1
 have hk1:=kput4 wB w.heap.size (.int .i64 x1.kind) (.string x1.name) (.int .i64 x1.var) (.slice P1 n1 m1)
 have hq1:=put4 (.int .i64 x1.kind) (.string x1.name) (.int .i64 x1.var) (.slice P1 n1 m1) h0
 have hr1:=(hk1.block (w.heap.size+1) l1 (by omega)).trans h1
 generalize ((((wB.setCell ⟨w.heap.size,0,none⟩ (.int .i64 x1.kind)).setCell ⟨w.heap.size,1,none⟩ (.string x1.name)).setCell ⟨w.heap.size,2,none⟩ (.int .i64 x1.var)).setCell ⟨w.heap.size,3,none⟩ (.slice P1 n1 m1))=W1 at hk1 hq1 hr1 ⊢
 have hk2:=kput4 W1 (w.heap.size+1) (.int .i64 x2.kind) (.string x2.name) (.int .i64 x2.var) (.slice P2 n2 m2)
 have hr2:=put4 (.int .i64 x2.kind) (.string x2.name) (.int .i64 x2.var) (.slice P2 n2 m2) hr1
 have hq2:=(hk2.block w.heap.size (Nat.lt_of_lt_of_le l0 hk1.size) (by omega)).trans hq1
 generalize ((((W1.setCell ⟨w.heap.size+1,0,none⟩ (.int .i64 x2.kind)).setCell ⟨w.heap.size+1,1,none⟩ (.string x2.name)).setCell ⟨w.heap.size+1,2,none⟩ (.int .i64 x2.var)).setCell ⟨w.heap.size+1,3,none⟩ (.slice P2 n2 m2))=W2 at hk2 hr2 hq2 ⊢
 have S2:=(hS.put h0 (.inr (.inl rfl)) hk1).put hr1 (.inr (.inr rfl)) hk2
 have hkB:Kb (fun k=>Vol k ∨ k=w.heap.size ∨ k=w.heap.size+1) wB W2:=(hk1.wider (fun k _ e=>.inr (.inl e))).trans (hk2.wider (fun k _ e=>.inr (.inr e)))
 obtain ⟨d1,hA⟩:=hA
 obtain ⟨d2,hB⟩:=hB
 refine ⟨q1,q2,q3,q4,q5,q6,q7,q8,hq2,hr2,⟨d1,TyW.step d1 _ _ _ _ _ _ hA hkB (fun k _ e=>.inl e)⟩,⟨d2,TyW.step d2 _ _ _ _ _ _ hB hkB (fun k _ e=>.inl e)⟩,S2.narrow (fun k e=>.inl e) hvg (fun k e=>?_),(hK.fresh hk1 (fun j hj e=>by omega)).fresh hk2 (fun j hj e=>by omega),?_⟩
 ·rcases e with e | e | e
  ·exact .inl e
  ·subst e;exact .inr ⟨_,_,hq2⟩
  ·subst e;exact .inr ⟨_,_,hr2⟩
 ·have:=hkB.size;omega
theorem UHd.done (h:UHd Vol b g m cap r t1 t2 w W x1 x2 P1 P2 n1 n2 m1 m2) (hvl:∀ k,Vol k→k < w.heap.size) {code:Nat} (hu:Unif m r (sub r x1) (sub r x2) code r) (he:e=.returned (errC fe code)) (hb:Below W.heap.size W w'):UniP fe Vol b g m cap r (sub r t1) (sub r t2) w e w':=by
 rw [h.s1,h.s2] at hu
 exact UniP.still hu he (h.st.wide hb (fun _ _ e=>e) (fun _ e=>e)) (h.kb.trans (KV.of_below hb)) (fun _ _ e=>e) (fun _ e=>e) (fun k e=>Nat.lt_of_lt_of_le (hvl k e) (by have:=h.sz;have:=hb.size;omega))
theorem UHd.same (h:UHd Vol b g m cap r t1 t2 w W x1 x2 P1 P2 n1 n2 m1 m2) (hvl:∀ k,Vol k→k < w.heap.size) (k1:x1.kind=4) (k2:x2.kind=4) (kv:x1.var=x2.var) (hb:Below W.heap.size W w'):UniP fe Vol b g m cap r (sub r t1) (sub r t2) w (.returned .nilIface) w':=by
 obtain ⟨u1,_,e1⟩:=good_free h.g1 k1
 obtain ⟨u2,_,e2⟩:=good_free h.g2 k2
 rw [e1,e2] at kv
 have:(u1:Int)=(u2:Int):=kv
 obtain rfl:u1=u2:=by omega
 refine h.done hvl (code:=0) ?_ rfl hb
 rw [h.f1 k1,h.f2 k2,e1,e2]
 exact .same r u1
theorem UHd.clash (h:UHd Vol b g m cap r t1 t2 w W x1 x2 P1 P2 n1 n2 m1 m2) (hvl:∀ k,Vol k→k < w.heap.size) (k1:x1.kind ≠ 4) (k2:x2.kind ≠ 4) (hc:x1.kind ≠ x2.kind ∨ x1.name ≠ x2.name ∨ x1.args.length ≠ x2.args.length) (hb:Below W.heap.size W w'):UniP fe Vol b g m cap r (sub r t1) (sub r t2) w (.returned (errP (fe 2))) w':=by
 refine h.done hvl (code:=1) ?_ rfl hb
 rw [sub_args k1,sub_args k2]
 refine .clash r _ _ k1 k2 ?_
 rcases hc with hc | hc | hc
 ·exact .inl hc
 ·exact .inr (.inl hc)
 ·refine .inr (.inr ?_)
  show (subs r x1.args).length ≠ (subs r x2.args).length
  rw [subs_length,subs_length]
  exact hc
/-- What bind is given, at the left. -/
theorem UHd.left (h:UHd Vol b g m cap r t1 t2 w W x1 x2 P1 P2 n1 n2 m1 m2) (hms:m≤1000000000) (hf:∀ x,x < m→sizeT (r x)≤200) (he:ErrV fe Vol w) (hvl:∀ k,Vol k→k < w.heap.size) (k1:x1.kind=4) (kv:¬ (x2.kind=4∧x1.var=x2.var)) (hb:Below W.heap.size W w') :
  Calls Tryd.prog 86 #[.pointer (some ⟨b,0,none⟩),.int .i64 x1.var,.agg #[.int .i64 x2.kind,.string x2.name,.int .i64 x2.var,.slice P2 n2 m2]] w' (UniP fe Vol b g m cap r (sub r t1) (sub r t2) w):=by
 obtain ⟨u,hu,e1⟩:=good_free h.g1 k1
 have hru:r u=fr u:=by have:=h.f1 k1;rw [e1,sub_fr] at this;exact this
 have hx2:x2 ≠ fr u:=fun e=>kv (by rw [e,e1];exact ⟨rfl,rfl⟩)
 have hne:sub r x2 ≠ fr u:=by
  by_cases k2:x2.kind=4
  ·rw [h.f2 k2];exact hx2
  ·intro e
   have:=congrArg TyT.kind e
   rw [kind_sub k2] at this
   exact k2 this
 have hv:x1.var=(u:Int):=by rw [e1];rfl
 rw [hv]
 obtain ⟨d2,hd2⟩:=h.h2
 have hk:KV Vol g w w':=h.kb.trans (KV.of_below hb)
 refine (bind_gen fe b g m cap r u hms Vol x2 _ w' ⟨d2,(TyW.step d2).below hd2 hb⟩ h.g2 hu hru h.f2 hx2 ?_ (h.st.wide hb (fun _ _ e=>e) (fun _ e=>e)) hf (he.keep hk.kb (fun _ _ e=>e)) (fun k e=>Nat.lt_of_lt_of_le (hvl k e) (by have:=h.sz;have:=hb.size;omega))).mono ?_
 ·have:=size_sub_few r hf x2 h.g2;have:=h.z2;omega
 ·intro e w3 hp
  have:=hp.left hne hk (fun _ _ e=>e) (fun _ e=>e)
  rw [← h.s1,← h.s2,h.f1 k1,e1]
  exact this
theorem UHd.right (h:UHd Vol b g m cap r t1 t2 w W x1 x2 P1 P2 n1 n2 m1 m2) (hms:m≤1000000000) (hf:∀ x,x < m→sizeT (r x)≤200) (he:ErrV fe Vol w) (hvl:∀ k,Vol k→k < w.heap.size) (k1:x1.kind ≠ 4) (k2:x2.kind=4) (hb:Below W.heap.size W w') :
  Calls Tryd.prog 86 #[.pointer (some ⟨b,0,none⟩),.int .i64 x2.var,.agg #[.int .i64 x1.kind,.string x1.name,.int .i64 x1.var,.slice P1 n1 m1]] w' (UniP fe Vol b g m cap r (sub r t1) (sub r t2) w):=by
 obtain ⟨u,hu,e2⟩:=good_free h.g2 k2
 have hru:r u=fr u:=by have:=h.f2 k2;rw [e2,sub_fr] at this;exact this
 have hx1:x1 ≠ fr u:=fun e=>k1 (by rw [e];rfl)
 have hne:(sub r x1).kind ≠ 4:=by rw [kind_sub k1];exact k1
 have hv:x2.var=(u:Int):=by rw [e2];rfl
 rw [hv]
 obtain ⟨d1,hd1⟩:=h.h1
 have hk:KV Vol g w w':=h.kb.trans (KV.of_below hb)
 refine (bind_gen fe b g m cap r u hms Vol x1 _ w' ⟨d1,(TyW.step d1).below hd1 hb⟩ h.g1 hu hru h.f1 hx1 ?_ (h.st.wide hb (fun _ _ e=>e) (fun _ e=>e)) hf (he.keep hk.kb (fun _ _ e=>e)) (fun k e=>Nat.lt_of_lt_of_le (hvl k e) (by have:=h.sz;have:=hb.size;omega))).mono ?_
 ·have:=size_sub_few r hf x1 h.g1;have:=h.z1;omega
 ·intro e w3 hp
  have:=hp.right hne hk (fun _ _ e=>e) (fun _ e=>e)
  rw [← h.s1,← h.s2,h.f2 k2,e2]
  exact this
theorem UHd.args (h:UHd Vol b g m cap r t1 t2 w W x1 x2 P1 P2 n1 n2 m1 m2) (k1:x1.kind ≠ 4) (e1:x1.kind=x2.kind) (e2:x1.name=x2.name) (e3:x1.args.length=x2.args.length) (hU:UnisP fe Vol b g m cap r (subs r x1.args) (subs r x2.args) W e w'):UniP fe Vol b g m cap r (sub r t1) (sub r t2) w e w':=by
 have k2:x2.kind ≠ 4:=e1 ▸ k1
 rw [← h.s1,← h.s2,sub_args k1,sub_args k2]
 exact UnisP.args hU k1 e1 e2 (by show (subs r x1.args).length=(subs r x2.args).length;rw [subs_length,subs_length];exact e3) h.kb (fun _ _ e=>e) (fun _ e=>e)
end
end Lx
end Go.Proofs.YtnpacamcgifabaaDoor
