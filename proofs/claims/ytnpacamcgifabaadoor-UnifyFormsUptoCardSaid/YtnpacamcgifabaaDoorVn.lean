/- Package unify: use in general: by the type's depth. Conditions: as each states. -/
import Derived.Test.YtnpacamcgifabaaDoorVm
namespace Go.Proofs.YtnpacamcgifabaaDoor
set_option linter.unusedSimpArgs false
set_option linter.unusedVariables false
namespace Lx
open Go Go.RowKit
theorem UsS.wider {Vol Vol':Nat→Prop} {b g m cap:Nat} {us:Nat→List Nat} {w w':World} (h:UsS Vol b g m cap us w) (hb:Below w.heap.size w w') (hv:∀ k,Vol k→Vol' k) (hn:¬ Vol' b):UsS Vol' b g m cap us w':=by
 obtain ⟨vus,h⟩:=h
 exact ⟨vus,h.later hb hv hn⟩
theorem UsS.congr {Vol:Nat→Prop} {b g m cap:Nat} {us us':Nat→List Nat} {w:World} (h:UsS Vol b g m cap us w) (he:∀ u,us' u=us u):UsS Vol b g m cap us' w:=by
 have:us'=us:=funext he
 rw [this];exact h
theorem UsS.lows {Vol:Nat→Prop} {b g m cap:Nat} {us:Nat→List Nat} {w:World} (h:UsS Vol b g m cap us w):b < w.heap.size∧g < w.heap.size∧¬ Vol b∧Vol g:=by
 obtain ⟨vus,h⟩:=h
 exact ⟨h.blt,h.glt,h.volb,h.volg⟩
theorem Kb.join {S S':Nat→Prop} {a b c:World} (h:Kb S a b) (k:Kb S' b c) (hs:∀ j,j < a.heap.size→S' j→S j):Kb S a c :=
 ⟨k.os.trans h.os,k.tape.trans h.tape,k.output.trans h.output,Nat.le_trans h.size k.size,fun j hj hn=>(k.block j (Nat.lt_of_lt_of_le hj h.size) (fun e=>hn (hs j hj e))).trans (h.block j hj hn)⟩
theorem KV.join {S S':Nat→Prop} {g:Nat} {a b c:World} (h:KV S g a b) (k:KV S' g b c) (hs:∀ j,j < a.heap.size→S' j→S j):KV S g a c:=⟨h.kb.join k.kb hs,h.old.trans k.old⟩
section
variable (b g m cap v d:Nat)
set_option maxRecDepth 100000 in
set_option maxHeartbeats 4000000 in
theorem use_step (hvm:v < m) (HC:Hid (UseC b g m cap v d)):UseC b g m cap v (d+1):=by
 rintro Vol us ⟨k,s,n,l⟩ val w ⟨va,rfl,hr⟩ gt hU hlen
 obtain ⟨A1,c1,rfl⟩:=hr.slice
 by_cases k4:k=4
 ·subst k4
  obtain ⟨u,hu,e⟩:=good_free gt rfl
  injection e with _ e1 e2 e3
  subst e1 e2 e3
  refine (use_free b g m cap v hvm Vol us u A1 c1 w hu hU (by have:=hlen u hu;have:=size_pos (.mk 4 ⟨#[]⟩ (u:Int) []);omega)).mono ?_
  rintro e w' ⟨rfl,h1,h2,h3⟩
  refine ⟨rfl,h1.congr (fun x=>?_),h2,h3⟩
  unfold bindU
  rw [show (TyT.mk 4 ⟨#[]⟩ (u:Int) [])=fr u from rfl,occ_fr]
  by_cases e:u=x
  ·subst e;simp
  ·have:¬ x=u:=fun h=>e h.symm
   simp [e,this]
 ·have e4:(k == 4)=false:=by simpa using k4
  have hfew:=hr.few
  unfold maxLen at hfew
  obtain ⟨hbl,hgl,hnb,hvg⟩:=hU.lows
  have hb0:=below_alloc w (.cells #[.int .i64 k,.string s,.int .i64 n,.slice A1 l.length c1] 32)
  have a3:=(cellH (heap_alloc_new w (.cells #[.int .i64 k,.string s,.int .i64 n,.slice A1 l.length c1] 32)) 3).trans rfl
  have HNB:∀ wr:World,¬ VolX Vol w.heap.size wr b:=fun wr e=>e.elim hnb (fun q=>by omega)
  have HU0:=Lib.hid (hU.wider (Vol':=VolX Vol w.heap.size (w.alloc (.cells #[.int .i64 k,.string s,.int .i64 n,.slice A1 l.length c1] 32))) hb0 (fun k e=>.inl e) (HNB _))
  have HB0:=Lib.hid hb0
  have HR:=Lib.hid hr
  have HGS:Hid (goodTs m l):=Lib.hid (good_args gt k4)
  have HNB:=Lib.hid HNB
  have HLEN:Hid (∀ u,u < m→(us u).length+(1+sizeTs l)≤1000000000000):=Lib.hid (fun u hu=>by have:=hlen u hu;rw [sizeT] at this;exact this)
  have HGL:=Lib.hid hgl
  clear hU hb0 hr gt hlen hbl hnb hvg
  go_enter Tryd.func108,Tryd.ntmps108
  go_wp2_with fail
  generalize (w.alloc (.cells #[.int .i64 k,.string s,.int .i64 n,.slice A1 l.length c1] 32))=W at HU0 HB0 ⊢
  clear a3
  go_loopw [34] (fun t wr=>∃ q:Nat,q≤l.length∧t=.int .i64 q∧Hid (UsS (VolX Vol w.heap.size wr) b g m cap (fun u=>us u++List.replicate (occTs u (l.take q)) v) wr)∧Hid (KV Vol g w wr)∧Hid (∀ i j,j < 6→j ≠ 5→wr.cell? ⟨g,i * 6+j,none⟩=w.cell? ⟨g,i * 6+j,none⟩)) (fun t _=>l.length - (intOf t).toNat)
  case atStart=>exact ⟨0,Nat.zero_le _,rfl,Lib.hid (HU0.out.congr (fun u=>by simp [occTs])),Lib.hid (KV.of_below HB0.out),Lib.hid (fun i j _ _=>World.cell?_of_block (HB0.out.block g HGL.out))⟩
  case round =>
   obtain ⟨q,hq,rfl,HU,HK,HCL⟩:=hrel
   by_cases hlt:q < l.length
   ·have hrw:=RowW.step (TyW.step d) _ (VolX Vol w.heap.size wr) _ _ _ _ HR.out HK.out.kb (fun j hj e=>e.elim id (fun x=>by omega))
    obtain ⟨gb,o,vi,rfl,hgb,_,hvi,hc⟩:=hrw.at q hlt
    obtain ⟨B1,n1,c2,rfl⟩:=hvi.this
    have a0:=(hc 0 (by decide)).trans rfl
    have a1:=(hc 1 (by decide)).trans rfl
    have a2:=(hc 2 (by decide)).trans rfl
    have a3:=(hc 3 (by decide)).trans rfl
    simp only [cellsL,Value.cells,List.getElem?_cons_zero,List.getElem?_cons_succ,Nat.add_zero] at a0 a1 a2 a3
    have hb1:=below_alloc wr (.cells #[.int .i64 l[q].kind,.string l[q].name,.int .i64 l[q].var,.slice B1 n1 c2] 32)
    have htk:l.take (q+1)=l.take q++[l[q]]:=List.take_succ_eq_append_getElem hlt
    have hsz:sizeTs (l.take q)+sizeT l[q]≤sizeTs l:=by
     have:=sizes_take l (q+1)
     rw [htk,sizes_snoc] at this
     exact this
    have HX:=Lib.hid (HC.out (VolX Vol w.heap.size wr) (fun u=>us u++List.replicate (occTs u (l.take q)) v) l[q] _ _ ((TyW.step d).below hvi hb1) (goodTs_mem HGS.out hlt) (HU.out.wider hb1 (fun _ e=>e) (HNB.out _)) (fun u hu=>by
     have h1:=HLEN.out u hu
     have h2:=occs_le u (l.take q)
     show (us u++List.replicate (occTs u (l.take q)) v).length+_≤_
     rw [List.length_append,List.length_replicate]
     omega))
    have HB1:=Lib.hid hb1
    have HTK:=Lib.hid htk
    have hk0:(0:Int)≤(q:Int):=by omega
    have hk1:(q:Int) < (l.length:Int):=by omega
    have hdc:decide (q < l.length)=true:=by simpa using hlt
    have hsz1:(wr.alloc (.cells #[.int .i64 l[q].kind,.string l[q].name,.int .i64 l[q].var,.slice B1 n1 c2] 32)).heap.size=wr.heap.size+1:=by simp
    have HSZ:=Lib.hid hsz1
    clear hc hvi hb1 hrw htk hsz hsz1
    go_wp2_with (go_at_call 108;refine HX.out.mono ?_;rintro e w3 ⟨rfl,hu3,hk3,hc3⟩;have HU3:=Lib.hid hu3;have HK3:=Lib.hid hk3;have HC3:=Lib.hid hc3;clear hu3 hk3 hc3)
    go_roundw
    case rel=>exact ⟨q+1,by omega,by go_num,Lib.hid ((HU3.out.wider (Below.refl _ _) (fun k e=>by
      have s1:=HK3.out.size
      have s2:=HSZ.out
      have s3:=HK.out.size
      rcases e with (e | e) | e
      ·exact .inl e
      ·exact .inr (by omega)
      ·exact .inr (by omega)) (HNB.out _)).congr (fun u=>by
      show us u++List.replicate (occTs u (l.take (q+1))) v=(us u++List.replicate (occTs u (l.take q)) v)++List.replicate (occT u l[q]) v
      rw [HTK.out,occs_snoc,List.append_assoc,List.replicate_append_replicate])),Lib.hid ((HK.out.trans (KV.of_below HB1.out)).join HK3.out (fun j hj e=>e.elim id (fun x=>by omega))),Lib.hid (fun i j h1 h2=>(HC3.out i j h1 h2).trans ((World.cell?_of_block (HB1.out.block g (Nat.lt_of_lt_of_le HGL.out HK.out.size))).trans (HCL.out i j h1 h2)))⟩
    case measure=>simp [intOf];omega
   ·obtain rfl:q=l.length:=by omega
    have hdc:decide (l.length < l.length)=false:=by simp
    go_wp2_with fail
    go_end0
    exact ⟨rfl,HU.out.congr (fun u=>by
     unfold bindU
     rw [List.take_length]
     simp [occT,k4]),HK.out,HCL.out⟩
theorem use_any (hvm:v < m):∀ d,UseC b g m cap v d
 | 0=>fun _ _ _ _ _ h _ _ _=>h.elim
 | d+1=>use_step b g m cap v d hvm (Lib.hid (use_any hvm d))
end
end Lx
end Go.Proofs.YtnpacamcgifabaaDoor
