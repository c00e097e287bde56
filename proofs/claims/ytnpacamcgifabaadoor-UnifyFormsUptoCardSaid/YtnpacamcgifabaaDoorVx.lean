/- Package unify: unify in general. Conditions: as each states. -/
import Derived.Test.YtnpacamcgifabaaDoorVxS
import Derived.Deep.RegionWith
import Derived.Deep.Cut
import Derived.Deep.CutRange
import Derived.StillTailTactics
namespace Go.Proofs.YtnpacamcgifabaaDoor
set_option linter.unusedSimpArgs false
set_option linter.unusedVariables false
namespace Lx
open Go Go.RowKit
def UniC (fe:Nat→Addr) (b g m cap n s:Nat):Prop:=∀ (Vol:Nat→Prop) (r:Rho) (t1 t2:TyT) (v1 v2:Value) (w:World),(unb r m < n ∨ (unb r m=n∧sizeT (sub r t1) < s))→(∃ d,TyW d Vol t1 v1 w)→(∃ d,TyW d Vol t2 v2 w)→goodT m t1→goodT m t2→sizeT t1≤200→sizeT t2≤200→St Vol b g m cap r w→(∀ x,x < m→sizeT (r x)≤200)→ErrV fe Vol w→(∀ k,Vol k→k < w.heap.size) →
 Calls Tryd.prog 50 #[.pointer (some ⟨b,0,none⟩),v1,v2] w (UniP fe Vol b g m cap r (sub r t1) (sub r t2) w)
theorem size_argU {t:TyT} {i:Nat} (h:i < t.args.length) (hz:sizeT t≤200):sizeT t.args[i]≤200:=by have:=size_arg h;omega
/-- The call for one pair of arguments. -/
theorem ul_call {fe:Nat→Addr} {b g m cap n s q q1 q2:Nat} {Vol Volq:Nat→Prop} {r rq:Rho} {t1 t2 x1 x2 y1 y2:TyT} {w wc wr X:World} {P1 P2:Option Addr} {n1 n2 m1 m2:Nat} {v1 v2:Value} (HC:UniC fe b g m cap n s) (hUL:UL Vol b g m cap r x1.args x2.args wc q rq Volq wr) (hb:Below wr.heap.size wr X) (h1:TyW q1 Volq y1 v1 X) (h2:TyW q2 Volq y2 v2 X)
  (l1:q < x1.args.length) (l2:q < x2.args.length) (e1:y1=x1.args[q]) (e2:y2=x2.args[q]) (hU:UHd Vol b g m cap r t1 t2 w wc x1 x2 P1 P2 n1 n2 m1 m2) (k1:x1.kind ≠ 4) (k2:x2.kind ≠ 4) (he:ErrV fe Vol w) (hf:∀ x,x < m→sizeT (r x)≤200)
  (hm:∀ rq,(rq=r ∨ unb rq m < unb r m)→∀ (i:Nat) (h:i < x1.args.length),unb rq m < n ∨ (unb rq m=n∧sizeT (sub rq x1.args[i]) < s)) :
  Calls Tryd.prog 50 #[.pointer (some ⟨b,0,none⟩),v1,v2] X fun e w'=>∃ z,e=.returned z∧((z=.nilIface∧∃ r' Vol',UL Vol b g m cap r x1.args x2.args wc (q+1) r' Vol' w') ∨ ((∃ a,z=errP a)∧UnisP fe Vol b g m cap r (subs r x1.args) (subs r x2.args) wc (.returned z) w')):=by
 have hUL2:=hUL
 obtain ⟨p1,p2,p3,p4,p5,p6,p7,p8⟩:=hUL
 have hk:KV Vol g w X:=hU.kb.trans (p8.trans (KV.of_below hb))
 subst e1
 subst e2
 refine (HC Volq rq _ _ v1 v2 X (hm rq p3 q l1) ⟨q1,h1⟩ ⟨q2,h2⟩ (goodTs_mem (good_args hU.g1 k1) l1) (goodTs_mem (good_args hU.g2 k2) l2) (size_argU l1 hU.z1) (size_argU l2 hU.z2) (p7.wide hb (fun _ _ e=>e) (fun _ e=>e)) (p2.few hf) (he.keep hk.kb (fun k hk1 e=>p4 k (Nat.lt_of_lt_of_le hk1 hU.kb.size) e)) (fun k e=>Nat.lt_of_lt_of_le (p6 k e) hb.size)).mono ?_
 intro e w' hP
 rcases UL.more hUL2 l1 l2 (good_args hU.g1 k1) (good_args hU.g2 k2) hU.st.res hb hP with ⟨rfl,r',Vol',h⟩ | ⟨⟨a,rfl⟩,h⟩
 ·exact ⟨_,rfl,.inl ⟨rfl,r',Vol',h⟩⟩
 ·exact ⟨_,rfl,.inr ⟨⟨a,rfl⟩,h⟩⟩
set_option maxRecDepth 100000 in
set_option maxHeartbeats 8000000 in
theorem uni_step (fe:Nat→Addr) (b g m cap n s:Nat) (hms:m≤1000000000) (HC:Hid (UniC fe b g m cap n s)):UniC fe b g m cap n (s+1):=by
 intro Vol r t1 t2 v1 v2 w hmeas hv1 hv2 gt1 gt2 hz1 hz2 hS hf he hvl
 rcases hmeas with hlt | ⟨hn,hs⟩
 ·exact HC.out Vol r t1 t2 v1 v2 w (.inl hlt) hv1 hv2 gt1 gt2 hz1 hz2 hS hf he hvl
 obtain ⟨d1,hv1⟩:=hv1
 obtain ⟨d2,hv2⟩:=hv2
 obtain ⟨A1,l1,c1,rfl⟩:=hv1.this
 obtain ⟨A2,l2,c2,rfl⟩:=hv2.this
 obtain ⟨hbl,hgl,hnb,hvg⟩:=hS.lows
 have hB:Below w.heap.size w ((w.alloc (.cells #[.int .i64 t1.kind,.string t1.name,.int .i64 t1.var,.slice A1 l1 c1] 32)).alloc (.cells #[.int .i64 t2.kind,.string t2.name,.int .i64 t2.var,.slice A2 l2 c2] 32)):=(below_alloc _ _).alloc (by simp) _
 have hback:∀ k,k < w.heap.size→(Vol k ∨ k=w.heap.size ∨ k=w.heap.size+1)→Vol k:=fun k hk e=>by
  rcases e with e | e | e
  ·exact e
  ·omega
  ·omega
 have HA:=Lib.hid ((Below.heap_alloc (w.alloc (.cells #[.int .i64 t1.kind,.string t1.name,.int .i64 t1.var,.slice A1 l1 c1] 32)) (.cells #[.int .i64 t2.kind,.string t2.name,.int .i64 t2.var,.slice A2 l2 c2] 32) w.heap.size (by simp)).trans (heap_alloc_new w (.cells #[.int .i64 t1.kind,.string t1.name,.int .i64 t1.var,.slice A1 l1 c1] 32)))
 have hz:(w.alloc (.cells #[.int .i64 t1.kind,.string t1.name,.int .i64 t1.var,.slice A1 l1 c1] 32)).heap.size=w.heap.size+1:=by simp
 have HR:=Lib.hid (heap_alloc_new (w.alloc (.cells #[.int .i64 t1.kind,.string t1.name,.int .i64 t1.var,.slice A1 l1 c1] 32)) (.cells #[.int .i64 t2.kind,.string t2.name,.int .i64 t2.var,.slice A2 l2 c2] 32))
 rw [hz] at HR
 have HSZ:=Lib.hid (show w.heap.size+2=((w.alloc (.cells #[.int .i64 t1.kind,.string t1.name,.int .i64 t1.var,.slice A1 l1 c1] 32)).alloc (.cells #[.int .i64 t2.kind,.string t2.name,.int .i64 t2.var,.slice A2 l2 c2] 32)).heap.size by simp)
 have HV1:=Lib.hid (TyW.step d1 _ _ _ _ _ _ hv1 (Kb.of_below hB) hback)
 have HV2:=Lib.hid (TyW.step d2 _ _ _ _ _ _ hv2 (Kb.of_below hB) hback)
 have HST:=Lib.hid (hS.wide hB hback (fun _ e=>.inl e))
 have HB:=Lib.hid hB
 have HVL:=Lib.hid hvl
 have HE:=Lib.hid he
 have HF:=Lib.hid hf
 have HVG:=Lib.hid hvg
 have HGL:=Lib.hid hgl
 have HN:=Lib.hid hn
 have HS:=Lib.hid hs
 have HG1:=Lib.hid gt1
 have HG2:=Lib.hid gt2
 have HZ1:=Lib.hid hz1
 have HZ2:=Lib.hid hz2
 have HRES:=Lib.hid hS.res
 clear hv1 hv2 hbl hnb hB hback hz hS hvl he hf hvg hgl hn hs gt1 gt2 hz1 hz2
 go_enter Tryd.func50,Tryd.ntmps50
 go_upto_region 1 with fail
 generalize ((w.alloc (.cells #[.int .i64 t1.kind,.string t1.name,.int .i64 t1.var,.slice A1 l1 c1] 32)).alloc (.cells #[.int .i64 t2.kind,.string t2.name,.int .i64 t2.var,.slice A2 l2 c2] 32))=Z at HA HR HSZ HV1 HV2 HST HB ⊢
 go_cut [] from 10 (fun wc=>∃ (x1 x2:TyT) (P1 P2:Option Addr) (n1 n2 m1 m2:Nat),Hid (UHd Vol b g m cap r t1 t2 w wc x1 x2 P1 P2 n1 n2 m1 m2))
 case first =>
  have hdr:=below_drw (Below.refl Z.heap.size Z)
  have HST:=Lib.hid (HST.out.wide hdr (fun _ _ e=>e) (fun _ e=>e))
  have HV1:=Lib.hid ((TyW.step d1).below HV1.out hdr)
  have HV2:=Lib.hid ((TyW.step d2).below HV2.out hdr)
  have HB:=Lib.hid (below_drw HB.out)
  have HSZ:Hid (w.heap.size+2=Z.drew.heap.size):=HSZ
  have HA:Hid (Z.drew.heap[w.heap.size]?=_):=HA
  have HR:Hid (Z.drew.heap[w.heap.size+1]?=_):=HR
  clear hdr
  have hvl0:∀ k,(Vol k ∨ k=w.heap.size ∨ k=w.heap.size+1)→k < Z.drew.heap.size:=fun k e=>by
   have:=HSZ.out
   rcases e with e | e | e
   ·have:=HVL.out k e;omega
   ·omega
   ·omega
  have H1:=Lib.hid (head_S HST.out HF.out t1 HG1.out HZ1.out _ ⟨d1,HV1.out⟩ hvl0)
  have H2:Hid (∀ W,St (fun k=>Vol k ∨ k=w.heap.size ∨ k=w.heap.size+1) b g m cap r W→(∃ d,TyW d (fun k=>Vol k ∨ k=w.heap.size ∨ k=w.heap.size+1) t2 (.agg #[.int .i64 t2.kind,.string t2.name,.int .i64 t2.var,.slice A2 l2 c2]) W)→(∀ k,(Vol k ∨ k=w.heap.size ∨ k=w.heap.size+1)→k < W.heap.size)→_):=Lib.hid (fun W a1 a2 a3=>head_S a1 HF.out t2 HG2.out HZ2.out _ a2 a3)
  have a0:=(cellH HA.out 0).trans rfl
  have a1:=(cellH HA.out 1).trans rfl
  have a2:=(cellH HA.out 2).trans rfl
  have a3:=(cellH HA.out 3).trans rfl
  have b0:=(cellH HR.out 0).trans rfl
  have b1:=(cellH HR.out 1).trans rfl
  have b2:=(cellH HR.out 2).trans rfl
  have b3:=(cellH HR.out 3).trans rfl
  have HGV:Hid ((fun k=>Vol k ∨ k=w.heap.size ∨ k=w.heap.size+1) g):=Lib.hid (.inl HVG.out)
  clear hvl0
  go_region_with (first
   | (go_at_call 85;have h1q:=H1.out;with_reducible refine h1q.mono ?_;rintro e wA ⟨x1,u1,rfl,gA,sA,fA,zA,⟨dA,hvA⟩,hSA,hKA⟩;obtain ⟨P1,n1,m1,rfl⟩:=hvA.this;have HGA:=Lib.hid gA;have HSA:=Lib.hid sA;have HFA:=Lib.hid fA;have HZA:=Lib.hid zA;have HVA:=Lib.hid hvA;have HTA:=Lib.hid hSA;have HKA:=Lib.hid hKA;have HV2A:=Lib.hid (tyHead HGV.out HV2.out hKA);have HRA:=Lib.hid ((hKA.kb.block (w.heap.size+1) (by have:=HSZ.out;omega) (by have:=HGL.out;omega)).trans HR.out);have HAA:=Lib.hid ((hKA.kb.block w.heap.size (by have:=HSZ.out;omega) (by have:=HGL.out;omega)).trans HA.out);have HLA:=Lib.hid (show w.heap.size+2≤wA.heap.size by have:=HSZ.out;have:=hKA.kb.size;omega);have y0:=(cellH HRA.out 0).trans rfl;have y1:=(cellH HRA.out 1).trans rfl;have y2:=(cellH HRA.out 2).trans rfl;have y3:=(cellH HRA.out 3).trans rfl;clear gA sA fA zA hvA hSA hKA)
   | (go_at_call 85;with_reducible refine (H2.out _ HTA.out ⟨d2,HV2A.out⟩ (fun k e=>by have:=HLA.out;rcases e with e | e | e;(have:=HVL.out k e;omega);omega;omega)).mono ?_;rintro e wB ⟨x2,u2,rfl,gB,sB,fB,zB,⟨dB,hvB⟩,hSB,hKB⟩;obtain ⟨P2,n2,m2,rfl⟩:=hvB.this;have HGB:=Lib.hid gB;have HSB:=Lib.hid sB;have HFB:=Lib.hid fB;have HZB:=Lib.hid zB;have HVB:=Lib.hid hvB;have HTB:=Lib.hid hSB;have HVAB:=Lib.hid (tyHead HGV.out HVA.out hKB);have HKB:=Lib.hid (HKA.out.kb.trans hKB.kb);have HAB:=Lib.hid ((hKB.kb.block w.heap.size (by have:=HLA.out;omega) (by have:=HGL.out;omega)).trans HAA.out);have HRB:=Lib.hid ((hKB.kb.block (w.heap.size+1) (by have:=HLA.out;omega) (by have:=HGL.out;omega)).trans HRA.out);have x0:=(cellH HAB.out 0).trans rfl;have x1':=(cellH HAB.out 1).trans rfl;have x2':=(cellH HAB.out 2).trans rfl;have x3:=(cellH HAB.out 3).trans rfl;have y0:=(cellH HRB.out 0).trans rfl;have y1:=(cellH HRB.out 1).trans rfl;have y2:=(cellH HRB.out 2).trans rfl;have y3:=(cellH HRB.out 3).trans rfl;have f0:=frozenH HAB.out 0;have f1:=frozenH HAB.out 1;have f2:=frozenH HAB.out 2;have f3:=frozenH HAB.out 3;have g0:=frozenH HRB.out 0;have g1:=frozenH HRB.out 1;have g2:=frozenH HRB.out 2;have g3:=frozenH HRB.out 3;clear gB sB fB zB hvB hSB hKB))
  all_goals
   have HUH:=Lib.hid (uh_of (t1:=t1) (t2:=t2) HVL.out HVG.out HGA.out HGB.out HSA.out HSB.out HFA.out HFB.out HZA.out HZB.out ⟨dA,HVAB.out⟩ ⟨dB,HVB.out⟩ HTB.out ((KV.of_below HB.out:KV Vol g w Z.drew).trans (KV.of_g HKB.out HVG.out)) HAB.out HRB.out)
   clear a0 a1 a2 a3 b0 b1 b2 b3 x0 x1' x2' x3 y0 y1 y2 y3 f0 f1 f2 f3 g0 g1 g2 g3
   go_wp2_with fail
   go_meet
   exact ⟨x1,x2,P1,P2,n1,n2,m1,m2,HUH⟩
 case rest =>
  obtain ⟨x1,x2,P1,P2,n1,n2,m1,m2,HU⟩:=hcut
  clear HA HR HSZ HV1 HV2 HST HB
  have b10:=(cellH HU.out.b1 0).trans rfl
  have b11:=(cellH HU.out.b1 1).trans rfl
  have b12:=(cellH HU.out.b1 2).trans rfl
  have b13:=(cellH HU.out.b1 3).trans rfl
  have b20:=(cellH HU.out.b2 0).trans rfl
  have b21:=(cellH HU.out.b2 1).trans rfl
  have b22:=(cellH HU.out.b2 2).trans rfl
  have b23:=(cellH HU.out.b2 3).trans rfl
  by_cases k1:x1.kind=4
  ·have e1:(x1.kind == 4)=true:=by simpa using k1
   have HK1:=Lib.hid k1
   clear k1
   by_cases kv:x2.kind=4∧x1.var=x2.var
   ·have e2:(x2.kind == 4)=true:=by simpa using kv.1
    have e3:(x1.var == x2.var)=true:=by simpa using kv.2
    have HKV:=Lib.hid kv
    clear kv
    go_wp2_with fail
    go_ret
    exact HU.out.same HVL.out HK1.out HKV.out.1 HKV.out.2 (Below.refl _ _)
   ·have HL:=Lib.hid (HU.out.left hms HF.out HE.out HVL.out HK1.out kv (Below.refl _ _))
    cases e2:(x2.kind == 4)
    ·clear kv
     go_wp2_with (go_at_call 86;refine HL.out.mono ?_;rintro e w3 ⟨code,r',Vol',p1,rfl,p3⟩;have HP:=Lib.hid (And.intro p1 p3);clear p1 p3)
     go_ret
     exact ⟨code,r',Vol',HP.out.1,rfl,HP.out.2⟩
    ·have e3:(x1.var == x2.var)=false:=by
      have:x2.kind=4:=by simpa using e2
      simpa using fun e=>kv ⟨this,e⟩
     clear kv
     go_wp2_with (go_at_call 86;refine HL.out.mono ?_;rintro e w3 ⟨code,r',Vol',p1,rfl,p3⟩;have HP:=Lib.hid (And.intro p1 p3);clear p1 p3)
     go_ret
     exact ⟨code,r',Vol',HP.out.1,rfl,HP.out.2⟩
  ·have e1:(x1.kind == 4)=false:=by simpa using k1
   have HK1:=Lib.hid k1
   clear k1
   by_cases k2:x2.kind=4
   ·have HL:=Lib.hid (HU.out.right hms HF.out HE.out HVL.out HK1.out k2 (Below.refl _ _))
    have e2:(x2.kind == 4)=true:=by simpa using k2
    clear k2
    go_wp2_with (go_at_call 86;refine HL.out.mono ?_;rintro e w3 ⟨code,r',Vol',p1,rfl,p3⟩;have HP:=Lib.hid (And.intro p1 p3);clear p1 p3)
    go_ret
    exact ⟨code,r',Vol',HP.out.1,rfl,HP.out.2⟩
   ·have e2:(x2.kind == 4)=false:=by simpa using k2
    have HK2:=Lib.hid k2
    clear k2
    obtain ⟨q1,hr1⟩:=HU.out.h1.choose_spec.rowE
    obtain ⟨q2,hr2⟩:=HU.out.h2.choose_spec.rowE
    obtain rfl:=hr1.len
    obtain rfl:=hr2.len
    have HR1:=Lib.hid hr1
    have HR2:=Lib.hid hr2
    clear hr1 hr2
    by_cases hc:x1.kind ≠ x2.kind ∨ x1.name ≠ x2.name ∨ x1.args.length ≠ x2.args.length
    ·have HX:=Lib.hid hc
     have hl:=(HE.out.keep HU.out.kb.kb (fun _ _ e=>e)).err.types
     by_cases c1:x1.kind=x2.kind
     ·have e5:(x1.kind != x2.kind)=false:=by simpa using c1
      by_cases c2:x1.name=x2.name
      ·have c3:x1.args.length ≠ x2.args.length:=by
        rcases hc with h | h | h
        ·exact absurd c1 h
        ·exact absurd c2 h
        ·exact h
       have e7:((x1.args.length:Int) != (x2.args.length:Int))=true:=by
        have:¬ (x1.args.length:Int)=(x2.args.length:Int):=by omega
        simpa using this
       rw [← c2] at b21
       clear hc c1 c2 c3
       go_wp2_with fail
       go_ret
       exact HU.out.clash HVL.out HK1.out HK2.out HX.out (Below.refl _ _)
      ·have e6:¬ x1.name.toList=x2.name.toList:=fun e=>c2 (bytes_eq e)
       clear hc c1 c2
       go_wp2_with fail
       go_ret
       exact HU.out.clash HVL.out HK1.out HK2.out HX.out (Below.refl _ _)
     ·have e5:(x1.kind != x2.kind)=true:=by simpa using c1
      clear hc c1
      go_wp2_with fail
      go_ret
      exact HU.out.clash HVL.out HK1.out HK2.out HX.out (Below.refl _ _)
    ·have k1:x1.kind=x2.kind:=Classical.byContradiction fun e=>hc (.inl e)
     have k2:x1.name=x2.name:=Classical.byContradiction fun e=>hc (.inr (.inl e))
     have k3:x1.args.length=x2.args.length:=Classical.byContradiction fun e=>hc (.inr (.inr e))
     have HKK:=Lib.hid k1
     have HNN:=Lib.hid k2
     have HLL:=Lib.hid k3
     have e5:(x1.kind != x2.kind)=false:=by simpa using k1
     have e7:((x1.args.length:Int) != (x2.args.length:Int))=false:=by
      have:(x1.args.length:Int)=(x2.args.length:Int):=by omega
      simpa using this
     rw [← k2] at b21
     have HSM:Hid (∀ rq,(rq=r ∨ unb rq m < unb r m)→∀ (i:Nat) (h:i < x1.args.length),unb rq m < n ∨ (unb rq m=n∧sizeT (sub rq x1.args[i]) < s)):=Lib.hid (by
      intro rq hr i h
      have h1:=HN.out
      rcases hr with rfl | hr
      ·refine .inr ⟨h1,?_⟩
       have h2:=HS.out
       rw [← HU.out.s1,sub_args HK1.out,sizeT] at h2
       have h3:=sizeTs_mem (l:=subs rq x1.args) (i:=i) (by rw [subs_length];exact h)
       have h4:(subs rq x1.args)[i]'(by rw [subs_length];exact h)=sub rq x1.args[i]:=by simp [subs_map]
       rw [h4] at h3
       omega
      ·exact .inl (by omega))
     have hfew:=HR1.out.few
     unfold maxLen at hfew
     clear hc k1 k2 k3
     go_wp2_with fail
     clear b10 b11 b12 b13 b20 b21 b22 b23 e1 e2 e5 e7
     go_loopw [76] (fun t wr=>∃ q:Nat,q≤x1.args.length∧t=.int .i64 q∧∃ rq Volq,Hid (UL Vol b g m cap r x1.args x2.args wc q rq Volq wr)) (fun t _=>x1.args.length - (intOf t).toNat)
     case atStart=>exact ⟨0,Nat.zero_le _,rfl,r,Vol,Lib.hid (UL.start HU.out.st (fun k e=>Nat.lt_of_lt_of_le (HVL.out k e) HU.out.kb.size))⟩
     case round =>
      obtain ⟨q,hq,rfl,rq,Volq,HUL⟩:=hrel
      by_cases hlt:q < x1.args.length
      ·have hlt2:q < x2.args.length:=by have:=HLL.out;omega
       obtain ⟨_,_,_,hback,_,_,_,hkw⟩:=HUL.out
       obtain ⟨g1,o1,u1,rfl,hg1,_,hv1,cc1⟩:=RowW.at (RowW.step (TyW.step q1) _ Volq _ _ _ _ HR1.out hkw.kb hback) q hlt
       obtain ⟨B1,l1,c1,rfl⟩:=hv1.this
       have hbz:=below_alloc wr (.cells #[.int .i64 x1.args[q].kind,.string x1.args[q].name,.int .i64 x1.args[q].var,.slice B1 l1 c1] 32)
       obtain ⟨g2,o2,u2,rfl,hg2,_,hv2,cc2⟩:=RowW.at ((RowW.step (TyW.step q2)).below (RowW.step (TyW.step q2) _ Volq _ _ _ _ HR2.out hkw.kb hback) hbz) q hlt2
       obtain ⟨B2,l2,c2,rfl⟩:=hv2.this
       have a0:=(cc1 0 (by decide)).trans rfl
       have a1:=(cc1 1 (by decide)).trans rfl
       have a2:=(cc1 2 (by decide)).trans rfl
       have a3:=(cc1 3 (by decide)).trans rfl
       simp only [cellsL,Value.cells,List.getElem?_cons_zero,List.getElem?_cons_succ,Nat.add_zero] at a0 a1 a2 a3
       have d0:=(cc2 0 (by decide)).trans rfl
       have d1:=(cc2 1 (by decide)).trans rfl
       have d2:=(cc2 2 (by decide)).trans rfl
       have d3:=(cc2 3 (by decide)).trans rfl
       simp only [cellsL,Value.cells,List.getElem?_cons_zero,List.getElem?_cons_succ,Nat.add_zero] at d0 d1 d2 d3
       have hk0:(0:Int)≤(q:Int):=by omega
       have hk1:(q:Int) < (x1.args.length:Int):=by omega
       have hk2:(q:Int) < (x2.args.length:Int):=by omega
       have hdc:decide (q < x1.args.length)=true:=by simpa using hlt
       have HV1:=Lib.hid ((TyW.step q1).below hv1 hbz)
       have HV2:=Lib.hid hv2
       have hn:=heap_alloc_new wr (.cells #[.int .i64 x1.args[q].kind,.string x1.args[q].name,.int .i64 x1.args[q].var,.slice B1 l1 c1] 32)
       have e0:=(cellH hn 0).trans rfl
       have e1:=(cellH hn 1).trans rfl
       have e2:=(cellH hn 2).trans rfl
       have e3:=(cellH hn 3).trans rfl
       have b3:=(cellH ((hbz.block (w.heap.size+1) (by have:=HU.out.sz;have:=hkw.size;omega)).trans ((hkw.kb.block (w.heap.size+1) (by have:=HU.out.sz;omega) (fun e=>by have:=HVL.out _ e;omega)).trans HU.out.b2)) 3).trans rfl
       have HBZ:=Lib.hid hbz
       have HLT1:=Lib.hid hlt
       have HLT2:=Lib.hid hlt2
       generalize hy1:x1.args[q]=y1 at HBZ HV1 a0 a1 a2 e0 e1 e2 e3 d0 d1 d2 d3 b3 HV2 ⊢
       generalize hy2:x2.args[q]=y2 at HV2 d0 d1 d2 ⊢
       have HX1:=Lib.hid hy1.symm
       have HX2:=Lib.hid hy2.symm
       clear cc1 cc2 hv1 hv2 hbz hn hkw hback hg1 hg2 hlt hlt2 hy1 hy2
       go_upto_region 13 with fail
       generalize (wr.alloc (.cells #[.int .i64 y1.kind,.string y1.name,.int .i64 y1.var,.slice B1 l1 c1] 32))=Y at HV1 HV2 HBZ e0 e1 e2 e3 d0 d1 d2 d3 b3 ⊢
       go_still_tail 7,(by kernel_rfl)
       have hdr:=below_drw (Below.refl Y.heap.size Y)
       have HV1:=Lib.hid ((TyW.step q1).below HV1.out hdr)
       have HV2:=Lib.hid ((TyW.step q2).below HV2.out hdr)
       have HBZ:=Lib.hid (below_drw HBZ.out)
       have HCALL:=Lib.hid (ul_call HC.out HUL.out HBZ.out HV1.out HV2.out HLT1.out HLT2.out HX1.out HX2.out HU.out HK1.out HK2.out HE.out HF.out HSM.out)
       have e0:Y.drew.cell? _=_:=e0
       have e1:Y.drew.cell? _=_:=e1
       have e2:Y.drew.cell? _=_:=e2
       have e3:Y.drew.cell? _=_:=e3
       have d0:Y.drew.cell? _=_:=d0
       have d1:Y.drew.cell? _=_:=d1
       have d2:Y.drew.cell? _=_:=d2
       have d3:Y.drew.cell? _=_:=d3
       have b3:Y.drew.cell? _=_:=b3
       clear hdr
       change wpList _ _ _ _ _ Y.drew
       generalize Y.drew=X at HV1 HV2 HBZ e0 e1 e2 e3 d0 d1 d2 d3 b3 HCALL ⊢
       go_wp2_with (go_at_call 50;refine HCALL.out.mono ?_;rintro e w3 ⟨z,rfl,hz⟩;rcases hz with ⟨rfl,r',Vol',hL⟩ | ⟨⟨a,rfl⟩,hL⟩)
       ·have HL:=Lib.hid hL
        clear hL
        go_roundw
        case rel=>exact ⟨q+1,by omega,by go_num,r',Vol',HL⟩
        case measure=>simp [intOf];omega
       ·have HL:=Lib.hid hL
        clear hL
        go_wp2_with fail
        go_ret
        exact HU.out.args HK1.out HKK.out HNN.out HLL.out HL.out
      ·obtain rfl:q=x1.args.length:=by omega
       have hdc:decide (x1.args.length < x1.args.length)=false:=by simp
       go_wp2_with fail
       go_ret
       exact HU.out.args HK1.out HKK.out HNN.out HLL.out (HUL.out.fin rfl HLL.out rfl)
end Lx
end Go.Proofs.YtnpacamcgifabaaDoor
