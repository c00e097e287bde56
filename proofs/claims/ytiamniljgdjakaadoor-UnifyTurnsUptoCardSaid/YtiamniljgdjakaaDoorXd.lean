/- The walk of the statement UnifyTurns: it returns true. Conditions: the error variables hold their errors; the types are ones that memory holds, of bounded size. -/
import Derived.Test.YtiamniljgdjakaaDoorXe
import Derived.Test.YtiamniljgdjakaaDoorWxC
import Derived.Deep.RegionWith
import Derived.Deep.RegionHeld3
import Derived.Deep.Cut
import Derived.Deep.CutRange
namespace Go.Proofs.YtiamniljgdjakaaDoor
set_option linter.unusedSimpArgs false
set_option linter.unusedVariables false
namespace Lx
open Go Go.RowKit
set_option maxRecDepth 100000 in
set_option maxHeartbeats 8000000 in
theorem lawTurns_any (f:Nat→Addr) (dp:Nat) (x y:TyT) (u:Int) (v:Value) (w:World) (hv:PairW dp (fun _=>False) (x,y) v w) (hf:fewT x∧fewT y∧smallT x∧smallT y) (he:Sents w f) :
  Calls Tryd.prog 6 #[.int .i64 u,v] w fun e w'=>e=.returned (.bool true)∧Below w.heap.size w w':=by
 obtain ⟨_,_,_,_,_,_,_,_,rfl,hx,hy⟩:=hv
 obtain ⟨B1,n1,m1,ex⟩:=hx.this
 obtain ⟨B2,n2,m2,ey⟩:=hy.this
 have hx:TyW dp (fun _=>False) x _ w:=hx
 have hy:TyW dp (fun _=>False) y _ w:=hy
 simp only [Value.agg.injEq,Array.mk.injEq,List.cons.injEq,and_true] at ex ey
 obtain ⟨rfl,rfl,rfl,rfl⟩:=ex
 obtain ⟨rfl,rfl,rfl,rfl⟩:=ey
 obtain ⟨n,hn12,hn⟩:∃ n:Nat,n < 12∧Int.tmod (Int.tmod u 12+12) 12=(n:Int):=by
  have h1:0≤Int.tmod (Int.tmod u 12+12) 12:=Int.tmod_nonneg 12 (by have:=Int.lt_tmod_of_pos u (show (0:Int) < 12 by decide);omega)
  have h2:Int.tmod (Int.tmod u 12+12) 12 < 12:=Int.tmod_lt_of_pos _ (by decide)
  exact ⟨(Int.tmod (Int.tmod u 12+12) 12).toNat,by omega,by omega⟩
 have hlo:-12 < Int.tmod u 12:=by have:=Int.lt_tmod_of_pos u (show (0:Int) < 12 by decide);omega
 have hhi:Int.tmod u 12 < 12:=Int.tmod_lt_of_pos _ (by decide)
 have hb0:=below_alloc w (.cells #[.int .i64 x.kind,.string x.name,.int .i64 x.var,.slice B1 n1 m1,.int .i64 y.kind,.string y.name,.int .i64 y.var,.slice B2 n2 m2] 35)
 have HB0:=Lib.hid hb0
 have HP0:=Lib.hid (heap_alloc_new w (.cells #[.int .i64 x.kind,.string x.name,.int .i64 x.var,.slice B1 n1 m1,.int .i64 y.kind,.string y.name,.int .i64 y.var,.slice B2 n2 m2] 35))
 have HX:=Lib.hid hx
 have HY:=Lib.hid hy
 have HF:=Lib.hid hf
 have HE:=Lib.hid he
 have HERR:=Lib.hid he.three
 obtain ⟨i0,hi0,hz0,hz1,hz2⟩:=info_parts infoTy
 have HI0:=Lib.hid hi0
 have HI1:=Lib.hid hz0
 have HI2:=Lib.hid hz1
 have HI3:=Lib.hid hz2
 clear hi0 hz0 hz1 hz2
 have HAL:=Lib.hid (alive_gh (three f) _ (ErrU.stay _ _ _ he.three hb0))
 clear hx hy hf he hb0
 go_enter Tryd.func6,Tryd.ntmps6
 go_wp2_with fail
 refine HAL.out.mono ?_
 rintro e w1 ⟨rfl,hb1,g0,cs0,hg0,hgb⟩
 have HB1:=Lib.hid (HB0.out.trans (hb1.mono HB0.out.size))
 have HG0:Hid (w.heap.size≤g0):=Lib.hid (Nat.le_trans HB0.out.size hg0)
 have HGB:=Lib.hid hgb
 have HP1:=Lib.hid ((hb1.block w.heap.size (by simp)).trans HP0.out)
 clear hb1 HAL hg0 hgb HB0 HP0
 go_wp2_with fail
 refine (new_any w1).mono ?_
 rintro e w2 ⟨rfl,hT2,hb2⟩
 have HT2:=Lib.hid hT2
 have HB2:=Lib.hid hb2
 clear hT2 hb2
 go_wp2_with fail
 refine (new_any w2).mono ?_
 rintro e w3 ⟨rfl,hT3,hb3⟩
 have HTA:=Lib.hid (HT2.out.aside (S:=fun _=>False) (Kb.of_below hb3) (fun e=>e) (fun _ _ e=>e))
 have HTB:Hid (TabF w1.heap.size w2.heap.size 0 none 0 w3):=Lib.hid ⟨HB2.out.size,hT3.blk,World.ownsRow_nil _ _ _ _⟩
 have HB3:=Lib.hid (HB2.out.trans (hb3.mono HB2.out.size))
 have HBN:Hid (w1.heap.size ≠ w2.heap.size):=Lib.hid (by have:=(Array.getElem?_eq_some_iff.1 HT2.out.blk).1;omega)
 clear hT3 hb3 HT2 HB2
 go_wp2_with fail
 generalize w2.heap.size=b2 at HTB HBN ⊢
 go_loopw [25] (fun t wr=>∃ (q:Nat) (A A':Option Addr) (c c':Nat),q≤n∧t=.int .i64 q∧Hid (TabF w1.heap.size w1.heap.size q A c wr)∧Hid (TabF w1.heap.size b2 q A' c' wr)∧Hid (∀ k,(Value.slice A q c).ownBlock=some k→(Value.slice A' q c').ownBlock ≠ some k)∧Hid (q=0→A=none∧A'=none)∧Hid (Below w1.heap.size w1 wr)) (fun t _=>n - (intOf t).toNat)
 case atStart=>exact ⟨0,none,none,0,0,Nat.zero_le _,rfl,HTA,HTB,Lib.hid (fun _ e=>by cases e),Lib.hid (fun _=>⟨rfl,rfl⟩),HB3⟩
 case round =>
  obtain ⟨q,A,A',c,c',hq,rfl,HT,HT',HAP,HQ0,HB⟩:=hrel
  by_cases hlt:q < n
  ·have hdc:decide ((q:Int) < (n:Int))=true:=by simpa using hlt
   go_wp2_with fail
   go_at_call 11
   refine (fresh_fine w1.heap.size w1.heap.size q A c wr HT.out (by omega) HB.out.size).mono ?_
   rintro e w4 ⟨rfl,⟨g4,c4,hT4,hg4⟩,hb4,hk4⟩
   have hT4':=HT'.out.aside hk4 (fun e=>e.elim (fun e=>HBN.out e.symm) (fun e=>owner_ne (by decide) HT.out.own HT'.out.blk e.symm)) (fun k e1 e2=>e2.elim (fun e2=>owner_ne (by decide) HT'.out.own HT.out.blk (e1.trans (congrArg some e2)).symm) (fun e2=>HAP.out k e2 e1))
   have HA4:=Lib.hid hT4
   have HA4':=Lib.hid hT4'
   have HB4:=Lib.hid (HB.out.trans hb4)
   have HN4:Hid (∀ k,(Value.slice A' q c').ownBlock=some k→k ≠ g4):=Lib.hid (fun k e1 e2=>by
    subst e2
    rcases hg4 with h | h
    ·exact HAP.out k h e1
    ·have:=(HT'.out.own.lt k e1).2;omega)
   clear hT4 hT4' hg4 hb4 hk4
   go_wp2_with fail
   go_at_call 11
   refine (fresh_fine w1.heap.size b2 q A' c' w4 HA4'.out (by omega) HB4.out.size).mono ?_
   rintro e w5 ⟨rfl,⟨g5,c5,hT5',hg5⟩,hb5,hk5⟩
   have hT5:=HA4.out.aside hk5 (fun e=>e.elim (fun e=>HBN.out e) (fun e=>owner_ne (by decide) HA4'.out.own HA4.out.blk e.symm)) (fun k e1 e2=>e2.elim (fun e2=>owner_ne (by decide) HA4.out.own HA4'.out.blk (e1.trans (congrArg some e2)).symm) (fun e2=>HN4.out k e2 (by have e1:some g4=some k:=e1;injection e1 with e1;exact e1.symm)))
   have HA5:=Lib.hid hT5
   have HA5':=Lib.hid hT5'
   have HB5:=Lib.hid (HB4.out.trans hb5)
   have HAP5:Hid (∀ k,(Value.slice (some ⟨g4,0,none⟩) (q+1) c4).ownBlock=some k→(Value.slice (some ⟨g5,0,none⟩) (q+1) c5).ownBlock ≠ some k):=Lib.hid (fun k e1 e2=>by
    have e1:some g4=some k:=e1
    have e2:some g5=some k:=e2
    injection e1 with e1
    injection e2 with e2
    rcases hg5 with h | h
    ·exact HN4.out g5 h (e2.trans e1.symm)
    ·have:=(HA4.out.own.lt g4 rfl).2;omega)
   clear hT5 hT5' hg5 hb5 hk5
   go_wp2_with fail
   go_roundw
   case rel=>exact ⟨q+1,_,_,c4,c5,by omega,by go_num,HA5,HA5',HAP5,Lib.hid (fun e=>by omega),HB5⟩
   case measure=>simp [intOf];omega
  ·obtain rfl:q=n:=by omega
   have hdc:decide ((q:Int) < (q:Int))=false:=by simp
   have hgw:=(HB.out.block g0 (Array.getElem?_eq_some_iff.1 HGB.out).1).trans HGB.out
   obtain ⟨ga,ha1,ha2,ha3,ha4⟩:=st_startV (B0:=w.heap.size) HT.out (fun e=>(HQ0.out e).1) hgw HG0.out HB1.out.size
   obtain ⟨gb,hc1,hc2,hc3,hc4⟩:=st_startV (B0:=w.heap.size) HT'.out (fun e=>(HQ0.out e).2) hgw HG0.out HB1.out.size
   have HGN:Hid (ga=gb→q=0):=Lib.hid (fun e=>by
    by_cases h0:q=0
    ·exact h0
    ·exfalso
     have e1:A=some ⟨ga,0,none⟩:=ha2.trans (gA_pos (i:=0) (by omega))
     have e2:A'=some ⟨gb,0,none⟩:=hc2.trans (gA_pos (i:=0) (by omega))
     subst e1 e2 e
     exact HAP.out ga rfl rfl)
   have hnb:∀ (bb gg:Nat) (cs:Array Value),wr.heap[bb]?=some (.cells #[.slice A q c] 67 (0,0)) ∨ wr.heap[bb]?=some (.cells #[.slice A' q c'] 67 (0,0))→wr.heap[gg]?=some (.cells cs 70 (0,0))→bb ≠ gg:=fun bb gg cs h1 h2 e=>by
    subst e
    rw [h2] at h1
    rcases h1 with h1 | h1 <;> (injection h1 with h1;injection h1 with _ ht;exact absurd ht (by decide))
   obtain ⟨csa,hga⟩:=ha3
   obtain ⟨csb,hgb⟩:=hc3
   have hla:=(Array.getElem?_eq_some_iff.1 hga).1
   have hlb:=(Array.getElem?_eq_some_iff.1 hgb).1
   have hbel:=HB1.out.trans (HB.out.mono HB1.out.size)
   have HLA:Hid (LS w1.heap.size ga q c w wr fr (fun k=>k=ga ∨ k=gb)):=Lib.hid ⟨ha4 _ (.inl rfl) (fun e=>e.elim (fun e=>hnb _ _ _ (.inl HT.out.blk) hga e) (fun e=>hnb _ _ _ (.inl HT.out.blk) hgb e)),fun x _=>by rw [size_fr];decide,fun k e=>e.elim (fun e=>by subst e;exact ⟨ha1,hla⟩) (fun e=>by subst e;exact ⟨hc1,hlb⟩),hbel⟩
   have HLB:Hid (LS b2 gb q c' w wr fr (fun k=>k=ga ∨ k=gb)):=Lib.hid ⟨hc4 _ (.inr rfl) (fun e=>e.elim (fun e=>hnb _ _ _ (.inr HT'.out.blk) hga e) (fun e=>hnb _ _ _ (.inr HT'.out.blk) hgb e)),fun x _=>by rw [size_fr];decide,fun k e=>e.elim (fun e=>by subst e;exact ⟨ha1,hla⟩) (fun e=>by subst e;exact ⟨hc1,hlb⟩),hbel⟩
   have HVB:Hid (∀ k,(k=ga ∨ k=gb)→∃ cs fz,wr.heap[k]?=some (.cells cs 70 fz)):=Lib.hid (fun k e=>e.elim (fun e=>by subst e;exact ⟨csa,_,hga⟩) (fun e=>by subst e;exact ⟨csb,_,hgb⟩))
   have HPW:=Lib.hid ((HB.out.block w.heap.size (Array.getElem?_eq_some_iff.1 HP1.out).1).trans HP1.out)
   have HPG:Hid (w.heap.size ≠ ga∧w.heap.size ≠ gb):=Lib.hid (by
    refine ⟨fun e=>?_,fun e=>?_⟩
    ·have h:=HPW.out
     rw [e,hga] at h
     injection h with h
     injection h with _ ht
     exact absurd ht (by decide)
    ·have h:=HPW.out
     rw [e,hgb] at h
     injection h with h
     injection h with _ ht
     exact absurd ht (by decide))
   have HXW:=Lib.hid (tyGo (Vol':=fun k=>k=ga ∨ k=gb) HX.out (Kb.of_below hbel) (fun k hk e=>by omega))
   have HYW:=Lib.hid (tyGo (Vol':=fun k=>k=ga ∨ k=gb) HY.out (Kb.of_below hbel) (fun k hk e=>by omega))
   clear ha1 ha2 ha4 hc1 hc2 hc4 hnb hga hgb hla hlb hbel hgw HTA HTB HB3 HT HT' HAP HQ0 HB HB1 HG0 HGB HP1 HX HY csa csb
   go_upto_region 10 with fail
   clear hdc
   generalize hwq:wr=wq at HLA HLB HVB HPW HXW HYW ⊢
   clear hwq
   go_cut [7,8] from 16 (fun s7 s8 wc=>∃ (z1 z2:Value) (r1 r2:Rho) (V1 V2:Nat→Prop),s7=z1∧s8=z2∧Hid (LS w1.heap.size ga q c w wc r1 V1)∧Hid (LS b2 gb q c' w wc r2 V2)∧Hid ((V1 ga∧V1 gb)∧(V2 ga∧V2 gb))∧Hid (TurnP (three f) q x y z1 r1)∧Hid (TurnP (three f) q y x z2 r2))
   case first =>
    have hdr:=below_drw (Below.refl wq.heap.size wq)
    have HLA:=Lib.hid (HLA.out.below hdr)
    have HLB:=Lib.hid (HLB.out.below hdr)
    have HXW:=Lib.hid ((TyW.step dp).below HXW.out hdr)
    have HYW:=Lib.hid ((TyW.step dp).below HYW.out hdr)
    have HVB:Hid (∀ k,(k=ga ∨ k=gb)→∃ cs fz,wq.drew.heap[k]?=some (.cells cs 70 fz)):=HVB
    have HPW:Hid (wq.drew.heap[w.heap.size]?=_):=HPW
    clear hdr
    have p0:=(cellH HPW.out 0).trans rfl
    have p1:=(cellH HPW.out 1).trans rfl
    have p2:=(cellH HPW.out 2).trans rfl
    have p3:=(cellH HPW.out 3).trans rfl
    have p4:=(cellH HPW.out 4).trans rfl
    have p5:=(cellH HPW.out 5).trans rfl
    have p6:=(cellH HPW.out 6).trans rfl
    have p7:=(cellH HPW.out 7).trans rfl
    have H1:=Lib.hid (ls_turn HERR.out (by omega) HLA.out HXW.out HYW.out HF.out.1 HF.out.2.1 HF.out.2.2.1 HF.out.2.2.2 HVB.out)
    have H2:Hid (∀ W,LS b2 gb q c' w W fr (fun k=>k=ga ∨ k=gb)→TyW dp (fun k=>k=ga ∨ k=gb) x (.agg #[.int .i64 x.kind,.string x.name,.int .i64 x.var,.slice B1 n1 m1]) W→TyW dp (fun k=>k=ga ∨ k=gb) y (.agg #[.int .i64 y.kind,.string y.name,.int .i64 y.var,.slice B2 n2 m2]) W→(∀ k,(k=ga ∨ k=gb)→∃ cs fz,W.heap[k]?=some (.cells cs 70 fz))→_):=Lib.hid (fun W a1 a2 a3 a4=>ls_turn HERR.out (by omega) a1 a3 a2 HF.out.2.1 HF.out.1 HF.out.2.2.2 HF.out.2.2.1 a4)
    go_region_held3 (fun W=>W.cell? ⟨w.heap.size,0,none⟩=some (.int .i64 x.kind)∧W.cell? ⟨w.heap.size,1,none⟩=some (.string x.name)∧W.cell? ⟨w.heap.size,2,none⟩=some (.int .i64 x.var)∧W.cell? ⟨w.heap.size,3,none⟩=some (.slice B1 n1 m1)∧W.cell? ⟨w.heap.size,4,none⟩=some (.int .i64 y.kind)∧W.cell? ⟨w.heap.size,5,none⟩=some (.string y.name)∧W.cell? ⟨w.heap.size,6,none⟩=some (.int .i64 y.var)∧W.cell? ⟨w.heap.size,7,none⟩=some (.slice B2 n2 m2)) (first | exact ⟨p0,p1,p2,p3,p4,p5,p6,p7⟩ | exact ⟨q0,q1,q2,q3,q4,q5,q6,q7⟩ | exact ⟨s0,s1,s2,s3,s4,s5,s6,s7⟩) (first
     | (go_at_call 14;have h1q:=H1.out;with_reducible refine h1q.mono ?_;rintro e wA ⟨z1,r1,V1,rfl,hL1,hk1,hw1,hT1⟩;have HLA1:=Lib.hid hL1;have HTP1:=Lib.hid hT1;have HW1:=Lib.hid hw1;have HLB1:=Lib.hid (HLB.out.other hk1 (.inl rfl) HLA.out.grow hL1.grow HGN.out);have HXA:=Lib.hid (tyGo HXW.out (HLA.out.kbg hk1) (fun _ _ e=>e));have HYA:=Lib.hid (tyGo HYW.out (HLA.out.kbg hk1) (fun _ _ e=>e));have HPA:=Lib.hid ((hk1.block w.heap.size (Array.getElem?_eq_some_iff.1 HPW.out).1 HPG.out.1).trans HPW.out);have HVA:Hid (∀ k,(k=ga ∨ k=gb)→∃ cs fz,wA.heap[k]?=some (.cells cs 70 fz)):=Lib.hid (fun k e=>e.elim (fun e=>(hL1.grow).elim (fun cs h=>⟨cs,_,e ▸ h⟩)) (fun e=>(HLB1.out.grow).elim (fun cs h=>⟨cs,_,e ▸ h⟩)));clear hL1 hk1 hw1 hT1;have q0:=(cellH HPA.out 0).trans rfl;have q1:=(cellH HPA.out 1).trans rfl;have q2:=(cellH HPA.out 2).trans rfl;have q3:=(cellH HPA.out 3).trans rfl;have q4:=(cellH HPA.out 4).trans rfl;have q5:=(cellH HPA.out 5).trans rfl;have q6:=(cellH HPA.out 6).trans rfl;have q7:=(cellH HPA.out 7).trans rfl)
     | (go_at_call 14;have h2q:=H2.out _ HLB1.out HXA.out HYA.out HVA.out;with_reducible refine h2q.mono ?_;rintro e wB ⟨z2,r2,V2,rfl,hL2,hk2,hw2,hT2⟩;have HLB2:=Lib.hid hL2;have HTP2:=Lib.hid hT2;have HW2:=Lib.hid hw2;have HLA2:=Lib.hid (HLA1.out.other hk2 (HW1.out gb (.inr rfl)) HLB1.out.grow hL2.grow (fun e=>HGN.out e.symm));have HPB:=Lib.hid ((hk2.block w.heap.size (Array.getElem?_eq_some_iff.1 HPA.out).1 HPG.out.2).trans HPA.out);clear hL2 hk2 hw2 hT2;have s0:=(cellH HPB.out 0).trans rfl;have s1:=(cellH HPB.out 1).trans rfl;have s2:=(cellH HPB.out 2).trans rfl;have s3:=(cellH HPB.out 3).trans rfl;have s4:=(cellH HPB.out 4).trans rfl;have s5:=(cellH HPB.out 5).trans rfl;have s6:=(cellH HPB.out 6).trans rfl;have s7:=(cellH HPB.out 7).trans rfl))
    all_goals
     go_wp2_with fail
     go_meet
     exact ⟨_,_,r1,r2,V1,V2,rfl,rfl,HLA2,HLB2,Lib.hid ⟨⟨HW1.out ga (.inl rfl),HW1.out gb (.inr rfl)⟩,⟨HW2.out ga (.inl rfl),HW2.out gb (.inr rfl)⟩⟩,HTP1,HTP2⟩
   case rest =>
    obtain ⟨z1,z2,r1,r2,V1,V2,e7,e8,HL1,HL2,HVV,HTP1,HTP2⟩:=hcut
    have e7:=e7.symm
    have e8:=e8.symm
    subst e7
    subst e8
    have HSE:=Lib.hid (HE.out.below0 HL1.out.2.2.2)
    have t0:three f 0=f 3:=rfl
    have t1:three f 1=f 15:=rfl
    have t2:three f 2=f 5:=rfl
    have hle:wc.cell? ⟨0,0,none⟩=some (errP (f 3)):=(HL1.out.err HERR.out).err.large
    have HENDS:=Lib.hid (turn_ends HTP1.out HTP2.out)
    have HZ1:Hid (z1=errP (f 3) ∨ z1=errP (f 15) ∨ z1=errP (f 5) ∨ z1=.nilIface):=Lib.hid (by
     rcases HTP1.out with ⟨e,_⟩ | e | ⟨_,_,code,hu,hc,e⟩
     ·exact .inr (.inl e)
     ·exact .inl e
     ·rcases hu.code with q | q | q
      ·subst q;exact .inr (.inr (.inr e))
      ·subst q;exact .inr (.inr (.inl e))
      ·exact absurd q hc)
    have HNL:Hid ((binOp .eql 38 .nilIface (errP (f 3))).run Tryd.prog wc=.ok (.bool false) wc):=Lib.hid (run_eql_iface_nil_left _ _ _ Tryd.underlying38)
    have HSM:=Lib.hid (eqlS_same (f 3) wc)
    have HO1:=Lib.hid (eqlS_other wc (HSE.out.ne 15 3 (by decide) (by decide) (by decide)) (HSE.out.block 15 (by decide)) (HSE.out.block 3 (by decide)))
    have HO2:=Lib.hid (eqlS_other wc (HSE.out.ne 5 3 (by decide) (by decide) (by decide)) (HSE.out.block 5 (by decide)) (HSE.out.block 3 (by decide)))
    have HBW:=Lib.hid HL1.out.2.2.2
    clear HTP1 HTP2
    rw [t0,t1,t2] at HENDS
    clear t0 t1 t2
    rcases HENDS.out with e1 | e2 | ⟨e1,e2⟩ | ⟨e1,e2⟩ | ⟨e1,e2,ho12,ho21,hR1,hR2⟩
    ·subst e1
     have hq:=HSM.out
     go_wp2_with fail
     go_ret
     exact ⟨rfl,HBW.out⟩
    ·subst e2
     rcases HZ1.out with e1 | e1 | e1 | e1
     ·subst e1
      have hq:=HSM.out
      go_wp2_with fail
      go_ret
      exact ⟨rfl,HBW.out⟩
     ·subst e1
      have hq:=HSM.out
      have hq1:=HO1.out
      go_wp2_with fail
      go_ret
      exact ⟨rfl,HBW.out⟩
     ·subst e1
      have hq:=HSM.out
      have hq1:=HO2.out
      go_wp2_with fail
      go_ret
      exact ⟨rfl,HBW.out⟩
     ·subst e1
      have hq:=HSM.out
      have hq1:=HNL.out
      go_wp2_with fail
      go_ret
      exact ⟨rfl,HBW.out⟩
    ·subst e1
     subst e2
     have hq1:=HO1.out
     clear HENDS HZ1 HNL HSM
     go_wp2_with fail
     refine (num_at f 15 (by decide) wc HSE.out).mono ?_
     rintro e wN ⟨rfl,hbN⟩
     have HSN:=Lib.hid (HSE.out.below hbN)
     have HBN:=Lib.hid (HBW.out.trans (hbN.mono HBW.out.size))
     clear hbN
     go_wp2_with fail
     refine (num_at f 15 (by decide) wN HSN.out).mono ?_
     rintro e wM ⟨rfl,hbM⟩
     have HSM:=Lib.hid (HSN.out.below hbM)
     have HBM:=Lib.hid (HBN.out.trans (hbM.mono HBN.out.size))
     clear hbM
     go_wp2_with fail
     refine (num_at f 15 (by decide) wM HSM.out).mono ?_
     rintro e wK ⟨rfl,hbK⟩
     have HSK:=Lib.hid (HSM.out.below hbK)
     have HBK:=Lib.hid (HBM.out.trans (hbK.mono HBM.out.size))
     clear hbK
     go_wp2_with fail
     refine (num_at f 15 (by decide) wK HSK.out).mono ?_
     rintro e wL ⟨rfl,hbL⟩
     have HBL:=Lib.hid (HBK.out.trans (hbL.mono HBK.out.size))
     clear hbL
     go_wp2_with fail
     go_ret
     exact ⟨rfl,HBL.out⟩
    ·subst e1
     subst e2
     have hq1:=HO2.out
     clear HENDS HZ1 HNL HSM
     go_wp2_with fail
     refine (num_at f 5 (by decide) wc HSE.out).mono ?_
     rintro e wN ⟨rfl,hbN⟩
     have HSN:=Lib.hid (HSE.out.below hbN)
     have HBN:=Lib.hid (HBW.out.trans (hbN.mono HBW.out.size))
     clear hbN
     go_wp2_with fail
     refine (num_at f 5 (by decide) wN HSN.out).mono ?_
     rintro e wM ⟨rfl,hbM⟩
     have HSM:=Lib.hid (HSN.out.below hbM)
     have HBM:=Lib.hid (HBN.out.trans (hbM.mono HBN.out.size))
     clear hbM
     go_wp2_with fail
     refine (num_at f 5 (by decide) wM HSM.out).mono ?_
     rintro e wK ⟨rfl,hbK⟩
     have HSK:=Lib.hid (HSM.out.below hbK)
     have HBK:=Lib.hid (HBM.out.trans (hbK.mono HBM.out.size))
     clear hbK
     go_wp2_with fail
     refine (num_at f 5 (by decide) wK HSK.out).mono ?_
     rintro e wL ⟨rfl,hbL⟩
     have HBL:=Lib.hid (HBK.out.trans (hbL.mono HBK.out.size))
     clear hbL
     go_wp2_with fail
     go_ret
     exact ⟨rfl,HBL.out⟩
    ·subst e1
     subst e2
     have hq1:=HNL.out
     have HO12:=Lib.hid ho12
     have HO21:=Lib.hid ho21
     have HR1:=Lib.hid hR1
     have HR2:=Lib.hid hR2
     clear ho12 ho21 hR1 hR2 HENDS HZ1 HNL HSM HO1 HO2
     go_wp2_with fail
     refine (num_nil _).mono ?_
     rintro e wN ⟨rfl,rfl⟩
     go_wp2_with fail
     refine (num_nil _).mono ?_
     rintro e wN ⟨rfl,rfl⟩
     go_wp2_with fail
     clear hq1 hle
     have hbA:=below_alloc wc (.cells #[] 32)
     have hzA:(wc.alloc (.cells #[] 32)).heap.size=wc.heap.size+1:=by simp
     have hbB:=below_alloc (wc.alloc (.cells #[] 32)) (.cells #[] 32)
     have hw1s:=(WasT.start HL1.out).fresh (S2:=wc.heap.size+1) hbB (by rw [hzA];exact Nat.le_refl _) (by simp)
     have hw2s:=WasT.start (HL2.out.plus (S:=wc.heap.size) hbA (Nat.le_refl _) (by simp))
     rw [hzA] at hw2s
     have HTW:Hid (TwoT V1 V2 w1.heap.size ga c b2 gb c' q w wc (wc.alloc (.cells #[] 32)) r1 r2 wc.heap.size (wc.heap.size+1) 0 0 [] [] _):=Lib.hid ⟨⟨_,hw1s⟩,_,hw2s⟩
     have HWC:=Lib.hid (HL1.out.1.lows)
     clear hbA hbB hw1s hw2s HL1 HL2 HSE
     go_loopw [9,10,11] (fun s1 s2 t W=>∃ (i S1 S2 k1 k2:Nat),i≤q∧s1=.slice (some ⟨S1,0,none⟩) i k1∧s2=.slice (some ⟨S2,0,none⟩) i k2∧t=.int .i64 i∧Hid (TwoT V1 V2 w1.heap.size ga c b2 gb c' q w wc (wc.alloc (.cells #[] 32)) r1 r2 S1 S2 k1 k2 ((List.range i).map r1) ((List.range i).map r2) W)) (fun _ _ t _=>q - (intOf t).toNat)
     case atStart=>exact ⟨0,_,_,0,0,Nat.zero_le _,rfl,rfl,rfl,HTW⟩
     case round =>
      obtain ⟨i,S1,S2,k1,k2,hi,rfl,rfl,rfl,HT⟩:=hrel
      clear HTW hzA
      have hl1:((List.range i).map r1).length=i:=by simp
      have hl2:((List.range i).map r2).length=i:=by simp
      have HLI1:=Lib.hid hl1
      have HLI2:=Lib.hid hl2
      clear hl1 hl2
      by_cases hlt3:i < q
      ·have hdc:decide ((i:Int) < (q:Int))=true:=by simpa using hlt3
       have HRI1:=Lib.hid (show (List.range (i+1)).map r1=(List.range i).map r1++[r1 i] by rw [List.range_succ,List.map_append];rfl)
       have HRI2:=Lib.hid (show (List.range (i+1)).map r2=(List.range i).map r2++[r2 i] by rw [List.range_succ,List.map_append];rfl)
       have HLT:=Lib.hid hlt3
       generalize hza:r1 i=za at HRI1
       generalize hzb:r2 i=zb at HRI2
       have HZA:=Lib.hid hza
       have HZB:=Lib.hid hzb
       clear hza hzb
       go_wp2_with fail
       go_at_call 17
       refine (free_any _ _).mono ?_
       rintro e wF ⟨rfl,hbF⟩
       have HTF:=Lib.hid (HT.out.below hbF)
       clear hbF
       go_wp2_with fail
       go_at_call 16
       refine (ls_free HERR.out HTF.out.ls1 (i:=i) HLT.out).mono ?_
       rintro e w4 ⟨v4,rfl,hL4,hk4,hv4⟩
       rw [HZA.out] at hv4
       obtain ⟨A5,l5,d5,rfl⟩:=hv4.this
       have hb4:=below_alloc w4 (.cells #[.int .i64 za.kind,.string za.name,.int .i64 za.var,.slice A5 l5 d5] 32)
       have ht4:=HTF.out.one hL4 hk4 HVV.out.2.1 HGN.out
       have HSA:=Lib.hid ht4.lt
       have HT4:=Lib.hid (ht4.below hb4)
       have HVA:=Lib.hid (TyE.step.below hv4 hb4)
       have HXA:=Lib.hid (heap_alloc_new w4 (.cells #[.int .i64 za.kind,.string za.name,.int .i64 za.var,.slice A5 l5 d5] 32))
       have HGA:Hid (w4.heap.size ≠ gb):=Lib.hid (fun e=>by have:=ht4.ls2.1.lows.2.1;omega)
       clear hL4 hk4 hv4 hb4 ht4
       go_wp2_with fail
       generalize (w4.alloc (.cells #[.int .i64 za.kind,.string za.name,.int .i64 za.var,.slice A5 l5 d5] 32))=W4 at HT4 HVA HXA ⊢
       generalize w4.heap.size=NA at HXA HGA HSA ⊢
       go_at_call 17
       refine (free_any _ _).mono ?_
       rintro e wG ⟨rfl,hbG⟩
       have HTG:=Lib.hid (HT4.out.below hbG)
       have HVG:=Lib.hid (TyE.step.below HVA.out hbG)
       have HXG:=Lib.hid ((hbG.block NA (Array.getElem?_eq_some_iff.1 HXA.out).1).trans HXA.out)
       clear hbG
       go_wp2_with fail
       go_at_call 16
       refine (ls_free HERR.out HTG.out.ls2 (i:=i) HLT.out).mono ?_
       rintro e w6 ⟨v6,rfl,hL6,hk6,hv6⟩
       rw [HZB.out] at hv6
       obtain ⟨A7,l7,d7,rfl⟩:=hv6.this
       have hb6:=below_alloc w6 (.cells #[.int .i64 zb.kind,.string zb.name,.int .i64 zb.var,.slice A7 l7 d7] 32)
       have ht6:=HTG.out.two hL6 hk6 HVV.out.1.2 (fun e=>HGN.out e.symm)
       have HT6:=Lib.hid (ht6.below hb6)
       have HVA6:=Lib.hid (TyE.step.below (TyE.step _ _ _ _ _ _ HVG.out (hk6.wider (fun k _ (e:k=gb)=>.inl (.inl (e ▸ HVV.out.1.2)))) (fun _ _ e=>e)) hb6)
       have HVB6:=Lib.hid (TyE.step.below hv6 hb6)
       have hxa6:=(hk6.block NA (Array.getElem?_eq_some_iff.1 HXG.out).1 HGA.out).trans HXG.out
       have HXA6:=Lib.hid ((hb6.block NA (Array.getElem?_eq_some_iff.1 hxa6).1).trans hxa6)
       have HXB6:=Lib.hid (heap_alloc_new w6 (.cells #[.int .i64 zb.kind,.string zb.name,.int .i64 zb.var,.slice A7 l7 d7] 32))
       have HSB:=Lib.hid ht6.lt
       clear hL6 hk6 hv6 hb6 ht6 hxa6
       go_upto_region 23 with fail
       generalize (w6.alloc (.cells #[.int .i64 zb.kind,.string zb.name,.int .i64 zb.var,.slice A7 l7 d7] 32))=Y at HT6 HVA6 HVB6 HXA6 HXB6 ⊢
       generalize w6.heap.size=NB at HXB6 HSB ⊢
       clear HTG HT4 HTF HT HVG HXG HVA HXA HGA
       obtain ⟨⟨vs1,h1⟩,vs2,h2⟩:=HT6.out
       have HW1:=Lib.hid h1
       have HW2:=Lib.hid h2
       have HCX:Hid (∀ X:World,Below Y.heap.size Y X→X.cell? ⟨NA,0,none⟩=some (.int .i64 za.kind)∧X.cell? ⟨NA,1,none⟩=some (.string za.name)∧X.cell? ⟨NA,2,none⟩=some (.int .i64 za.var)∧X.cell? ⟨NA,3,none⟩=some (.slice A5 l5 d5)∧X.cell? ⟨NB,0,none⟩=some (.int .i64 zb.kind)∧X.cell? ⟨NB,1,none⟩=some (.string zb.name)∧X.cell? ⟨NB,2,none⟩=some (.int .i64 zb.var)∧X.cell? ⟨NB,3,none⟩=some (.slice A7 l7 d7)):=Lib.hid (fun X hb=>by
        have e1:=(hb.block NA (Array.getElem?_eq_some_iff.1 HXA6.out).1).trans HXA6.out
        have e2:=(hb.block NB (Array.getElem?_eq_some_iff.1 HXB6.out).1).trans HXB6.out
        exact ⟨(cellH e1 0).trans rfl,(cellH e1 1).trans rfl,(cellH e1 2).trans rfl,(cellH e1 3).trans rfl,(cellH e2 0).trans rfl,(cellH e2 1).trans rfl,(cellH e2 2).trans rfl,(cellH e2 3).trans rfl⟩)
       have HO1:Hid (∀ X:World,Below Y.heap.size Y X→X.ownsRow wc.heap.size 32 4 (.slice (some ⟨S1,0,none⟩) i k1) i (vs1.flatMap cellsL)∧wc.heap.size≤X.heap.size):=Lib.hid (fun X hb=>by
        have h:=(HW1.out.below hb).own
        rw [HLI1.out] at h
        have:=(h.lt S1 rfl)
        exact ⟨h,by omega⟩)
       have HS1:Hid (S1 ≠ NA∧S1 ≠ NB∧S2 ≠ NA∧S2 ≠ NB∧S1 < Y.heap.size):=Lib.hid (by
        have q1:=HSA.out
        have q2:=HSB.out
        have q3:=HT6.out.lt
        omega)
       clear h1 h2
       obtain ⟨x0,x1,x2,x3,x4,x5,x6,x7⟩:=HCX.out Y (Below.refl _ _)
       refine wp_region_held_drew (S:=fun W=>W.cell? ⟨NA,0,none⟩=some (.int .i64 za.kind)∧W.cell? ⟨NA,1,none⟩=some (.string za.name)∧W.cell? ⟨NA,2,none⟩=some (.int .i64 za.var)∧W.cell? ⟨NA,3,none⟩=some (.slice A5 l5 d5)∧W.cell? ⟨NB,0,none⟩=some (.int .i64 zb.kind)∧W.cell? ⟨NB,1,none⟩=some (.string zb.name)∧W.cell? ⟨NB,2,none⟩=some (.int .i64 zb.var)∧W.cell? ⟨NB,3,none⟩=some (.slice A7 l7 d7)) (by kernel_rfl) ⟨x0,x1,x2,x3,x4,x5,x6,x7⟩ (fun hHeld=>?_)
       (refine wpAnyH_take (i:=0) (oi:=_) (v:=?_) rfl (by kernel_rfl) (by kernel_rfl) (by kernel_rfl) (fun _ _ _ h=>h) (Or.inl ⟨by rfl,?_⟩) (by assumption) ?_;rotate_left;(focus (intro w hSw;(try dsimp only at hSw);go_simp;(try with_reducible rfl);done));(try simp only [Act.put,List.setIfInBounds_toArray,List.set_cons_zero,List.set_cons_succ]))
       (refine wpAnyH_take (i:=1) (oi:=_) (v:=?_) rfl (by kernel_rfl) (by kernel_rfl) (by kernel_rfl) (fun _ _ _ h=>h) (Or.inl ⟨by rfl,?_⟩) (by assumption) ?_;rotate_left;(focus (intro w hSw;(try dsimp only at hSw);go_simp;(try with_reducible rfl);done));(try simp only [Act.put,List.setIfInBounds_toArray,List.set_cons_zero,List.set_cons_succ]))
       (refine wpAnyH_take (i:=4) (oi:=_) (v:=?_) rfl (by kernel_rfl) (by kernel_rfl) (by kernel_rfl) (fun _ _ _ h=>h) (Or.inl ⟨by rfl,?_⟩) (by assumption) ?_;rotate_left;(focus (intro w hSw;(try dsimp only at hSw);go_simp;(try with_reducible rfl);done));(try simp only [Act.put,List.setIfInBounds_toArray,List.set_cons_zero,List.set_cons_succ]))
       (refine wpAnyH_take (i:=5) (oi:=_) (v:=?_) rfl (by kernel_rfl) (by kernel_rfl) (by kernel_rfl) (fun _ _ _ h=>h) (Or.inl ⟨by rfl,?_⟩) (by assumption) ?_;rotate_left;(focus (intro w hSw;(try dsimp only at hSw);go_simp;(try with_reducible rfl);done));(try simp only [Act.put,List.setIfInBounds_toArray,List.set_cons_zero,List.set_cons_succ]))
       refine wpAnyH_ready (rs:=[2,6]) (by kernel_rfl) (by simp) ?_
       refine AllReadyH.cons (o:=_) rfl (fun K hK=>?_) (AllReadyH.cons (o:=_) rfl (fun K hK=>?_) AllReadyH.nil)
       ·go_simp
        have HB1:=Lib.hid (below_drw (below_alloc Y (.cells #[.int .i64 za.kind,.string za.name,.int .i64 za.var,.slice A5 l5 d5] 32)))
        have HN1:Hid ((Y.alloc (.cells #[.int .i64 za.kind,.string za.name,.int .i64 za.var,.slice A5 l5 d5] 32)).drew.heap[Y.heap.size]?=some (.cells #[.int .i64 za.kind,.string za.name,.int .i64 za.var,.slice A5 l5 d5] 32 (0,0))):=Lib.hid (heap_newD rfl)
        have hCX:=HCX.out _ HB1.out
        have hsz1:Y.heap.size < (Y.alloc (.cells #[.int .i64 za.kind,.string za.name,.int .i64 za.var,.slice A5 l5 d5] 32)).drew.heap.size:=by show _ < (Y.heap.push _).size;simp
        have HZ1:=Lib.hid hsz1
        clear hsz1
        generalize (Y.alloc (.cells #[.int .i64 za.kind,.string za.name,.int .i64 za.var,.slice A5 l5 d5] 32)).drew=X1 at HB1 HN1 HZ1 hCX ⊢
        refine hK.out _ _ (hCX) (fun hHeld=>?_)
        clear hK K
        try simp only [Act.put,List.setIfInBounds_toArray,List.set_cons_zero,List.set_cons_succ]
        clear hCX
        refine wpAnyH_ready (rs:=[3,6]) (by kernel_rfl) (by simp) ?_
        refine AllReadyH.cons (o:=_) rfl (fun K hK=>?_) (AllReadyH.cons (o:=_) rfl (fun K hK=>?_) AllReadyH.nil)
        ·refine step_ty rfl (.tmp 93) (.tmp 95) rfl wc.heap.size (.slice (some ⟨S1,0,none⟩) i k1) i (vs1.flatMap cellsL) (by kernel_rfl) (HO1.out X1 HB1.out).1 (Y.heap.size) za.kind za.var za.name A5 l5 d5 (by kernel_rfl) HN1.out (by omega) (HO1.out X1 HB1.out).2 ?_
         intro gg1 cc1 wa hown1 hgrow1 hat1
         have hTA:=TwoT.add1 (HW1.out.below HB1.out) ⟨_,HW2.out.below HB1.out⟩ (TyE.step.below HVA6.out HB1.out) (by rw [HLI1.out];exact hown1) hgrow1 hat1
         have ea0:=(Below.block HB1.out NA (Array.getElem?_eq_some_iff.1 HXA6.out).1).trans HXA6.out
         have eb0:=(Below.block HB1.out NB (Array.getElem?_eq_some_iff.1 HXB6.out).1).trans HXB6.out
         have ea:=(hgrow1.block NA (Array.getElem?_eq_some_iff.1 ea0).1 (fun e=>HS1.out.1 (by injection e with e;exact e.symm))).trans ea0
         have eb:=(hgrow1.block NB (Array.getElem?_eq_some_iff.1 eb0).1 (fun e=>HS1.out.2.1 (by injection e with e;exact e.symm))).trans eb0
         have HCA:Hid (∀ X:World,Below wa.heap.size wa X→X.cell? ⟨NA,0,none⟩=some (.int .i64 za.kind)∧X.cell? ⟨NA,1,none⟩=some (.string za.name)∧X.cell? ⟨NA,2,none⟩=some (.int .i64 za.var)∧X.cell? ⟨NA,3,none⟩=some (.slice A5 l5 d5)∧X.cell? ⟨NB,0,none⟩=some (.int .i64 zb.kind)∧X.cell? ⟨NB,1,none⟩=some (.string zb.name)∧X.cell? ⟨NB,2,none⟩=some (.int .i64 zb.var)∧X.cell? ⟨NB,3,none⟩=some (.slice A7 l7 d7)):=Lib.hid (fun X hb=>by
          have e1:=(hb.block NA (Array.getElem?_eq_some_iff.1 ea).1).trans ea
          have e2:=(hb.block NB (Array.getElem?_eq_some_iff.1 eb).1).trans eb
          exact ⟨(cellH e1 0).trans rfl,(cellH e1 1).trans rfl,(cellH e1 2).trans rfl,(cellH e1 3).trans rfl,(cellH e2 0).trans rfl,(cellH e2 1).trans rfl,(cellH e2 2).trans rfl,(cellH e2 3).trans rfl⟩)
         have HXBA:=Lib.hid eb
         have HXAA:=Lib.hid ea
         have HGR:=Lib.hid hgrow1
         have HTA:=Lib.hid hTA
         obtain ⟨⟨vsx,q1⟩,vsy,q2⟩:=HTA.out
         have HQ2:=Lib.hid q2
         have HO2:Hid (∀ X:World,Below wa.heap.size wa X→X.ownsRow (wc.alloc (.cells #[] 32)).heap.size 32 4 (.slice (some ⟨S2,0,none⟩) i k2) i (vsy.flatMap cellsL)∧(wc.alloc (.cells #[] 32)).heap.size≤X.heap.size):=Lib.hid (fun X hb=>by
          have h:=(HQ2.out.below hb).own
          rw [HLI2.out] at h
          have:=(h.lt S2 rfl)
          exact ⟨h,by omega⟩)
         have HVB7:=Lib.hid (vb_after HVB6.out HB1.out hgrow1 hat1)
         clear hown1 hgrow1 hat1 hTA ea eb ea0 eb0 q1 q2
         refine hK.out _ _ (HCA.out _ (Below.refl _ _)) (fun hHeld=>?_)
         clear hK K
         try simp only [Act.put,List.setIfInBounds_toArray,List.set_cons_zero,List.set_cons_succ]
         refine wpAnyH_ready (rs:=[6]) (by kernel_rfl) (by simp) ?_
         refine AllReadyH.cons (o:=_) rfl (fun K hK=>?_) AllReadyH.nil
         go_simp
         have HB2:=Lib.hid (below_alloc wa (.cells #[.int .i64 zb.kind,.string zb.name,.int .i64 zb.var,.slice A7 l7 d7] 32))
         have HN2:Hid ((wa.alloc (.cells #[.int .i64 zb.kind,.string zb.name,.int .i64 zb.var,.slice A7 l7 d7] 32)).heap[wa.heap.size]?=some (.cells #[.int .i64 zb.kind,.string zb.name,.int .i64 zb.var,.slice A7 l7 d7] 32 (0,0))):=Lib.hid (heap_newA rfl)
         have hCX:=HCA.out _ HB2.out
         generalize (wa.alloc (.cells #[.int .i64 zb.kind,.string zb.name,.int .i64 zb.var,.slice A7 l7 d7] 32))=X2 at HB2 HN2 hCX ⊢
         refine hK.out _ _ (hCX) (fun hHeld=>?_)
         clear hK K
         try simp only [Act.put,List.setIfInBounds_toArray,List.set_cons_zero,List.set_cons_succ]
         clear hCX
         refine wpAnyH_ready (rs:=[7]) (by kernel_rfl) (by simp) ?_
         refine AllReadyH.cons (o:=_) rfl (fun K hK=>?_) AllReadyH.nil
         refine step_ty rfl (.tmp 97) (.tmp 99) rfl (wc.alloc (.cells #[] 32)).heap.size (.slice (some ⟨S2,0,none⟩) i k2) i (vsy.flatMap cellsL) (by kernel_rfl) (HO2.out X2 HB2.out).1 (wa.heap.size) zb.kind zb.var zb.name A7 l7 d7 (by kernel_rfl) HN2.out (by omega) (HO2.out X2 HB2.out).2 ?_
         intro gg2 cc2 wb hown2 hgrow2 hat2
         have HTN:=Lib.hid (TwoT.add2 ⟨_,(HTA.out.1.choose_spec).below HB2.out⟩ (HQ2.out.below HB2.out) (TyE.step.below HVB7.out HB2.out) (by rw [HLI2.out];exact hown2) hgrow2 hat2)
         have ea0:=(Below.block HB2.out NA (Array.getElem?_eq_some_iff.1 HXAA.out).1).trans HXAA.out
         have eb0:=(Below.block HB2.out NB (Array.getElem?_eq_some_iff.1 HXBA.out).1).trans HXBA.out
         have eb:=(hgrow2.block NB (Array.getElem?_eq_some_iff.1 eb0).1 (fun e=>HS1.out.2.2.2.1 (by injection e with e;exact e.symm))).trans eb0
         have ea:=(hgrow2.block NA (Array.getElem?_eq_some_iff.1 ea0).1 (fun e=>HS1.out.2.2.1 (by injection e with e;exact e.symm))).trans ea0
         have HCB:Hid (∀ X:World,Below wb.heap.size wb X→X.cell? ⟨NA,0,none⟩=some (.int .i64 za.kind)∧X.cell? ⟨NA,1,none⟩=some (.string za.name)∧X.cell? ⟨NA,2,none⟩=some (.int .i64 za.var)∧X.cell? ⟨NA,3,none⟩=some (.slice A5 l5 d5)∧X.cell? ⟨NB,0,none⟩=some (.int .i64 zb.kind)∧X.cell? ⟨NB,1,none⟩=some (.string zb.name)∧X.cell? ⟨NB,2,none⟩=some (.int .i64 zb.var)∧X.cell? ⟨NB,3,none⟩=some (.slice A7 l7 d7)):=Lib.hid (fun X hb=>by
          have e1:=(hb.block NA (Array.getElem?_eq_some_iff.1 ea).1).trans ea
          have e2:=(hb.block NB (Array.getElem?_eq_some_iff.1 eb).1).trans eb
          exact ⟨(cellH e1 0).trans rfl,(cellH e1 1).trans rfl,(cellH e1 2).trans rfl,(cellH e1 3).trans rfl,(cellH e2 0).trans rfl,(cellH e2 1).trans rfl,(cellH e2 2).trans rfl,(cellH e2 3).trans rfl⟩)
         clear hown2 hgrow2 hat2 ea eb ea0 eb0
         refine hK.out _ _ (HCB.out _ (Below.refl _ _)) (fun hHeld=>?_)
         clear hK K
         try simp only [Act.put,List.setIfInBounds_toArray,List.set_cons_zero,List.set_cons_succ]
         refine wpAnyH_ready (rs:=[8]) (by kernel_rfl) (by simp) ?_
         refine AllReadyH.cons (o:=_) rfl (fun K hK=>?_) AllReadyH.nil
         go_simp
         refine hK.out _ _ (HCB.out _ (Below.refl _ _)) (fun hHeld=>?_)
         clear hK K
         try simp only [Act.put,List.setIfInBounds_toArray,List.set_cons_zero,List.set_cons_succ]
         refine wpAnyH_ready (rs:=[9]) (by kernel_rfl) (by simp) ?_
         refine AllReadyH.cons (o:=_) rfl (fun K hK=>?_) AllReadyH.nil
         go_simp
         refine hK.out _ _ (HCB.out _ (Below.refl _ _)) (fun hHeld=>?_)
         clear hK K
         try simp only [Act.put,List.setIfInBounds_toArray,List.set_cons_zero,List.set_cons_succ]
         refine wpAnyH_done (by kernel_rfl) ?_ _
         go_wp2_with fail
         go_roundw
         case rel=>exact ⟨i+1,gg1,gg2,cc1,cc2,by have:=HLT.out;omega,rfl,rfl,by go_num,by rw [HRI1.out,HRI2.out];exact HTN⟩
         case measure=>have:=HLT.out;simp [intOf];omega
        ·go_simp
         have HB2:=Lib.hid (HB1.out.trans ((below_alloc X1 (.cells #[.int .i64 zb.kind,.string zb.name,.int .i64 zb.var,.slice A7 l7 d7] 32)).mono HB1.out.size))
         have HN2:Hid ((X1.alloc (.cells #[.int .i64 zb.kind,.string zb.name,.int .i64 zb.var,.slice A7 l7 d7] 32)).heap[X1.heap.size]?=some (.cells #[.int .i64 zb.kind,.string zb.name,.int .i64 zb.var,.slice A7 l7 d7] 32 (0,0))):=Lib.hid (heap_newA rfl)
         have HN1:Hid ((X1.alloc (.cells #[.int .i64 zb.kind,.string zb.name,.int .i64 zb.var,.slice A7 l7 d7] 32)).heap[Y.heap.size]?=some (.cells #[.int .i64 za.kind,.string za.name,.int .i64 za.var,.slice A5 l5 d5] 32 (0,0))):=Lib.hid ((Below.heap_alloc X1 _ Y.heap.size HZ1.out).trans HN1.out)
         have hCX:=HCX.out _ HB2.out
         generalize (X1.alloc (.cells #[.int .i64 zb.kind,.string zb.name,.int .i64 zb.var,.slice A7 l7 d7] 32))=X2 at HB2 HN2 HN1 hCX ⊢
         refine hK.out _ _ (hCX) (fun hHeld=>?_)
         clear hK K
         try simp only [Act.put,List.setIfInBounds_toArray,List.set_cons_zero,List.set_cons_succ]
         clear hCX
         refine wpAnyH_ready (rs:=[3]) (by kernel_rfl) (by simp) ?_
         refine AllReadyH.cons (o:=_) rfl (fun K hK=>?_) AllReadyH.nil
         refine step_ty rfl (.tmp 93) (.tmp 95) rfl wc.heap.size (.slice (some ⟨S1,0,none⟩) i k1) i (vs1.flatMap cellsL) (by kernel_rfl) (HO1.out X2 HB2.out).1 (Y.heap.size) za.kind za.var za.name A5 l5 d5 (by kernel_rfl) HN1.out (by omega) (HO1.out X2 HB2.out).2 ?_
         intro gg1 cc1 wa hown1 hgrow1 hat1
         have hTA:=TwoT.add1 (HW1.out.below HB2.out) ⟨_,HW2.out.below HB2.out⟩ (TyE.step.below HVA6.out HB2.out) (by rw [HLI1.out];exact hown1) hgrow1 hat1
         have ea0:=(Below.block HB2.out NA (Array.getElem?_eq_some_iff.1 HXA6.out).1).trans HXA6.out
         have eb0:=(Below.block HB2.out NB (Array.getElem?_eq_some_iff.1 HXB6.out).1).trans HXB6.out
         have ea:=(hgrow1.block NA (Array.getElem?_eq_some_iff.1 ea0).1 (fun e=>HS1.out.1 (by injection e with e;exact e.symm))).trans ea0
         have eb:=(hgrow1.block NB (Array.getElem?_eq_some_iff.1 eb0).1 (fun e=>HS1.out.2.1 (by injection e with e;exact e.symm))).trans eb0
         have HCA:Hid (∀ X:World,Below wa.heap.size wa X→X.cell? ⟨NA,0,none⟩=some (.int .i64 za.kind)∧X.cell? ⟨NA,1,none⟩=some (.string za.name)∧X.cell? ⟨NA,2,none⟩=some (.int .i64 za.var)∧X.cell? ⟨NA,3,none⟩=some (.slice A5 l5 d5)∧X.cell? ⟨NB,0,none⟩=some (.int .i64 zb.kind)∧X.cell? ⟨NB,1,none⟩=some (.string zb.name)∧X.cell? ⟨NB,2,none⟩=some (.int .i64 zb.var)∧X.cell? ⟨NB,3,none⟩=some (.slice A7 l7 d7)):=Lib.hid (fun X hb=>by
          have e1:=(hb.block NA (Array.getElem?_eq_some_iff.1 ea).1).trans ea
          have e2:=(hb.block NB (Array.getElem?_eq_some_iff.1 eb).1).trans eb
          exact ⟨(cellH e1 0).trans rfl,(cellH e1 1).trans rfl,(cellH e1 2).trans rfl,(cellH e1 3).trans rfl,(cellH e2 0).trans rfl,(cellH e2 1).trans rfl,(cellH e2 2).trans rfl,(cellH e2 3).trans rfl⟩)
         have HXBA:=Lib.hid eb
         have HXAA:=Lib.hid ea
         have HGR:=Lib.hid hgrow1
         have HTA:=Lib.hid hTA
         obtain ⟨⟨vsx,q1⟩,vsy,q2⟩:=HTA.out
         have HQ2:=Lib.hid q2
         have HO2:Hid (∀ X:World,Below wa.heap.size wa X→X.ownsRow (wc.alloc (.cells #[] 32)).heap.size 32 4 (.slice (some ⟨S2,0,none⟩) i k2) i (vsy.flatMap cellsL)∧(wc.alloc (.cells #[] 32)).heap.size≤X.heap.size):=Lib.hid (fun X hb=>by
          have h:=(HQ2.out.below hb).own
          rw [HLI2.out] at h
          have:=(h.lt S2 rfl)
          exact ⟨h,by omega⟩)
         have HVB7:=Lib.hid (vb_after HVB6.out HB2.out hgrow1 hat1)
         clear hown1 hgrow1 hat1 hTA ea eb ea0 eb0 q1 q2
         have HNB:=Lib.hid ((HGR.out.block (X1.heap.size) (Array.getElem?_eq_some_iff.1 HN2.out).1 (fun e=>by have h1:=HS1.out.2.2.2.2;have h2:=HZ1.out;have e2:S1=X1.heap.size:=(by injection e with e;exact e.symm);omega)).trans HN2.out)
         refine hK.out _ _ (HCA.out _ (Below.refl _ _)) (fun hHeld=>?_)
         clear hK K
         try simp only [Act.put,List.setIfInBounds_toArray,List.set_cons_zero,List.set_cons_succ]
         refine wpAnyH_ready (rs:=[7]) (by kernel_rfl) (by simp) ?_
         refine AllReadyH.cons (o:=_) rfl (fun K hK=>?_) AllReadyH.nil
         refine step_ty rfl (.tmp 97) (.tmp 99) rfl (wc.alloc (.cells #[] 32)).heap.size (.slice (some ⟨S2,0,none⟩) i k2) i (vsy.flatMap cellsL) (by kernel_rfl) (HO2.out wa (Below.refl _ _)).1 (X1.heap.size) zb.kind zb.var zb.name A7 l7 d7 (by kernel_rfl) HNB.out (by omega) (HO2.out wa (Below.refl _ _)).2 ?_
         intro gg2 cc2 wb hown2 hgrow2 hat2
         have HTN:=Lib.hid (TwoT.add2 ⟨_,(HTA.out.1.choose_spec).below (Below.refl _ _)⟩ (HQ2.out.below (Below.refl _ _)) (TyE.step.below HVB7.out (Below.refl _ _)) (by rw [HLI2.out];exact hown2) hgrow2 hat2)
         have ea0:=(Below.block (Below.refl _ _) NA (Array.getElem?_eq_some_iff.1 HXAA.out).1).trans HXAA.out
         have eb0:=(Below.block (Below.refl _ _) NB (Array.getElem?_eq_some_iff.1 HXBA.out).1).trans HXBA.out
         have eb:=(hgrow2.block NB (Array.getElem?_eq_some_iff.1 eb0).1 (fun e=>HS1.out.2.2.2.1 (by injection e with e;exact e.symm))).trans eb0
         have ea:=(hgrow2.block NA (Array.getElem?_eq_some_iff.1 ea0).1 (fun e=>HS1.out.2.2.1 (by injection e with e;exact e.symm))).trans ea0
         have HCB:Hid (∀ X:World,Below wb.heap.size wb X→X.cell? ⟨NA,0,none⟩=some (.int .i64 za.kind)∧X.cell? ⟨NA,1,none⟩=some (.string za.name)∧X.cell? ⟨NA,2,none⟩=some (.int .i64 za.var)∧X.cell? ⟨NA,3,none⟩=some (.slice A5 l5 d5)∧X.cell? ⟨NB,0,none⟩=some (.int .i64 zb.kind)∧X.cell? ⟨NB,1,none⟩=some (.string zb.name)∧X.cell? ⟨NB,2,none⟩=some (.int .i64 zb.var)∧X.cell? ⟨NB,3,none⟩=some (.slice A7 l7 d7)):=Lib.hid (fun X hb=>by
          have e1:=(hb.block NA (Array.getElem?_eq_some_iff.1 ea).1).trans ea
          have e2:=(hb.block NB (Array.getElem?_eq_some_iff.1 eb).1).trans eb
          exact ⟨(cellH e1 0).trans rfl,(cellH e1 1).trans rfl,(cellH e1 2).trans rfl,(cellH e1 3).trans rfl,(cellH e2 0).trans rfl,(cellH e2 1).trans rfl,(cellH e2 2).trans rfl,(cellH e2 3).trans rfl⟩)
         clear hown2 hgrow2 hat2 ea eb ea0 eb0
         refine hK.out _ _ (HCB.out _ (Below.refl _ _)) (fun hHeld=>?_)
         clear hK K
         try simp only [Act.put,List.setIfInBounds_toArray,List.set_cons_zero,List.set_cons_succ]
         refine wpAnyH_ready (rs:=[8]) (by kernel_rfl) (by simp) ?_
         refine AllReadyH.cons (o:=_) rfl (fun K hK=>?_) AllReadyH.nil
         go_simp
         refine hK.out _ _ (HCB.out _ (Below.refl _ _)) (fun hHeld=>?_)
         clear hK K
         try simp only [Act.put,List.setIfInBounds_toArray,List.set_cons_zero,List.set_cons_succ]
         refine wpAnyH_ready (rs:=[9]) (by kernel_rfl) (by simp) ?_
         refine AllReadyH.cons (o:=_) rfl (fun K hK=>?_) AllReadyH.nil
         go_simp
         refine hK.out _ _ (HCB.out _ (Below.refl _ _)) (fun hHeld=>?_)
         clear hK K
         try simp only [Act.put,List.setIfInBounds_toArray,List.set_cons_zero,List.set_cons_succ]
         refine wpAnyH_done (by kernel_rfl) ?_ _
         go_wp2_with fail
         go_roundw
         case rel=>exact ⟨i+1,gg1,gg2,cc1,cc2,by have:=HLT.out;omega,rfl,rfl,by go_num,by rw [HRI1.out,HRI2.out];exact HTN⟩
         case measure=>have:=HLT.out;simp [intOf];omega
       ·go_simp
        have HB1:=Lib.hid (below_drw (below_alloc Y (.cells #[.int .i64 zb.kind,.string zb.name,.int .i64 zb.var,.slice A7 l7 d7] 32)))
        have HN1:Hid ((Y.alloc (.cells #[.int .i64 zb.kind,.string zb.name,.int .i64 zb.var,.slice A7 l7 d7] 32)).drew.heap[Y.heap.size]?=some (.cells #[.int .i64 zb.kind,.string zb.name,.int .i64 zb.var,.slice A7 l7 d7] 32 (0,0))):=Lib.hid (heap_newD rfl)
        have hCX:=HCX.out _ HB1.out
        have hsz1:Y.heap.size < (Y.alloc (.cells #[.int .i64 zb.kind,.string zb.name,.int .i64 zb.var,.slice A7 l7 d7] 32)).drew.heap.size:=by show _ < (Y.heap.push _).size;simp
        have HZ1:=Lib.hid hsz1
        clear hsz1
        generalize (Y.alloc (.cells #[.int .i64 zb.kind,.string zb.name,.int .i64 zb.var,.slice A7 l7 d7] 32)).drew=X1 at HB1 HN1 HZ1 hCX ⊢
        refine hK.out _ _ (hCX) (fun hHeld=>?_)
        clear hK K
        try simp only [Act.put,List.setIfInBounds_toArray,List.set_cons_zero,List.set_cons_succ]
        clear hCX
        refine wpAnyH_ready (rs:=[2]) (by kernel_rfl) (by simp) ?_
        refine AllReadyH.cons (o:=_) rfl (fun K hK=>?_) AllReadyH.nil
        go_simp
        have HB2:=Lib.hid (HB1.out.trans ((below_alloc X1 (.cells #[.int .i64 za.kind,.string za.name,.int .i64 za.var,.slice A5 l5 d5] 32)).mono HB1.out.size))
        have HN2:Hid ((X1.alloc (.cells #[.int .i64 za.kind,.string za.name,.int .i64 za.var,.slice A5 l5 d5] 32)).heap[X1.heap.size]?=some (.cells #[.int .i64 za.kind,.string za.name,.int .i64 za.var,.slice A5 l5 d5] 32 (0,0))):=Lib.hid (heap_newA rfl)
        have HN1:Hid ((X1.alloc (.cells #[.int .i64 za.kind,.string za.name,.int .i64 za.var,.slice A5 l5 d5] 32)).heap[Y.heap.size]?=some (.cells #[.int .i64 zb.kind,.string zb.name,.int .i64 zb.var,.slice A7 l7 d7] 32 (0,0))):=Lib.hid ((Below.heap_alloc X1 _ Y.heap.size HZ1.out).trans HN1.out)
        have hCX:=HCX.out _ HB2.out
        generalize (X1.alloc (.cells #[.int .i64 za.kind,.string za.name,.int .i64 za.var,.slice A5 l5 d5] 32))=X2 at HB2 HN2 HN1 hCX ⊢
        refine hK.out _ _ (hCX) (fun hHeld=>?_)
        clear hK K
        try simp only [Act.put,List.setIfInBounds_toArray,List.set_cons_zero,List.set_cons_succ]
        clear hCX
        refine wpAnyH_ready (rs:=[3]) (by kernel_rfl) (by simp) ?_
        refine AllReadyH.cons (o:=_) rfl (fun K hK=>?_) AllReadyH.nil
        refine step_ty rfl (.tmp 93) (.tmp 95) rfl wc.heap.size (.slice (some ⟨S1,0,none⟩) i k1) i (vs1.flatMap cellsL) (by kernel_rfl) (HO1.out X2 HB2.out).1 (X1.heap.size) za.kind za.var za.name A5 l5 d5 (by kernel_rfl) HN2.out (by omega) (HO1.out X2 HB2.out).2 ?_
        intro gg1 cc1 wa hown1 hgrow1 hat1
        have hTA:=TwoT.add1 (HW1.out.below HB2.out) ⟨_,HW2.out.below HB2.out⟩ (TyE.step.below HVA6.out HB2.out) (by rw [HLI1.out];exact hown1) hgrow1 hat1
        have ea0:=(Below.block HB2.out NA (Array.getElem?_eq_some_iff.1 HXA6.out).1).trans HXA6.out
        have eb0:=(Below.block HB2.out NB (Array.getElem?_eq_some_iff.1 HXB6.out).1).trans HXB6.out
        have ea:=(hgrow1.block NA (Array.getElem?_eq_some_iff.1 ea0).1 (fun e=>HS1.out.1 (by injection e with e;exact e.symm))).trans ea0
        have eb:=(hgrow1.block NB (Array.getElem?_eq_some_iff.1 eb0).1 (fun e=>HS1.out.2.1 (by injection e with e;exact e.symm))).trans eb0
        have HCA:Hid (∀ X:World,Below wa.heap.size wa X→X.cell? ⟨NA,0,none⟩=some (.int .i64 za.kind)∧X.cell? ⟨NA,1,none⟩=some (.string za.name)∧X.cell? ⟨NA,2,none⟩=some (.int .i64 za.var)∧X.cell? ⟨NA,3,none⟩=some (.slice A5 l5 d5)∧X.cell? ⟨NB,0,none⟩=some (.int .i64 zb.kind)∧X.cell? ⟨NB,1,none⟩=some (.string zb.name)∧X.cell? ⟨NB,2,none⟩=some (.int .i64 zb.var)∧X.cell? ⟨NB,3,none⟩=some (.slice A7 l7 d7)):=Lib.hid (fun X hb=>by
         have e1:=(hb.block NA (Array.getElem?_eq_some_iff.1 ea).1).trans ea
         have e2:=(hb.block NB (Array.getElem?_eq_some_iff.1 eb).1).trans eb
         exact ⟨(cellH e1 0).trans rfl,(cellH e1 1).trans rfl,(cellH e1 2).trans rfl,(cellH e1 3).trans rfl,(cellH e2 0).trans rfl,(cellH e2 1).trans rfl,(cellH e2 2).trans rfl,(cellH e2 3).trans rfl⟩)
        have HXBA:=Lib.hid eb
        have HXAA:=Lib.hid ea
        have HGR:=Lib.hid hgrow1
        have HTA:=Lib.hid hTA
        obtain ⟨⟨vsx,q1⟩,vsy,q2⟩:=HTA.out
        have HQ2:=Lib.hid q2
        have HO2:Hid (∀ X:World,Below wa.heap.size wa X→X.ownsRow (wc.alloc (.cells #[] 32)).heap.size 32 4 (.slice (some ⟨S2,0,none⟩) i k2) i (vsy.flatMap cellsL)∧(wc.alloc (.cells #[] 32)).heap.size≤X.heap.size):=Lib.hid (fun X hb=>by
         have h:=(HQ2.out.below hb).own
         rw [HLI2.out] at h
         have:=(h.lt S2 rfl)
         exact ⟨h,by omega⟩)
        have HVB7:=Lib.hid (vb_after HVB6.out HB2.out hgrow1 hat1)
        clear hown1 hgrow1 hat1 hTA ea eb ea0 eb0 q1 q2
        have HNB:=Lib.hid ((HGR.out.block (Y.heap.size) (Array.getElem?_eq_some_iff.1 HN1.out).1 (fun e=>by have h1:=HS1.out.2.2.2.2;have h2:=HZ1.out;have e2:S1=Y.heap.size:=(by injection e with e;exact e.symm);omega)).trans HN1.out)
        refine hK.out _ _ (HCA.out _ (Below.refl _ _)) (fun hHeld=>?_)
        clear hK K
        try simp only [Act.put,List.setIfInBounds_toArray,List.set_cons_zero,List.set_cons_succ]
        refine wpAnyH_ready (rs:=[7]) (by kernel_rfl) (by simp) ?_
        refine AllReadyH.cons (o:=_) rfl (fun K hK=>?_) AllReadyH.nil
        refine step_ty rfl (.tmp 97) (.tmp 99) rfl (wc.alloc (.cells #[] 32)).heap.size (.slice (some ⟨S2,0,none⟩) i k2) i (vsy.flatMap cellsL) (by kernel_rfl) (HO2.out wa (Below.refl _ _)).1 (Y.heap.size) zb.kind zb.var zb.name A7 l7 d7 (by kernel_rfl) HNB.out (by omega) (HO2.out wa (Below.refl _ _)).2 ?_
        intro gg2 cc2 wb hown2 hgrow2 hat2
        have HTN:=Lib.hid (TwoT.add2 ⟨_,(HTA.out.1.choose_spec).below (Below.refl _ _)⟩ (HQ2.out.below (Below.refl _ _)) (TyE.step.below HVB7.out (Below.refl _ _)) (by rw [HLI2.out];exact hown2) hgrow2 hat2)
        have ea0:=(Below.block (Below.refl _ _) NA (Array.getElem?_eq_some_iff.1 HXAA.out).1).trans HXAA.out
        have eb0:=(Below.block (Below.refl _ _) NB (Array.getElem?_eq_some_iff.1 HXBA.out).1).trans HXBA.out
        have eb:=(hgrow2.block NB (Array.getElem?_eq_some_iff.1 eb0).1 (fun e=>HS1.out.2.2.2.1 (by injection e with e;exact e.symm))).trans eb0
        have ea:=(hgrow2.block NA (Array.getElem?_eq_some_iff.1 ea0).1 (fun e=>HS1.out.2.2.1 (by injection e with e;exact e.symm))).trans ea0
        have HCB:Hid (∀ X:World,Below wb.heap.size wb X→X.cell? ⟨NA,0,none⟩=some (.int .i64 za.kind)∧X.cell? ⟨NA,1,none⟩=some (.string za.name)∧X.cell? ⟨NA,2,none⟩=some (.int .i64 za.var)∧X.cell? ⟨NA,3,none⟩=some (.slice A5 l5 d5)∧X.cell? ⟨NB,0,none⟩=some (.int .i64 zb.kind)∧X.cell? ⟨NB,1,none⟩=some (.string zb.name)∧X.cell? ⟨NB,2,none⟩=some (.int .i64 zb.var)∧X.cell? ⟨NB,3,none⟩=some (.slice A7 l7 d7)):=Lib.hid (fun X hb=>by
         have e1:=(hb.block NA (Array.getElem?_eq_some_iff.1 ea).1).trans ea
         have e2:=(hb.block NB (Array.getElem?_eq_some_iff.1 eb).1).trans eb
         exact ⟨(cellH e1 0).trans rfl,(cellH e1 1).trans rfl,(cellH e1 2).trans rfl,(cellH e1 3).trans rfl,(cellH e2 0).trans rfl,(cellH e2 1).trans rfl,(cellH e2 2).trans rfl,(cellH e2 3).trans rfl⟩)
        clear hown2 hgrow2 hat2 ea eb ea0 eb0
        refine hK.out _ _ (HCB.out _ (Below.refl _ _)) (fun hHeld=>?_)
        clear hK K
        try simp only [Act.put,List.setIfInBounds_toArray,List.set_cons_zero,List.set_cons_succ]
        refine wpAnyH_ready (rs:=[8]) (by kernel_rfl) (by simp) ?_
        refine AllReadyH.cons (o:=_) rfl (fun K hK=>?_) AllReadyH.nil
        go_simp
        refine hK.out _ _ (HCB.out _ (Below.refl _ _)) (fun hHeld=>?_)
        clear hK K
        try simp only [Act.put,List.setIfInBounds_toArray,List.set_cons_zero,List.set_cons_succ]
        refine wpAnyH_ready (rs:=[9]) (by kernel_rfl) (by simp) ?_
        refine AllReadyH.cons (o:=_) rfl (fun K hK=>?_) AllReadyH.nil
        go_simp
        refine hK.out _ _ (HCB.out _ (Below.refl _ _)) (fun hHeld=>?_)
        clear hK K
        try simp only [Act.put,List.setIfInBounds_toArray,List.set_cons_zero,List.set_cons_succ]
        refine wpAnyH_done (by kernel_rfl) ?_ _
        go_wp2_with fail
        go_roundw
        case rel=>exact ⟨i+1,gg1,gg2,cc1,cc2,by have:=HLT.out;omega,rfl,rfl,by go_num,by rw [HRI1.out,HRI2.out];exact HTN⟩
        case measure=>have:=HLT.out;simp [intOf];omega
      ·obtain rfl:i=q:=by omega
       have hdc:decide ((i:Int) < (i:Int))=false:=by simp
       obtain ⟨⟨vs1,h1⟩,vs2,h2⟩:=HT.out
       have hp:=plain_was h1 (by omega)
       rw [HLI1.out] at hp
       have HP1:=Lib.hid hp
       have HW2:=Lib.hid h2
       have HBW2:=Lib.hid h1.ls.2.2.2
       clear hp h1 h2
       go_wp2_with fail
       go_at_call 28
       refine HP1.out.mono ?_
       rintro e w8 ⟨v8,rfl,hv8,hb8⟩
       have HV8:=Lib.hid hv8
       have hp:=plain_was (HW2.out.below hb8) (by omega)
       rw [HLI2.out] at hp
       have HP2:=Lib.hid hp
       have HB8:=Lib.hid (HBW2.out.trans (hb8.mono HBW2.out.size))
       clear hv8 hb8 hp
       go_wp2_with fail
       go_at_call 28
       refine HP2.out.mono ?_
       rintro e w9 ⟨v9,rfl,hv9,hb9⟩
       have HB9:=Lib.hid (HB8.out.trans (hb9.mono HB8.out.size))
       rw [← plain_turn HO12.out HO21.out HR1.out HR2.out] at hv9
       have HSR:=Lib.hid (same_rows ((RowW.step TyE.step).below HV8.out hb9) hv9)
       clear hv9 hb9
       go_wp2_with fail
       go_at_call 27
       refine HSR.out.mono ?_
       rintro e w10 ⟨rfl,hb10⟩
       have HB10:=Lib.hid (HB9.out.trans (hb10.mono HB9.out.size))
       clear hb10
       go_wp2_with fail
       go_ret
       exact ⟨rfl,HB10.out⟩
end Lx
end Go.Proofs.YtiamniljgdjakaaDoor
