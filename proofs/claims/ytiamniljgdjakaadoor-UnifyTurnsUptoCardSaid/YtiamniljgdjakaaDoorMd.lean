/- Package unify: renumbered and Plain. Conditions: as each states. -/
import Derived.Test.YtiamniljgdjakaaDoorMb
namespace Go.Proofs.YtiamniljgdjakaaDoor
set_option linter.unusedSimpArgs false
set_option linter.unusedVariables false
namespace Lx
open Go Go.RowKit
theorem wfNat {n:Int} (h:0≤n∧n≤1000000000):(Lit.int .i64 n).wf=true:=by
 have h1:IntKind.i64.min=-9223372036854775808:=by decide
 have h2:IntKind.i64.max=9223372036854775807:=by decide
 simp [Lit.wf,h1,h2]
 omega
theorem runLook (mp:Nat) (met:List Nat) (i:Nat) (W:World) (h:MetB mp met W) (hi:(i:Int)≤1000000000):(Instr.lookup 90 (.map (some mp)) (.int .i64 (i:Int)) true).run Tryd.prog W=if i ∈ met then .ok (.tuple #[.int .i64 ((posN i met:Nat):Int),.bool true]) W else .ok (.tuple #[.int .i64 0,.bool false]) W:=by
 obtain ⟨kl,hkl⟩:=keyI (n:=(i:Int)) (wfNat (by omega))
 rcases h.1.look keyInt Tryd.underlying90 (zeroInt _) hkl with ⟨h1,h2⟩ | ⟨v,h1,h2⟩
 ·rw [if_neg (fun hin=>by
   obtain ⟨v,hv⟩:=entM_in hin
   exact h1 _ hv rfl)]
  exact h2
 ·obtain ⟨h3,rfl⟩:=entM_mem h1 h.2.1
  rw [if_pos h3]
  exact h2
theorem runPut (mp:Nat) (met:List Nat) (i:Nat) (W:World) (h:MetB mp met W) (hi:(i:Int)≤1000000000) (hin:i ∉ met) (hlen:met.length < 1000000):∃ W1,(Instr.mapUpdate 90 (.map (some mp)) (.int .i64 (i:Int)) (.int .i64 (met.length:Int))).run Tryd.prog W=.ok () W1∧MetB mp (met++[i]) W1∧Kb (fun k=>k=mp) W W1:=by
 obtain ⟨kl,hkl⟩:=keyI (n:=(i:Int)) (wfNat (by omega))
 obtain ⟨W1,h1,h2,h3⟩:=h.1.put keyInt Tryd.underlying90 hkl (val:=.int .i64 (met.length:Int)) (fun p hp e=>by
  obtain ⟨k,v⟩:=p
  have e:k=.int .i64 (i:Int):=e
  subst e
  exact hin (entM_mem hp h.2.1).1)
 refine ⟨W1,h1,⟨by rw [entM_snoc];exact h2,?_,by simp;omega⟩,h3⟩
 rw [List.nodup_append]
 exact ⟨h.2.1,by simp,fun a ha b hb=>by
  rw [List.mem_singleton.1 hb]
  intro e
  exact hin (e ▸ ha)⟩
section
variable {m:Nat}
set_option maxRecDepth 100000 in
set_option maxHeartbeats 4000000 in
theorem ren_step (hms:m≤1000000) (d:Nat) (HC:Hid (∀ d',d'≤d→RenC m d')):RenC m (d+1):=by
 intro Vol mp met t v w hv gt hM hmp hvl hlen
 obtain ⟨A,l,c,rfl⟩:=hv.this
 obtain ⟨d',hrow⟩:=hv.row
 obtain rfl:=hrow.len
 have hd':RowW 4 (TyW d) Vol t.args (.slice A t.args.length c) w:=by
  obtain ⟨k,s,n,l⟩:=t
  obtain ⟨va,e,h1⟩:=hv
  injection e with e
  have e2:=congrArg (fun a:Array Value=>a[3]?) e
  have e3:(.slice A (TyT.mk k s n l).args.length c:Value)=va:=by simpa using e2
  exact e3 ▸ h1
 have hB:Below w.heap.size w (((w.alloc (.cells #[.int .i64 t.kind,.string t.name,.int .i64 t.var,.slice A t.args.length c] 32)).alloc (.cells #[.map (some mp)] 90)).alloc (.cells #[.int .i64 0,.string ⟨#[]⟩,.int .i64 0,.slice none 0 0] 32)):=((below_alloc _ _).alloc (by simp) _).alloc (by simp;omega) _
 have hsz:(((w.alloc (.cells #[.int .i64 t.kind,.string t.name,.int .i64 t.var,.slice A t.args.length c] 32)).alloc (.cells #[.map (some mp)] 90)).alloc (.cells #[.int .i64 0,.string ⟨#[]⟩,.int .i64 0,.slice none 0 0] 32)).heap.size=w.heap.size+3:=by simp
 have h0:(((w.alloc (.cells #[.int .i64 t.kind,.string t.name,.int .i64 t.var,.slice A t.args.length c] 32)).alloc (.cells #[.map (some mp)] 90)).alloc (.cells #[.int .i64 0,.string ⟨#[]⟩,.int .i64 0,.slice none 0 0] 32)).heap[w.heap.size]?=some (.cells #[.int .i64 t.kind,.string t.name,.int .i64 t.var,.slice A t.args.length c] 32 (0,0)):=(Below.heap_alloc _ _ w.heap.size (by simp;omega)).trans ((Below.heap_alloc _ _ w.heap.size (by simp)).trans (heap_alloc_new _ _))
 have h1:(((w.alloc (.cells #[.int .i64 t.kind,.string t.name,.int .i64 t.var,.slice A t.args.length c] 32)).alloc (.cells #[.map (some mp)] 90)).alloc (.cells #[.int .i64 0,.string ⟨#[]⟩,.int .i64 0,.slice none 0 0] 32)).heap[w.heap.size+1]?=some (.cells #[.map (some mp)] 90 (0,0)):=(Below.heap_alloc _ _ (w.heap.size+1) (by simp)).trans (by
  have:=heap_alloc_new (w.alloc (.cells #[.int .i64 t.kind,.string t.name,.int .i64 t.var,.slice A t.args.length c] 32)) (.cells #[.map (some mp)] 90)
  simpa using this)
 have h2:(((w.alloc (.cells #[.int .i64 t.kind,.string t.name,.int .i64 t.var,.slice A t.args.length c] 32)).alloc (.cells #[.map (some mp)] 90)).alloc (.cells #[.int .i64 0,.string ⟨#[]⟩,.int .i64 0,.slice none 0 0] 32)).heap[w.heap.size+2]?=some (.cells #[.int .i64 0,.string ⟨#[]⟩,.int .i64 0,.slice none 0 0] 32 (0,0)):=by
  have:=heap_alloc_new ((w.alloc (.cells #[.int .i64 t.kind,.string t.name,.int .i64 t.var,.slice A t.args.length c] 32)).alloc (.cells #[.map (some mp)] 90)) (.cells #[.int .i64 0,.string ⟨#[]⟩,.int .i64 0,.slice none 0 0] 32)
  simpa using this
 have hback:∀ k,k < w.heap.size→(Vol k ∨ k=w.heap.size ∨ k=w.heap.size+2)→Vol k:=fun k hk e=>by
  rcases e with e | e | e
  ·exact e
  ·omega
  ·omega
 have HVL3:Hid (∀ W:World,w.heap.size+3≤W.heap.size→∀ k,(Vol k ∨ k=w.heap.size ∨ k=w.heap.size+2)→k < W.heap.size):=Lib.hid (fun W h k e=>by
  rcases e with e | e | e
  ·have:=hvl k e;omega
  ·omega
  ·omega)
 have HML:=Lib.hid (hvl mp hmp)
 have HMP:=Lib.hid hmp
 have HNX:Hid (¬ (Vol (w.heap.size+1) ∨ w.heap.size+1=w.heap.size ∨ w.heap.size+1=w.heap.size+2)):=Lib.hid (fun e=>by
  rcases e with e | e | e
  ·have:=hvl _ e;omega
  ·omega
  ·omega)
 have HB:=Lib.hid hB
 have HY0:=Lib.hid h0
 have HY1:=Lib.hid h1
 have HY2:=Lib.hid h2
 have HVY:=Lib.hid (RowW.step (TyW.step d) _ (fun k=>Vol k ∨ k=w.heap.size ∨ k=w.heap.size+2) _ _ _ _ hd' (Kb.of_below hB) hback)
 have HMY:=Lib.hid (hM.below hB)
 have HSZY:=Lib.hid (Nat.le_of_eq hsz.symm)
 have HGT:=Lib.hid gt
 have HLN:=Lib.hid hlen
 clear hv hrow hd' hM hmp hvl hlen hB hsz h0 h1 h2 hback
 by_cases k4:t.kind=4
 ·obtain ⟨i,hi,ht⟩:=good_free gt k4
  have e4:(t.kind == 4)=true:=by simpa using k4
  have htv:t.var=(i:Int):=by rw [ht];rfl
  have HGA:Hid (goodTs m t.args):=Lib.hid (by rw [ht];trivial)
  have hlk:=runLook mp met i (((w.alloc (.cells #[.int .i64 t.kind,.string t.name,.int .i64 t.var,.slice A t.args.length c] 32)).alloc (.cells #[.map (some mp)] 90)).alloc (.cells #[.int .i64 0,.string ⟨#[]⟩,.int .i64 0,.slice none 0 0] 32)) HMY.out (by omega)
  rw [← htv] at hlk
  have HT:=Lib.hid ht
  have hvar:(fr i).var=(i:Int):=rfl
  by_cases hin:i ∈ met
  ·rw [if_pos hin] at hlk
   have hpl:pl met t=((pls met t.args).1,.mk t.kind t.name ((posN i met:Nat):Int) (pls met t.args).2):=by
    rw [ht,fr,pl]
    simp only [if_true,Int.toNat_natCast,if_pos hin,TyT.args,TyT.kind,TyT.name,pls]
    rfl
   have HLEN1:Hid (met.length+sizeTs t.args≤1000000):=Lib.hid (by
    have:=HLN.out
    rw [ht] at this ⊢
    rw [size_fr] at this
    show _+sizeTs []≤_
    rw [sizeTs]
    omega)
   have HPL:=Lib.hid hpl
   clear gt k4 hpl hi
   generalize ((posN i met:Nat):Int)=p1 at hlk HPL
   clear ht htv hin
   go_enter Tryd.func53,Tryd.ntmps53
   go_upto_region 1 with fail
   generalize (((w.alloc (.cells #[.int .i64 t.kind,.string t.name,.int .i64 t.var,.slice A t.args.length c] 32)).alloc (.cells #[.map (some mp)] 90)).alloc (.cells #[.int .i64 0,.string ⟨#[]⟩,.int .i64 0,.slice none 0 0] 32))=Y at HB HY0 HY1 HY2 HVY HMY HSZY hlk ⊢
   have a0:=(cellH HY0.out 0).trans rfl
   have a1:=(cellH HY0.out 1).trans rfl
   have a2:=(cellH HY0.out 2).trans rfl
   have a3:=(cellH HY0.out 3).trans rfl
   have f2:=frozenH HY0.out 2
   have m0:=(cellH HY1.out 0).trans rfl
   have hq:=blk_put Y w.heap.size 2 (.int .i64 p1) HY0.out (by show 2 < 4;decide)
   have hk:=(Kb.refl (fun k=>k=w.heap.size) Y).put (p:=⟨w.heap.size,2,none⟩) rfl (.int .i64 p1)
   have y3:=(cellH hq 3).trans rfl
   go_wp2_with fail
   generalize (Y.setCell ⟨w.heap.size,2,none⟩ (.int .i64 p1))=Z at hq hk y3 ⊢
   have HSZ:=Lib.hid (Nat.le_trans HSZY.out hk.size)
   have HZ0:Hid (Z.heap[w.heap.size]?=some (.cells #[.int .i64 t.kind,.string t.name,.int .i64 p1,.slice A t.args.length c] 32 (0,0))):=Lib.hid hq
   have HZ1:=Lib.hid ((hk.block (w.heap.size+1) (by have:=HSZY.out;omega) (by omega)).trans HY1.out)
   have HZ2:=Lib.hid ((hk.block (w.heap.size+2) (by have:=HSZY.out;omega) (by omega)).trans HY2.out)
   have HVZ:=Lib.hid (RowW.step (TyW.step d) _ (fun k=>Vol k ∨ k=w.heap.size ∨ k=w.heap.size+2) _ _ _ _ HVY.out (hk.wider (fun k _ e=>.inr (.inl e))) (fun _ _ e=>e))
   have HMZ:=Lib.hid (HMY.out.kb hk (fun e=>by have:=HML.out;omega))
   have HKZ:=Lib.hid ((Kb.of_below (S:=fun k=>k=mp) HB.out).join hk (fun j hj e=>by omega))
   clear hq hk
   have hpl:=HPL.out
   have HEQ:=Lib.hid hpl
   clear hpl
   refine (eachRen d (w.heap.size+1) (Lib.hid (clo_ren d (Lib.hid (HC.out d (Nat.le_refl _))))) (fun k=>Vol k ∨ k=w.heap.size ∨ k=w.heap.size+2) mp met t.args _ Z HVZ.out HGA.out HMZ.out (.inl HMP.out) (HVL3.out Z HSZ.out) HLEN1.out HZ1.out HNX.out).mono ?_
   rintro e w5 ⟨v5,rfl,hv5,hm5,hk5⟩
   obtain ⟨A5,c5,hve⟩:=hv5.slice
   generalize hl5:(pls met t.args).2.length=l5 at hve
   subst hve
   have HV5:=Lib.hid hv5
   have HM5:=Lib.hid hm5
   have HB5:=Lib.hid ((hk5.block w.heap.size (by have:=HSZ.out;omega) (by have:=HML.out;omega)).trans HZ0.out)
   have HR5:=Lib.hid ((hk5.block (w.heap.size+2) (by have:=HSZ.out;omega) (by have:=HML.out;omega)).trans HZ2.out)
   have HK5:=Lib.hid (HKZ.out.trans hk5)
   have HSZ5:=Lib.hid (show w.heap.size+3≤w5.heap.size by have:=HSZ.out;have:=hk5.size;omega)
   clear hv5 hm5 hk5 hl5 a0 a1 a2 a3 m0 f2
   have x0:=(cellH HB5.out 0).trans rfl
   have x1:=(cellH HB5.out 1).trans rfl
   have x2:=(cellH HB5.out 2).trans rfl
   have x3:=(cellH HB5.out 3).trans rfl
   have fx3:=frozenH HB5.out 3
   have r0:=(cellH HR5.out 0).trans rfl
   have r1:=(cellH HR5.out 1).trans rfl
   have r2:=(cellH HR5.out 2).trans rfl
   have r3:=(cellH HR5.out 3).trans rfl
   have fr0:=frozenH HR5.out 0
   have fr1:=frozenH HR5.out 1
   have fr2:=frozenH HR5.out 2
   have fr3:=frozenH HR5.out 3
   go_wp2_with fail
   have hr':=(Below.heap_setCell w5 ⟨w.heap.size,3,none⟩ (.slice A5 l5 c5) (w.heap.size+2) (by show w.heap.size+2 ≠ w.heap.size;omega)).trans HR5.out
   have hq2:=put4 (.int .i64 t.kind) (.string t.name) (.int .i64 p1) (.slice A5 l5 c5) hr'
   have hk2:=((Kb.refl (fun j=>j=w.heap.size ∨ j=w.heap.size+2) w5).put (p:=⟨w.heap.size,3,none⟩) (.inl rfl) (.slice A5 l5 c5)).trans ((kput4 (w5.setCell ⟨w.heap.size,3,none⟩ (.slice A5 l5 c5)) (w.heap.size+2) (.int .i64 t.kind) (.string t.name) (.int .i64 p1) (.slice A5 l5 c5)).wider (fun k _ e=>.inr e))
   clear x0 x1 x2 x3 fx3 r0 r1 r2 r3 fr0 fr1 fr2 fr3 hr'
   generalize (((((w5.setCell ⟨w.heap.size,3,none⟩ (.slice A5 l5 c5)).setCell ⟨w.heap.size+2,0,none⟩ (.int .i64 t.kind)).setCell ⟨w.heap.size+2,1,none⟩ (.string t.name)).setCell ⟨w.heap.size+2,2,none⟩ (.int .i64 p1)).setCell ⟨w.heap.size+2,3,none⟩ (.slice A5 l5 c5))=W at hq2 hk2 ⊢
   have c0:=(cellH hq2 0).trans rfl
   have c1:=(cellH hq2 1).trans rfl
   have c2':=(cellH hq2 2).trans rfl
   have c3:=(cellH hq2 3).trans rfl
   have hml:=HML.out
   refine bodyPost_ret (v:=.agg #[.int .i64 t.kind,.string t.name,.int .i64 p1,.slice A5 l5 c5]) (by simp [results,Tryd.results53,go_sem,c0,c1,c2',c3]) rfl ⟨_,rfl,?_,?_,?_⟩
   ·rw [HEQ.out]
    obtain ⟨D,hD⟩:=rowE (RowW.step TyE.step _ Vol _ _ _ _ HV5.out (hk2.wider (fun k _ e=>.inr e)) (fun k _ e=>.inl e))
    exact ⟨D+1,_,rfl,hD⟩
   ·rw [HEQ.out]
    exact HM5.out.kb hk2 (by omega)
   ·exact HK5.out.join hk2 (fun j hj e=>by omega)
  ·rw [if_neg hin] at hlk
   obtain ⟨es,clock,hobj,hes⟩:=HMY.out.obj
   obtain ⟨W1,hup,hmW,hkW⟩:=runPut mp met i (((w.alloc (.cells #[.int .i64 t.kind,.string t.name,.int .i64 t.var,.slice A t.args.length c] 32)).alloc (.cells #[.map (some mp)] 90)).alloc (.cells #[.int .i64 0,.string ⟨#[]⟩,.int .i64 0,.slice none 0 0] 32)) HMY.out (by omega) hin (by
    have h1:=HLN.out
    have h2:=size_pos t
    omega)
   rw [← htv,← hes] at hup
   have hpl:pl met t=((pls (met++[i]) t.args).1,.mk t.kind t.name (es.size:Int) (pls (met++[i]) t.args).2):=by
    rw [hes,ht,fr,pl]
    simp only [if_true,Int.toNat_natCast,if_neg hin,TyT.args,TyT.kind,TyT.name,pls]
    rfl
   have HLEN1:Hid ((met++[i]).length+sizeTs t.args≤1000000):=Lib.hid (by
    have:=HLN.out
    rw [ht] at this ⊢
    rw [size_fr] at this
    show _+sizeTs []≤_
    rw [sizeTs,List.length_append]
    show met.length+1+0≤_
    omega)
   have HPL:=Lib.hid hpl
   have HMW:=Lib.hid hmW
   have HKW:=Lib.hid hkW
   clear gt k4 hpl hi hmW hes
   clear ht htv hin hkW
   go_enter Tryd.func53,Tryd.ntmps53
   go_upto_region 1 with fail
   generalize (((w.alloc (.cells #[.int .i64 t.kind,.string t.name,.int .i64 t.var,.slice A t.args.length c] 32)).alloc (.cells #[.map (some mp)] 90)).alloc (.cells #[.int .i64 0,.string ⟨#[]⟩,.int .i64 0,.slice none 0 0] 32))=Y at HB HY0 HY1 HY2 HVY HMY HSZY HKW hlk hup hobj ⊢
   have a0:=(cellH HY0.out 0).trans rfl
   have a2:=(cellH HY0.out 2).trans rfl
   have m0:=(cellH HY1.out 0).trans rfl
   have hln:∀ ty,(Builtin.len_ #[90] ty #[.map (some mp)]).run Tryd.prog Y=.ok (goInt es.size) Y:=fun ty=>run_len_map _ _ _ _ _ clock (by kernel_rfl) hobj
   have hgi:goInt es.size=.int .i64 (es.size:Int):=rfl
   have HW0:=Lib.hid ((HKW.out.block w.heap.size (by have:=HSZY.out;omega) (by have:=HML.out;omega)).trans HY0.out)
   have HW1:=Lib.hid ((HKW.out.block (w.heap.size+1) (by have:=HSZY.out;omega) (by have:=HML.out;omega)).trans HY1.out)
   have HW2:=Lib.hid ((HKW.out.block (w.heap.size+2) (by have:=HSZY.out;omega) (by have:=HML.out;omega)).trans HY2.out)
   have HSW:=Lib.hid (Nat.le_trans HSZY.out HKW.out.size)
   have a1:=(cellH HW0.out 2).trans rfl
   have a3:=(cellH HW0.out 3).trans rfl
   have f2:=frozenH HW0.out 2
   have hq:=blk_put W1 w.heap.size 2 (.int .i64 (es.size:Int)) HW0.out (by show 2 < 4;decide)
   have hk:=(Kb.refl (fun k=>k=w.heap.size) W1).put (p:=⟨w.heap.size,2,none⟩) rfl (.int .i64 (es.size:Int))
   have y3:=(cellH hq 3).trans rfl
   go_wp2_with fail
   generalize (W1.setCell ⟨w.heap.size,2,none⟩ (.int .i64 (es.size:Int)))=Z at hq hk y3 ⊢
   have HSZ:=Lib.hid (Nat.le_trans HSW.out hk.size)
   have HZ0:Hid (Z.heap[w.heap.size]?=some (.cells #[.int .i64 t.kind,.string t.name,.int .i64 (es.size:Int),.slice A t.args.length c] 32 (0,0))):=Lib.hid hq
   have HZ1:=Lib.hid ((hk.block (w.heap.size+1) (by have:=HSW.out;omega) (by omega)).trans HW1.out)
   have HZ2:=Lib.hid ((hk.block (w.heap.size+2) (by have:=HSW.out;omega) (by omega)).trans HW2.out)
   have HVZ:=Lib.hid (RowW.step (TyW.step d) _ (fun k=>Vol k ∨ k=w.heap.size ∨ k=w.heap.size+2) _ _ _ _ (RowW.step (TyW.step d) _ (fun k=>Vol k ∨ k=w.heap.size ∨ k=w.heap.size+2) _ _ _ _ HVY.out (HKW.out.wider (fun k _ (e:k=mp)=>.inl (by subst e;exact HMP.out))) (fun _ _ e=>e)) (hk.wider (fun k _ e=>.inr (.inl e))) (fun _ _ e=>e))
   have HMZ:=Lib.hid (HMW.out.kb hk (fun e=>by have:=HML.out;omega))
   have HKZ:=Lib.hid (((Kb.of_below (S:=fun k=>k=mp) HB.out).trans HKW.out).join hk (fun j hj e=>by omega))
   clear hq hk hobj hup hlk hln hgi
   have hpl:=HPL.out
   have HEQ:=Lib.hid hpl
   clear hpl
   refine (eachRen d (w.heap.size+1) (Lib.hid (clo_ren d (Lib.hid (HC.out d (Nat.le_refl _))))) (fun k=>Vol k ∨ k=w.heap.size ∨ k=w.heap.size+2) mp (met++[i]) t.args _ Z HVZ.out HGA.out HMZ.out (.inl HMP.out) (HVL3.out Z HSZ.out) HLEN1.out HZ1.out HNX.out).mono ?_
   rintro e w5 ⟨v5,rfl,hv5,hm5,hk5⟩
   obtain ⟨A5,c5,hve⟩:=hv5.slice
   generalize hl5:(pls (met++[i]) t.args).2.length=l5 at hve
   subst hve
   have HV5:=Lib.hid hv5
   have HM5:=Lib.hid hm5
   have HB5:=Lib.hid ((hk5.block w.heap.size (by have:=HSZ.out;omega) (by have:=HML.out;omega)).trans HZ0.out)
   have HR5:=Lib.hid ((hk5.block (w.heap.size+2) (by have:=HSZ.out;omega) (by have:=HML.out;omega)).trans HZ2.out)
   have HK5:=Lib.hid (HKZ.out.trans hk5)
   have HSZ5:=Lib.hid (show w.heap.size+3≤w5.heap.size by have:=HSZ.out;have:=hk5.size;omega)
   clear hv5 hm5 hk5 hl5 a0 a1 a2 a3 m0 f2
   have x0:=(cellH HB5.out 0).trans rfl
   have x1:=(cellH HB5.out 1).trans rfl
   have x2:=(cellH HB5.out 2).trans rfl
   have x3:=(cellH HB5.out 3).trans rfl
   have fx3:=frozenH HB5.out 3
   have r0:=(cellH HR5.out 0).trans rfl
   have r1:=(cellH HR5.out 1).trans rfl
   have r2:=(cellH HR5.out 2).trans rfl
   have r3:=(cellH HR5.out 3).trans rfl
   have fr0:=frozenH HR5.out 0
   have fr1:=frozenH HR5.out 1
   have fr2:=frozenH HR5.out 2
   have fr3:=frozenH HR5.out 3
   go_wp2_with fail
   have hr':=(Below.heap_setCell w5 ⟨w.heap.size,3,none⟩ (.slice A5 l5 c5) (w.heap.size+2) (by show w.heap.size+2 ≠ w.heap.size;omega)).trans HR5.out
   have hq2:=put4 (.int .i64 t.kind) (.string t.name) (.int .i64 (es.size:Int)) (.slice A5 l5 c5) hr'
   have hk2:=((Kb.refl (fun j=>j=w.heap.size ∨ j=w.heap.size+2) w5).put (p:=⟨w.heap.size,3,none⟩) (.inl rfl) (.slice A5 l5 c5)).trans ((kput4 (w5.setCell ⟨w.heap.size,3,none⟩ (.slice A5 l5 c5)) (w.heap.size+2) (.int .i64 t.kind) (.string t.name) (.int .i64 (es.size:Int)) (.slice A5 l5 c5)).wider (fun k _ e=>.inr e))
   clear x0 x1 x2 x3 fx3 r0 r1 r2 r3 fr0 fr1 fr2 fr3 hr'
   generalize (((((w5.setCell ⟨w.heap.size,3,none⟩ (.slice A5 l5 c5)).setCell ⟨w.heap.size+2,0,none⟩ (.int .i64 t.kind)).setCell ⟨w.heap.size+2,1,none⟩ (.string t.name)).setCell ⟨w.heap.size+2,2,none⟩ (.int .i64 (es.size:Int))).setCell ⟨w.heap.size+2,3,none⟩ (.slice A5 l5 c5))=W at hq2 hk2 ⊢
   have c0:=(cellH hq2 0).trans rfl
   have c1:=(cellH hq2 1).trans rfl
   have c2':=(cellH hq2 2).trans rfl
   have c3:=(cellH hq2 3).trans rfl
   have hml:=HML.out
   refine bodyPost_ret (v:=.agg #[.int .i64 t.kind,.string t.name,.int .i64 (es.size:Int),.slice A5 l5 c5]) (by simp [results,Tryd.results53,go_sem,c0,c1,c2',c3]) rfl ⟨_,rfl,?_,?_,?_⟩
   ·rw [HEQ.out]
    obtain ⟨D,hD⟩:=rowE (RowW.step TyE.step _ Vol _ _ _ _ HV5.out (hk2.wider (fun k _ e=>.inr e)) (fun k _ e=>.inl e))
    exact ⟨D+1,_,rfl,hD⟩
   ·rw [HEQ.out]
    exact HM5.out.kb hk2 (by omega)
   ·exact HK5.out.join hk2 (fun j hj e=>by omega)
 ·have e4:(t.kind == 4)=false:=by simpa using k4
  have HGA:Hid (goodTs m t.args):=Lib.hid (good_args gt k4)
  have hpl:pl met t=((pls met t.args).1,.mk t.kind t.name t.var (pls met t.args).2):=by
   obtain ⟨k,s,n,l⟩:=t
   exact pl_ne met s n l k4
  have HLEN1:Hid (met.length+sizeTs t.args≤1000000):=Lib.hid (by
   have h1:=HLN.out
   obtain ⟨k,s,n,l⟩:=t
   rw [sizeT] at h1
   show met.length+sizeTs l≤_
   omega)
  have HPL:=Lib.hid hpl
  clear gt k4 hpl
  go_enter Tryd.func53,Tryd.ntmps53
  go_upto_region 1 with fail
  generalize (((w.alloc (.cells #[.int .i64 t.kind,.string t.name,.int .i64 t.var,.slice A t.args.length c] 32)).alloc (.cells #[.map (some mp)] 90)).alloc (.cells #[.int .i64 0,.string ⟨#[]⟩,.int .i64 0,.slice none 0 0] 32))=Y at HB HY0 HY1 HY2 HVY HMY HSZY ⊢
  have a0:=(cellH HY0.out 0).trans rfl
  have a1:=(cellH HY0.out 1).trans rfl
  have a2:=(cellH HY0.out 2).trans rfl
  have a3:=(cellH HY0.out 3).trans rfl
  have f2:=frozenH HY0.out 2
  have m0:=(cellH HY1.out 0).trans rfl
  go_wp2_with fail
  have HSZ:=HSZY
  have HZ0:=HY0
  have HZ1:=HY1
  have HZ2:=HY2
  have HVZ:=HVY
  have HMZ:=HMY
  have HKZ:=Lib.hid (Kb.of_below (S:=fun k=>k=mp) HB.out)
  have hpl:=HPL.out
  have HEQ:=Lib.hid hpl
  clear hpl
  refine (eachRen d (w.heap.size+1) (Lib.hid (clo_ren d (Lib.hid (HC.out d (Nat.le_refl _))))) (fun k=>Vol k ∨ k=w.heap.size ∨ k=w.heap.size+2) mp met t.args _ Y HVZ.out HGA.out HMZ.out (.inl HMP.out) (HVL3.out Y HSZ.out) HLEN1.out HZ1.out HNX.out).mono ?_
  rintro e w5 ⟨v5,rfl,hv5,hm5,hk5⟩
  obtain ⟨A5,c5,hve⟩:=hv5.slice
  generalize hl5:(pls met t.args).2.length=l5 at hve
  subst hve
  have HV5:=Lib.hid hv5
  have HM5:=Lib.hid hm5
  have HB5:=Lib.hid ((hk5.block w.heap.size (by have:=HSZ.out;omega) (by have:=HML.out;omega)).trans HZ0.out)
  have HR5:=Lib.hid ((hk5.block (w.heap.size+2) (by have:=HSZ.out;omega) (by have:=HML.out;omega)).trans HZ2.out)
  have HK5:=Lib.hid (HKZ.out.trans hk5)
  have HSZ5:=Lib.hid (show w.heap.size+3≤w5.heap.size by have:=HSZ.out;have:=hk5.size;omega)
  clear hv5 hm5 hk5 hl5 a0 a1 a2 a3 m0 f2
  have x0:=(cellH HB5.out 0).trans rfl
  have x1:=(cellH HB5.out 1).trans rfl
  have x2:=(cellH HB5.out 2).trans rfl
  have x3:=(cellH HB5.out 3).trans rfl
  have fx3:=frozenH HB5.out 3
  have r0:=(cellH HR5.out 0).trans rfl
  have r1:=(cellH HR5.out 1).trans rfl
  have r2:=(cellH HR5.out 2).trans rfl
  have r3:=(cellH HR5.out 3).trans rfl
  have fr0:=frozenH HR5.out 0
  have fr1:=frozenH HR5.out 1
  have fr2:=frozenH HR5.out 2
  have fr3:=frozenH HR5.out 3
  go_wp2_with fail
  have hr':=(Below.heap_setCell w5 ⟨w.heap.size,3,none⟩ (.slice A5 l5 c5) (w.heap.size+2) (by show w.heap.size+2 ≠ w.heap.size;omega)).trans HR5.out
  have hq2:=put4 (.int .i64 t.kind) (.string t.name) (.int .i64 t.var) (.slice A5 l5 c5) hr'
  have hk2:=((Kb.refl (fun j=>j=w.heap.size ∨ j=w.heap.size+2) w5).put (p:=⟨w.heap.size,3,none⟩) (.inl rfl) (.slice A5 l5 c5)).trans ((kput4 (w5.setCell ⟨w.heap.size,3,none⟩ (.slice A5 l5 c5)) (w.heap.size+2) (.int .i64 t.kind) (.string t.name) (.int .i64 t.var) (.slice A5 l5 c5)).wider (fun k _ e=>.inr e))
  clear x0 x1 x2 x3 fx3 r0 r1 r2 r3 fr0 fr1 fr2 fr3 hr'
  generalize (((((w5.setCell ⟨w.heap.size,3,none⟩ (.slice A5 l5 c5)).setCell ⟨w.heap.size+2,0,none⟩ (.int .i64 t.kind)).setCell ⟨w.heap.size+2,1,none⟩ (.string t.name)).setCell ⟨w.heap.size+2,2,none⟩ (.int .i64 t.var)).setCell ⟨w.heap.size+2,3,none⟩ (.slice A5 l5 c5))=W at hq2 hk2 ⊢
  have c0:=(cellH hq2 0).trans rfl
  have c1:=(cellH hq2 1).trans rfl
  have c2':=(cellH hq2 2).trans rfl
  have c3:=(cellH hq2 3).trans rfl
  have hml:=HML.out
  refine bodyPost_ret (v:=.agg #[.int .i64 t.kind,.string t.name,.int .i64 t.var,.slice A5 l5 c5]) (by simp [results,Tryd.results53,go_sem,c0,c1,c2',c3]) rfl ⟨_,rfl,?_,?_,?_⟩
  ·rw [HEQ.out]
   obtain ⟨D,hD⟩:=rowE (RowW.step TyE.step _ Vol _ _ _ _ HV5.out (hk2.wider (fun k _ e=>.inr e)) (fun k _ e=>.inl e))
   exact ⟨D+1,_,rfl,hD⟩
  ·rw [HEQ.out]
   exact HM5.out.kb hk2 (by omega)
  ·exact HK5.out.join hk2 (fun j hj e=>by omega)
theorem ren_any (hms:m≤1000000):∀ d,RenC m d
 | 0=>fun _ _ _ _ _ _ h _ _ _ _ _=>by exact h.elim
 | d+1=>ren_step hms d (Lib.hid (fun d' _=>ren_any hms d'))
set_option maxRecDepth 100000 in
/-- Plain of types without strange unknowns. -/
theorem plain_any (hms:m≤1000000) (d:Nat) (Vol:Nat→Prop) (l:List TyT) (v:Value) (w:World) (hv:RowW 4 (TyW d) Vol l v w) (gt:goodTs m l) (hvl:∀ k,Vol k→k < w.heap.size) (hlen:sizeTs l≤1000000) :
  Calls Tryd.prog 28 #[v] w fun e w'=>∃ v',e=.returned v'∧RowW 4 TyE Vol (pls [] l).2 v' w'∧Below w.heap.size w w':=by
 obtain ⟨A,c,rfl⟩:=hv.slice
 have hb1:Below w.heap.size w (w.alloc (.map #[] 0)):=below_alloc _ _
 have hz1:(w.alloc (.map #[] 0)).heap.size=w.heap.size+1:=by simp
 have hm1:MetB w.heap.size [] (w.alloc (.map #[] 0)):=⟨by rw [show entM []=[] from rfl];exact MapB.made w,List.nodup_nil,by simp⟩
 have hb2:=below_alloc (w.alloc (.map #[] 0)) (.cells #[.map (some w.heap.size)] 90)
 have hX:=heap_alloc_new (w.alloc (.map #[] 0)) (.cells #[.map (some w.heap.size)] 90)
 have hb:=hb1.trans (hb2.mono hb1.size)
 rw [hz1] at hX
 have HE:=Lib.hid (eachPlain d (w.heap.size+1) (Lib.hid (clo_plain d (Lib.hid (ren_any hms d)))) (fun k=>Vol k ∨ k=w.heap.size) w.heap.size [] l _ _ (RowW.step (TyW.step d) _ (fun k=>Vol k ∨ k=w.heap.size) _ _ _ _ hv (Kb.of_below hb) (fun k hk e=>e.elim id (fun e=>by omega))) gt (hm1.below hb2) (.inr rfl) (fun k e=>by
  have:=hb2.size
  rcases e with e | e
  ·have:=hvl k e;omega
  ·omega) (by simpa using hlen) hX (fun e=>by
  rcases e with e | e
  ·have:=hvl _ e;omega
  ·omega))
 have HB:=Lib.hid hb
 clear hv gt hlen hb1 hz1 hm1 hb2 hX hb
 have hmm:=@run_makeMap Tryd.prog
 go_enter Tryd.func28,Tryd.ntmps28
 go_wp2_with fail
 refine HE.out.mono ?_
 rintro e w5 ⟨v5,rfl,hv5,hm5,hk5⟩
 have HV5:=Lib.hid (RowW.step TyE.step _ Vol _ _ _ _ hv5 (Kb.refl _ _) (fun k _ e=>.inl e))
 have HB5:=Lib.hid (HB.out.trans (hk5.below (by have:=HB.out.size;omega) (fun k e=>by omega)))
 clear hv5 hm5 hk5
 go_wp2_with fail
 go_ret
 exact ⟨_,rfl,HV5.out,HB5.out⟩
end
end Lx
end Go.Proofs.YtiamniljgdjakaaDoor
