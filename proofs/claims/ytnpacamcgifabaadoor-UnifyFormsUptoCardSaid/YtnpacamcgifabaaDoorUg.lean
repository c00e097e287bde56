/- Package unify: own: a copy with the fields of its kind alone. Conditions: each list of arguments is one that memory holds. -/
import Derived.Test.YtnpacamcgifabaaDoorUf
import Derived.Deep.RegionWith
import Derived.Deep.Cut
namespace Go.Proofs.YtnpacamcgifabaaDoor
set_option linter.unusedSimpArgs false
set_option linter.unusedVariables false
namespace Lx
open Go Go.RowKit
mutual
def fewT:TyT→Prop
 | .mk _ _ _ l=>l.length * 56≤140737488355328∧fewTs l
def fewTs:List TyT→Prop
 | []=>True
 | x :: l=>fewT x∧fewTs l
end
theorem fewTs_mem:∀ {l:List TyT},fewTs l→∀ {k:Nat} (h:k < l.length),fewT l[k]
 | [],_,k,h=>by simp at h
 | x :: l,hf,0,_=>hf.1
 | x :: l,hf,k+1,h=>fewTs_mem hf.2 (by simpa using h)
theorem infoTy:(Tryd.prog.info? 32).map (fun i=>(i.zero,i.size,i.bytes))=some (some (.agg #[.int .i64 0,.string ⟨#[]⟩,.int .i64 0,.slice none 0 0]),4,56):=by kernel_rfl
/-- What a change of types makes of one, in new blocks. -/
def OwnC (d:Nat):Prop:=∀ (Vol:Nat→Prop) (x:TyT) (v:Value) (w:World),TyW d Vol x v w→fewT x→(∀ k,Vol k→k < w.heap.size)→Calls Tryd.prog 51 #[v] w fun e w'=>∃ v',e=.returned v'∧TyW d Vol (cleanT x) v' w'∧Below w.heap.size w w'
set_option maxRecDepth 100000 in
set_option maxHeartbeats 2000000 in
theorem eachOwn (d:Nat) (HC:Hid (OwnC d)) (Vol:Nat→Prop) (l:List TyT) (v:Value) (w:World) (hv:RowW 4 (TyW d) Vol l v w) (hl:l.length * 56≤140737488355328) (hf:fewTs l) (hvl:∀ k,Vol k→k < w.heap.size) :
  Calls Tryd.prog 67 #[v,.func (.func 51) #[] #[]] w fun e w'=>∃ v',e=.returned v'∧RowW 4 (TyW d) Vol (cleanTs l) v' w'∧Below w.heap.size w w':=by
 obtain ⟨A,c,rfl⟩:=hv.slice
 have HV:=Lib.hid hv
 have HVL:=Lib.hid hvl
 have HFW:=Lib.hid hf
 clear hf hvl
 obtain ⟨i0,hi0,hz0,hz1,hz2⟩:=info_parts infoTy
 have HI0:=Lib.hid hi0
 have HI1:=Lib.hid hz0
 have HI2:=Lib.hid hz1
 have HI3:=Lib.hid hz2
 clear hi0 hz0 hz1 hz2 hv
 go_enter Tryd.func67,Tryd.ntmps67
 go_wp2_with fail
 go_loopw [5,10] (fun v t wr=>∃ (k:Nat) (s:Option Addr) (cap:Nat) (vs:List Value),k≤l.length∧t=.int .i64 k∧v=.slice s k cap∧Hid (RowG 32 4 (TyW d) Vol w wr s cap (cleanTs (l.take k)) vs)) (fun _ t _=>l.length - (intOf t).toNat)
 case atStart=>exact ⟨0,none,0,[],Nat.zero_le _,rfl,rfl,Lib.hid (by rw [List.take_zero,cleanTs];exact RowG.start Vol w)⟩
 case round =>
  obtain ⟨k,s,cap,vs,hk,rfl,rfl,HR⟩:=hrel
  have hlk:(cleanTs (l.take k)).length=k:=by rw [cleanTs_map,List.length_map,List.length_take];omega
  have HLK:=Lib.hid hlk
  by_cases hlt:k < l.length
  ·obtain ⟨g,o,vi,rfl,hg,_,hvi,hc⟩:=RowW.at (RowW.step (TyW.step d) Vol (fun k=>Vol k ∨ s=some ⟨k,0,none⟩) _ _ _ _ HV.out (Kb.of_below HR.out.below) (fun j hj e=>e.elim id (fun e=>by have:=(HR.out.own.lt j (by rw [e];rfl)).1;omega))) k hlt
   obtain ⟨B1,n1,c1,rfl⟩:=hvi.this
   have a0:=(hc 0 (by decide)).trans rfl
   have a1:=(hc 1 (by decide)).trans rfl
   have a2:=(hc 2 (by decide)).trans rfl
   have a3:=(hc 3 (by decide)).trans rfl
   simp only [cellsL,Value.cells,List.getElem?_cons_zero,List.getElem?_cons_succ,Nat.add_zero] at a0 a1 a2 a3
   have hk0:(0:Int)≤(k:Int):=by omega
   have hk1:(k:Int) < (l.length:Int):=by omega
   have hdc:decide (k < l.length)=true:=by simpa using hlt
   have HTK:=Lib.hid (show cleanTs (l.take (k+1))=cleanTs (l.take k)++[cleanT l[k]] by rw [List.take_succ_eq_append_getElem hlt,cleanTs_map,cleanTs_map,List.map_append,List.map_singleton])
   have HBZ:=Lib.hid (below_alloc wr (.cells #[.int .i64 l[k].kind,.string l[k].name,.int .i64 l[k].var,.slice B1 n1 c1] 32))
   have HMN:=Lib.hid (HR.out.mine HVL.out)
   have HX:=Lib.hid (HC.out _ l[k] _ _ ((TyW.step d).below hvi HBZ.out) (fewTs_mem HFW.out hlt) (fun k e=>Nat.lt_of_lt_of_le (HMN.out k e) HBZ.out.size))
   clear hc hvi hlk
   generalize l[k]=x at *
   go_wp2_with (first
    | (go_at_call 51;refine HX.out.mono ?_;rintro e w4 ⟨v4,rfl,hv4,hb4⟩;obtain ⟨y5,y6,y7,hv4e⟩:=hv4.this;generalize hkk:(cleanT x).kind=z0 at hv4e;generalize hnn:(cleanT x).name=z1 at hv4e;generalize hvv:(cleanT x).var=z2 at hv4e;subst hv4e;clear hkk hnn hvv;have HV4:=Lib.hid hv4;have HB4:=Lib.hid (HBZ.out.trans (hb4.mono HBZ.out.size));have HO4:=Lib.hid (own_belowN HR.out.own HB4.out);have hs4:=HR.out.below.size;have hs5:=HB4.out.size;rw [HLK.out] at HO4;clear hv4 hb4)
    | (at_builtin;refine wpList_append_lies _ rfl _ _ 27 rfl w.heap.size 32 i0 (.agg #[.int .i64 0,.string ⟨#[]⟩,.int .i64 0,.slice none 0 0]) 4 56 Tryd.underlying27 HI0.out HI1.out HI2.out HI3.out rfl (by decide) _ _ _ rfl (HO4.out.alloc _) ⟨w4.heap.size,0,none⟩ 1 1 [.int .i64 z0,.string z1,.int .i64 z2,.slice y5 y6 y7] rfl rfl (cells_new _ #[.int .i64 z0,.string z1,.int .i64 z2,.slice y5 y6 y7] _ _ rfl) (by simp [Value.oneCell']) (by decide) (by unfold maxLen;omega) (by omega) (by simp;omega) _ rfl ?_;intro g2 cap2 w6 hown6 hg6 hat6 _;have HO6:=Lib.hid hown6;have HG6:=Lib.hid hg6;have HA6:=Lib.hid hat6;clear hown6 hg6 hat6))
   have HNX:Hid (RowG 32 4 (TyW d) Vol w w6 (some ⟨g2,0,none⟩) cap2 (cleanTs (l.take (k+1))) (vs++[Value.agg #[.int .i64 z0,.string z1,.int .i64 z2,.slice y5 y6 y7]])):=Lib.hid (by
    rw [HTK.out]
    exact HR.out.snoc (TyW.step d) HVL.out HB4.out HV4.out (by rw [HLK.out];exact HO6.out) (by rw [HLK.out];exact HG6.out) (by rw [HLK.out];exact HA6.out))
   go_roundw
   case rel=>exact ⟨k+1,some ⟨g2,0,none⟩,cap2,_,by omega,by go_num,rfl,HNX⟩
   case measure=>simp [intOf];omega
  ·obtain rfl:k=l.length:=by omega
   have hdc:decide (l.length < l.length)=false:=by simp
   rw [List.take_length] at HR
   go_wp2_with fail
   go_ret
   refine ⟨_,rfl,?_,HR.out.below⟩
   have h1:=HR.out.held (TyW.step d) tyCells HVL.out
   rw [show (cleanTs l).length=l.length by rw [cleanTs_map,List.length_map]] at h1
   exact h1
set_option maxRecDepth 100000 in
set_option maxHeartbeats 4000000 in
theorem own_step (d:Nat) (HC:Hid (OwnC d)):OwnC (d+1):=by
 rintro Vol ⟨k,s,n,l⟩ v w ⟨va,rfl,hr⟩ hf hvl
 obtain ⟨A1,c1,rfl⟩:=hr.slice
 by_cases k2:k=2
 ·subst k2
  have HB0:=Lib.hid (show Below w.heap.size w ((w.alloc (.cells #[.int .i64 2,.string s,.int .i64 n,.slice A1 l.length c1] 32)).alloc (.cells #[.int .i64 0,.string ⟨#[]⟩,.int .i64 0,.slice none 0 0] 32)) from (below_alloc _ _).alloc (by simp) _)
  have HW0:=Lib.hid ((Below.heap_alloc (w.alloc (.cells #[.int .i64 2,.string s,.int .i64 n,.slice A1 l.length c1] 32)) (.cells #[.int .i64 0,.string ⟨#[]⟩,.int .i64 0,.slice none 0 0] 32) w.heap.size (by simp)).trans (heap_alloc_new w (.cells #[.int .i64 2,.string s,.int .i64 n,.slice A1 l.length c1] 32)))
  have hz:(w.alloc (.cells #[.int .i64 2,.string s,.int .i64 n,.slice A1 l.length c1] 32)).heap.size=w.heap.size+1:=by simp
  have HW1:=Lib.hid (heap_alloc_new (w.alloc (.cells #[.int .i64 2,.string s,.int .i64 n,.slice A1 l.length c1] 32)) (.cells #[.int .i64 0,.string ⟨#[]⟩,.int .i64 0,.slice none 0 0] 32))
  rw [hz] at HW1
  have hz2:((w.alloc (.cells #[.int .i64 2,.string s,.int .i64 n,.slice A1 l.length c1] 32)).alloc (.cells #[.int .i64 0,.string ⟨#[]⟩,.int .i64 0,.slice none 0 0] 32)).heap.size=w.heap.size+2:=by simp
  have HX:Hid (∀ W,Below w.heap.size w W→w.heap.size+1 < W.heap.size→Calls Tryd.prog 67 #[.slice A1 l.length c1,.func (.func 51) #[] #[]] W fun e w'=>∃ v',e=.returned v'∧RowW 4 (TyW d) (fun k=>Vol k ∨ k=w.heap.size+1) (cleanTs l) v' w'∧Below W.heap.size W w'):=Lib.hid (fun W hb h1=>eachOwn d HC (fun k=>Vol k ∨ k=w.heap.size+1) l _ W (RowW.step (TyW.step d) _ _ _ _ _ _ hr (Kb.of_below hb) (fun k hk e=>e.elim id (fun e=>by omega))) hf.1 hf.2 (fun k e=>e.elim (fun e=>Nat.lt_of_lt_of_le (hvl k e) hb.size) (fun e=>by omega)))
  clear hr hf
  have HA:=HW0
  have HR:=HW1
  have HZ2:=Lib.hid hz2
  clear hz hz2 HW0 HW1
  go_enter Tryd.func51,Tryd.ntmps51
  go_upto_region 3 with fail
  generalize ((w.alloc (.cells #[.int .i64 2,.string s,.int .i64 n,.slice A1 l.length c1] 32)).alloc (.cells #[.int .i64 0,.string ⟨#[]⟩,.int .i64 0,.slice none 0 0] 32))=Z at HA HR HZ2 HB0 ⊢
  have HA:Hid (Z.drew.heap[w.heap.size]?=_):=HA
  have HR:Hid (Z.drew.heap[w.heap.size+1]?=_):=HR
  have HZ2:Hid (Z.drew.heap.size=_):=HZ2
  have HB0:=Lib.hid (below_drw HB0.out)
  have a0:=(cellH HA.out 0).trans rfl
  have a1:=(cellH HA.out 1).trans rfl
  have a3:=(cellH HA.out 3).trans rfl
  go_region_with (go_at_call 67;refine (HX.out _ HB0.out (by have:=HZ2.out;omega)).mono ?_;rintro e wA ⟨vA,rfl,hvA,hbA⟩;obtain ⟨r1,r3,hve⟩:=hvA.slice;have HLN:=Lib.hid (show (cleanTs l).length=(cleanTs l).length from rfl);generalize (cleanTs l).length=r2 at hve HLN;subst hve;have HVA:=Lib.hid hvA;have HBA:=Lib.hid hbA;have HAA:=Lib.hid ((hbA.block w.heap.size (by have:=HZ2.out;omega)).trans HA.out);have HRA:=Lib.hid ((hbA.block (w.heap.size+1) (by have:=HZ2.out;omega)).trans HR.out);have HB1:=Lib.hid (HB0.out.trans (hbA.mono HB0.out.size));have HSA:=Lib.hid hbA.size;have c0:=(cellH HAA.out 0).trans rfl;have c1':=(cellH HAA.out 1).trans rfl;have g0:=(cellH HRA.out 0).trans rfl;have g1:=(cellH HRA.out 1).trans rfl;have g2:=(cellH HRA.out 2).trans rfl;have g3:=(cellH HRA.out 3).trans rfl;have h0:=frozenH HRA.out 0;have h1:=frozenH HRA.out 1;have h2:=frozenH HRA.out 2;have h3:=frozenH HRA.out 3;clear hvA hbA)
  all_goals
   go_wp2_with fail
   clear g0 g1 g2 g3 h0 h1 h2 h3
   have hk:=kput4 wA (w.heap.size+1) (.int .i64 2) (.string s) (.int .i64 0) (.slice r1 r2 r3)
   have hq:=put4 (.int .i64 2) (.string s) (.int .i64 0) (.slice r1 r2 r3) HRA.out
   generalize ((((wA.setCell ⟨w.heap.size+1,0,none⟩ (.int .i64 2)).setCell ⟨w.heap.size+1,1,none⟩ (.string s)).setCell ⟨w.heap.size+1,2,none⟩ (.int .i64 0)).setCell ⟨w.heap.size+1,3,none⟩ (.slice r1 r2 r3))=W at hk hq ⊢
   have c0:=(cellH hq 0).trans rfl
   have c1:=(cellH hq 1).trans rfl
   have c2:=(cellH hq 2).trans rfl
   have c3:=(cellH hq 3).trans rfl
   have z2:=HZ2.out
   have za:=HSA.out
   refine bodyPost_ret (v:=.agg #[.int .i64 2,.string s,.int .i64 0,.slice r1 r2 r3]) (by simp [results,Tryd.results51,go_sem,c0,c1,c2,c3]) rfl ⟨_,rfl,?_,?_⟩
   ·rw [cleanT,if_pos rfl]
    exact ⟨_,rfl,RowW.step (TyW.step d) _ _ _ _ _ _ HVA.out (hk.wider (fun k _ e=>.inr e)) (fun k _ e=>.inl e)⟩
   ·exact HB1.out.trans (hk.below (by omega) (fun j e=>by omega))
 ·have hz:∀ o:Obj,((w.alloc o).heap.size)=w.heap.size+1:=fun o=>by simp
  have HB:=Lib.hid (fun (a b:Obj)=>((below_alloc w a).alloc (by simp) b:Below w.heap.size w ((w.alloc a).alloc b)))
  clear hr
  by_cases k3:k=3
  ·subst k3
   go_enter Tryd.func51,Tryd.ntmps51
   go_wp2_with fail
   exact bodyPost_ret (v:=.agg #[.int .i64 3,.string s,.int .i64 0,.slice none 0 0]) (by simp [results,Tryd.results51,go_sem]) rfl ⟨_,rfl,by rw [cleanT];exact ⟨_,rfl,RowW.nil _ _⟩,HB.out _ _⟩
  ·by_cases k4:k=4
   ·subst k4
    go_enter Tryd.func51,Tryd.ntmps51
    go_wp2_with fail
    exact bodyPost_ret (v:=.agg #[.int .i64 4,.string ⟨#[]⟩,.int .i64 n,.slice none 0 0]) (by simp [results,Tryd.results51,go_sem]) rfl ⟨_,rfl,by rw [cleanT];exact ⟨_,rfl,RowW.nil _ _⟩,HB.out _ _⟩
   ·have e2:(k == 2)=false:=by simpa using k2
    have e3:(k == 3)=false:=by simpa using k3
    have e4:(k == 4)=false:=by simpa using k4
    go_enter Tryd.func51,Tryd.ntmps51
    go_wp2_with fail
    exact bodyPost_ret (v:=.agg #[.int .i64 k,.string ⟨#[]⟩,.int .i64 0,.slice none 0 0]) (by simp [results,Tryd.results51,go_sem]) rfl ⟨_,rfl,by rw [cleanT,if_neg k2,if_neg k3,if_neg k4];exact ⟨_,rfl,RowW.nil _ _⟩,HB.out _ _⟩
theorem own_any:∀ d,OwnC d
 | 0=>fun _ _ _ _ h=>h.elim
 | d+1=>own_step d (Lib.hid (own_any d))
end Lx
end Go.Proofs.YtnpacamcgifabaaDoor
