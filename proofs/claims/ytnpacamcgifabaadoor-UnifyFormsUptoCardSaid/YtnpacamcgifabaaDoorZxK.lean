/- The program: copyOf; Instance. Conditions: each list of arguments is one that memory holds. -/
/- The program: Instance: a declared type at types for its variables. Conditions: the declared types have at most two million nodes in all. -/
/- The program: Instance of a declared type. Conditions: as Zl's. -/
/- The reference: Instance of a declared type. Conditions: the declared type has at most two million nodes. -/
import Derived.Test.YtnpacamcgifabaaDoorZxH
import Derived.Deep.RegionHeld3
import Derived.Deep.Cut
namespace Go.Proofs.YtnpacamcgifabaaDoor
set_option linter.unusedSimpArgs false
set_option linter.unusedVariables false
namespace Lx
open Go Go.RowKit
/-- A copy that shares nothing. -/
def CopyC (d:Nat):Prop:=∀ (Vol:Nat→Prop) (x:TyT) (v:Value) (w:World),TyW d Vol x v w→fewT x→(∀ k,Vol k→k < w.heap.size)→Calls Tryd.prog 61 #[v] w fun e w'=>∃ v',e=.returned v'∧TyW d Vol x v' w'∧Below w.heap.size w w'
set_option maxRecDepth 100000 in
set_option maxHeartbeats 2000000 in
theorem eachCopy (d:Nat) (HC:Hid (CopyC d)) (Vol:Nat→Prop) (l:List TyT) (v:Value) (w:World) (hv:RowW 4 (TyW d) Vol l v w) (hl:l.length * 56≤140737488355328) (hf:fewTs l) (hvl:∀ k,Vol k→k < w.heap.size) :
  Calls Tryd.prog 67 #[v,.func (.func 61) #[] #[]] w fun e w'=>∃ v',e=.returned v'∧RowW 4 (TyW d) Vol l v' w'∧Below w.heap.size w w':=by
 obtain ⟨A,c,rfl⟩:=hv.slice
 have HV:=Lib.hid hv
 have HVL:=Lib.hid hvl
 have HFW:=Lib.hid hf
 clear hf hvl
 obtain ⟨i0,hi0,hz0,hz1,hz2⟩:=info_parts infoTy
 have HI0:=Lib.hid hi0
 have HI1:=Lib.hid hz0
 have HI2:=Lib.hid hz1
 have HI3:=Lib.hid hz2
 clear hi0 hz0 hz1 hz2 hv
 go_enter Tryd.func67,Tryd.ntmps67
 go_wp2_with fail
 go_loopw [5,10] (fun v t wr=>∃ (k:Nat) (s:Option Addr) (cap:Nat) (vs:List Value),k≤l.length∧t=.int .i64 k∧v=.slice s k cap∧Hid (RowG 32 4 (TyW d) Vol w wr s cap (l.take k) vs)) (fun _ t _=>l.length - (intOf t).toNat)
 case atStart=>exact ⟨0,none,0,[],Nat.zero_le _,rfl,rfl,Lib.hid (by rw [List.take_zero];exact RowG.start Vol w)⟩
 case round =>
  obtain ⟨k,s,cap,vs,hk,rfl,rfl,HR⟩:=hrel
  have hlk:(l.take k).length=k:=by rw [List.length_take];omega
  have HLK:=Lib.hid hlk
  by_cases hlt:k < l.length
  ·obtain ⟨g,o,vi,rfl,hg,_,hvi,hc⟩:=RowW.at (RowW.step (TyW.step d) Vol (fun k=>Vol k ∨ s=some ⟨k,0,none⟩) _ _ _ _ HV.out (Kb.of_below HR.out.below) (fun j hj e=>e.elim id (fun e=>by have:=(HR.out.own.lt j (by rw [e];rfl)).1;omega))) k hlt
   obtain ⟨B1,n1,c1,rfl⟩:=hvi.this
   have a0:=(hc 0 (by decide)).trans rfl
   have a1:=(hc 1 (by decide)).trans rfl
   have a2:=(hc 2 (by decide)).trans rfl
   have a3:=(hc 3 (by decide)).trans rfl
   simp only [cellsL,Value.cells,List.getElem?_cons_zero,List.getElem?_cons_succ,Nat.add_zero] at a0 a1 a2 a3
   have hk0:(0:Int)≤(k:Int):=by omega
   have hk1:(k:Int) < (l.length:Int):=by omega
   have hdc:decide (k < l.length)=true:=by simpa using hlt
   have HTK:=Lib.hid (show l.take (k+1)=l.take k++[l[k]] from List.take_succ_eq_append_getElem hlt)
   have HBZ:=Lib.hid (below_alloc wr (.cells #[.int .i64 l[k].kind,.string l[k].name,.int .i64 l[k].var,.slice B1 n1 c1] 32))
   have HMN:=Lib.hid (HR.out.mine HVL.out)
   have HX:=Lib.hid (HC.out _ l[k] _ _ ((TyW.step d).below hvi HBZ.out) (fewTs_mem HFW.out hlt) (fun k e=>Nat.lt_of_lt_of_le (HMN.out k e) HBZ.out.size))
   clear hc hvi hlk
   generalize hxx:l[k]=x at HTK HBZ HX a0 a1 a2 ⊢
   go_wp2_with (first
    | (go_at_call 61;refine HX.out.mono ?_;rintro e w4 ⟨v4,rfl,hv4,hb4⟩;obtain ⟨y5,y6,y7,hv4e⟩:=hv4.this;generalize hkk:x.kind=z0 at hv4e;generalize hnn:x.name=z1 at hv4e;generalize hvv:x.var=z2 at hv4e;subst hv4e;clear hkk hnn hvv;have HV4:=Lib.hid hv4;have HB4:=Lib.hid (HBZ.out.trans (hb4.mono HBZ.out.size));have HO4:=Lib.hid (own_belowN HR.out.own HB4.out);have hs4:=HR.out.below.size;have hs5:=HB4.out.size;rw [HLK.out] at HO4;clear hv4 hb4)
    | (at_builtin;refine wpList_append_lies _ rfl _ _ 27 rfl w.heap.size 32 i0 (.agg #[.int .i64 0,.string ⟨#[]⟩,.int .i64 0,.slice none 0 0]) 4 56 Tryd.underlying27 HI0.out HI1.out HI2.out HI3.out rfl (by decide) _ _ _ rfl (HO4.out.alloc _) ⟨w4.heap.size,0,none⟩ 1 1 [.int .i64 z0,.string z1,.int .i64 z2,.slice y5 y6 y7] rfl rfl (cells_new _ #[.int .i64 z0,.string z1,.int .i64 z2,.slice y5 y6 y7] _ _ rfl) (by simp [Value.oneCell']) (by decide) (by unfold maxLen;omega) (by omega) (by simp;omega) _ rfl ?_;intro g2 cap2 w6 hown6 hg6 hat6 _;have HO6:=Lib.hid hown6;have HG6:=Lib.hid hg6;have HA6:=Lib.hid hat6;clear hown6 hg6 hat6))
   have HNX:Hid (RowG 32 4 (TyW d) Vol w w6 (some ⟨g2,0,none⟩) cap2 (l.take (k+1)) (vs++[Value.agg #[.int .i64 z0,.string z1,.int .i64 z2,.slice y5 y6 y7]])):=Lib.hid (by
    rw [HTK.out]
    exact HR.out.snoc (TyW.step d) HVL.out HB4.out HV4.out (by rw [HLK.out];exact HO6.out) (by rw [HLK.out];exact HG6.out) (by rw [HLK.out];exact HA6.out))
   go_roundw
   case rel=>exact ⟨k+1,some ⟨g2,0,none⟩,cap2,_,by omega,by go_num,rfl,HNX⟩
   case measure=>simp [intOf];omega
  ·obtain rfl:k=l.length:=by omega
   have hdc:decide (l.length < l.length)=false:=by simp
   rw [List.take_length] at HR
   go_wp2_with fail
   go_ret
   refine ⟨_,rfl,?_,HR.out.below⟩
   have h1:=HR.out.held (TyW.step d) tyCells HVL.out
   exact h1
set_option maxRecDepth 100000 in
set_option maxHeartbeats 4000000 in
theorem copy_step (d:Nat) (HC:Hid (CopyC d)):CopyC (d+1):=by
 rintro Vol ⟨k,s,n,l⟩ v w ⟨va,rfl,hr⟩ hf hvl
 obtain ⟨A1,c1,rfl⟩:=hr.slice
 have HB0:=Lib.hid (show Below w.heap.size w ((w.alloc (.cells #[.int .i64 k,.string s,.int .i64 n,.slice A1 l.length c1] 32)).alloc (.cells #[.int .i64 0,.string ⟨#[]⟩,.int .i64 0,.slice none 0 0] 32)) from (below_alloc _ _).alloc (by simp) _)
 have HW0:=Lib.hid ((Below.heap_alloc (w.alloc (.cells #[.int .i64 k,.string s,.int .i64 n,.slice A1 l.length c1] 32)) (.cells #[.int .i64 0,.string ⟨#[]⟩,.int .i64 0,.slice none 0 0] 32) w.heap.size (by simp)).trans (heap_alloc_new w (.cells #[.int .i64 k,.string s,.int .i64 n,.slice A1 l.length c1] 32)))
 have hz:(w.alloc (.cells #[.int .i64 k,.string s,.int .i64 n,.slice A1 l.length c1] 32)).heap.size=w.heap.size+1:=by simp
 have HW1:=Lib.hid (heap_alloc_new (w.alloc (.cells #[.int .i64 k,.string s,.int .i64 n,.slice A1 l.length c1] 32)) (.cells #[.int .i64 0,.string ⟨#[]⟩,.int .i64 0,.slice none 0 0] 32))
 rw [hz] at HW1
 have HZ2:=Lib.hid (show ((w.alloc (.cells #[.int .i64 k,.string s,.int .i64 n,.slice A1 l.length c1] 32)).alloc (.cells #[.int .i64 0,.string ⟨#[]⟩,.int .i64 0,.slice none 0 0] 32)).heap.size=w.heap.size+2 by simp)
 have HX:=Lib.hid (eachCopy d HC (fun k=>Vol k ∨ k=w.heap.size ∨ k=w.heap.size+1) l _ _ (RowW.step (TyW.step d) _ _ _ _ _ _ hr (Kb.of_below HB0.out) (fun k hk e=>e.elim id (fun e=>by omega))) hf.1 hf.2 (fun k e=>by
  have hz2:=HZ2.out
  rcases e with e | e
  ·have:=hvl k e;omega
  ·omega))
 clear hr hf hz
 have a3:=(cellH HW0.out 3).trans rfl
 go_enter Tryd.func61,Tryd.ntmps61
 go_upto_region 1 with fail
 generalize ((w.alloc (.cells #[.int .i64 k,.string s,.int .i64 n,.slice A1 l.length c1] 32)).alloc (.cells #[.int .i64 0,.string ⟨#[]⟩,.int .i64 0,.slice none 0 0] 32))=Y at HB0 HW0 HW1 HZ2 HX a3 ⊢
 go_wp2_with fail
 refine HX.out.mono ?_
 rintro e w5 ⟨v5,rfl,hv5,hb5⟩
 obtain ⟨A5,c5,hve⟩:=hv5.slice
 have HLN:=Lib.hid (show l.length=l.length from rfl)
 generalize l.length=l5 at hve HLN
 subst hve
 have HV5:=Lib.hid hv5
 have HB5:=Lib.hid ((hb5.block w.heap.size (by have:=HZ2.out;omega)).trans HW0.out)
 have HR5:=Lib.hid ((hb5.block (w.heap.size+1) (by have:=HZ2.out;omega)).trans HW1.out)
 have HK5:=Lib.hid (HB0.out.trans (hb5.mono (by have:=HZ2.out;omega)))
 have HSZ5:=Lib.hid (show w.heap.size+2≤w5.heap.size by have:=HZ2.out;have:=hb5.size;omega)
 clear hv5 hb5 a3
 have x0:=(cellH HB5.out 0).trans rfl
 have x1:=(cellH HB5.out 1).trans rfl
 have x2:=(cellH HB5.out 2).trans rfl
 have x3:=(cellH HB5.out 3).trans rfl
 have fx3:=frozenH HB5.out 3
 have r0:=(cellH HR5.out 0).trans rfl
 have r1:=(cellH HR5.out 1).trans rfl
 have r2:=(cellH HR5.out 2).trans rfl
 have r3:=(cellH HR5.out 3).trans rfl
 have fr0:=frozenH HR5.out 0
 have fr1:=frozenH HR5.out 1
 have fr2:=frozenH HR5.out 2
 have fr3:=frozenH HR5.out 3
 go_wp2_with fail
 have hr':=(Below.heap_setCell w5 ⟨w.heap.size,3,none⟩ (.slice A5 l5 c5) (w.heap.size+1) (by show w.heap.size+1 ≠ w.heap.size;omega)).trans HR5.out
 have hq2:=put4 (.int .i64 k) (.string s) (.int .i64 n) (.slice A5 l5 c5) hr'
 have hk2:=((Kb.refl (fun j=>j=w.heap.size ∨ j=w.heap.size+1) w5).put (p:=⟨w.heap.size,3,none⟩) (.inl rfl) (.slice A5 l5 c5)).trans ((kput4 (w5.setCell ⟨w.heap.size,3,none⟩ (.slice A5 l5 c5)) (w.heap.size+1) (.int .i64 k) (.string s) (.int .i64 n) (.slice A5 l5 c5)).wider (fun k _ e=>.inr e))
 clear x0 x1 x2 x3 fx3 r0 r1 r2 r3 fr0 fr1 fr2 fr3 hr'
 generalize (((((w5.setCell ⟨w.heap.size,3,none⟩ (.slice A5 l5 c5)).setCell ⟨w.heap.size+1,0,none⟩ (.int .i64 k)).setCell ⟨w.heap.size+1,1,none⟩ (.string s)).setCell ⟨w.heap.size+1,2,none⟩ (.int .i64 n)).setCell ⟨w.heap.size+1,3,none⟩ (.slice A5 l5 c5))=W at hq2 hk2 ⊢
 have c0:=(cellH hq2 0).trans rfl
 have c1:=(cellH hq2 1).trans rfl
 have c2':=(cellH hq2 2).trans rfl
 have c3:=(cellH hq2 3).trans rfl
 refine bodyPost_ret (v:=.agg #[.int .i64 k,.string s,.int .i64 n,.slice A5 l5 c5]) (by simp [results,Tryd.results61,go_sem,c0,c1,c2',c3]) rfl ⟨_,rfl,?_,?_⟩
 ·exact ⟨_,rfl,RowW.step (TyW.step d) _ Vol _ _ _ _ HV5.out (hk2.wider (fun k _ e=>.inr e)) (fun k _ e=>.inl e)⟩
 ·exact HK5.out.trans (hk2.below (by have:=HSZ5.out;omega) (fun k e=>by omega))
theorem copy_any:∀ d,CopyC d
 | 0=>fun _ _ _ _ h=>h.elim
 | d+1=>copy_step d (Lib.hid (copy_any d))
end Lx
end Go.Proofs.YtnpacamcgifabaaDoor
namespace Go.Proofs.YtnpacamcgifabaaDoor
set_option linter.unusedSimpArgs false
set_option linter.unusedVariables false
namespace Lx
open Go Go.RowKit
/-- The type of a name, if it has one: the first. -/
noncomputable def findS (n:ByteArray):List (ByteArray × TyT)→Option TyT
 | []=>none
 | p :: r=>@ite _ (p.1=n) (Classical.propDecidable _) (some p.2) (findS n r)
theorem findS_cons {n:ByteArray} {p:ByteArray × TyT} {r:List (ByteArray × TyT)}:findS n (p :: r)=@ite _ (p.1=n) (Classical.propDecidable _) (some p.2) (findS n r):=rfl
def intB:ByteArray:=⟨#[105,110,116]⟩
mutual
noncomputable def inst (σ:List (ByteArray × TyT)):ExT→TyT
 | .mk b s l=>if b=true then (findS s σ).getD (.mk 3 s 0 []) else @ite _ (s=intB∧l.length=0) (Classical.propDecidable _) (.mk 1 ⟨#[]⟩ 0 []) (.mk 2 s 0 (insts σ l))
noncomputable def insts (σ:List (ByteArray × TyT)):List ExT→List TyT
 | []=>[]
 | x :: l=>inst σ x :: insts σ l
end
theorem insts_map (σ:List (ByteArray × TyT)):∀ l:List ExT,insts σ l=l.map (inst σ)
 | []=>by rw [insts];rfl
 | x :: l=>by rw [insts,insts_map σ l];rfl
theorem findS_none {n:ByteArray}:∀ {σ:List (ByteArray × TyT)},(∀ (i:Nat) (h:i < σ.length),σ[i].1 ≠ n)→findS n σ=none
 | [],_=>rfl
 | p :: r,h=>by
  rw [findS_cons,if_neg (show ¬ p.1=n from h 0 (by simp))]
  exact findS_none (fun i hi=>h (i+1) (by simp;omega))
theorem findS_at {n:ByteArray}:∀ {σ:List (ByteArray × TyT)} {i:Nat} (h:i < σ.length),σ[i].1=n→(∀ (j:Nat) (h:j < σ.length),j < i→σ[j].1 ≠ n)→findS n σ=some σ[i].2
 | p :: r,0,_,e,_=>by rw [findS_cons,if_pos (show p.1=n from e)];rfl
 | p :: r,i+1,h,e,hn=>by
  rw [findS_cons,if_neg (show ¬ p.1=n from hn 0 (by simp) (by omega))]
  exact findS_at (σ:=r) (i:=i) (by simpa using h) e (fun j hj hji=>hn (j+1) (by simp;omega) (by omega))
/-- The map of the variables' types. -/
def VarsM (D:Nat) (Vol:Nat→Prop) (mp:Nat) (σ:List (ByteArray × TyT)) (w:World):Prop:=∃ m:List (Value × Value),MapB Tryd.prog 9 mp m w∧m.length=σ.length∧(∀ (i:Nat) (h:i < σ.length) (h':i < m.length),m[i].1=.string σ[i].1∧TyW D Vol σ[i].2 m[i].2 w)∧(∀ (i j:Nat) (hi:i < σ.length) (hj:j < σ.length),j < i→σ[j].1 ≠ σ[i].1)∧(∀ (i:Nat) (h:i < σ.length),fewT σ[i].2)
theorem VarsM.step {D mp:Nat} {Vol Vol':Nat→Prop} {σ:List (ByteArray × TyT)} {w w':World} (h:VarsM D Vol mp σ w) (hb:Below w.heap.size w w') (hv:∀ k,k < w.heap.size→Vol' k→Vol k):VarsM D Vol' mp σ w':=by
 obtain ⟨m,h1,h2,h3,h4⟩:=h
 exact ⟨m,h1.below hb,h2,fun i hi hi'=>⟨(h3 i hi hi').1,TyW.step D _ _ _ _ _ _ (h3 i hi hi').2 (Kb.of_below hb) hv⟩,h4⟩
theorem zeroTyV (w:World):(zeroValue 32).run Tryd.prog w=.ok (.agg #[.int .i64 0,.string ⟨#[]⟩,.int .i64 0,.slice none 0 0]) w:=by kernel_rfl
theorem runLookV {D mp:Nat} {Vol:Nat→Prop} {σ:List (ByteArray × TyT)} {w:World} (n:ByteArray) (h:VarsM D Vol mp σ w) (hn:n.size≤maxLen) :
  (findS n σ=none∧(Instr.lookup 51 (.map (some mp)) (.string n) true).run Tryd.prog w=.ok (.tuple #[.agg #[.int .i64 0,.string ⟨#[]⟩,.int .i64 0,.slice none 0 0],.bool false]) w) ∨
  ∃ t v,findS n σ=some t∧fewT t∧TyW D Vol t v w∧(Instr.lookup 51 (.map (some mp)) (.string n) true).run Tryd.prog w=.ok (.tuple #[v,.bool true]) w:=by
 obtain ⟨kl,hkl⟩:=keyS hn
 obtain ⟨m,hm,hlen,hel,hno,hfw⟩:=h
 rcases hm.look keyStr Tryd.underlying51 (zeroTyV _) hkl with ⟨h1,h2⟩ | ⟨v,h1,h2⟩
 ·refine .inl ⟨findS_none (fun i hi e=>h1 m[i] (List.getElem_mem _) ?_),h2⟩
  rw [(hel i hi (by omega)).1,e]
 ·obtain ⟨i,hi,e⟩:=List.getElem_of_mem h1
  have hi2:i < σ.length:=by omega
  have h3:=hel i hi2 hi
  rw [e] at h3
  have e1:n=σ[i].1:=by
   have:=h3.1
   injection this
  refine .inr ⟨σ[i].2,v,findS_at hi2 e1.symm (fun j hj hji e2=>hno i j hi2 hj hji (by rw [e2,e1])),hfw i hi2,h3.2,h2⟩
def InstC (D:Nat) (σ:List (ByteArray × TyT)) (d:Nat):Prop:=∀ (Vol:Nat→Prop) (x:ExT) (v:Value) (mp:Nat) (w:World),ExW d Vol x v w→VarsM D Vol mp σ w→(∀ n ∈ nmE x,n.size≤maxLen)→sizeE x≤2000000→(∀ k,Vol k→k < w.heap.size) →
 Calls Tryd.prog 26 #[v,.map (some mp)] w fun e w'=>∃ v',e=.returned v'∧TyE Vol (inst σ x) v' w'∧Below w.heap.size w w'
def CloInst (D:Nat) (σ:List (ByteArray × TyT)) (d:Nat):Prop:=∀ (Vol:Nat→Prop) (x:ExT) (v:Value) (X mp:Nat) (w:World),ExW d Vol x v w→VarsM D Vol mp σ w→(∀ n ∈ nmE x,n.size≤maxLen)→sizeE x≤2000000→(∀ k,Vol k→k < w.heap.size)→w.heap[X]?=some (.cells #[.map (some mp)] 51 (0,0)) →
 Calls Tryd.prog 62 #[v,.pointer (some ⟨X,0,none⟩)] w fun e w'=>∃ v',e=.returned v'∧TyE Vol (inst σ x) v' w'∧Below w.heap.size w w'
set_option maxRecDepth 100000 in
set_option maxHeartbeats 4000000 in
theorem clo_inst (D:Nat) (σ:List (ByteArray × TyT)) (d:Nat) (HC:Hid (InstC D σ d)):CloInst D σ d:=by
 intro Vol x v X mp w hv hm hn hs hvl hX
 obtain ⟨A,l,c,rfl⟩:=hv.this
 have hB:Below w.heap.size w ((w.alloc (.cells #[.bool x.isVar,.string x.name,.slice A l c] 53)).alloc (.cells #[.int .i64 0,.string ⟨#[]⟩,.int .i64 0,.slice none 0 0] 32)):=(below_alloc _ _).alloc (by simp) _
 have hback:∀ k,k < w.heap.size→(Vol k ∨ k=w.heap.size+1)→Vol k:=fun k hk e=>by
  rcases e with e | e
  ·exact e
  ·omega
 have h0:=(Below.heap_alloc (w.alloc (.cells #[.bool x.isVar,.string x.name,.slice A l c] 53)) (.cells #[.int .i64 0,.string ⟨#[]⟩,.int .i64 0,.slice none 0 0] 32) w.heap.size (by simp)).trans (heap_alloc_new w (.cells #[.bool x.isVar,.string x.name,.slice A l c] 53))
 have h1:((w.alloc (.cells #[.bool x.isVar,.string x.name,.slice A l c] 53)).alloc (.cells #[.int .i64 0,.string ⟨#[]⟩,.int .i64 0,.slice none 0 0] 32)).heap[w.heap.size+1]?=some (.cells #[.int .i64 0,.string ⟨#[]⟩,.int .i64 0,.slice none 0 0] 32):=by
  have:=heap_alloc_new (w.alloc (.cells #[.bool x.isVar,.string x.name,.slice A l c] 53)) (.cells #[.int .i64 0,.string ⟨#[]⟩,.int .i64 0,.slice none 0 0] 32)
  simpa using this
 have hsz:((w.alloc (.cells #[.bool x.isVar,.string x.name,.slice A l c] 53)).alloc (.cells #[.int .i64 0,.string ⟨#[]⟩,.int .i64 0,.slice none 0 0] 32)).heap.size=w.heap.size+2:=by simp
 have HX:=Lib.hid (HC.out (fun k=>Vol k ∨ k=w.heap.size+1) x _ mp _ (ExW.step d _ _ _ _ _ _ hv (Kb.of_below hB) hback) (hm.step hB hback) hn hs (fun k e=>by
  rw [hsz]
  rcases e with e | e
  ·have:=hvl k e;omega
  ·omega))
 have x0:=(cellH ((hB.block X (Array.getElem?_eq_some_iff.1 hX).1).trans hX) 0).trans rfl
 have H1:=Lib.hid h1
 have HB:=Lib.hid hB
 have HSZ:=Lib.hid hsz
 clear hv hm hn hs hvl hX hB hback h0 h1 hsz
 go_enter Tryd.func62,Tryd.ntmps62
 go_wp2_with fail
 refine HX.out.mono ?_
 rintro e w4 ⟨v4,rfl,hv4,hb4⟩
 obtain ⟨y5,y6,y7,rfl⟩:=hv4.this
 have HV4:=Lib.hid hv4
 have H4:=Lib.hid ((hb4.block (w.heap.size+1) (by have:=HSZ.out;omega)).trans H1.out)
 have HK4:=Lib.hid (HB.out.trans (hb4.mono (by have:=HSZ.out;omega)))
 have HS4:=Lib.hid (show w.heap.size+2≤w4.heap.size by have:=hb4.size;have:=HSZ.out;omega)
 clear hv4 hb4 x0 HX H1
 generalize hz:inst σ x=z at HV4
 have HZ:=Lib.hid hz
 clear hz
 have r0:=(cellH H4.out 0).trans rfl
 have r1:=(cellH H4.out 1).trans rfl
 have r2:=(cellH H4.out 2).trans rfl
 have r3:=(cellH H4.out 3).trans rfl
 have fr0:=frozenH H4.out 0
 have fr1:=frozenH H4.out 1
 have fr2:=frozenH H4.out 2
 have fr3:=frozenH H4.out 3
 go_wp2_with fail
 clear r0 r1 r2 r3 fr0 fr1 fr2 fr3
 have hk:=kput4 w4 (w.heap.size+1) (.int .i64 z.kind) (.string z.name) (.int .i64 z.var) (.slice y5 y6 y7)
 have hq:=put4 (.int .i64 z.kind) (.string z.name) (.int .i64 z.var) (.slice y5 y6 y7) H4.out
 generalize ((((w4.setCell ⟨w.heap.size+1,0,none⟩ (.int .i64 z.kind)).setCell ⟨w.heap.size+1,1,none⟩ (.string z.name)).setCell ⟨w.heap.size+1,2,none⟩ (.int .i64 z.var)).setCell ⟨w.heap.size+1,3,none⟩ (.slice y5 y6 y7))=W at hk hq ⊢
 have c0:=(cellH hq 0).trans rfl
 have c1:=(cellH hq 1).trans rfl
 have c2:=(cellH hq 2).trans rfl
 have c3:=(cellH hq 3).trans rfl
 exact bodyPost_ret (v:=.agg #[.int .i64 z.kind,.string z.name,.int .i64 z.var,.slice y5 y6 y7]) (by simp [results,Tryd.results62,go_sem,c0,c1,c2,c3]) rfl ⟨_,rfl,by rw [HZ.out];exact TyE.step (fun k=>Vol k ∨ k=w.heap.size+1) Vol _ _ _ _ HV4.out (hk.wider (fun k _ e=>.inr e)) (fun k _ e=>.inl e),HK4.out.trans (hk.below (by have:=HS4.out;omega) (fun j e=>by omega))⟩
set_option maxRecDepth 100000 in
set_option maxHeartbeats 2000000 in
theorem eachInst (d D X mp:Nat) (σ:List (ByteArray × TyT)) (HC:Hid (CloInst D σ d)) (Vol:Nat→Prop) (l:List ExT) (v:Value) (w:World) (hv:RowW 3 (ExW d) Vol l v w) (hm:VarsM D Vol mp σ w) (hn:∀ n ∈ nmEs l,n.size≤maxLen) (hf:sizeEs l≤2000000) (hvl:∀ k,Vol k→k < w.heap.size) (hX:w.heap[X]?=some (.cells #[.map (some mp)] 51 (0,0))) :
  Calls Tryd.prog 63 #[v,.func (.func 62) #[] #[.pointer (some ⟨X,0,none⟩)]] w fun e w'=>∃ v',e=.returned v'∧RowW 4 TyE Vol (insts σ l) v' w'∧Below w.heap.size w w':=by
 obtain ⟨A,c,rfl⟩:=hv.slice
 have HV:=Lib.hid hv
 have HVL:=Lib.hid hvl
 have HFW:=Lib.hid hf
 have HNM:=Lib.hid hn
 have HM:=Lib.hid hm
 have HX0:=Lib.hid hX
 have hl:l.length≤2000000:=by have:=len_sizeE l;omega
 clear hf hvl hn hm hX
 obtain ⟨i0,hi0,hz0,hz1,hz2⟩:=info_parts infoTy
 have HI0:=Lib.hid hi0
 have HI1:=Lib.hid hz0
 have HI2:=Lib.hid hz1
 have HI3:=Lib.hid hz2
 clear hi0 hz0 hz1 hz2 hv
 go_enter Tryd.func63,Tryd.ntmps63
 go_wp2_with fail
 go_loopw [5,10] (fun v t wr=>∃ (k:Nat) (s:Option Addr) (cap:Nat) (vs:List Value),k≤l.length∧t=.int .i64 k∧v=.slice s k cap∧Hid (RowG 32 4 TyE Vol w wr s cap (insts σ (l.take k)) vs)) (fun _ t _=>l.length - (intOf t).toNat)
 case atStart=>exact ⟨0,none,0,[],Nat.zero_le _,rfl,rfl,Lib.hid (by rw [List.take_zero,insts];exact RowG.start Vol w)⟩
 case round =>
  obtain ⟨k,s,cap,vs,hk,rfl,rfl,HR⟩:=hrel
  have hlk:(insts σ (l.take k)).length=k:=by rw [insts_map,List.length_map,List.length_take];omega
  have HLK:=Lib.hid hlk
  by_cases hlt:k < l.length
  ·obtain ⟨g,o,vi,rfl,hg,_,hvi,hc⟩:=RowW.at (RowW.step (ExW.step d) Vol (fun k=>Vol k ∨ s=some ⟨k,0,none⟩) _ _ _ _ HV.out (Kb.of_below HR.out.below) (fun j hj e=>e.elim id (fun e=>by have:=(HR.out.own.lt j (by rw [e];rfl)).1;omega))) k hlt
   obtain ⟨B1,n1,c1,rfl⟩:=hvi.this
   have a0:=(hc 0 (by decide)).trans rfl
   have a1:=(hc 1 (by decide)).trans rfl
   have a2:=(hc 2 (by decide)).trans rfl
   simp only [cellsL,Value.cells,List.getElem?_cons_zero,List.getElem?_cons_succ,Nat.add_zero] at a0 a1 a2
   have hk0:(0:Int)≤(k:Int):=by omega
   have hk1:(k:Int) < (l.length:Int):=by omega
   have hdc:decide (k < l.length)=true:=by simpa using hlt
   have HTK:=Lib.hid (show insts σ (l.take (k+1))=insts σ (l.take k)++[inst σ l[k]] by rw [List.take_succ_eq_append_getElem hlt,insts_map,insts_map,List.map_append,List.map_singleton])
   have HBZ:=Lib.hid (below_alloc wr (.cells #[.bool l[k].isVar,.string l[k].name,.slice B1 n1 c1] 53))
   have HMN:=Lib.hid (HR.out.mine HVL.out)
   have hXr:(wr.alloc (.cells #[.bool l[k].isVar,.string l[k].name,.slice B1 n1 c1] 53)).heap[X]?=_:=(HBZ.out.block X (Nat.lt_of_lt_of_le (Array.getElem?_eq_some_iff.1 HX0.out).1 HR.out.below.size)).trans ((HR.out.below.block X (Array.getElem?_eq_some_iff.1 HX0.out).1).trans HX0.out)
   have hmr:=HM.out.step (Vol':=fun k=>Vol k ∨ s=some ⟨k,0,none⟩) (HR.out.below.trans (HBZ.out.mono HR.out.below.size)) (fun j hj e=>e.elim id (fun e=>by have:=(HR.out.own.lt j (by rw [e];rfl)).1;omega))
   have HX:=Lib.hid (HC.out _ l[k] _ X mp _ ((ExW.step d).below hvi HBZ.out) hmr (fun n h=>HNM.out n (nmEs_mem hlt h)) (Nat.le_trans (sizeEs_mem hlt) HFW.out) (fun k e=>Nat.lt_of_lt_of_le (HMN.out k e) HBZ.out.size) hXr)
   clear hc hvi hlk hXr hmr
   generalize hxx:l[k]=x at HTK HBZ HX a0 a1 a2 ⊢
   go_wp2_with (first
    | (go_at_call 62;refine HX.out.mono ?_;rintro e w4 ⟨v4,rfl,hv4,hb4⟩;obtain ⟨y5,y6,y7,hv4e⟩:=hv4.this;generalize hkk:(inst σ x).kind=z0 at hv4e;generalize hnn:(inst σ x).name=z1 at hv4e;generalize hvv:(inst σ x).var=z2 at hv4e;subst hv4e;clear hkk hnn hvv;have HV4:=Lib.hid hv4;have HB4:=Lib.hid (HBZ.out.trans (hb4.mono HBZ.out.size));have HO4:=Lib.hid (own_belowN HR.out.own HB4.out);have hs4:=HR.out.below.size;have hs5:=HB4.out.size;rw [HLK.out] at HO4;clear hv4 hb4)
    | (at_builtin;refine wpList_append_lies _ rfl _ _ 27 rfl w.heap.size 32 i0 (.agg #[.int .i64 0,.string ⟨#[]⟩,.int .i64 0,.slice none 0 0]) 4 56 Tryd.underlying27 HI0.out HI1.out HI2.out HI3.out rfl (by decide) _ _ _ rfl (HO4.out.alloc _) ⟨w4.heap.size,0,none⟩ 1 1 [.int .i64 z0,.string z1,.int .i64 z2,.slice y5 y6 y7] rfl rfl (cells_new _ #[.int .i64 z0,.string z1,.int .i64 z2,.slice y5 y6 y7] _ _ rfl) (by simp [Value.oneCell']) (by decide) (by unfold maxLen;omega) (by omega) (by simp;omega) _ rfl ?_;intro g2 cap2 w6 hown6 hg6 hat6 _;have HO6:=Lib.hid hown6;have HG6:=Lib.hid hg6;have HA6:=Lib.hid hat6;clear hown6 hg6 hat6))
   have HNX:Hid (RowG 32 4 TyE Vol w w6 (some ⟨g2,0,none⟩) cap2 (insts σ (l.take (k+1))) (vs++[Value.agg #[.int .i64 z0,.string z1,.int .i64 z2,.slice y5 y6 y7]])):=Lib.hid (by
    rw [HTK.out]
    exact HR.out.snoc TyE.step HVL.out HB4.out HV4.out (by rw [HLK.out];exact HO6.out) (by rw [HLK.out];exact HG6.out) (by rw [HLK.out];exact HA6.out))
   go_roundw
   case rel=>exact ⟨k+1,some ⟨g2,0,none⟩,cap2,_,by omega,by go_num,rfl,HNX⟩
   case measure=>simp [intOf];omega
  ·obtain rfl:k=l.length:=by omega
   have hdc:decide (l.length < l.length)=false:=by simp
   rw [List.take_length] at HR
   go_wp2_with fail
   go_ret
   refine ⟨_,rfl,?_,HR.out.below⟩
   have h1:=HR.out.held TyE.step tyECells HVL.out
   rw [show (insts σ l).length=l.length by rw [insts_map,List.length_map]] at h1
   exact h1
end Lx
end Go.Proofs.YtnpacamcgifabaaDoor
namespace Go.Proofs.YtnpacamcgifabaaDoor
set_option linter.unusedSimpArgs false
set_option linter.unusedVariables false
namespace Lx
open Go Go.RowKit
set_option maxRecDepth 100000 in
set_option maxHeartbeats 4000000 in
theorem inst_var (D:Nat) (σ:List (ByteArray × TyT)) (d:Nat) (Vol:Nat→Prop) (s:ByteArray) (l:List ExT) (va:Value) (mp:Nat) (w:World) (hr:RowW 3 (ExW d) Vol l va w) (hm:VarsM D Vol mp σ w) (hn:∀ n ∈ nmE (.mk true s l),n.size≤maxLen) (hs:sizeE (.mk true s l)≤2000000) (hvl:∀ k,Vol k→k < w.heap.size) :
  Calls Tryd.prog 26 #[.agg #[.bool true,.string s,va],.map (some mp)] w fun e w'=>∃ v',e=.returned v'∧TyE Vol (inst σ (.mk true s l)) v' w'∧Below w.heap.size w w':=by
 obtain ⟨A1,c1,rfl⟩:=hr.slice
 have hB:Below w.heap.size w (((w.alloc (.cells #[.bool true,.string s,.slice A1 l.length c1] 53)).alloc (.cells #[.map (some mp)] 51)).alloc (.cells #[.int .i64 0,.string ⟨#[]⟩,.int .i64 0,.slice none 0 0] 32)):=((below_alloc _ _).alloc (by simp) _).alloc (by simp;omega) _
 have hsz:(((w.alloc (.cells #[.bool true,.string s,.slice A1 l.length c1] 53)).alloc (.cells #[.map (some mp)] 51)).alloc (.cells #[.int .i64 0,.string ⟨#[]⟩,.int .i64 0,.slice none 0 0] 32)).heap.size=w.heap.size+3:=by simp
 have h0:(((w.alloc (.cells #[.bool true,.string s,.slice A1 l.length c1] 53)).alloc (.cells #[.map (some mp)] 51)).alloc (.cells #[.int .i64 0,.string ⟨#[]⟩,.int .i64 0,.slice none 0 0] 32)).heap[w.heap.size]?=some (.cells #[.bool true,.string s,.slice A1 l.length c1] 53):=(Below.heap_alloc _ _ w.heap.size (by simp;omega)).trans ((Below.heap_alloc _ _ w.heap.size (by simp)).trans (heap_alloc_new _ _))
 have h1:(((w.alloc (.cells #[.bool true,.string s,.slice A1 l.length c1] 53)).alloc (.cells #[.map (some mp)] 51)).alloc (.cells #[.int .i64 0,.string ⟨#[]⟩,.int .i64 0,.slice none 0 0] 32)).heap[w.heap.size+1]?=some (.cells #[.map (some mp)] 51):=(Below.heap_alloc _ _ (w.heap.size+1) (by simp)).trans (by
  have:=heap_alloc_new (w.alloc (.cells #[.bool true,.string s,.slice A1 l.length c1] 53)) (.cells #[.map (some mp)] 51)
  simpa using this)
 have h2:(((w.alloc (.cells #[.bool true,.string s,.slice A1 l.length c1] 53)).alloc (.cells #[.map (some mp)] 51)).alloc (.cells #[.int .i64 0,.string ⟨#[]⟩,.int .i64 0,.slice none 0 0] 32)).heap[w.heap.size+2]?=some (.cells #[.int .i64 0,.string ⟨#[]⟩,.int .i64 0,.slice none 0 0] 32):=by
  have:=heap_alloc_new ((w.alloc (.cells #[.bool true,.string s,.slice A1 l.length c1] 53)).alloc (.cells #[.map (some mp)] 51)) (.cells #[.int .i64 0,.string ⟨#[]⟩,.int .i64 0,.slice none 0 0] 32)
  simpa using this
 have HB:=Lib.hid hB
 have HSZ:=Lib.hid hsz
 have HY0:=Lib.hid h0
 have HY1:=Lib.hid h1
 have HY2:=Lib.hid h2
 have HROW:=Lib.hid hr
 have HM:=Lib.hid hm
 have HN:=Lib.hid hn
 have HS:=Lib.hid hs
 have HVL:=Lib.hid hvl
 clear hB hsz h0 h1 h2 hr hm hn hs hvl
 go_enter Tryd.func26,Tryd.ntmps26
 go_upto_region 1 with fail
 generalize (((w.alloc (.cells #[.bool true,.string s,.slice A1 l.length c1] 53)).alloc (.cells #[.map (some mp)] 51)).alloc (.cells #[.int .i64 0,.string ⟨#[]⟩,.int .i64 0,.slice none 0 0] 32))=Y at HB HSZ HY0 HY1 HY2 ⊢
 have a0:=(cellH HY0.out 0).trans rfl
 have a1:=(cellH HY0.out 1).trans rfl
 have a2:=(cellH HY0.out 2).trans rfl
 have b0:=(cellH HY1.out 0).trans rfl
 have HMY:=Lib.hid (HM.out.step (Vol':=fun k=>Vol k ∨ k=w.heap.size+2) HB.out (fun k hk e=>e.elim id (fun e=>by omega)))
 rcases runLookV s HMY.out (HN.out s (by rw [nmE];simp)) with ⟨hf,hlk⟩ | ⟨t,v,hf,hfw,htv,hlk⟩
 ·have HEQ:=Lib.hid (show inst σ (.mk true s l)=.mk 3 s 0 [] by rw [inst,hf];rfl)
  clear hf
  have HB3:=Lib.hid (below_alloc Y (.cells #[.int .i64 0,.string ⟨#[]⟩,.int .i64 0,.slice none 0 0] 32))
  have HR3:=Lib.hid ((HB3.out.block (w.heap.size+2) (by have:=HSZ.out;omega)).trans HY2.out)
  have HX3:=Lib.hid ((HB3.out.block w.heap.size (by have:=HSZ.out;omega)).trans HY0.out)
  go_upto_region 5 with fail
  clear a0 a1 a2 b0 hlk
  generalize (Y.alloc (.cells #[.int .i64 0,.string ⟨#[]⟩,.int .i64 0,.slice none 0 0] 32))=Z at HB3 HR3 HX3 ⊢
  have a1:=(cellH HX3.out 1).trans rfl
  have r0:=(cellH HR3.out 0).trans rfl
  have r1:=(cellH HR3.out 1).trans rfl
  have r2:=(cellH HR3.out 2).trans rfl
  have r3:=(cellH HR3.out 3).trans rfl
  have fr0:=frozenH HR3.out 0
  have fr1:=frozenH HR3.out 1
  have fr2:=frozenH HR3.out 2
  have fr3:=frozenH HR3.out 3
  go_wp2_with fail
  clear r0 r1 r2 r3 fr0 fr1 fr2 fr3
  have hk:=kput4 Z (w.heap.size+2) (.int .i64 3) (.string s) (.int .i64 0) (.slice none 0 0)
  have hq:=put4 (.int .i64 3) (.string s) (.int .i64 0) (.slice none 0 0) HR3.out
  generalize ((((Z.setCell ⟨w.heap.size+2,0,none⟩ (.int .i64 3)).setCell ⟨w.heap.size+2,1,none⟩ (.string s)).setCell ⟨w.heap.size+2,2,none⟩ (.int .i64 0)).setCell ⟨w.heap.size+2,3,none⟩ (.slice none 0 0))=W at hk hq ⊢
  have c0:=(cellH hq 0).trans rfl
  have c1:=(cellH hq 1).trans rfl
  have c2:=(cellH hq 2).trans rfl
  have c3:=(cellH hq 3).trans rfl
  have hz:=HSZ.out
  refine bodyPost_ret (v:=.agg #[(.int .i64 3),(.string s),(.int .i64 0),(.slice none 0 0)]) (by simp [results,Tryd.results26,go_sem,c0,c1,c2,c3]) rfl ⟨_,rfl,?_,?_⟩
  ·rw [HEQ.out]
   exact ⟨1,_,rfl,RowW.nil _ _⟩
  ·exact HB.out.trans ((HB3.out.mono (by omega)).trans (hk.below (by have:=HB3.out.size;omega) (fun j e=>by omega)))
 ·have HEQ:=Lib.hid (show inst σ (.mk true s l)=t by rw [inst,hf];rfl)
  clear hf
  obtain ⟨B1,n1,c2,rfl⟩:=htv.this
  have HBX:=Lib.hid (below_alloc Y (.cells #[.int .i64 t.kind,.string t.name,.int .i64 t.var,.slice B1 n1 c2] 32))
  have HX:=Lib.hid (copy_any D _ t _ _ ((TyW.step D).below htv HBX.out) hfw (fun k e=>by
   have h1:=HBX.out.size
   have h2:=HSZ.out
   rcases e with e | e
   ·have:=HVL.out k e;omega
   ·omega))
  have HR3:=Lib.hid ((HBX.out.block (w.heap.size+2) (by have:=HSZ.out;omega)).trans HY2.out)
  have HX3:=Lib.hid (heap_alloc_new Y (.cells #[.int .i64 t.kind,.string t.name,.int .i64 t.var,.slice B1 n1 c2] 32))
  clear hfw htv
  go_upto_region 4 with fail
  clear a0 a1 a2 b0 hlk
  generalize (Y.alloc (.cells #[.int .i64 t.kind,.string t.name,.int .i64 t.var,.slice B1 n1 c2] 32))=Z at HBX HR3 HX3 HX ⊢
  have a0:=(cellH HX3.out 0).trans rfl
  have a1:=(cellH HX3.out 1).trans rfl
  have a2:=(cellH HX3.out 2).trans rfl
  have a3:=(cellH HX3.out 3).trans rfl
  go_wp2_with fail
  refine HX.out.mono ?_
  rintro e w4 ⟨v4,rfl,hv4,hb4⟩
  obtain ⟨y5,y6,y7,rfl⟩:=hv4.this
  have HV4:=Lib.hid hv4
  have HB4:=Lib.hid (HBX.out.trans (hb4.mono HBX.out.size))
  have H4:=Lib.hid ((hb4.block (w.heap.size+2) (by have:=HSZ.out;have:=HBX.out.size;omega)).trans HR3.out)
  clear hv4 hb4 a0 a1 a2 a3
  have r0:=(cellH H4.out 0).trans rfl
  have r1:=(cellH H4.out 1).trans rfl
  have r2:=(cellH H4.out 2).trans rfl
  have r3:=(cellH H4.out 3).trans rfl
  have fr0:=frozenH H4.out 0
  have fr1:=frozenH H4.out 1
  have fr2:=frozenH H4.out 2
  have fr3:=frozenH H4.out 3
  go_wp2_with fail
  clear r0 r1 r2 r3 fr0 fr1 fr2 fr3
  have hk:=kput4 w4 (w.heap.size+2) (.int .i64 t.kind) (.string t.name) (.int .i64 t.var) (.slice y5 y6 y7)
  have hq:=put4 (.int .i64 t.kind) (.string t.name) (.int .i64 t.var) (.slice y5 y6 y7) H4.out
  generalize ((((w4.setCell ⟨w.heap.size+2,0,none⟩ (.int .i64 t.kind)).setCell ⟨w.heap.size+2,1,none⟩ (.string t.name)).setCell ⟨w.heap.size+2,2,none⟩ (.int .i64 t.var)).setCell ⟨w.heap.size+2,3,none⟩ (.slice y5 y6 y7))=W at hk hq ⊢
  have c0:=(cellH hq 0).trans rfl
  have c1:=(cellH hq 1).trans rfl
  have c2:=(cellH hq 2).trans rfl
  have c3:=(cellH hq 3).trans rfl
  have hz:=HSZ.out
  refine bodyPost_ret (v:=.agg #[(.int .i64 t.kind),(.string t.name),(.int .i64 t.var),(.slice y5 y6 y7)]) (by simp [results,Tryd.results26,go_sem,c0,c1,c2,c3]) rfl ⟨_,rfl,?_,?_⟩
  ·rw [HEQ.out]
   exact TyE.step (fun k=>Vol k ∨ k=w.heap.size+2) Vol _ _ _ _ ⟨D,HV4.out⟩ (hk.wider (fun k _ e=>.inr e)) (fun k _ e=>.inl e)
  ·exact HB.out.trans ((HB4.out.mono (by omega)).trans (hk.below (by have:=HB4.out.size;omega) (fun j e=>by omega)))
set_option maxRecDepth 100000 in
set_option maxHeartbeats 4000000 in
theorem inst_data (D:Nat) (σ:List (ByteArray × TyT)) (d:Nat) (HC:Hid (InstC D σ d)) (Vol:Nat→Prop) (s:ByteArray) (l:List ExT) (va:Value) (mp:Nat) (w:World) (hr:RowW 3 (ExW d) Vol l va w) (hm:VarsM D Vol mp σ w) (hn:∀ n ∈ nmE (.mk false s l),n.size≤maxLen) (hs:sizeE (.mk false s l)≤2000000) (hvl:∀ k,Vol k→k < w.heap.size) :
  Calls Tryd.prog 26 #[.agg #[.bool false,.string s,va],.map (some mp)] w fun e w'=>∃ v',e=.returned v'∧TyE Vol (inst σ (.mk false s l)) v' w'∧Below w.heap.size w w':=by
 obtain ⟨A1,c1,rfl⟩:=hr.slice
 have hB:Below w.heap.size w (((w.alloc (.cells #[.bool false,.string s,.slice A1 l.length c1] 53)).alloc (.cells #[.map (some mp)] 51)).alloc (.cells #[.int .i64 0,.string ⟨#[]⟩,.int .i64 0,.slice none 0 0] 32)):=((below_alloc _ _).alloc (by simp) _).alloc (by simp;omega) _
 have hsz:(((w.alloc (.cells #[.bool false,.string s,.slice A1 l.length c1] 53)).alloc (.cells #[.map (some mp)] 51)).alloc (.cells #[.int .i64 0,.string ⟨#[]⟩,.int .i64 0,.slice none 0 0] 32)).heap.size=w.heap.size+3:=by simp
 have h0:(((w.alloc (.cells #[.bool false,.string s,.slice A1 l.length c1] 53)).alloc (.cells #[.map (some mp)] 51)).alloc (.cells #[.int .i64 0,.string ⟨#[]⟩,.int .i64 0,.slice none 0 0] 32)).heap[w.heap.size]?=some (.cells #[.bool false,.string s,.slice A1 l.length c1] 53):=(Below.heap_alloc _ _ w.heap.size (by simp;omega)).trans ((Below.heap_alloc _ _ w.heap.size (by simp)).trans (heap_alloc_new _ _))
 have h1:(((w.alloc (.cells #[.bool false,.string s,.slice A1 l.length c1] 53)).alloc (.cells #[.map (some mp)] 51)).alloc (.cells #[.int .i64 0,.string ⟨#[]⟩,.int .i64 0,.slice none 0 0] 32)).heap[w.heap.size+1]?=some (.cells #[.map (some mp)] 51):=(Below.heap_alloc _ _ (w.heap.size+1) (by simp)).trans (by
  have:=heap_alloc_new (w.alloc (.cells #[.bool false,.string s,.slice A1 l.length c1] 53)) (.cells #[.map (some mp)] 51)
  simpa using this)
 have h2:(((w.alloc (.cells #[.bool false,.string s,.slice A1 l.length c1] 53)).alloc (.cells #[.map (some mp)] 51)).alloc (.cells #[.int .i64 0,.string ⟨#[]⟩,.int .i64 0,.slice none 0 0] 32)).heap[w.heap.size+2]?=some (.cells #[.int .i64 0,.string ⟨#[]⟩,.int .i64 0,.slice none 0 0] 32):=by
  have:=heap_alloc_new ((w.alloc (.cells #[.bool false,.string s,.slice A1 l.length c1] 53)).alloc (.cells #[.map (some mp)] 51)) (.cells #[.int .i64 0,.string ⟨#[]⟩,.int .i64 0,.slice none 0 0] 32)
  simpa using this
 have HB:=Lib.hid hB
 have HSZ:=Lib.hid hsz
 have HY0:=Lib.hid h0
 have HY1:=Lib.hid h1
 have HY2:=Lib.hid h2
 have HROW:=Lib.hid hr
 have HM:=Lib.hid hm
 have HN:=Lib.hid hn
 have HS:=Lib.hid hs
 have HVL:=Lib.hid hvl
 clear hB hsz h0 h1 h2 hr hm hn hs hvl
 go_enter Tryd.func26,Tryd.ntmps26
 go_upto_region 1 with fail
 generalize (((w.alloc (.cells #[.bool false,.string s,.slice A1 l.length c1] 53)).alloc (.cells #[.map (some mp)] 51)).alloc (.cells #[.int .i64 0,.string ⟨#[]⟩,.int .i64 0,.slice none 0 0] 32))=Y at HB HSZ HY0 HY1 HY2 ⊢
 have a0:=(cellH HY0.out 0).trans rfl
 have a1:=(cellH HY0.out 1).trans rfl
 have a2:=(cellH HY0.out 2).trans rfl
 have b0:=(cellH HY1.out 0).trans rfl
 have HIT:=Lib.hid (show intB.toList=[105,110,116] by kernel_rfl)
 have r0:=(cellH HY2.out 0).trans rfl
 have r1:=(cellH HY2.out 1).trans rfl
 have r2:=(cellH HY2.out 2).trans rfl
 have r3:=(cellH HY2.out 3).trans rfl
 have fr0:=frozenH HY2.out 0
 have fr1:=frozenH HY2.out 1
 have fr2:=frozenH HY2.out 2
 have fr3:=frozenH HY2.out 3
 by_cases hi:s=intB∧l.length=0
 ·have HEQ:=Lib.hid (show inst σ (.mk false s l)=.mk 1 ⟨#[]⟩ 0 [] by rw [inst,if_neg (by simp),if_pos hi])
  have hsl:s.toList=[105,110,116]:=by rw [hi.1];exact HIT.out
  have hlz:((l.length:Int) == 0)=true:=by rw [hi.2];rfl
  clear hi
  go_wp2_with fail
  clear r0 r1 r2 r3 fr0 fr1 fr2 fr3
  have hk:=kput4 Y (w.heap.size+2) (.int .i64 1) (.string ⟨#[]⟩) (.int .i64 0) (.slice none 0 0)
  have hq:=put4 (.int .i64 1) (.string ⟨#[]⟩) (.int .i64 0) (.slice none 0 0) HY2.out
  generalize ((((Y.setCell ⟨w.heap.size+2,0,none⟩ (.int .i64 1)).setCell ⟨w.heap.size+2,1,none⟩ (.string ⟨#[]⟩)).setCell ⟨w.heap.size+2,2,none⟩ (.int .i64 0)).setCell ⟨w.heap.size+2,3,none⟩ (.slice none 0 0))=W at hk hq ⊢
  have c0:=(cellH hq 0).trans rfl
  have c1:=(cellH hq 1).trans rfl
  have c2:=(cellH hq 2).trans rfl
  have c3:=(cellH hq 3).trans rfl
  have hz:=HSZ.out
  refine bodyPost_ret (v:=.agg #[(.int .i64 1),(.string ⟨#[]⟩),(.int .i64 0),(.slice none 0 0)]) (by simp [results,Tryd.results26,go_sem,c0,c1,c2,c3]) rfl ⟨_,rfl,?_,?_⟩
  ·rw [HEQ.out]
   exact ⟨1,_,rfl,RowW.nil _ _⟩
  ·exact HB.out.trans (hk.below (by omega) (fun j e=>by omega))
 ·have HEQ:=Lib.hid (show inst σ (.mk false s l)=.mk 2 s 0 (insts σ l) by rw [inst,if_neg (by simp),if_neg hi])
  have HX:=Lib.hid (eachInst d D (w.heap.size+1) mp σ (Lib.hid (clo_inst D σ d HC)) (fun k=>Vol k ∨ k=w.heap.size+2) l _ Y.drew (RowW.step (ExW.step d) Vol _ _ _ _ _ HROW.out (Kb.of_below (below_drw HB.out)) (fun k hk e=>e.elim id (fun e=>by omega))) (HM.out.step (below_drw HB.out) (fun k hk e=>e.elim id (fun e=>by omega))) HN.out (by have:=HS.out;rw [sizeE] at this;omega) (fun k e=>by
   have h2:=HSZ.out
   show k < Y.heap.size
   rcases e with e | e
   ·have:=HVL.out k e;omega
   ·omega) HY1.out)
  clear r0 r1 r2 r3 fr0 fr1 fr2 fr3
  have HA:Hid (Y.drew.heap[w.heap.size]?=some (.cells #[.bool false,.string s,.slice A1 l.length c1] 53)):=HY0
  have HR:Hid (Y.drew.heap[w.heap.size+2]?=some (.cells #[.int .i64 0,.string ⟨#[]⟩,.int .i64 0,.slice none 0 0] 32)):=HY2
  have HZ2:Hid (Y.drew.heap.size=w.heap.size+3):=HSZ
  have HB0:=Lib.hid (below_drw HB.out)
  have hcond:¬ s.toList=[105,110,116] ∨ s.toList=[105,110,116]∧((l.length:Int) == 0)=false:=by
   by_cases h:s=intB
   ·right
    have:l.length ≠ 0:=fun e=>hi ⟨h,e⟩
    exact ⟨by rw [h];exact HIT.out,beq_eq_false_iff_ne.2 (by omega)⟩
   ·exact .inl (fun e=>h (bytes_eq (e.trans HIT.out.symm)))
  clear hi
  rcases hcond with hsl | ⟨hsl,hlz⟩
  all_goals
   go_upto_region 9 with fail
   clear hsl a0 a1 a2 b0
   try clear hlz
   have a0:=(cellH HA.out 0).trans rfl
   have a1:=(cellH HA.out 1).trans rfl
   have a2:=(cellH HA.out 2).trans rfl
   go_region_with (go_at_call 63;have hxq:=HX.out;with_reducible refine hxq.mono ?_;clear hxq;rintro e wA ⟨vA,rfl,hvA,hbA⟩;obtain ⟨r1,r3,hve⟩:=hvA.slice;have HLN:=Lib.hid (show (insts σ l).length=(insts σ l).length from rfl);generalize (insts σ l).length=r2 at hve HLN;subst hve;have HVA:=Lib.hid hvA;have HAA:=Lib.hid ((hbA.block w.heap.size (by have:=HZ2.out;omega)).trans HA.out);have HRA:=Lib.hid ((hbA.block (w.heap.size+2) (by have:=HZ2.out;omega)).trans HR.out);have HB1:=Lib.hid (HB0.out.trans (hbA.mono HB0.out.size));have HSA:=Lib.hid hbA.size;have c0:=(cellH HAA.out 0).trans rfl;have c1':=(cellH HAA.out 1).trans rfl;have c2':=(cellH HAA.out 2).trans rfl;have g0:=(cellH HRA.out 0).trans rfl;have g1:=(cellH HRA.out 1).trans rfl;have g2:=(cellH HRA.out 2).trans rfl;have g3:=(cellH HRA.out 3).trans rfl;have h0:=frozenH HRA.out 0;have h1:=frozenH HRA.out 1;have h2:=frozenH HRA.out 2;have h3:=frozenH HRA.out 3;clear hvA hbA)
   all_goals
    go_wp2_with fail
    clear g0 g1 g2 g3 h0 h1 h2 h3 c0 c1' c2'
    have hk:=kput4 wA (w.heap.size+2) (.int .i64 2) (.string s) (.int .i64 0) (.slice r1 r2 r3)
    have hq:=put4 (.int .i64 2) (.string s) (.int .i64 0) (.slice r1 r2 r3) HRA.out
    generalize ((((wA.setCell ⟨w.heap.size+2,0,none⟩ (.int .i64 2)).setCell ⟨w.heap.size+2,1,none⟩ (.string s)).setCell ⟨w.heap.size+2,2,none⟩ (.int .i64 0)).setCell ⟨w.heap.size+2,3,none⟩ (.slice r1 r2 r3))=W at hk hq ⊢
    have c0:=(cellH hq 0).trans rfl
    have c1:=(cellH hq 1).trans rfl
    have c2:=(cellH hq 2).trans rfl
    have c3:=(cellH hq 3).trans rfl
    have z2:=HZ2.out
    have za:=HSA.out
    refine bodyPost_ret (v:=.agg #[.int .i64 2,.string s,.int .i64 0,.slice r1 r2 r3]) (by simp [results,Tryd.results26,go_sem,c0,c1,c2,c3]) rfl ⟨_,rfl,?_,?_⟩
    ·rw [HEQ.out]
     obtain ⟨E,hE⟩:=rowE (RowW.step TyE.step _ Vol _ _ _ _ HVA.out (hk.wider (fun k _ e=>.inr e)) (fun k _ e=>.inl e))
     exact ⟨E+1,_,rfl,hE⟩
    ·exact HB1.out.trans (hk.below (by omega) (fun j e=>by omega))
theorem inst_any (D:Nat) (σ:List (ByteArray × TyT)):∀ d,InstC D σ d
 | 0=>fun _ _ _ _ _ h=>h.elim
 | d+1=>by
  rintro Vol ⟨b,s,l⟩ v mp w ⟨va,rfl,hr⟩ hm hn hs hvl
  cases b
  ·exact inst_data D σ d (Lib.hid (inst_any D σ d)) Vol s l va mp w hr hm hn hs hvl
  ·exact inst_var D σ d Vol s l va mp w hr hm hn hs hvl
end Lx
end Go.Proofs.YtnpacamcgifabaaDoor
namespace Go.Proofs.YtnpacamcgifabaaDoor
set_option linter.unusedSimpArgs false
set_option linter.unusedVariables false
namespace Lx
open Go Go.RowKit
section
variable {Vol:Nat→Prop} {g:Nat} {w wr:World} {s:Option Addr} {cap:Nat} {acc:List TyT} {vs:List Value}
theorem RowQ.putI (h:RowQ Vol g w wr s cap acc vs) (hvg:Vol g) (hgw:g < w.heap.size) (i:Nat) (v:Value):RowQ Vol g w (wr.setCell ⟨g,i,none⟩ v) s cap acc vs:=by
 have hk:Kb (fun k=>k=g) wr (wr.setCell ⟨g,i,none⟩ v):=(Kb.refl (fun k=>k=g) wr).put (p:=⟨g,i,none⟩) rfl v
 exact ⟨h.val,own_kb h.own hk (fun k e (e2:k=g)=>by have:=(h.own.lt k e).1;omega),h.len,fun j h1 h2=>TyE.step _ _ _ _ _ _ (h.els j h1 h2) (hk.wider (fun k _ (e:k=g)=>.inl (e ▸ hvg))) (fun _ _ e=>e),h.keep.put (p:=⟨g,i,none⟩) rfl v⟩
end
theorem tyE_rowI {Vol:Nat→Prop} {k n:Int} {s:ByteArray} {l:List TyT} {va:Value} {w:World} (h:RowW 4 TyE Vol l va w):TyE Vol (.mk k s n l) (.agg #[.int .i64 k,.string s,.int .i64 n,va]) w:=by
 obtain ⟨D,hD⟩:=rowE h
 exact ⟨D+1,va,rfl,hD⟩
set_option maxRecDepth 100000 in
theorem step_tyI {ops:Array Oper} {o:Oper} {a:Act} {W:World} {K:Act→World→Prop} {Q:Exit→Act→World→Prop} {E:Prop} (hgd:o.guard=none) (s x:Operand)
  (ho:o.op=.call { callee:=.builtin .append,args:=#[s,x],argTypes:=#[27,27] })
  (base:Nat) (v:Value) (n:Nat) (xs:List Value) (hs:a.eval s=v) (hown:W.ownsRow base 32 4 v n xs) (B:Nat) (k z:Int) (y:ByteArray) (A:Option Addr) (l c:Nat) (hx:a.eval x=.slice (some ⟨B,0,none⟩) 1 1) (hB:W.heap[B]?=some (.cells #[.int .i64 k,.string y,.int .i64 z,.slice A l c] 32 (0,0))) (hn:(n+1) * 56≤140737488355328) (hbase:base≤W.heap.size)
  (h:∀ g c' w',w'.ownsRow base 32 4 (.slice (some ⟨g,0,none⟩) (n+1) c') (n+1) (xs++[.int .i64 k,.string y,.int .i64 z,.slice A l c])→W.grownBy w' v.ownBlock→(v.ownBlock=some g ∨ g=W.heap.size)→K (a.put o.dst (.slice (some ⟨g,0,none⟩) (n+1) c')) w') :
  if Region.wanted o (yielded ops a.tmps)=true then Oper.wp Tryd.prog o a W K Q else E:=by
 obtain ⟨i0,hi,hz0,hz1,hz2⟩:=info_parts infoTy
 exact step_append_lies W hgd s x _ ho base _ i0 _ 4 56 Tryd.underlying27 hi hz0 hz1 hz2 rfl (by decide) v n xs hs hown ⟨B,0,none⟩ 1 1 [.int .i64 k,.string y,.int .i64 z,.slice A l c] hx rfl (World.news_of_block (cs:=#[.int .i64 k,.string y,.int .i64 z,.slice A l c]) hB) (by simp [Value.oneCell'])
  (by omega) (by unfold maxLen;omega) (by omega) hbase _ rfl (fun g cap w' h2 h3 h4 _=>h g cap w' h2 h3 h4)
theorem heap_newI {w:World} {b:Nat} {c:Obj} (h:b=w.heap.size):(w.alloc c).heap[b]?=some c:=by subst h;exact heap_alloc_new w c
theorem insts_length (σ:List (ByteArray × TyT)) (l:List ExT):(insts σ l).length=l.length:=by rw [insts_map,List.length_map]
theorem insts_snoc (σ:List (ByteArray × TyT)) (a:List ExT) (x:ExT):insts σ (a++[x])=insts σ a++[inst σ x]:=by rw [insts_map,insts_map,List.map_append,List.map_singleton]
def RInstC (D:Nat) (σ:List (ByteArray × TyT)) (d:Nat):Prop:=∀ (Vol:Nat→Prop) (x:ExT) (v vn vt:Value) (w:World),ExW d Vol x v w→RowW 1 StrH Vol (σ.map Prod.fst) vn w→RowW 4 (TyW D) Vol (σ.map Prod.snd) vt w→sizeE x≤2000000→(∀ k,Vol k→k < w.heap.size) →
 Calls Tryd.prog 27 #[v,vn,vt] w fun e w'=>∃ v',e=.returned v'∧TyE Vol (inst σ x) v' w'∧Below w.heap.size w w'
set_option maxRecDepth 100000 in
set_option maxHeartbeats 4000000 in
theorem rinst_var (D:Nat) (σ:List (ByteArray × TyT)) (d:Nat) (Vol:Nat→Prop) (s:ByteArray) (l:List ExT) (va vn vt:Value) (w:World) (hr:RowW 3 (ExW d) Vol l va w) (hna:RowW 1 StrH Vol (σ.map Prod.fst) vn w) (hty:RowW 4 (TyW D) Vol (σ.map Prod.snd) vt w) (hvl:∀ k,Vol k→k < w.heap.size) :
  Calls Tryd.prog 27 #[.agg #[.bool true,.string s,va],vn,vt] w fun e w'=>∃ v',e=.returned v'∧TyE Vol (inst σ (.mk true s l)) v' w'∧Below w.heap.size w w':=by
 obtain ⟨A1,c1,rfl⟩:=hr.slice
 obtain ⟨An,cn,rfl⟩:=hna.slice
 obtain ⟨At,ct,rfl⟩:=hty.slice
 have hfew:=hna.few
 unfold maxLen at hfew
 rw [List.length_map] at hfew
 have hB:Below w.heap.size w ((w.alloc (.cells #[.bool true,.string s,.slice A1 l.length c1] 53)).alloc (.cells #[.int .i64 0,.string ⟨#[]⟩,.int .i64 0,.slice none 0 0] 32)):=(below_alloc _ _).alloc (by simp) _
 have hsz:((w.alloc (.cells #[.bool true,.string s,.slice A1 l.length c1] 53)).alloc (.cells #[.int .i64 0,.string ⟨#[]⟩,.int .i64 0,.slice none 0 0] 32)).heap.size=w.heap.size+2:=by simp
 have h0:((w.alloc (.cells #[.bool true,.string s,.slice A1 l.length c1] 53)).alloc (.cells #[.int .i64 0,.string ⟨#[]⟩,.int .i64 0,.slice none 0 0] 32)).heap[w.heap.size]?=some (.cells #[.bool true,.string s,.slice A1 l.length c1] 53):=(Below.heap_alloc _ _ w.heap.size (by simp)).trans (heap_alloc_new _ _)
 have h1:((w.alloc (.cells #[.bool true,.string s,.slice A1 l.length c1] 53)).alloc (.cells #[.int .i64 0,.string ⟨#[]⟩,.int .i64 0,.slice none 0 0] 32)).heap[w.heap.size+1]?=some (.cells #[.int .i64 0,.string ⟨#[]⟩,.int .i64 0,.slice none 0 0] 32):=by
  have:=heap_alloc_new (w.alloc (.cells #[.bool true,.string s,.slice A1 l.length c1] 53)) (.cells #[.int .i64 0,.string ⟨#[]⟩,.int .i64 0,.slice none 0 0] 32)
  simpa using this
 have hse:∀ j,j < w.heap.size→(Vol j ∨ j=w.heap.size+1)→Vol j:=fun j hj e=>e.elim id (fun e=>by omega)
 have HB:=Lib.hid hB
 have HSZ:=Lib.hid hsz
 have HY0:=Lib.hid h0
 have HY1:=Lib.hid h1
 have HNA:=Lib.hid (RowW.step StrH.step Vol (fun j=>Vol j ∨ j=w.heap.size+1) _ _ _ _ hna (Kb.of_below hB) hse)
 have HTY:=Lib.hid (RowW.step (TyW.step D) Vol (fun j=>Vol j ∨ j=w.heap.size+1) _ _ _ _ hty (Kb.of_below hB) hse)
 simp only [List.length_map] at HNA HTY ⊢
 clear hB hsz h0 h1 hse hr hna hty hvl
 go_enter Tryd.func27,Tryd.ntmps27
 go_upto_region 1 with fail
 generalize ((w.alloc (.cells #[.bool true,.string s,.slice A1 l.length c1] 53)).alloc (.cells #[.int .i64 0,.string ⟨#[]⟩,.int .i64 0,.slice none 0 0] 32))=Y at HB HSZ HY0 HY1 HNA HTY ⊢
 have x0:=(cellH HY0.out 0).trans rfl
 have x1:=(cellH HY0.out 1).trans rfl
 go_wp2_with fail
 go_loopw [16] (fun t wq=>∃ j:Nat,j≤σ.length∧t=.int .i64 j∧wq=Y∧Hid (∀ (i:Nat) (h:i < σ.length),i < j→σ[i].1 ≠ s)) (fun t _=>σ.length - (intOf t).toNat)
 case atStart=>exact ⟨0,Nat.zero_le _,rfl,rfl,Lib.hid (fun i _ h=>by omega)⟩
 case round =>
  obtain ⟨j,hj,rfl,rfl,HN⟩:=hrel
  have fr0:=frozenH HY1.out 0
  have fr1:=frozenH HY1.out 1
  have fr2:=frozenH HY1.out 2
  have fr3:=frozenH HY1.out 3
  have r0:=(cellH HY1.out 0).trans rfl
  have r1:=(cellH HY1.out 1).trans rfl
  have r2:=(cellH HY1.out 2).trans rfl
  have r3:=(cellH HY1.out 3).trans rfl
  by_cases hltj:j < σ.length
  ·obtain ⟨g7,o7,u7,rfl,hg7,_,hu7,hc7⟩:=RowW.at HNA.out j (by rw [List.length_map];exact hltj)
   simp only [List.getElem_map] at hu7
   obtain rfl:u7=.string σ[j].1:=hu7
   have n0:=(hc7 0 (by decide)).trans rfl
   simp only [cellsL,Value.cells,List.getElem?_cons_zero,Nat.add_zero,Nat.mul_one] at n0
   have hj0:(0:Int)≤(j:Int):=by omega
   have hj1:(j:Int) < (σ.length:Int):=by omega
   have hdj:decide (j < σ.length)=true:=by simpa using hltj
   have HLJ:=Lib.hid hltj
   clear hc7
   by_cases he:σ[j].1=s
   ·have hb:Hid (σ[j].1.toList=s.toList):=Lib.hid (by rw [he])
    have HEQ:=Lib.hid (show inst σ (.mk true s l)=σ[j].2 by rw [inst,findS_at hltj he HN.out];rfl)
    obtain ⟨g8,o8,u8,rfl,hg8,_,hu8,hc8⟩:=RowW.at HTY.out j (by rw [List.length_map];exact hltj)
    simp only [List.getElem_map] at hu8
    obtain ⟨B1,n1,c2,rfl⟩:=hu8.this
    have HU8:=Lib.hid hu8
    have a0:=(hc8 0 (by decide)).trans rfl
    have a1:=(hc8 1 (by decide)).trans rfl
    have a2:=(hc8 2 (by decide)).trans rfl
    have a3:=(hc8 3 (by decide)).trans rfl
    simp only [cellsL,Value.cells,List.getElem?_cons_zero,List.getElem?_cons_succ,Nat.add_zero] at a0 a1 a2 a3
    clear hc8 hu8 he
    go_wp2_with fail
    rotate_left
    ·have hbt:(σ[j].1.toList == s.toList)=false:=by assumption
     exact absurd hb.out (beq_eq_false_iff_ne.1 hbt)
    clear r0 r1 r2 r3 fr0 fr1 fr2 fr3 a0 a1 a2 a3
    generalize σ[j].2=t at HEQ HU8 ⊢
    have hk:=kput4 wr (w.heap.size+1) (.int .i64 t.kind) (.string t.name) (.int .i64 t.var) (.slice B1 n1 c2)
    have hq:=put4 (.int .i64 t.kind) (.string t.name) (.int .i64 t.var) (.slice B1 n1 c2) HY1.out
    generalize ((((wr.setCell ⟨w.heap.size+1,0,none⟩ (.int .i64 t.kind)).setCell ⟨w.heap.size+1,1,none⟩ (.string t.name)).setCell ⟨w.heap.size+1,2,none⟩ (.int .i64 t.var)).setCell ⟨w.heap.size+1,3,none⟩ (.slice B1 n1 c2))=W at hk hq ⊢
    have c0:=(cellH hq 0).trans rfl
    have c1:=(cellH hq 1).trans rfl
    have c2':=(cellH hq 2).trans rfl
    have c3:=(cellH hq 3).trans rfl
    refine bodyPost_ret (v:=.agg #[.int .i64 t.kind,.string t.name,.int .i64 t.var,.slice B1 n1 c2]) (by simp [results,Tryd.results27,go_sem,c0,c1,c2',c3]) rfl ⟨_,rfl,?_,?_⟩
    ·rw [HEQ.out]
     exact TyE.step (fun k=>Vol k ∨ k=w.heap.size+1) Vol _ _ _ _ ⟨D,HU8.out⟩ (hk.wider (fun k _ e=>.inr e)) (fun k _ e=>.inl e)
    ·exact HB.out.trans (hk.below HB.out.size (fun k e=>by omega))
   ·have hb:Hid (¬ σ[j].1.toList=s.toList):=Lib.hid (fun e=>he (bytes_eq e))
    have HE:=Lib.hid he
    clear he r0 r1 r2 r3 fr0 fr1 fr2 fr3
    go_wp2_with fail
    ·have hbt:(σ[j].1.toList == s.toList)=true:=by assumption
     exact absurd (eq_of_beq hbt) hb.out
    go_roundw
    case rel=>exact ⟨j+1,by have:=HLJ.out;omega,by go_num,by first | trivial | rfl,Lib.hid (fun i h hi=>by
     by_cases e:i=j
     ·subst e;exact HE.out
     ·exact HN.out i h (by omega))⟩
    case measure=>have:=HLJ.out;simp [intOf];omega
  ·obtain rfl:j=σ.length:=by omega
   have hdj:decide (σ.length < σ.length)=false:=by simp
   have HEQ:=Lib.hid (show inst σ (.mk true s l)=.mk 3 s 0 [] by rw [inst,findS_none (fun i h=>HN.out i h h)];rfl)
   go_wp2_with fail
   clear r0 r1 r2 r3 fr0 fr1 fr2 fr3
   have hk:=kput4 wr (w.heap.size+1) (.int .i64 3) (.string s) (.int .i64 0) (.slice none 0 0)
   have hq:=put4 (.int .i64 3) (.string s) (.int .i64 0) (.slice none 0 0) HY1.out
   generalize ((((wr.setCell ⟨w.heap.size+1,0,none⟩ (.int .i64 3)).setCell ⟨w.heap.size+1,1,none⟩ (.string s)).setCell ⟨w.heap.size+1,2,none⟩ (.int .i64 0)).setCell ⟨w.heap.size+1,3,none⟩ (.slice none 0 0))=W at hk hq ⊢
   have c0:=(cellH hq 0).trans rfl
   have c1:=(cellH hq 1).trans rfl
   have c2:=(cellH hq 2).trans rfl
   have c3:=(cellH hq 3).trans rfl
   refine bodyPost_ret (v:=.agg #[.int .i64 3,.string s,.int .i64 0,.slice none 0 0]) (by simp [results,Tryd.results27,go_sem,c0,c1,c2,c3]) rfl ⟨_,rfl,?_,?_⟩
   ·rw [HEQ.out]
    exact ⟨1,_,rfl,RowW.nil _ _⟩
   ·exact HB.out.trans (hk.below HB.out.size (fun k e=>by omega))
set_option maxRecDepth 100000 in
set_option maxHeartbeats 4000000 in
theorem rinst_data (D:Nat) (σ:List (ByteArray × TyT)) (d:Nat) (HC:Hid (RInstC D σ d)) (Vol:Nat→Prop) (s:ByteArray) (l:List ExT) (va vn vt:Value) (w:World) (hr:RowW 3 (ExW d) Vol l va w) (hna:RowW 1 StrH Vol (σ.map Prod.fst) vn w) (hty:RowW 4 (TyW D) Vol (σ.map Prod.snd) vt w) (hs:sizeE (.mk false s l)≤2000000) (hvl:∀ k,Vol k→k < w.heap.size) :
  Calls Tryd.prog 27 #[.agg #[.bool false,.string s,va],vn,vt] w fun e w'=>∃ v',e=.returned v'∧TyE Vol (inst σ (.mk false s l)) v' w'∧Below w.heap.size w w':=by
 obtain ⟨A1,c1,rfl⟩:=hr.slice
 obtain ⟨An,cn,rfl⟩:=hna.slice
 obtain ⟨At,ct,rfl⟩:=hty.slice
 rw [sizeE] at hs
 have hl56:l.length * 56≤140737488355328:=by have:=len_sizeE l;omega
 have HIT:=Lib.hid (show intB.toList=[105,110,116] by kernel_rfl)
 by_cases hi:s=intB∧l.length=0
 ·have HEQ:=Lib.hid (show inst σ (.mk false s l)=.mk 1 ⟨#[]⟩ 0 [] by rw [inst,if_neg (by simp),if_pos hi])
  have hsl:s.toList=[105,110,116]:=by rw [hi.1];exact HIT.out
  have hlz:((l.length:Int) == 0)=true:=by rw [hi.2];rfl
  clear hi hr hna hty hl56 hs hvl
  go_enter Tryd.func27,Tryd.ntmps27
  go_wp2_with fail
  exact bodyPost_ret (v:=.agg #[.int .i64 1,.string ⟨#[]⟩,.int .i64 0,.slice none 0 0]) (by simp [results,Tryd.results27,go_sem]) rfl ⟨_,rfl,by rw [HEQ.out];exact ⟨1,_,rfl,RowW.nil _ _⟩,(below_alloc _ _).alloc (by simp) _⟩
 ·have HEQ:=Lib.hid (show inst σ (.mk false s l)=.mk 2 s 0 (insts σ l) by rw [inst,if_neg (by simp),if_neg hi])
  have HSE:Hid (sizeEs l≤2000000):=Lib.hid (by omega)
  have HV:=Lib.hid hr
  have HNA0:=Lib.hid hna
  have HTY0:=Lib.hid hty
  have HVL:=Lib.hid hvl
  have hcond:¬ s.toList=[105,110,116] ∨ s.toList=[105,110,116]∧((l.length:Int) == 0)=false:=by
   by_cases h:s=intB
   ·right
    have:l.length ≠ 0:=fun e=>hi ⟨h,e⟩
    exact ⟨by rw [h];exact HIT.out,beq_eq_false_iff_ne.2 (by omega)⟩
   ·exact .inl (fun e=>h (bytes_eq (e.trans HIT.out.symm)))
  clear hi hr hna hty hs hvl
  have hBB:Below w.heap.size w (((w.alloc (.cells #[.bool false,.string s,.slice A1 l.length c1] 53)).alloc (.cells #[.int .i64 0,.string ⟨#[]⟩,.int .i64 0,.slice none 0 0] 32)).alloc (.cells #[.int .i64 2,.string s,.int .i64 0,.slice none 0 0] 32)):=((below_alloc _ _).alloc (by simp) _).alloc (by simp;omega) _
  have hOB:(((w.alloc (.cells #[.bool false,.string s,.slice A1 l.length c1] 53)).alloc (.cells #[.int .i64 0,.string ⟨#[]⟩,.int .i64 0,.slice none 0 0] 32)).alloc (.cells #[.int .i64 2,.string s,.int .i64 0,.slice none 0 0] 32)).heap[w.heap.size+1+1]?=some (.cells #[.int .i64 2,.string s,.int .i64 0,.slice none 0 0] 32):=by
   have:=heap_alloc_new ((w.alloc (.cells #[.bool false,.string s,.slice A1 l.length c1] 53)).alloc (.cells #[.int .i64 0,.string ⟨#[]⟩,.int .i64 0,.slice none 0 0] 32)) (.cells #[.int .i64 2,.string s,.int .i64 0,.slice none 0 0] 32)
   simpa using this
  have hRB:(((w.alloc (.cells #[.bool false,.string s,.slice A1 l.length c1] 53)).alloc (.cells #[.int .i64 0,.string ⟨#[]⟩,.int .i64 0,.slice none 0 0] 32)).alloc (.cells #[.int .i64 2,.string s,.int .i64 0,.slice none 0 0] 32)).heap[w.heap.size+1]?=some (.cells #[.int .i64 0,.string ⟨#[]⟩,.int .i64 0,.slice none 0 0] 32):=by
   refine (Below.heap_alloc _ _ _ (by simp)).trans ?_
   have:=heap_alloc_new (w.alloc (.cells #[.bool false,.string s,.slice A1 l.length c1] 53)) (.cells #[.int .i64 0,.string ⟨#[]⟩,.int .i64 0,.slice none 0 0] 32)
   simpa using this
  have hSZ:(((w.alloc (.cells #[.bool false,.string s,.slice A1 l.length c1] 53)).alloc (.cells #[.int .i64 0,.string ⟨#[]⟩,.int .i64 0,.slice none 0 0] 32)).alloc (.cells #[.int .i64 2,.string s,.int .i64 0,.slice none 0 0] 32)).heap.size=w.heap.size+3:=by simp
  have HBB0:=Lib.hid hBB
  have HOB:=Lib.hid hOB
  have HRB:=Lib.hid hRB
  have HSZ:=Lib.hid hSZ
  clear hBB hOB hRB hSZ
  rcases hcond with hsl | ⟨hsl,hlz⟩
  all_goals
   go_enter Tryd.func27,Tryd.ntmps27
   go_wp2_with fail
   clear hsl
   try clear hlz
   generalize (((w.alloc (.cells #[.bool false,.string s,.slice A1 l.length c1] 53)).alloc (.cells #[.int .i64 0,.string ⟨#[]⟩,.int .i64 0,.slice none 0 0] 32)).alloc (.cells #[.int .i64 2,.string s,.int .i64 0,.slice none 0 0] 32))=WB at HBB0 HOB HRB HSZ ⊢
   generalize hBn:w.heap.size+1+1=B at HOB ⊢
   have HBN:=Lib.hid hBn
   clear hBn
   have HBW:Hid (B < WB.heap.size):=Lib.hid (Array.getElem?_eq_some_iff.1 HOB.out).1
   have HSD:Hid (∀ j,j < w.heap.size→((Vol j ∨ j=w.heap.size+1) ∨ j=B)→Vol j):=Lib.hid (fun j hj e=>e.elim (fun e=>e.elim id (fun e=>by omega)) (fun e=>by have:=HBN.out;omega))
   have HVB:Hid (RowW 3 (ExW d) (fun j=>(Vol j ∨ j=w.heap.size+1) ∨ j=B) l (.slice A1 l.length c1) WB):=Lib.hid (RowW.step (ExW.step d) Vol (fun j=>(Vol j ∨ j=w.heap.size+1) ∨ j=B) _ _ _ _ HV.out (Kb.of_below HBB0.out) HSD.out)
   have HNA:=Lib.hid (RowW.step StrH.step Vol (fun j=>(Vol j ∨ j=w.heap.size+1) ∨ j=B) _ _ _ _ HNA0.out (Kb.of_below HBB0.out) HSD.out)
   have HTY:=Lib.hid (RowW.step (TyW.step D) Vol (fun j=>(Vol j ∨ j=w.heap.size+1) ∨ j=B) _ _ _ _ HTY0.out (Kb.of_below HBB0.out) HSD.out)
   have HVLB:Hid (∀ j,((Vol j ∨ j=w.heap.size+1) ∨ j=B)→j < WB.heap.size):=Lib.hid (fun j e=>by
    have h1:=HSZ.out
    have h2:=HBN.out
    rcases e with (e | e) | e
    ·have:=HVL.out j e;omega
    ·omega
    ·omega)
   simp only [List.length_map] at HNA HTY ⊢
   go_loopw [49] (fun t wr=>∃ (k:Nat) (s':Option Addr) (cap':Nat) (vs:List Value),k≤l.length∧t=.int .i64 k∧Hid (RowQ (fun j=>(Vol j ∨ j=w.heap.size+1) ∨ j=B) B WB wr s' cap' (insts σ (l.take k)) vs)∧Hid (wr.heap[B]?=some (.cells #[.int .i64 2,.string s,.int .i64 0,.slice s' k cap'] 32 (0,0)))) (fun t _=>l.length - (intOf t).toNat)
   case atStart=>exact ⟨0,none,0,[],Nat.zero_le _,rfl,Lib.hid (by rw [List.take_zero,insts];exact RowQ.start _ _ _),HOB⟩
   case round =>
    obtain ⟨k,s',cap',vs,hk,rfl,HR,HBR⟩:=hrel
    have hlk:(insts σ (l.take k)).length=k:=by rw [insts_length,List.length_take];omega
    have HLK:=Lib.hid hlk
    by_cases hlt:k < l.length
    ·have hsl:∀ j,j < WB.heap.size→s' ≠ some ⟨j,0,none⟩:=fun j hj e=>by have:=(HR.out.own.lt j (by rw [e];rfl)).1;omega
     obtain ⟨gg,o,vi,rfl,hg,_,hvi,hc⟩:=RowW.at (RowW.step (ExW.step d) (fun j=>(Vol j ∨ j=w.heap.size+1) ∨ j=B) (fun j=>((Vol j ∨ j=w.heap.size+1) ∨ j=B) ∨ s'=some ⟨j,0,none⟩) _ _ _ _ HVB.out (HR.out.keep.wider (fun j _ (e:j=B)=>.inr e)) (fun j hj e=>e.elim id (fun e=>absurd e (hsl j hj)))) k hlt
     obtain ⟨B1,n1,c2,rfl⟩:=hvi.this
     have a0:=(hc 0 (by decide)).trans rfl
     have a1:=(hc 1 (by decide)).trans rfl
     have a2:=(hc 2 (by decide)).trans rfl
     simp only [cellsL,Value.cells,List.getElem?_cons_zero,List.getElem?_cons_succ,Nat.add_zero] at a0 a1 a2
     have hk0:(0:Int)≤(k:Int):=by omega
     have hk1:(k:Int) < (l.length:Int):=by omega
     have hdc:decide (k < l.length)=true:=by simpa using hlt
     have HMN:=Lib.hid (HR.out.mine HVLB.out)
     have hbz:=below_alloc wr (.cells #[.bool l[k].isVar,.string l[k].name,.slice B1 n1 c2] 53)
     have HBZ:=Lib.hid hbz
     have HSTK:=Lib.hid (Nat.le_trans (sizeEs_mem hlt) HSE.out)
     have HNA5:=Lib.hid ((RowW.step StrH.step).below (RowW.step StrH.step _ (fun j=>((Vol j ∨ j=w.heap.size+1) ∨ j=B) ∨ s'=some ⟨j,0,none⟩) _ _ _ _ HNA.out (HR.out.keep.wider (fun j _ (e:j=B)=>.inr e)) (fun j hj e=>e.elim id (fun e=>absurd e (hsl j hj)))) hbz)
     have HTY5:=Lib.hid ((RowW.step (TyW.step D)).below (RowW.step (TyW.step D) _ (fun j=>((Vol j ∨ j=w.heap.size+1) ∨ j=B) ∨ s'=some ⟨j,0,none⟩) _ _ _ _ HTY.out (HR.out.keep.wider (fun j _ (e:j=B)=>.inr e)) (fun j hj e=>e.elim id (fun e=>absurd e (hsl j hj)))) hbz)
     have HVI:=Lib.hid ((ExW.step d).below hvi hbz)
     have HNY:=Lib.hid (heap_alloc_new wr (.cells #[.bool l[k].isVar,.string l[k].name,.slice B1 n1 c2] 53))
     have HBY:=Lib.hid ((Below.heap_alloc wr (.cells #[.bool l[k].isVar,.string l[k].name,.slice B1 n1 c2] 53) B (Array.getElem?_eq_some_iff.1 HBR.out).1).trans HBR.out)
     have HSN:Hid ((Value.slice s' k cap').ownBlock ≠ some wr.heap.size):=Lib.hid (fun e=>by have:=(HR.out.own.lt _ (by rw [HLK.out];exact e)).2;omega)
     have HSB:Hid ((Value.slice s' k cap').ownBlock ≠ some B):=Lib.hid (fun e=>by have:=(HR.out.own.lt _ (by rw [HLK.out];exact e)).1;have:=HBW.out;omega)
     have HNB:Hid (wr.heap.size ≠ B):=Lib.hid (fun e=>by have:=(Array.getElem?_eq_some_iff.1 HBR.out).1;omega)
     have HWR:=Lib.hid HR.out.keep.size
     have hoy:=own_kb HR.out.own (Kb.of_below (S:=fun _=>False) hbz) (fun _ _ e=>e)
     rw [HLK.out] at hoy
     have HOY:=Lib.hid hoy
     clear hc hvi hlk hsl hbz hoy
     go_upto_region 15 with fail
     clear a0 a1 a2
     generalize hxx:l[k]=x at HVI HNY HBY HSTK HBZ HOY HNA5 HTY5 ⊢
     generalize (wr.alloc (.cells #[.bool x.isVar,.string x.name,.slice B1 n1 c2] 53))=Y at HVI HNY HBY HBZ HOY HNA5 HTY5 ⊢
     generalize wr.heap.size=N5 at HNY HSN HNB ⊢
     have b3:Y.cell? ⟨B,3,none⟩=some (.slice s' k cap'):=(cellH HBY.out 3).trans rfl
     have HSX:Hid (∀ X:World,Below Y.heap.size Y X→X.cell? ⟨N5,0,none⟩=some (.bool x.isVar)∧X.cell? ⟨N5,1,none⟩=some (.string x.name)∧X.cell? ⟨N5,2,none⟩=some (.slice B1 n1 c2)):=Lib.hid (fun X hb=>by
      have e1:=(hb.block N5 (Array.getElem?_eq_some_iff.1 HNY.out).1).trans HNY.out
      exact ⟨(cellH e1 0).trans rfl,(cellH e1 1).trans rfl,(cellH e1 2).trans rfl⟩)
     have HXC:Hid (∀ X:World,Below Y.heap.size Y X→Calls Tryd.prog 27 #[.agg #[.bool x.isVar,.string x.name,.slice B1 n1 c2],.slice An σ.length cn,.slice At σ.length ct] X fun e w'=>∃ v',e=.returned v'∧TyE (fun j=>((Vol j ∨ j=w.heap.size+1) ∨ j=B) ∨ s'=some ⟨j,0,none⟩) (inst σ x) v' w'∧Below Y.heap.size Y w'):=Lib.hid (fun X hb=>(HC.out _ x _ _ _ X ((ExW.step d).below HVI.out hb) ((RowW.step StrH.step).below HNA5.out hb) ((RowW.step (TyW.step D)).below HTY5.out hb) HSTK.out (fun j e=>Nat.lt_of_lt_of_le (HMN.out j e) (Nat.le_trans HBZ.out.size hb.size))).mono (fun e w' ⟨v',h1,h2,h3⟩=>⟨v',h1,h2,hb.trans (h3.mono hb.size)⟩))
     have HBD:Hid (Below Y.heap.size Y Y.drew):=Lib.hid (below_drw (Below.refl _ _))
     have HSZ4:Hid (∀ X:World,Below Y.heap.size Y X→WB.heap.size≤X.heap.size+1):=Lib.hid (fun X hb=>by have h1:=HWR.out;have h2:=hb.size;have h3:=HBZ.out.size;omega)
     have HN5:Hid (∀ X:World,Below Y.heap.size Y X→N5 < X.heap.size):=Lib.hid (fun X hb=>Nat.lt_of_lt_of_le (Array.getElem?_eq_some_iff.1 HNY.out).1 hb.size)
     have HB5:Hid (∀ X:World,Below Y.heap.size Y X→B < X.heap.size):=Lib.hid (fun X hb=>Nat.lt_of_lt_of_le (Array.getElem?_eq_some_iff.1 HBY.out).1 hb.size)
     refine wp_region_held_drew (S:=fun W=>W.cell? ⟨N5,0,none⟩=some (.bool x.isVar)∧W.cell? ⟨N5,1,none⟩=some (.string x.name)∧W.cell? ⟨N5,2,none⟩=some (.slice B1 n1 c2)) (by kernel_rfl) (HSX.out Y (Below.refl _ _)) (fun hHeld=>?_)
     (refine wpAnyH_take (i:=0) (oi:=_) (v:=?_) rfl (by kernel_rfl) (by kernel_rfl) (by kernel_rfl) (fun _ _ _ h=>h) (Or.inl ⟨by rfl,?_⟩) (by assumption) ?_;rotate_left;(focus (intro w hSw;(try dsimp only at hSw);go_simp;(try with_reducible rfl);done));(try simp only [Act.put,List.setIfInBounds_toArray,List.set_cons_zero,List.set_cons_succ]))
     (refine wpAnyH_take (i:=2) (oi:=_) (v:=?_) rfl (by kernel_rfl) (by kernel_rfl) (by kernel_rfl) (fun _ _ _ h=>h) (Or.inl ⟨by rfl,?_⟩) (by assumption) ?_;rotate_left;(focus (intro w hSw;(try dsimp only at hSw);go_simp;(try with_reducible rfl);done));(try simp only [Act.put,List.setIfInBounds_toArray,List.set_cons_zero,List.set_cons_succ]))
     (refine wpAnyH_take (i:=3) (oi:=_) (v:=?_) rfl (by kernel_rfl) (by kernel_rfl) (by kernel_rfl) (fun _ _ _ h=>h) (Or.inl ⟨by rfl,?_⟩) (by assumption) ?_;rotate_left;(focus (intro w hSw;(try dsimp only at hSw);go_simp;(try with_reducible rfl);done));(try simp only [Act.put,List.setIfInBounds_toArray,List.set_cons_zero,List.set_cons_succ]))
     (refine wpAnyH_take (i:=4) (oi:=_) (v:=?_) rfl (by kernel_rfl) (by kernel_rfl) (by kernel_rfl) (fun _ _ _ h=>h) (Or.inl ⟨by rfl,?_⟩) (by assumption) ?_;rotate_left;(focus (intro w hSw;(try dsimp only at hSw);go_simp;(try with_reducible rfl);done));(try simp only [Act.put,List.setIfInBounds_toArray,List.set_cons_zero,List.set_cons_succ]))
     refine wpAnyH_ready (rs:=[1,5]) (by kernel_rfl) (by simp) ?_
     refine AllReadyH.cons (o:=_) rfl (fun K hK=>?_) (AllReadyH.cons (o:=_) rfl (fun K hK=>?_) AllReadyH.nil)
     ·go_simp
      refine hK.out _ _ (HSX.out _ HBD.out) (fun hHeld=>?_)
      clear hK K
      try simp only [Act.put,List.setIfInBounds_toArray,List.set_cons_zero,List.set_cons_succ]
      refine wpAnyH_ready (rs:=[5]) (by kernel_rfl) (by simp) ?_
      refine AllReadyH.cons (o:=_) rfl (fun K hK=>?_) AllReadyH.nil
      go_simp
      refine (HXC.out _ HBD.out).mono ?_
      rintro e w4 ⟨v4,rfl,hv4,hb4⟩
      obtain ⟨y5,y6,y7,hv4e⟩:=hv4.this
      subst hv4e
      have HV4:=Lib.hid hv4
      have HB4:=Lib.hid (hb4)
      have b3:w4.cell? ⟨B,3,none⟩=some (.slice s' k cap'):=(cellH ((HB4.out.block B (Array.getElem?_eq_some_iff.1 HBY.out).1).trans HBY.out) 3).trans rfl
      clear hv4 hb4
      refine hK.out _ _ (HSX.out _ HB4.out) (fun hHeld=>?_)
      clear hK K
      try simp only [Act.put,List.setIfInBounds_toArray,List.set_cons_zero,List.set_cons_succ]
      refine wpAnyH_ready (rs:=[6]) (by kernel_rfl) (by simp) ?_
      refine AllReadyH.cons (o:=_) rfl (fun K hK=>?_) AllReadyH.nil
      go_simp
      refine hK.out _ _ (HSX.out _ (HB4.out.trans ((below_alloc w4 _).mono HB4.out.size))) (fun hHeld=>?_)
      clear hK K
      try simp only [Act.put,List.setIfInBounds_toArray,List.set_cons_zero,List.set_cons_succ]
      refine wpAnyH_ready (rs:=[7]) (by kernel_rfl) (by simp) ?_
      refine AllReadyH.cons (o:=_) rfl (fun K hK=>?_) AllReadyH.nil
      refine step_tyI rfl (.tmp 54) (.tmp 59) rfl WB.heap.size (.slice s' k cap') k (vs.flatMap cellsL) (by kernel_rfl) (own_kb HOY.out (Kb.of_below (S:=fun _=>False) (HB4.out.trans ((below_alloc w4 (.cells #[.int .i64 (inst σ x).kind,.string (inst σ x).name,.int .i64 (inst σ x).var,.slice y5 y6 y7] 32)).mono HB4.out.size))) (fun _ _ e=>e)) w4.heap.size (inst σ x).kind (inst σ x).var (inst σ x).name y5 y6 y7 (by kernel_rfl) (heap_newI rfl) (by omega) (by have:=HSZ4.out _ HB4.out;simp;omega) ?_
      intro g2 cap2 w6 hown6 hg6 hat6
      have hn5:w6.heap[N5]?=some (.cells #[.bool x.isVar,.string x.name,.slice B1 n1 c2] 53):=(hg6.block N5 (Nat.lt_of_lt_of_le (HN5.out _ HB4.out) (by simp)) (fun e=>HSN.out e.symm)).trans ((Below.heap_alloc w4 _ N5 (HN5.out _ HB4.out)).trans ((HB4.out.block N5 (Array.getElem?_eq_some_iff.1 HNY.out).1).trans HNY.out))
      have hbb:w6.heap[B]?=some (.cells #[.int .i64 2,.string s,.int .i64 0,.slice s' k cap'] 32 (0,0)):=(hg6.block B (Nat.lt_of_lt_of_le (HB5.out _ HB4.out) (by simp)) (fun e=>HSB.out e.symm)).trans ((Below.heap_alloc w4 _ B (HB5.out _ HB4.out)).trans ((HB4.out.block B (Array.getElem?_eq_some_iff.1 HBY.out).1).trans HBY.out))
      have HQ6:=Lib.hid (HR.out.snoc (.inr rfl) (Kb.of_below (S:=fun j=>j=B) (HBZ.out.trans (HB4.out.mono HBZ.out.size))) HV4.out (by rw [HLK.out];exact hown6) (by rw [HLK.out];exact hg6) (by rw [HLK.out];exact hat6))
      have HN6:=Lib.hid hn5
      have HBB:=Lib.hid hbb
      clear hown6 hg6 hat6 hn5 hbb
      refine hK.out _ _ (⟨(cellH HN6.out 0).trans rfl,(cellH HN6.out 1).trans rfl,(cellH HN6.out 2).trans rfl⟩) (fun hHeld=>?_)
      clear hK K
      try simp only [Act.put,List.setIfInBounds_toArray,List.set_cons_zero,List.set_cons_succ]
      refine wpAnyH_ready (rs:=[8]) (by kernel_rfl) (by simp) ?_
      refine AllReadyH.cons (o:=_) rfl (fun K hK=>?_) AllReadyH.nil
      go_simp
      refine hK.out _ _ (⟨(cellH HN6.out 0).trans rfl,(cellH HN6.out 1).trans rfl,(cellH HN6.out 2).trans rfl⟩) (fun hHeld=>?_)
      clear hK K
      try simp only [Act.put,List.setIfInBounds_toArray,List.set_cons_zero,List.set_cons_succ]
      refine wpAnyH_ready (rs:=[9]) (by kernel_rfl) (by simp) ?_
      refine AllReadyH.cons (o:=_) rfl (fun K hK=>?_) AllReadyH.nil
      have fb3:=frozenH HBB.out 3
      have cb3:=(cellH HBB.out 3).trans rfl
      go_simp
      have hn7:=(Below.heap_setCell w6 ⟨B,3,none⟩ (.slice (some ⟨g2,0,none⟩) (k+1) cap2) N5 HNB.out).trans HN6.out
      refine hK.out _ _ (⟨(cellH hn7 0).trans rfl,(cellH hn7 1).trans rfl,(cellH hn7 2).trans rfl⟩) (fun hHeld=>?_)
      clear hK K
      try simp only [Act.put,List.setIfInBounds_toArray,List.set_cons_zero,List.set_cons_succ]
      refine wpAnyH_done (by kernel_rfl) ?_ _
      have HQ7:=Lib.hid (HQ6.out.putI (.inr rfl) HBW.out 3 (.slice (some ⟨g2,0,none⟩) (k+1) cap2))
      have HB7:Hid ((w6.setCell ⟨B,3,none⟩ (.slice (some ⟨g2,0,none⟩) (k+1) cap2)).heap[B]?=some (.cells #[.int .i64 2,.string s,.int .i64 0,.slice (some ⟨g2,0,none⟩) (k+1) cap2] 32 (0,0))):=Lib.hid (blk_put w6 B 3 _ HBB.out (by simp))
      generalize (w6.setCell ⟨B,3,none⟩ (.slice (some ⟨g2,0,none⟩) (k+1) cap2))=W7 at HQ7 HB7 ⊢
      clear fb3 cb3 hn7
      go_wp2_with fail
      go_roundw
      case rel=>exact ⟨k+1,some ⟨g2,0,none⟩,cap2,_,by omega,by go_num,Lib.hid (by rw [List.take_succ_eq_append_getElem hlt,insts_snoc,hxx];exact HQ7.out),HB7⟩
      case measure=>simp [intOf];omega
     ·go_simp
      refine (HXC.out _ HBD.out).mono ?_
      rintro e w4 ⟨v4,rfl,hv4,hb4⟩
      obtain ⟨y5,y6,y7,hv4e⟩:=hv4.this
      subst hv4e
      have HV4:=Lib.hid hv4
      have HB4:=Lib.hid (hb4)
      have b3:w4.cell? ⟨B,3,none⟩=some (.slice s' k cap'):=(cellH ((HB4.out.block B (Array.getElem?_eq_some_iff.1 HBY.out).1).trans HBY.out) 3).trans rfl
      clear hv4 hb4
      refine hK.out _ _ (HSX.out _ HB4.out) (fun hHeld=>?_)
      clear hK K
      try simp only [Act.put,List.setIfInBounds_toArray,List.set_cons_zero,List.set_cons_succ]
      refine wpAnyH_ready (rs:=[1,6]) (by kernel_rfl) (by simp) ?_
      refine AllReadyH.cons (o:=_) rfl (fun K hK=>?_) (AllReadyH.cons (o:=_) rfl (fun K hK=>?_) AllReadyH.nil)
      ·go_simp
       refine hK.out _ _ (HSX.out _ HB4.out) (fun hHeld=>?_)
       clear hK K
       try simp only [Act.put,List.setIfInBounds_toArray,List.set_cons_zero,List.set_cons_succ]
       refine wpAnyH_ready (rs:=[6]) (by kernel_rfl) (by simp) ?_
       refine AllReadyH.cons (o:=_) rfl (fun K hK=>?_) AllReadyH.nil
       go_simp
       refine hK.out _ _ (HSX.out _ (HB4.out.trans ((below_alloc w4 _).mono HB4.out.size))) (fun hHeld=>?_)
       clear hK K
       try simp only [Act.put,List.setIfInBounds_toArray,List.set_cons_zero,List.set_cons_succ]
       refine wpAnyH_ready (rs:=[7]) (by kernel_rfl) (by simp) ?_
       refine AllReadyH.cons (o:=_) rfl (fun K hK=>?_) AllReadyH.nil
       refine step_tyI rfl (.tmp 54) (.tmp 59) rfl WB.heap.size (.slice s' k cap') k (vs.flatMap cellsL) (by kernel_rfl) (own_kb HOY.out (Kb.of_below (S:=fun _=>False) (HB4.out.trans ((below_alloc w4 (.cells #[.int .i64 (inst σ x).kind,.string (inst σ x).name,.int .i64 (inst σ x).var,.slice y5 y6 y7] 32)).mono HB4.out.size))) (fun _ _ e=>e)) w4.heap.size (inst σ x).kind (inst σ x).var (inst σ x).name y5 y6 y7 (by kernel_rfl) (heap_newI rfl) (by omega) (by have:=HSZ4.out _ HB4.out;simp;omega) ?_
       intro g2 cap2 w6 hown6 hg6 hat6
       have hn5:w6.heap[N5]?=some (.cells #[.bool x.isVar,.string x.name,.slice B1 n1 c2] 53):=(hg6.block N5 (Nat.lt_of_lt_of_le (HN5.out _ HB4.out) (by simp)) (fun e=>HSN.out e.symm)).trans ((Below.heap_alloc w4 _ N5 (HN5.out _ HB4.out)).trans ((HB4.out.block N5 (Array.getElem?_eq_some_iff.1 HNY.out).1).trans HNY.out))
       have hbb:w6.heap[B]?=some (.cells #[.int .i64 2,.string s,.int .i64 0,.slice s' k cap'] 32 (0,0)):=(hg6.block B (Nat.lt_of_lt_of_le (HB5.out _ HB4.out) (by simp)) (fun e=>HSB.out e.symm)).trans ((Below.heap_alloc w4 _ B (HB5.out _ HB4.out)).trans ((HB4.out.block B (Array.getElem?_eq_some_iff.1 HBY.out).1).trans HBY.out))
       have HQ6:=Lib.hid (HR.out.snoc (.inr rfl) (Kb.of_below (S:=fun j=>j=B) (HBZ.out.trans (HB4.out.mono HBZ.out.size))) HV4.out (by rw [HLK.out];exact hown6) (by rw [HLK.out];exact hg6) (by rw [HLK.out];exact hat6))
       have HN6:=Lib.hid hn5
       have HBB:=Lib.hid hbb
       clear hown6 hg6 hat6 hn5 hbb
       refine hK.out _ _ (⟨(cellH HN6.out 0).trans rfl,(cellH HN6.out 1).trans rfl,(cellH HN6.out 2).trans rfl⟩) (fun hHeld=>?_)
       clear hK K
       try simp only [Act.put,List.setIfInBounds_toArray,List.set_cons_zero,List.set_cons_succ]
       refine wpAnyH_ready (rs:=[8]) (by kernel_rfl) (by simp) ?_
       refine AllReadyH.cons (o:=_) rfl (fun K hK=>?_) AllReadyH.nil
       go_simp
       refine hK.out _ _ (⟨(cellH HN6.out 0).trans rfl,(cellH HN6.out 1).trans rfl,(cellH HN6.out 2).trans rfl⟩) (fun hHeld=>?_)
       clear hK K
       try simp only [Act.put,List.setIfInBounds_toArray,List.set_cons_zero,List.set_cons_succ]
       refine wpAnyH_ready (rs:=[9]) (by kernel_rfl) (by simp) ?_
       refine AllReadyH.cons (o:=_) rfl (fun K hK=>?_) AllReadyH.nil
       have fb3:=frozenH HBB.out 3
       have cb3:=(cellH HBB.out 3).trans rfl
       go_simp
       have hn7:=(Below.heap_setCell w6 ⟨B,3,none⟩ (.slice (some ⟨g2,0,none⟩) (k+1) cap2) N5 HNB.out).trans HN6.out
       refine hK.out _ _ (⟨(cellH hn7 0).trans rfl,(cellH hn7 1).trans rfl,(cellH hn7 2).trans rfl⟩) (fun hHeld=>?_)
       clear hK K
       try simp only [Act.put,List.setIfInBounds_toArray,List.set_cons_zero,List.set_cons_succ]
       refine wpAnyH_done (by kernel_rfl) ?_ _
       have HQ7:=Lib.hid (HQ6.out.putI (.inr rfl) HBW.out 3 (.slice (some ⟨g2,0,none⟩) (k+1) cap2))
       have HB7:Hid ((w6.setCell ⟨B,3,none⟩ (.slice (some ⟨g2,0,none⟩) (k+1) cap2)).heap[B]?=some (.cells #[.int .i64 2,.string s,.int .i64 0,.slice (some ⟨g2,0,none⟩) (k+1) cap2] 32 (0,0))):=Lib.hid (blk_put w6 B 3 _ HBB.out (by simp))
       generalize (w6.setCell ⟨B,3,none⟩ (.slice (some ⟨g2,0,none⟩) (k+1) cap2))=W7 at HQ7 HB7 ⊢
       clear fb3 cb3 hn7
       go_wp2_with fail
       go_roundw
       case rel=>exact ⟨k+1,some ⟨g2,0,none⟩,cap2,_,by omega,by go_num,Lib.hid (by rw [List.take_succ_eq_append_getElem hlt,insts_snoc,hxx];exact HQ7.out),HB7⟩
       case measure=>simp [intOf];omega
      ·go_simp
       have b4:(w4.alloc (.cells #[.int .i64 (inst σ x).kind,.string (inst σ x).name,.int .i64 (inst σ x).var,.slice y5 y6 y7] 32)).cell? ⟨B,3,none⟩=some (.slice s' k cap'):=(World.cell?_of_block (Below.heap_alloc w4 _ B (Nat.lt_of_lt_of_le (Array.getElem?_eq_some_iff.1 HBY.out).1 HB4.out.size))).trans b3
       refine hK.out _ _ (HSX.out _ (HB4.out.trans ((below_alloc w4 _).mono HB4.out.size))) (fun hHeld=>?_)
       clear hK K
       try simp only [Act.put,List.setIfInBounds_toArray,List.set_cons_zero,List.set_cons_succ]
       refine wpAnyH_ready (rs:=[1]) (by kernel_rfl) (by simp) ?_
       refine AllReadyH.cons (o:=_) rfl (fun K hK=>?_) AllReadyH.nil
       go_simp
       refine hK.out _ _ (HSX.out _ (HB4.out.trans ((below_alloc w4 _).mono HB4.out.size))) (fun hHeld=>?_)
       clear hK K
       try simp only [Act.put,List.setIfInBounds_toArray,List.set_cons_zero,List.set_cons_succ]
       refine wpAnyH_ready (rs:=[7]) (by kernel_rfl) (by simp) ?_
       refine AllReadyH.cons (o:=_) rfl (fun K hK=>?_) AllReadyH.nil
       refine step_tyI rfl (.tmp 54) (.tmp 59) rfl WB.heap.size (.slice s' k cap') k (vs.flatMap cellsL) (by kernel_rfl) (own_kb HOY.out (Kb.of_below (S:=fun _=>False) (HB4.out.trans ((below_alloc w4 (.cells #[.int .i64 (inst σ x).kind,.string (inst σ x).name,.int .i64 (inst σ x).var,.slice y5 y6 y7] 32)).mono HB4.out.size))) (fun _ _ e=>e)) w4.heap.size (inst σ x).kind (inst σ x).var (inst σ x).name y5 y6 y7 (by kernel_rfl) (heap_newI rfl) (by omega) (by have:=HSZ4.out _ HB4.out;simp;omega) ?_
       intro g2 cap2 w6 hown6 hg6 hat6
       have hn5:w6.heap[N5]?=some (.cells #[.bool x.isVar,.string x.name,.slice B1 n1 c2] 53):=(hg6.block N5 (Nat.lt_of_lt_of_le (HN5.out _ HB4.out) (by simp)) (fun e=>HSN.out e.symm)).trans ((Below.heap_alloc w4 _ N5 (HN5.out _ HB4.out)).trans ((HB4.out.block N5 (Array.getElem?_eq_some_iff.1 HNY.out).1).trans HNY.out))
       have hbb:w6.heap[B]?=some (.cells #[.int .i64 2,.string s,.int .i64 0,.slice s' k cap'] 32 (0,0)):=(hg6.block B (Nat.lt_of_lt_of_le (HB5.out _ HB4.out) (by simp)) (fun e=>HSB.out e.symm)).trans ((Below.heap_alloc w4 _ B (HB5.out _ HB4.out)).trans ((HB4.out.block B (Array.getElem?_eq_some_iff.1 HBY.out).1).trans HBY.out))
       have HQ6:=Lib.hid (HR.out.snoc (.inr rfl) (Kb.of_below (S:=fun j=>j=B) (HBZ.out.trans (HB4.out.mono HBZ.out.size))) HV4.out (by rw [HLK.out];exact hown6) (by rw [HLK.out];exact hg6) (by rw [HLK.out];exact hat6))
       have HN6:=Lib.hid hn5
       have HBB:=Lib.hid hbb
       clear hown6 hg6 hat6 hn5 hbb
       refine hK.out _ _ (⟨(cellH HN6.out 0).trans rfl,(cellH HN6.out 1).trans rfl,(cellH HN6.out 2).trans rfl⟩) (fun hHeld=>?_)
       clear hK K
       try simp only [Act.put,List.setIfInBounds_toArray,List.set_cons_zero,List.set_cons_succ]
       refine wpAnyH_ready (rs:=[8]) (by kernel_rfl) (by simp) ?_
       refine AllReadyH.cons (o:=_) rfl (fun K hK=>?_) AllReadyH.nil
       go_simp
       refine hK.out _ _ (⟨(cellH HN6.out 0).trans rfl,(cellH HN6.out 1).trans rfl,(cellH HN6.out 2).trans rfl⟩) (fun hHeld=>?_)
       clear hK K
       try simp only [Act.put,List.setIfInBounds_toArray,List.set_cons_zero,List.set_cons_succ]
       refine wpAnyH_ready (rs:=[9]) (by kernel_rfl) (by simp) ?_
       refine AllReadyH.cons (o:=_) rfl (fun K hK=>?_) AllReadyH.nil
       have fb3:=frozenH HBB.out 3
       have cb3:=(cellH HBB.out 3).trans rfl
       go_simp
       have hn7:=(Below.heap_setCell w6 ⟨B,3,none⟩ (.slice (some ⟨g2,0,none⟩) (k+1) cap2) N5 HNB.out).trans HN6.out
       refine hK.out _ _ (⟨(cellH hn7 0).trans rfl,(cellH hn7 1).trans rfl,(cellH hn7 2).trans rfl⟩) (fun hHeld=>?_)
       clear hK K
       try simp only [Act.put,List.setIfInBounds_toArray,List.set_cons_zero,List.set_cons_succ]
       refine wpAnyH_done (by kernel_rfl) ?_ _
       have HQ7:=Lib.hid (HQ6.out.putI (.inr rfl) HBW.out 3 (.slice (some ⟨g2,0,none⟩) (k+1) cap2))
       have HB7:Hid ((w6.setCell ⟨B,3,none⟩ (.slice (some ⟨g2,0,none⟩) (k+1) cap2)).heap[B]?=some (.cells #[.int .i64 2,.string s,.int .i64 0,.slice (some ⟨g2,0,none⟩) (k+1) cap2] 32 (0,0))):=Lib.hid (blk_put w6 B 3 _ HBB.out (by simp))
       generalize (w6.setCell ⟨B,3,none⟩ (.slice (some ⟨g2,0,none⟩) (k+1) cap2))=W7 at HQ7 HB7 ⊢
       clear fb3 cb3 hn7
       go_wp2_with fail
       go_roundw
       case rel=>exact ⟨k+1,some ⟨g2,0,none⟩,cap2,_,by omega,by go_num,Lib.hid (by rw [List.take_succ_eq_append_getElem hlt,insts_snoc,hxx];exact HQ7.out),HB7⟩
       case measure=>simp [intOf];omega
    ·obtain rfl:k=l.length:=by omega
     have hdc:decide (l.length < l.length)=false:=by simp
     rw [List.take_length] at HR
     have hq:=HR.out.held HVLB.out
     rw [insts_length] at hq
     have HH:=Lib.hid hq
     have e1:wr.heap[w.heap.size+1]?=some (.cells #[.int .i64 0,.string ⟨#[]⟩,.int .i64 0,.slice none 0 0] 32):=(HR.out.keep.block _ (Array.getElem?_eq_some_iff.1 HRB.out).1 (fun e=>by have:=HBN.out;omega)).trans HRB.out
     have b0:=(cellH HBR.out 0).trans rfl
     have b1:=(cellH HBR.out 1).trans rfl
     have b2:=(cellH HBR.out 2).trans rfl
     have b3:=(cellH HBR.out 3).trans rfl
     have fr0:=frozenH e1 0
     have fr1:=frozenH e1 1
     have fr2:=frozenH e1 2
     have fr3:=frozenH e1 3
     have r0:=(cellH e1 0).trans rfl
     have r1:=(cellH e1 1).trans rfl
     have r2:=(cellH e1 2).trans rfl
     have r3:=(cellH e1 3).trans rfl
     have HE1:=Lib.hid e1
     have HKP:=Lib.hid (HBB0.out.trans (HR.out.keep.below HBB0.out.size (fun k e=>by have:=HBN.out;omega)))
     clear hq hlk e1 hk
     go_wp2_with fail
     clear b0 b1 b2 b3 r0 r1 r2 r3 fr0 fr1 fr2 fr3
     have hk:=kput4 wr (w.heap.size+1) (.int .i64 2) (.string s) (.int .i64 0) (.slice s' l.length cap')
     have hq:=put4 (.int .i64 2) (.string s) (.int .i64 0) (.slice s' l.length cap') HE1.out
     generalize ((((wr.setCell ⟨w.heap.size+1,0,none⟩ (.int .i64 2)).setCell ⟨w.heap.size+1,1,none⟩ (.string s)).setCell ⟨w.heap.size+1,2,none⟩ (.int .i64 0)).setCell ⟨w.heap.size+1,3,none⟩ (.slice s' l.length cap'))=W5 at hk hq ⊢
     have c0:=(cellH hq 0).trans rfl
     have c1:=(cellH hq 1).trans rfl
     have c2:=(cellH hq 2).trans rfl
     have c3:=(cellH hq 3).trans rfl
     exact bodyPost_ret (v:=.agg #[.int .i64 2,.string s,.int .i64 0,.slice s' l.length cap']) (by simp [results,Tryd.results27,go_sem,c0,c1,c2,c3]) rfl ⟨_,rfl,by
      rw [HEQ.out]
      exact tyE_rowI ((RowW.step TyE.step) _ _ _ _ _ _ HH.out (hk.wider (fun k _ e=>.inl (.inr e))) (fun k _ e=>.inl (.inl e))),HKP.out.trans (hk.below HKP.out.size (fun k e=>by omega))⟩
theorem rinst_any (D:Nat) (σ:List (ByteArray × TyT)):∀ d,RInstC D σ d
 | 0=>fun _ _ _ _ _ _ h=>h.elim
 | d+1=>by
  rintro Vol ⟨b,s,l⟩ v vn vt w ⟨va,rfl,hr⟩ hna hty hs hvl
  cases b
  ·exact rinst_data D σ d (Lib.hid (rinst_any D σ d)) Vol s l va vn vt w hr hna hty hs hvl
  ·exact rinst_var D σ d Vol s l va vn vt w hr hna hty hvl
end Lx
end Go.Proofs.YtnpacamcgifabaaDoor
