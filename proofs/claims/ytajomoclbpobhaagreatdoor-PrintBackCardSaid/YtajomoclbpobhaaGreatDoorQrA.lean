/- The reference printer at items: types and other kinds. Conditions: as the theorems state. -/
/- The reference printer at items: predicates and clauses. Conditions: as the theorems state. -/
/- The reference printer at items: modes. Conditions: as the theorems state. -/
/- The reference printer at items. Conditions: the terms numbers are a machine s; at most 2^40 bytes. -/
/- The reference printer at sources; what is read fits. Conditions: as the theorems state. -/
import Derived.Test.YtajomoclbpobhaaGreatDoorQg
import Derived.WalkSmall
import Derived.Deep.QuietTactic
import Derived.BigQuiet
import Derived.Deep.RegionLaw
import Derived.Test.YtajomoclbpobhaaGreatDoorPBb
namespace Go.Proofs.YtajomoclbpobhaaGreatDoor
set_option linter.unusedSimpArgs false
set_option linter.unusedVariables false
namespace Lx
open Go Go.RowKit
/-- What of an item must hold for its form to be put together. -/
def itemFit (x:ItemT):Prop:=(∀ t ∈ x.args,termOk t)∧goalFit x.body∧(goalF x.body).length≤1099511627776
theorem joinF_le_args (ws:List (List UInt8)):(joinF [44,32] ws).length≤(argsF ws).length:=by
 unfold argsF
 split
 ·rename_i e
  rw [e]
  simp [joinF]
 ·simp
  omega
theorem StrRow.drewN {l:List (List UInt8)} {v:Value} {w:World} (h:StrRow l v w) (n:Nat):StrRow l v (w.drewN n):=h.below (below_drewN (Below.refl _ _) n)
theorem StrRow.of_args {l:List (List UInt8)} {v:Value} {lo hi:Nat} {w:World} (h:ArgsV 9 1 strH l v lo hi w) (hl:l.length≤1099511627777) (hh:hi≤w.heap.size):StrRow l v w:=by
 have hce:∀ x v lo hi w,strH x v lo hi w→(cellsL v).length=1:=fun x v lo hi w h=>by rw [show v=.string (bs x) from h];rfl
 obtain ⟨A,c,rfl,h1⟩:=h.at hce (by decide)
 refine ⟨A,c,rfl,hl,fun hn=>?_⟩
 have h0:0 < l.length:=List.length_pos_iff.2 hn
 obtain ⟨g,u,p,q,rfl,_,_,hv,c0⟩:=h1 0 h0
 have hc:=c0 0 (by decide)
 rw [show u=.string (bs l[0]) from hv] at hc
 have hc2:w.cell? ⟨g,0,none⟩=some (.string (bs l[0])):=by simpa [cellsL,Value.cells] using hc
 refine ⟨g,0,rfl,World.block_lt_of_cell? _ _ hc2,fun j hj=>?_⟩
 obtain ⟨g',u',p',q',e,_,_,hv',c0'⟩:=h1 j hj
 injection e with e
 injection e with e
 subst e
 have:=c0' 0 (by decide)
 rw [show u'=.string (bs l[j]) from hv'] at this
 simpa [cellsL,Value.cells] using this
theorem step_strN {ops:Array Oper} {o:Oper} {a:Act} {W:World} {K:Act→World→Prop} {Q:Exit→Act→World→Prop} {E:Prop} (hgd:o.guard=none) (s x:Operand)
  (ho:o.op=.call { callee:=.builtin .append,args:=#[s,x],argTypes:=#[22,22] })
  (base:Nat) (v:Value) (n:Nat) (xs:List Value) (hs:a.eval s=v) (hown:W.ownsRow base 9 1 v n xs) (B:Nat) (p2:ByteArray) (hx:a.eval x=.slice (some ⟨B,0,none⟩) 1 1)
  (hB:W.heap[B]?=some (.cells #[.string p2] 9 (0,0))) (hn:n≤1099511627776) (hbase:base≤W.heap.size)
  (h:∀ g c w',w'.ownsRow base 9 1 (.slice (some ⟨g,0,none⟩) (n+1) c) (n+1) (xs++[.string p2])→W.grownBy w' v.ownBlock→(v.ownBlock=some g ∨ g=W.heap.size)→K (a.put o.dst (.slice (some ⟨g,0,none⟩) (n+1) c)) w') :
  if Region.wanted o (yielded ops a.tmps)=true then Oper.wp Tryz.prog o a W K Q else E:=by
 obtain ⟨i0,hi,hz0,hz1,hz2⟩:=info_parts infoSt
 exact step_append_lies W hgd s x _ ho base _ i0 _ 1 16 Tryz.underlying22 hi hz0 hz1 hz2 rfl (by decide) v n xs hs hown ⟨B,0,none⟩ 1 1 [.string p2] hx rfl (World.news_of_block (cs:=#[.string p2]) hB) (by simp [Value.oneCell'])
  (by omega) (by unfold maxLen;omega) (by omega) hbase _ rfl (fun g cap w' h2 h3 h4 _=>h g cap w' h2 h3 h4)
set_option maxRecDepth 100000 in
set_option maxHeartbeats 2000000 in
theorem r3item_0 (xn:List UInt8) (xv:List (List UInt8)) (xc:List CtorT) (xt:List TypeT) (xi:List Bool) (xd:Int) (xa:List TermT) (xb:GoalT) (xk:Int) (h1:¬ xk=1) (h2:¬ xk=2) (h3:¬ xk=3) (h4:¬ xk=4) (v:Value) (lo hi:Nat) (w:World) (hv:ItemV ⟨xk,xn,xv,xc,xt,xi,xd,xa,xb⟩ v lo hi w) (hok:itemFit ⟨xk,xn,xv,xc,xt,xi,xd,xa,xb⟩) (hh:hi≤w.heap.size) (hl:(itemF ⟨xk,xn,xv,xc,xt,xi,xd,xa,xb⟩).length≤1099511627776) :
  Calls Tryz.prog 11 #[v] w fun e w'=>e=.returned (.string (bs (itemF ⟨xk,xn,xv,xc,xt,xi,xd,xa,xb⟩)))∧Below w.heap.size w w':=by
 have HG:Hid (itemF ⟨xk,xn,xv,xc,xt,xi,xd,xa,xb⟩=[46,10]):=Lib.hid (by
  unfold itemF
  simp [h1,h2,h3,h4])
 rw [HG.out] at hl
 obtain ⟨pv0,pc0,pt0,pi0,pa0,pb0,pb1,pb2,pb3,pb4,pb5,pb6,pb7,pb8,pb9,pb10,pb11,e1,pV,pC,pT,pI,pA,pG⟩:=hv
 have e2:v=.agg #[.int .i64 xk,.string (bs xn),pv0,pc0,pt0,pi0,.int .i64 xd,pa0,pb0,pb1,pb2,pb3,pb4,pb5,pb6,pb7,pb8,pb9,pb10,pb11]:=e1
 clear e1
 subst e2
 replace pV:ArgsV 9 1 strH xv pv0 lo hi w:=pV
 replace pC:ArgsV 80 2 CtorV xc pc0 lo hi w:=pC
 replace pT:ArgsV 35 3 (TypeV 66) xt pt0 lo hi w:=pT
 replace pI:ArgsV 4 1 boolV xi pi0 lo hi w:=pI
 replace pA:ArgsV 28 4 (TermV 66) xa pa0 lo hi w:=pA
 replace pG:GoalV 134 xb (.agg #[pb0,pb1,pb2,pb3,pb4,pb5,pb6,pb7,pb8,pb9,pb10,pb11]) lo hi w:=pG
 obtain ⟨v1,v2,v3,rfl⟩:=pV.slice
 obtain ⟨c1,c2,c3,rfl⟩:=pC.slice
 obtain ⟨t1,t2,t3,rfl⟩:=pT.slice
 obtain ⟨i1,i2,i3,rfl⟩:=pI.slice
 obtain ⟨a1,a2,a3,rfl⟩:=pA.slice
 obtain ⟨y2,y3,y4,y5,y6,y7,y8,y9,y10,y11,y12,y13,y14,y15,y16,y17,y18,y19,y20,pe⟩:=GoalV.shape _ _ _ _ _ _ pG
 simp only [Value.agg.injEq,Array.mk.injEq,List.cons.injEq,and_true] at pe
 obtain ⟨rfl,rfl,rfl,rfl,rfl,rfl,rfl,rfl,rfl,rfl,rfl,rfl⟩:=pe
 have hb1:Below w.heap.size w (w.alloc (.cells #[.int .i64 xk,.string (bs xn),.slice v1 v2 v3,.slice c1 c2 c3,.slice t1 t2 t3,.slice i1 i2 i3,.int .i64 xd,.slice a1 a2 a3,.int .i64 (kindG xb),.int .i64 y2,.string y3,.int .i64 y4,.slice y5 y6 y7,.int .i64 y8,.string y9,.int .i64 y10,.slice y11 y12 y13,.string y14,.slice y15 y16 y17,.slice y18 y19 y20] 33)):=(Below.refl _ _).alloc (Nat.le_refl _) _
 have hz1:(w.alloc (.cells #[.int .i64 xk,.string (bs xn),.slice v1 v2 v3,.slice c1 c2 c3,.slice t1 t2 t3,.slice i1 i2 i3,.int .i64 xd,.slice a1 a2 a3,.int .i64 (kindG xb),.int .i64 y2,.string y3,.int .i64 y4,.slice y5 y6 y7,.int .i64 y8,.string y9,.int .i64 y10,.slice y11 y12 y13,.string y14,.slice y15 y16 y17,.slice y18 y19 y20] 33)).heap.size=w.heap.size+1:=by simp
 have HB1:=Lib.hid hb1
 have HBX:=Lib.hid (show (w.alloc (.cells #[.int .i64 xk,.string (bs xn),.slice v1 v2 v3,.slice c1 c2 c3,.slice t1 t2 t3,.slice i1 i2 i3,.int .i64 xd,.slice a1 a2 a3,.int .i64 (kindG xb),.int .i64 y2,.string y3,.int .i64 y4,.slice y5 y6 y7,.int .i64 y8,.string y9,.int .i64 y10,.slice y11 y12 y13,.string y14,.slice y15 y16 y17,.slice y18 y19 y20] 33)).heap[w.heap.size]?=_ from heap_alloc_new w _)
 have hhi:hi≤(w.alloc (.cells #[.int .i64 xk,.string (bs xn),.slice v1 v2 v3,.slice c1 c2 c3,.slice t1 t2 t3,.slice i1 i2 i3,.int .i64 xd,.slice a1 a2 a3,.int .i64 (kindG xb),.int .i64 y2,.string y3,.int .i64 y4,.slice y5 y6 y7,.int .i64 y8,.string y9,.int .i64 y10,.slice y11 y12 y13,.string y14,.slice y15 y16 y17,.slice y18 y19 y20] 33)).heap.size:=by omega
 have HHI:=Lib.hid hhi
 obtain ⟨oka,okb⟩:=hok
 replace oka:∀ t ∈ xa,termOk t:=oka
 replace okb:goalFit xb∧(goalF xb).length≤1099511627776:=okb
 have q1:(xk == 1)=false:=by simpa using h1
 have q2:(xk == 2)=false:=by simpa using h2
 have q3:(xk == 3)=false:=by simpa using h3
 have q4:(xk == 4)=false:=by simpa using h4
 clear pV pC pT pI pA pG hl oka okb h1 h2 h3 h4
 go_enter Tryz.func11,Tryz.ntmps11
 go_wp2_with fail
 go_ret
 exact ⟨(congrArg (fun l=>Ending.returned (Value.string (bs l))) HG.out).symm,HB1.out⟩
set_option maxRecDepth 100000 in
set_option maxHeartbeats 2000000 in
theorem r3item_1 (xn:List UInt8) (xv:List (List UInt8)) (xc:List CtorT) (xt:List TypeT) (xi:List Bool) (xd:Int) (xa:List TermT) (xb:GoalT) (v:Value) (lo hi:Nat) (w:World) (hv:ItemV ⟨1,xn,xv,xc,xt,xi,xd,xa,xb⟩ v lo hi w) (hok:itemFit ⟨1,xn,xv,xc,xt,xi,xd,xa,xb⟩) (hh:hi≤w.heap.size) (hl:(itemF ⟨1,xn,xv,xc,xt,xi,xd,xa,xb⟩).length≤1099511627776) :
  Calls Tryz.prog 11 #[v] w fun e w'=>e=.returned (.string (bs (itemF ⟨1,xn,xv,xc,xt,xi,xd,xa,xb⟩)))∧Below w.heap.size w w':=by
 have HG:Hid (itemF ⟨1,xn,xv,xc,xt,xi,xd,xa,xb⟩=[116,121,112,101,32]++(xn++(argsF xv++([32,61,32]++joinF [32,124,32] (xc.map ctorF))))++[46,10]):=Lib.hid (by
  unfold itemF
  simp)
 rw [HG.out] at hl
 obtain ⟨pv0,pc0,pt0,pi0,pa0,pb0,pb1,pb2,pb3,pb4,pb5,pb6,pb7,pb8,pb9,pb10,pb11,e1,pV,pC,pT,pI,pA,pG⟩:=hv
 have e2:v=.agg #[.int .i64 1,.string (bs xn),pv0,pc0,pt0,pi0,.int .i64 xd,pa0,pb0,pb1,pb2,pb3,pb4,pb5,pb6,pb7,pb8,pb9,pb10,pb11]:=e1
 clear e1
 subst e2
 replace pV:ArgsV 9 1 strH xv pv0 lo hi w:=pV
 replace pC:ArgsV 80 2 CtorV xc pc0 lo hi w:=pC
 replace pT:ArgsV 35 3 (TypeV 66) xt pt0 lo hi w:=pT
 replace pI:ArgsV 4 1 boolV xi pi0 lo hi w:=pI
 replace pA:ArgsV 28 4 (TermV 66) xa pa0 lo hi w:=pA
 replace pG:GoalV 134 xb (.agg #[pb0,pb1,pb2,pb3,pb4,pb5,pb6,pb7,pb8,pb9,pb10,pb11]) lo hi w:=pG
 obtain ⟨v1,v2,v3,rfl⟩:=pV.slice
 obtain ⟨c1,c2,c3,rfl⟩:=pC.slice
 obtain ⟨t1,t2,t3,rfl⟩:=pT.slice
 obtain ⟨i1,i2,i3,rfl⟩:=pI.slice
 obtain ⟨a1,a2,a3,rfl⟩:=pA.slice
 obtain ⟨y2,y3,y4,y5,y6,y7,y8,y9,y10,y11,y12,y13,y14,y15,y16,y17,y18,y19,y20,pe⟩:=GoalV.shape _ _ _ _ _ _ pG
 simp only [Value.agg.injEq,Array.mk.injEq,List.cons.injEq,and_true] at pe
 obtain ⟨rfl,rfl,rfl,rfl,rfl,rfl,rfl,rfl,rfl,rfl,rfl,rfl⟩:=pe
 have hb1:Below w.heap.size w (w.alloc (.cells #[.int .i64 1,.string (bs xn),.slice v1 v2 v3,.slice c1 c2 c3,.slice t1 t2 t3,.slice i1 i2 i3,.int .i64 xd,.slice a1 a2 a3,.int .i64 (kindG xb),.int .i64 y2,.string y3,.int .i64 y4,.slice y5 y6 y7,.int .i64 y8,.string y9,.int .i64 y10,.slice y11 y12 y13,.string y14,.slice y15 y16 y17,.slice y18 y19 y20] 33)):=(Below.refl _ _).alloc (Nat.le_refl _) _
 have hz1:(w.alloc (.cells #[.int .i64 1,.string (bs xn),.slice v1 v2 v3,.slice c1 c2 c3,.slice t1 t2 t3,.slice i1 i2 i3,.int .i64 xd,.slice a1 a2 a3,.int .i64 (kindG xb),.int .i64 y2,.string y3,.int .i64 y4,.slice y5 y6 y7,.int .i64 y8,.string y9,.int .i64 y10,.slice y11 y12 y13,.string y14,.slice y15 y16 y17,.slice y18 y19 y20] 33)).heap.size=w.heap.size+1:=by simp
 have HB1:=Lib.hid hb1
 have HBX:=Lib.hid (show (w.alloc (.cells #[.int .i64 1,.string (bs xn),.slice v1 v2 v3,.slice c1 c2 c3,.slice t1 t2 t3,.slice i1 i2 i3,.int .i64 xd,.slice a1 a2 a3,.int .i64 (kindG xb),.int .i64 y2,.string y3,.int .i64 y4,.slice y5 y6 y7,.int .i64 y8,.string y9,.int .i64 y10,.slice y11 y12 y13,.string y14,.slice y15 y16 y17,.slice y18 y19 y20] 33)).heap[w.heap.size]?=_ from heap_alloc_new w _)
 have hhi:hi≤(w.alloc (.cells #[.int .i64 1,.string (bs xn),.slice v1 v2 v3,.slice c1 c2 c3,.slice t1 t2 t3,.slice i1 i2 i3,.int .i64 xd,.slice a1 a2 a3,.int .i64 (kindG xb),.int .i64 y2,.string y3,.int .i64 y4,.slice y5 y6 y7,.int .i64 y8,.string y9,.int .i64 y10,.slice y11 y12 y13,.string y14,.slice y15 y16 y17,.slice y18 y19 y20] 33)).heap.size:=by omega
 have HHI:=Lib.hid hhi
 obtain ⟨oka,okb⟩:=hok
 replace oka:∀ t ∈ xa,termOk t:=oka
 replace okb:goalFit xb∧(goalF xb).length≤1099511627776:=okb
 have hlv:=joinF_le_args xv
 have hmv:=joinF_many [44,32] (by simp) xv
 have hmc:=joinF_many [32,124,32] (by simp) (xc.map ctorF)
 rw [List.length_map] at hmc
 simp only [List.length_append,List.length_cons,List.length_nil] at hl
 have hec:∀ x ∈ xc,(ctorF x).length≤1099511627776:=fun x hx=>by
  have:=joinF_each [32,124,32] (xc.map ctorF) (ctorF x) (List.mem_map.2 ⟨_,hx,rfl⟩)
  omega
 have HEC:=Lib.hid hec
 have hce:∀ x v lo hi w,CtorV x v lo hi w→(cellsL v).length=2:=fun x v lo hi w h=>by obtain ⟨z1,z2,z3,z4,rfl⟩:=CtorV.this _ _ _ _ _ h;rfl
 obtain ⟨A,c,e9,_⟩:=pC.at hce (by decide)
 injection e9 with e9 e10 e11
 subst e9 e10 e11
 have HC:=Lib.hid (stays (ArgsV.stable _ _ CtorV.stable) pC hb1 hh)
 have HSV:=Lib.hid (StrRow.of_args (stays (ArgsV.stable _ _ strH.stable) pV hb1 hh) (by omega) hhi)
 have r1:=r3add [116,121,112,101,32] xn (by simp only [List.length_cons,List.length_nil];omega)
 have r2:=r3add ([116,121,112,101,32]++xn) (argsF xv) (by simp only [List.length_append,List.length_cons,List.length_nil];omega)
 have r3:=r3add ([116,121,112,101,32]++xn++argsF xv) [32,61,32] (by simp only [List.length_append,List.length_cons,List.length_nil];omega)
 have r4:=r3add ([116,121,112,101,32]++xn++argsF xv++[32,61,32]) (joinF [32,124,32] (xc.map ctorF)) (by simp only [List.length_append,List.length_cons,List.length_nil];omega)
 have r5:=r3add ([116,121,112,101,32]++xn++argsF xv++[32,61,32]++joinF [32,124,32] (xc.map ctorF)) [46,10] (by simp only [List.length_append,List.length_cons,List.length_nil];omega)
 rw [show bs [116,121,112,101,32]=⟨#[116,121,112,101,32]⟩ from rfl] at r1
 rw [show bs [32,61,32]=⟨#[32,61,32]⟩ from rfl] at r3
 rw [show bs [46,10]=⟨#[46,10]⟩ from rfl] at r5
 rw [show [116,121,112,101,32]++xn++argsF xv++[32,61,32]++joinF [32,124,32] (xc.map ctorF)++[46,10]=[116,121,112,101,32]++(xn++(argsF xv++([32,61,32]++joinF [32,124,32] (xc.map ctorF))))++[46,10] by simp] at r5
 generalize [116,121,112,101,32]++(xn++(argsF xv++([32,61,32]++joinF [32,124,32] (xc.map ctorF))))++[46,10]=FF at HG r5
 generalize bs ([116,121,112,101,32]++xn++argsF xv++[32,61,32]++joinF [32,124,32] (xc.map ctorF))=x4 at r4 r5
 generalize bs ([116,121,112,101,32]++xn++argsF xv++[32,61,32])=x3 at r3 r4
 generalize bs ([116,121,112,101,32]++xn++argsF xv)=x2 at r2 r3
 generalize bs ([116,121,112,101,32]++xn)=x1 at r1 r2
 have hl1:(argsF xv).length≤1099511627776:=by omega
 have hl2:(joinF [32,124,32] (xc.map ctorF)).length≤1099511627776:=by omega
 have hl3:xc.length≤1099511627777:=by omega
 have HR1:=Lib.hid r1
 have HR2:=Lib.hid r2
 have HR3:=Lib.hid r3
 have HR4:=Lib.hid r4
 have HR5:=Lib.hid r5
 have HL1:=Lib.hid hl1
 have HL2:=Lib.hid hl2
 clear pV pC pT pI pA pG hl oka okb hlv hmv hmc hec r1 r2 r3 r4 r5 hl1 hl2
 go_enter Tryz.func11,Tryz.ntmps11
 go_wp2_with fail
 have HST:=Lib.hid (Wds.emptyAt (w0:=(w.alloc (.cells #[.int .i64 1,.string (bs xn),.slice v1 v2 v3,.slice c1 xc.length c3,.slice t1 t2 t3,.slice i1 i2 i3,.int .i64 xd,.slice a1 a2 a3,.int .i64 (kindG xb),.int .i64 y2,.string y3,.int .i64 y4,.slice y5 y6 y7,.int .i64 y8,.string y9,.int .i64 y10,.slice y11 y12 y13,.string y14,.slice y15 y16 y17,.slice y18 y19 y20] 33))) (xc.map ctorF) (Below.refl _ _) (cs:=#[]) rfl hz1)
 go_loopw [4,19] (fun sl t wr=>∃ n A' cap',n≤xc.length∧t=.int .i64 (n:Nat)∧sl=.slice A' n cap'∧Hid (Wds (w.alloc (.cells #[.int .i64 1,.string (bs xn),.slice v1 v2 v3,.slice c1 xc.length c3,.slice t1 t2 t3,.slice i1 i2 i3,.int .i64 xd,.slice a1 a2 a3,.int .i64 (kindG xb),.int .i64 y2,.string y3,.int .i64 y4,.slice y5 y6 y7,.int .i64 y8,.string y9,.int .i64 y10,.slice y11 y12 y13,.string y14,.slice y15 y16 y17,.slice y18 y19 y20] 33)) (xc.map ctorF) n A' cap' wr)) (fun _ t _=>xc.length - (intOf t).toNat)
 case atStart=>exact ⟨0,_,_,Nat.zero_le _,rfl,rfl,HST⟩
 case round =>
  obtain ⟨n,A',cap',hn,rfl,rfl,HI⟩:=hrel
  have hsz:=HI.out.below.size
  by_cases hlt:n < xc.length
  ·have r1:=stays (ArgsV.stable _ _ CtorV.stable) HC.out HI.out.below HHI.out
   obtain ⟨_,_,q1,r1⟩:=r1.at hce (by decide)
   injection q1 with q1 _ qc1
   subst q1
   clear qc1
   obtain ⟨g1,u1,p1,t1',rfl,_,m1,hv1,cc1⟩:=r1 n hlt
   have he:=HEC.out _ (List.getElem_mem hlt)
   have e9:(xc.map ctorF)[n]'(by simpa using hlt)=ctorF xc[n]:=by simp
   generalize xc[n]=cc at hv1 he e9
   obtain ⟨cn,cl⟩:=cc
   obtain ⟨va,rfl,hca⟩:=hv1
   obtain ⟨z2,z3,z4,rfl⟩:=hca.slice
   have a0:=(cc1 0 (by decide)).trans rfl
   have a1':=(cc1 1 (by decide)).trans rfl
   simp only [cellsL,Value.cells,List.getElem?_cons_zero,List.getElem?_cons_succ,Nat.add_zero] at a0 a1'
   have hbw:Below wr.heap.size wr (wr.alloc (.cells #[.string (bs cn),.slice z2 z3 z4] 80)):=(Below.refl wr.heap.size wr).alloc (Nat.le_refl _) _
   have HBW:=Lib.hid hbw
   have HCA:=Lib.hid (stays (ArgsV.stable _ _ (TypeV.stable 66)) hca hbw (by omega))
   have hz3:(wr.alloc (.cells #[.string (bs cn),.slice z2 z3 z4] 80)).heap.size=wr.heap.size+1:=by simp
   have hcf:ctorF (.mk cn cl)=cn++argsF (cl.map typeF):=by rw [ctorF,typesF_map]
   rw [hcf,List.length_append] at he
   have hlj:=joinF_le_args (cl.map typeF)
   have r9:=r3add cn (argsF (cl.map typeF)) (by omega)
   rw [hcf] at e9
   have hla:(argsF (cl.map typeF)).length≤1099511627776:=by omega
   have hlj2:(joinF [44,32] (cl.map typeF)).length≤1099511627776:=by omega
   have ht1:t1'≤(wr.alloc (.cells #[.string (bs cn),.slice z2 z3 z4] 80)).heap.size:=by omega
   have HT1:=Lib.hid ht1
   have HCT:Hid (∀ W,Below (wr.alloc (.cells #[.string (bs cn),.slice z2 z3 z4] 80)).heap.size (wr.alloc (.cells #[.string (bs cn),.slice z2 z3 z4] 80)) W→Calls Tryz.prog 35 #[.slice z2 z3 z4] W (fun e W'=>(∃ v',e=.returned v'∧StrRow (cl.map typeF) v' W')∧Below W.heap.size W W')):=Lib.hid (fun W hW=>r3types _ (TypeV.stable 66) (TypeV.this 66) (fun _=>True) typeF (Lib.hid (r3type_any 66)) cl _ p1 t1' W (stays (ArgsV.stable _ _ (TypeV.stable 66)) HCA.out hW HT1.out) (fun _ _=>trivial) (Nat.le_trans HT1.out hW.size) hlj2)
   have HD:=Lib.hid ((Below.refl (wr.alloc (.cells #[.string (bs cn),.slice z2 z3 z4] 80)).heap.size (wr.alloc (.cells #[.string (bs cn),.slice z2 z3 z4] 80))).drew)
   have HNW:=Lib.hid (show (wr.alloc (.cells #[.string (bs cn),.slice z2 z3 z4] 80)).heap[wr.heap.size]?=_ from heap_alloc_new wr _)
   have hk0:(0:Int)≤(n:Int):=by omega
   have hk1:(n:Int) < (xc.length:Int):=by omega
   have hdc:decide (n < xc.length)=true:=by simpa using hlt
   have hkm:n < (xc.map ctorF).length:=by simpa using hlt
   have hn4:n≤1099511627776:=by omega
   clear cc1 r1 hca hbw he hcf hlj ht1
   go_upto_region 8 with fail
   generalize hx9:bs (cn++argsF (cl.map typeF))=x9 at r9
   have HX9:=Lib.hid hx9
   clear hx9
   go_region_law (first
    | (go_simp;go_at_call 35;refine (HCT.out _ HD.out).mono ?_;rintro e w3 ⟨⟨vv3,rfl,hs⟩,hb3⟩;have HB3:=Lib.hid (HD.out.trans (hb3.mono HD.out.size));have d1:w3.cell? ⟨wr.heap.size,0,none⟩=some (.string (bs cn)):=(Lib.cell_of_heap ((HB3.out.block wr.heap.size (by simp)).trans HNW.out) 0).trans rfl)
    | (go_simp;go_at_call 34;refine (r3row_any _ _ _ hs hla).mono ?_;rintro e w4 ⟨rfl,rfl⟩)
    | ((refine step_strN rfl (.tmp 23) (.tmp 31) rfl (w.alloc (.cells #[.int .i64 1,.string (bs xn),.slice v1 v2 v3,.slice (some ⟨g1,0,none⟩) xc.length c3,.slice t1 t2 t3,.slice i1 i2 i3,.int .i64 xd,.slice a1 a2 a3,.int .i64 (kindG xb),.int .i64 y2,.string y3,.int .i64 y4,.slice y5 y6 y7,.int .i64 y8,.string y9,.int .i64 y10,.slice y11 y12 y13,.string y14,.slice y15 y16 y17,.slice y18 y19 y20] 33)).heap.size (.slice A' n cap') n (((xc.map ctorF).take n).map strC) ?_ ?_ w4.heap.size x9 ?_ ?_ ?_ ?_ ?_);(rfl);(exact (own_below HI.out.own (HBW.out.trans (HB3.out.mono HBW.out.size))).alloc _);(rfl);(exact heap_alloc_new _ _);(omega);(have q5:=HB3.out.size;simp at q5 hsz ⊢;omega);(intro g2 cap2 w6 hown6 hg6 hat6;have HG6:=Lib.hid hg6;have HOW:=Lib.hid hown6;clear hg6 hown6 hat6)))
   all_goals
    have HNX:=Lib.hid (Wds.next HI.out hkm rfl (HBW.out.trans (HB3.out.mono HBW.out.size)) (by rw [e9,HX9.out];exact HOW.out) HG6.out)
    clear hb3 hs
    go_wp2_with fail
    go_roundw
    case rel=>exact ⟨n+1,_,_,by omega,by go_num,rfl,HNX⟩
    case measure=>simp [intOf];omega
  ·obtain rfl:n=xc.length:=by omega
   have hdc:decide (xc.length < xc.length)=false:=by simp
   have HD:=HI.out
   rw [show xc.length=(xc.map ctorF).length by simp] at HD
   have hSR:=HD.done (by rw [List.length_map];omega)
   rw [List.length_map] at hSR
   have HSR:=Lib.hid hSR
   have HBW:=Lib.hid (HB1.out.trans (HI.out.below.mono HB1.out.size))
   have HXB:=Lib.hid ((HI.out.below.block w.heap.size (by omega)).trans HBX.out)
   have HSV2:=Lib.hid (HSV.out.below HI.out.below)
   have HQ1:=Lib.hid (fun m=>r3row_any xv _ (wr.drewN m) (HSV2.out.drewN m) HL1.out)
   have HQ2:=Lib.hid (fun m=>r3join_any [32,124,32] _ rfl (xc.map ctorF) _ (wr.drewN m) (HSR.out.drewN m) HL2.out)
   have d1:wr.cell? ⟨w.heap.size,1,none⟩=some (.string (bs xn)):=(Lib.cell_of_heap HXB.out 1).trans rfl
   have d2:wr.cell? ⟨w.heap.size,2,none⟩=some (.slice v1 v2 v3):=(Lib.cell_of_heap HXB.out 2).trans rfl
   have r1:=HR1.out
   have r2:=HR2.out
   have r3:=HR3.out
   have r4:=HR4.out
   have r5:=HR5.out
   clear HD hSR HI HC HSV hsz hn hlt
   go_upto_region 10 with fail
   go_quiet (first | (go_at_call 34;exact Calls.quiet_of_same (HQ1.out _)) | (go_at_call 36;exact Calls.quiet_of_same (HQ2.out _)))
   go_wp2_with fail
   go_ret
   exact ⟨(congrArg (fun l=>Ending.returned (Value.string (bs l))) HG.out).symm,below_drewN HBW.out _⟩
end Lx
end Go.Proofs.YtajomoclbpobhaaGreatDoor
namespace Go.Proofs.YtajomoclbpobhaaGreatDoor
set_option linter.unusedSimpArgs false
set_option linter.unusedVariables false
namespace Lx
open Go Go.RowKit
set_option maxRecDepth 100000 in
set_option maxHeartbeats 2000000 in
theorem r3item_2 (xn:List UInt8) (xv:List (List UInt8)) (xc:List CtorT) (xt:List TypeT) (xi:List Bool) (xd:Int) (xa:List TermT) (xb:GoalT) (v:Value) (lo hi:Nat) (w:World) (hv:ItemV ⟨2,xn,xv,xc,xt,xi,xd,xa,xb⟩ v lo hi w) (hok:itemFit ⟨2,xn,xv,xc,xt,xi,xd,xa,xb⟩) (hh:hi≤w.heap.size) (hl:(itemF ⟨2,xn,xv,xc,xt,xi,xd,xa,xb⟩).length≤1099511627776) :
  Calls Tryz.prog 11 #[v] w fun e w'=>e=.returned (.string (bs (itemF ⟨2,xn,xv,xc,xt,xi,xd,xa,xb⟩)))∧Below w.heap.size w w':=by
 have HG:Hid (itemF ⟨2,xn,xv,xc,xt,xi,xd,xa,xb⟩=[112,114,101,100,32]++(xn++argsF (xt.map typeF))++[46,10]):=Lib.hid (by
  unfold itemF
  simp [typesF_map])
 rw [HG.out] at hl
 obtain ⟨pv0,pc0,pt0,pi0,pa0,pb0,pb1,pb2,pb3,pb4,pb5,pb6,pb7,pb8,pb9,pb10,pb11,e1,pV,pC,pT,pI,pA,pG⟩:=hv
 have e2:v=.agg #[.int .i64 2,.string (bs xn),pv0,pc0,pt0,pi0,.int .i64 xd,pa0,pb0,pb1,pb2,pb3,pb4,pb5,pb6,pb7,pb8,pb9,pb10,pb11]:=e1
 clear e1
 subst e2
 replace pV:ArgsV 9 1 strH xv pv0 lo hi w:=pV
 replace pC:ArgsV 80 2 CtorV xc pc0 lo hi w:=pC
 replace pT:ArgsV 35 3 (TypeV 66) xt pt0 lo hi w:=pT
 replace pI:ArgsV 4 1 boolV xi pi0 lo hi w:=pI
 replace pA:ArgsV 28 4 (TermV 66) xa pa0 lo hi w:=pA
 replace pG:GoalV 134 xb (.agg #[pb0,pb1,pb2,pb3,pb4,pb5,pb6,pb7,pb8,pb9,pb10,pb11]) lo hi w:=pG
 obtain ⟨v1,v2,v3,rfl⟩:=pV.slice
 obtain ⟨c1,c2,c3,rfl⟩:=pC.slice
 obtain ⟨t1,t2,t3,rfl⟩:=pT.slice
 obtain ⟨i1,i2,i3,rfl⟩:=pI.slice
 obtain ⟨a1,a2,a3,rfl⟩:=pA.slice
 obtain ⟨y2,y3,y4,y5,y6,y7,y8,y9,y10,y11,y12,y13,y14,y15,y16,y17,y18,y19,y20,pe⟩:=GoalV.shape _ _ _ _ _ _ pG
 simp only [Value.agg.injEq,Array.mk.injEq,List.cons.injEq,and_true] at pe
 obtain ⟨rfl,rfl,rfl,rfl,rfl,rfl,rfl,rfl,rfl,rfl,rfl,rfl⟩:=pe
 have hb1:Below w.heap.size w (w.alloc (.cells #[.int .i64 2,.string (bs xn),.slice v1 v2 v3,.slice c1 c2 c3,.slice t1 t2 t3,.slice i1 i2 i3,.int .i64 xd,.slice a1 a2 a3,.int .i64 (kindG xb),.int .i64 y2,.string y3,.int .i64 y4,.slice y5 y6 y7,.int .i64 y8,.string y9,.int .i64 y10,.slice y11 y12 y13,.string y14,.slice y15 y16 y17,.slice y18 y19 y20] 33)):=(Below.refl _ _).alloc (Nat.le_refl _) _
 have hz1:(w.alloc (.cells #[.int .i64 2,.string (bs xn),.slice v1 v2 v3,.slice c1 c2 c3,.slice t1 t2 t3,.slice i1 i2 i3,.int .i64 xd,.slice a1 a2 a3,.int .i64 (kindG xb),.int .i64 y2,.string y3,.int .i64 y4,.slice y5 y6 y7,.int .i64 y8,.string y9,.int .i64 y10,.slice y11 y12 y13,.string y14,.slice y15 y16 y17,.slice y18 y19 y20] 33)).heap.size=w.heap.size+1:=by simp
 have HB1:=Lib.hid hb1
 have HBX:=Lib.hid (show (w.alloc (.cells #[.int .i64 2,.string (bs xn),.slice v1 v2 v3,.slice c1 c2 c3,.slice t1 t2 t3,.slice i1 i2 i3,.int .i64 xd,.slice a1 a2 a3,.int .i64 (kindG xb),.int .i64 y2,.string y3,.int .i64 y4,.slice y5 y6 y7,.int .i64 y8,.string y9,.int .i64 y10,.slice y11 y12 y13,.string y14,.slice y15 y16 y17,.slice y18 y19 y20] 33)).heap[w.heap.size]?=_ from heap_alloc_new w _)
 have hhi:hi≤(w.alloc (.cells #[.int .i64 2,.string (bs xn),.slice v1 v2 v3,.slice c1 c2 c3,.slice t1 t2 t3,.slice i1 i2 i3,.int .i64 xd,.slice a1 a2 a3,.int .i64 (kindG xb),.int .i64 y2,.string y3,.int .i64 y4,.slice y5 y6 y7,.int .i64 y8,.string y9,.int .i64 y10,.slice y11 y12 y13,.string y14,.slice y15 y16 y17,.slice y18 y19 y20] 33)).heap.size:=by omega
 have HHI:=Lib.hid hhi
 obtain ⟨oka,okb⟩:=hok
 replace oka:∀ t ∈ xa,termOk t:=oka
 replace okb:goalFit xb∧(goalF xb).length≤1099511627776:=okb
 simp only [List.length_append,List.length_cons,List.length_nil] at hl
 have hlj:=joinF_le_args (xt.map typeF)
 have hla:(argsF (xt.map typeF)).length≤1099511627776:=by omega
 have HT:=Lib.hid (stays (ArgsV.stable _ _ (TypeV.stable 66)) pT hb1 hh)
 have HCT:Hid (∀ W,Below (w.alloc (.cells #[.int .i64 2,.string (bs xn),.slice v1 v2 v3,.slice c1 c2 c3,.slice t1 t2 t3,.slice i1 i2 i3,.int .i64 xd,.slice a1 a2 a3,.int .i64 (kindG xb),.int .i64 y2,.string y3,.int .i64 y4,.slice y5 y6 y7,.int .i64 y8,.string y9,.int .i64 y10,.slice y11 y12 y13,.string y14,.slice y15 y16 y17,.slice y18 y19 y20] 33)).heap.size (w.alloc (.cells #[.int .i64 2,.string (bs xn),.slice v1 v2 v3,.slice c1 c2 c3,.slice t1 t2 t3,.slice i1 i2 i3,.int .i64 xd,.slice a1 a2 a3,.int .i64 (kindG xb),.int .i64 y2,.string y3,.int .i64 y4,.slice y5 y6 y7,.int .i64 y8,.string y9,.int .i64 y10,.slice y11 y12 y13,.string y14,.slice y15 y16 y17,.slice y18 y19 y20] 33)) W→Calls Tryz.prog 35 #[.slice t1 t2 t3] W (fun e W'=>(∃ v',e=.returned v'∧StrRow (xt.map typeF) v' W')∧Below W.heap.size W W')):=Lib.hid (fun W hW=>r3types _ (TypeV.stable 66) (TypeV.this 66) (fun _=>True) typeF (Lib.hid (r3type_any 66)) xt _ lo hi W (stays (ArgsV.stable _ _ (TypeV.stable 66)) HT.out hW HHI.out) (fun _ _=>trivial) (Nat.le_trans HHI.out hW.size) (by omega))
 have r1:=r3add [112,114,101,100,32] xn (by simp only [List.length_cons,List.length_nil];omega)
 have r2:=r3add ([112,114,101,100,32]++xn) (argsF (xt.map typeF)) (by simp only [List.length_append,List.length_cons,List.length_nil];omega)
 have r3:=r3add ([112,114,101,100,32]++(xn++argsF (xt.map typeF))) [46,10] (by simp only [List.length_append,List.length_cons,List.length_nil];omega)
 rw [show bs [112,114,101,100,32]=⟨#[112,114,101,100,32]⟩ from rfl] at r1
 rw [List.append_assoc] at r2
 rw [show bs [46,10]=⟨#[46,10]⟩ from rfl] at r3
 generalize [112,114,101,100,32]++(xn++argsF (xt.map typeF))++[46,10]=FF at HG r3
 generalize bs ([112,114,101,100,32]++(xn++argsF (xt.map typeF)))=x2 at r2 r3
 generalize bs ([112,114,101,100,32]++xn)=x1 at r1 r2
 have HD:=Lib.hid ((Below.refl (w.alloc (.cells #[.int .i64 2,.string (bs xn),.slice v1 v2 v3,.slice c1 c2 c3,.slice t1 t2 t3,.slice i1 i2 i3,.int .i64 xd,.slice a1 a2 a3,.int .i64 (kindG xb),.int .i64 y2,.string y3,.int .i64 y4,.slice y5 y6 y7,.int .i64 y8,.string y9,.int .i64 y10,.slice y11 y12 y13,.string y14,.slice y15 y16 y17,.slice y18 y19 y20] 33)).heap.size (w.alloc (.cells #[.int .i64 2,.string (bs xn),.slice v1 v2 v3,.slice c1 c2 c3,.slice t1 t2 t3,.slice i1 i2 i3,.int .i64 xd,.slice a1 a2 a3,.int .i64 (kindG xb),.int .i64 y2,.string y3,.int .i64 y4,.slice y5 y6 y7,.int .i64 y8,.string y9,.int .i64 y10,.slice y11 y12 y13,.string y14,.slice y15 y16 y17,.slice y18 y19 y20] 33))).drew)
 clear pV pC pT pI pA pG hl oka okb hlj
 go_enter Tryz.func11,Tryz.ntmps11
 go_upto_region 12 with fail
 go_region_law (first
  | (go_simp;go_at_call 35;refine (HCT.out _ HD.out).mono ?_;rintro e w3 ⟨⟨vv3,rfl,hs⟩,hb3⟩;have HB3:=Lib.hid (HD.out.trans (hb3.mono HD.out.size));have d1:w3.cell? ⟨w.heap.size,1,none⟩=some (.string (bs xn)):=(Lib.cell_of_heap ((HB3.out.block w.heap.size (by simp)).trans HBX.out) 1).trans rfl)
  | (go_simp;go_at_call 34;refine (r3row_any _ _ _ hs hla).mono ?_;rintro e w4 ⟨rfl,rfl⟩))
 all_goals
  have HBY:=Lib.hid (HB1.out.trans (HB3.out.mono HB1.out.size))
  clear hb3 hs
  go_wp2_with fail
  go_ret
  exact ⟨(congrArg (fun l=>Ending.returned (Value.string (bs l))) HG.out).symm,HBY.out⟩
set_option maxRecDepth 100000 in
set_option maxHeartbeats 2000000 in
theorem r3item_4a (xn:List UInt8) (xv:List (List UInt8)) (xc:List CtorT) (xt:List TypeT) (xi:List Bool) (xd:Int) (xa:List TermT) (xb:GoalT) (hkk:kindG xb=1) (v:Value) (lo hi:Nat) (w:World) (hv:ItemV ⟨4,xn,xv,xc,xt,xi,xd,xa,xb⟩ v lo hi w) (hok:itemFit ⟨4,xn,xv,xc,xt,xi,xd,xa,xb⟩) (hh:hi≤w.heap.size) (hl:(itemF ⟨4,xn,xv,xc,xt,xi,xd,xa,xb⟩).length≤1099511627776) :
  Calls Tryz.prog 11 #[v] w fun e w'=>e=.returned (.string (bs (itemF ⟨4,xn,xv,xc,xt,xi,xd,xa,xb⟩)))∧Below w.heap.size w w':=by
 have HG:Hid (itemF ⟨4,xn,xv,xc,xt,xi,xd,xa,xb⟩=xn++argsF (xa.map termF)++[46,10]):=Lib.hid (by
  unfold itemF
  simp [bodyF,hkk,termsF_map])
 rw [HG.out] at hl
 obtain ⟨pv0,pc0,pt0,pi0,pa0,pb0,pb1,pb2,pb3,pb4,pb5,pb6,pb7,pb8,pb9,pb10,pb11,e1,pV,pC,pT,pI,pA,pG⟩:=hv
 have e2:v=.agg #[.int .i64 4,.string (bs xn),pv0,pc0,pt0,pi0,.int .i64 xd,pa0,pb0,pb1,pb2,pb3,pb4,pb5,pb6,pb7,pb8,pb9,pb10,pb11]:=e1
 clear e1
 subst e2
 replace pV:ArgsV 9 1 strH xv pv0 lo hi w:=pV
 replace pC:ArgsV 80 2 CtorV xc pc0 lo hi w:=pC
 replace pT:ArgsV 35 3 (TypeV 66) xt pt0 lo hi w:=pT
 replace pI:ArgsV 4 1 boolV xi pi0 lo hi w:=pI
 replace pA:ArgsV 28 4 (TermV 66) xa pa0 lo hi w:=pA
 replace pG:GoalV 134 xb (.agg #[pb0,pb1,pb2,pb3,pb4,pb5,pb6,pb7,pb8,pb9,pb10,pb11]) lo hi w:=pG
 obtain ⟨v1,v2,v3,rfl⟩:=pV.slice
 obtain ⟨c1,c2,c3,rfl⟩:=pC.slice
 obtain ⟨t1,t2,t3,rfl⟩:=pT.slice
 obtain ⟨i1,i2,i3,rfl⟩:=pI.slice
 obtain ⟨a1,a2,a3,rfl⟩:=pA.slice
 obtain ⟨y2,y3,y4,y5,y6,y7,y8,y9,y10,y11,y12,y13,y14,y15,y16,y17,y18,y19,y20,pe⟩:=GoalV.shape _ _ _ _ _ _ pG
 simp only [Value.agg.injEq,Array.mk.injEq,List.cons.injEq,and_true] at pe
 obtain ⟨rfl,rfl,rfl,rfl,rfl,rfl,rfl,rfl,rfl,rfl,rfl,rfl⟩:=pe
 have hb1:Below w.heap.size w (w.alloc (.cells #[.int .i64 4,.string (bs xn),.slice v1 v2 v3,.slice c1 c2 c3,.slice t1 t2 t3,.slice i1 i2 i3,.int .i64 xd,.slice a1 a2 a3,.int .i64 (kindG xb),.int .i64 y2,.string y3,.int .i64 y4,.slice y5 y6 y7,.int .i64 y8,.string y9,.int .i64 y10,.slice y11 y12 y13,.string y14,.slice y15 y16 y17,.slice y18 y19 y20] 33)):=(Below.refl _ _).alloc (Nat.le_refl _) _
 have hz1:(w.alloc (.cells #[.int .i64 4,.string (bs xn),.slice v1 v2 v3,.slice c1 c2 c3,.slice t1 t2 t3,.slice i1 i2 i3,.int .i64 xd,.slice a1 a2 a3,.int .i64 (kindG xb),.int .i64 y2,.string y3,.int .i64 y4,.slice y5 y6 y7,.int .i64 y8,.string y9,.int .i64 y10,.slice y11 y12 y13,.string y14,.slice y15 y16 y17,.slice y18 y19 y20] 33)).heap.size=w.heap.size+1:=by simp
 have HB1:=Lib.hid hb1
 have HBX:=Lib.hid (show (w.alloc (.cells #[.int .i64 4,.string (bs xn),.slice v1 v2 v3,.slice c1 c2 c3,.slice t1 t2 t3,.slice i1 i2 i3,.int .i64 xd,.slice a1 a2 a3,.int .i64 (kindG xb),.int .i64 y2,.string y3,.int .i64 y4,.slice y5 y6 y7,.int .i64 y8,.string y9,.int .i64 y10,.slice y11 y12 y13,.string y14,.slice y15 y16 y17,.slice y18 y19 y20] 33)).heap[w.heap.size]?=_ from heap_alloc_new w _)
 have hhi:hi≤(w.alloc (.cells #[.int .i64 4,.string (bs xn),.slice v1 v2 v3,.slice c1 c2 c3,.slice t1 t2 t3,.slice i1 i2 i3,.int .i64 xd,.slice a1 a2 a3,.int .i64 (kindG xb),.int .i64 y2,.string y3,.int .i64 y4,.slice y5 y6 y7,.int .i64 y8,.string y9,.int .i64 y10,.slice y11 y12 y13,.string y14,.slice y15 y16 y17,.slice y18 y19 y20] 33)).heap.size:=by omega
 have HHI:=Lib.hid hhi
 obtain ⟨oka,okb⟩:=hok
 replace oka:∀ t ∈ xa,termOk t:=oka
 replace okb:goalFit xb∧(goalF xb).length≤1099511627776:=okb
 simp only [List.length_append,List.length_cons,List.length_nil] at hl
 have hlj:=joinF_le_args (xa.map termF)
 have hla:(argsF (xa.map termF)).length≤1099511627776:=by omega
 have HA:=Lib.hid (stays (ArgsV.stable _ _ (TermV.stable 66)) pA hb1 hh)
 have HOA:=Lib.hid oka
 have HCT:Hid (∀ W,Below (w.alloc (.cells #[.int .i64 4,.string (bs xn),.slice v1 v2 v3,.slice c1 c2 c3,.slice t1 t2 t3,.slice i1 i2 i3,.int .i64 xd,.slice a1 a2 a3,.int .i64 (kindG xb),.int .i64 y2,.string y3,.int .i64 y4,.slice y5 y6 y7,.int .i64 y8,.string y9,.int .i64 y10,.slice y11 y12 y13,.string y14,.slice y15 y16 y17,.slice y18 y19 y20] 33)).heap.size (w.alloc (.cells #[.int .i64 4,.string (bs xn),.slice v1 v2 v3,.slice c1 c2 c3,.slice t1 t2 t3,.slice i1 i2 i3,.int .i64 xd,.slice a1 a2 a3,.int .i64 (kindG xb),.int .i64 y2,.string y3,.int .i64 y4,.slice y5 y6 y7,.int .i64 y8,.string y9,.int .i64 y10,.slice y11 y12 y13,.string y14,.slice y15 y16 y17,.slice y18 y19 y20] 33)) W→Calls Tryz.prog 37 #[.slice a1 a2 a3] W (fun e W'=>(∃ v',e=.returned v'∧StrRow (xa.map termF) v' W')∧Below W.heap.size W W')):=Lib.hid (fun W hW=>r3terms _ (TermV.stable 66) (TermV.this 66) termOk termF (Lib.hid (r3term_any 66)) xa _ lo hi W (stays (ArgsV.stable _ _ (TermV.stable 66)) HA.out hW HHI.out) HOA.out (Nat.le_trans HHI.out hW.size) (by omega))
 have r1:=r3add xn (argsF (xa.map termF)) (by omega)
 have q1:(kindG xb == 1)=true:=by simpa using hkk
 have r3:=r3add (xn++argsF (xa.map termF)) [46,10] (by simp only [List.length_append,List.length_cons,List.length_nil];omega)
 rw [show bs [46,10]=⟨#[46,10]⟩ from rfl] at r3
 generalize xn++argsF (xa.map termF)++[46,10]=FF at HG r3
 generalize bs (xn++argsF (xa.map termF))=x1 at r1 r3
 have HD:=Lib.hid ((Below.refl (w.alloc (.cells #[.int .i64 4,.string (bs xn),.slice v1 v2 v3,.slice c1 c2 c3,.slice t1 t2 t3,.slice i1 i2 i3,.int .i64 xd,.slice a1 a2 a3,.int .i64 (kindG xb),.int .i64 y2,.string y3,.int .i64 y4,.slice y5 y6 y7,.int .i64 y8,.string y9,.int .i64 y10,.slice y11 y12 y13,.string y14,.slice y15 y16 y17,.slice y18 y19 y20] 33)).heap.size (w.alloc (.cells #[.int .i64 4,.string (bs xn),.slice v1 v2 v3,.slice c1 c2 c3,.slice t1 t2 t3,.slice i1 i2 i3,.int .i64 xd,.slice a1 a2 a3,.int .i64 (kindG xb),.int .i64 y2,.string y3,.int .i64 y4,.slice y5 y6 y7,.int .i64 y8,.string y9,.int .i64 y10,.slice y11 y12 y13,.string y14,.slice y15 y16 y17,.slice y18 y19 y20] 33))).drew)
 clear pV pC pT pI pA pG hl oka okb hlj hkk
 go_enter Tryz.func11,Tryz.ntmps11
 go_upto_region 27 with fail
 go_region_law (first
  | (go_simp;go_at_call 37;refine (HCT.out _ HD.out).mono ?_;rintro e w3 ⟨⟨vv3,rfl,hs⟩,hb3⟩;have HB3:=Lib.hid (HD.out.trans (hb3.mono HD.out.size));have d1:w3.cell? ⟨w.heap.size,1,none⟩=some (.string (bs xn)):=(Lib.cell_of_heap ((HB3.out.block w.heap.size (by simp)).trans HBX.out) 1).trans rfl)
  | (go_simp;go_at_call 34;refine (r3row_any _ _ _ hs hla).mono ?_;rintro e w4 ⟨rfl,rfl⟩))
 all_goals
  have HBY:=Lib.hid (HB1.out.trans (HB3.out.mono HB1.out.size))
  have HX3:=Lib.hid ((HB3.out.block w.heap.size (by simp)).trans HBX.out)
  have d8:w4.cell? ⟨w.heap.size,8,none⟩=some (.int .i64 (kindG xb)):=(Lib.cell_of_heap HX3.out 8).trans rfl
  clear hb3 hs
  go_wp2_with fail
  go_ret
  exact ⟨(congrArg (fun l=>Ending.returned (Value.string (bs l))) HG.out).symm,HBY.out⟩
set_option maxRecDepth 100000 in
set_option maxHeartbeats 2000000 in
theorem r3item_4b (xn:List UInt8) (xv:List (List UInt8)) (xc:List CtorT) (xt:List TypeT) (xi:List Bool) (xd:Int) (xa:List TermT) (xb:GoalT) (hkk:¬ kindG xb=1) (v:Value) (lo hi:Nat) (w:World) (hv:ItemV ⟨4,xn,xv,xc,xt,xi,xd,xa,xb⟩ v lo hi w) (hok:itemFit ⟨4,xn,xv,xc,xt,xi,xd,xa,xb⟩) (hh:hi≤w.heap.size) (hl:(itemF ⟨4,xn,xv,xc,xt,xi,xd,xa,xb⟩).length≤1099511627776) :
  Calls Tryz.prog 11 #[v] w fun e w'=>e=.returned (.string (bs (itemF ⟨4,xn,xv,xc,xt,xi,xd,xa,xb⟩)))∧Below w.heap.size w w':=by
 have HG:Hid (itemF ⟨4,xn,xv,xc,xt,xi,xd,xa,xb⟩=xn++(argsF (xa.map termF)++([32,58,45,32]++goalF xb))++[46,10]):=Lib.hid (by
  unfold itemF
  simp [bodyF,hkk,termsF_map])
 rw [HG.out] at hl
 obtain ⟨pv0,pc0,pt0,pi0,pa0,pb0,pb1,pb2,pb3,pb4,pb5,pb6,pb7,pb8,pb9,pb10,pb11,e1,pV,pC,pT,pI,pA,pG⟩:=hv
 have e2:v=.agg #[.int .i64 4,.string (bs xn),pv0,pc0,pt0,pi0,.int .i64 xd,pa0,pb0,pb1,pb2,pb3,pb4,pb5,pb6,pb7,pb8,pb9,pb10,pb11]:=e1
 clear e1
 subst e2
 replace pV:ArgsV 9 1 strH xv pv0 lo hi w:=pV
 replace pC:ArgsV 80 2 CtorV xc pc0 lo hi w:=pC
 replace pT:ArgsV 35 3 (TypeV 66) xt pt0 lo hi w:=pT
 replace pI:ArgsV 4 1 boolV xi pi0 lo hi w:=pI
 replace pA:ArgsV 28 4 (TermV 66) xa pa0 lo hi w:=pA
 replace pG:GoalV 134 xb (.agg #[pb0,pb1,pb2,pb3,pb4,pb5,pb6,pb7,pb8,pb9,pb10,pb11]) lo hi w:=pG
 obtain ⟨v1,v2,v3,rfl⟩:=pV.slice
 obtain ⟨c1,c2,c3,rfl⟩:=pC.slice
 obtain ⟨t1,t2,t3,rfl⟩:=pT.slice
 obtain ⟨i1,i2,i3,rfl⟩:=pI.slice
 obtain ⟨a1,a2,a3,rfl⟩:=pA.slice
 obtain ⟨y2,y3,y4,y5,y6,y7,y8,y9,y10,y11,y12,y13,y14,y15,y16,y17,y18,y19,y20,pe⟩:=GoalV.shape _ _ _ _ _ _ pG
 simp only [Value.agg.injEq,Array.mk.injEq,List.cons.injEq,and_true] at pe
 obtain ⟨rfl,rfl,rfl,rfl,rfl,rfl,rfl,rfl,rfl,rfl,rfl,rfl⟩:=pe
 have hb1:Below w.heap.size w (w.alloc (.cells #[.int .i64 4,.string (bs xn),.slice v1 v2 v3,.slice c1 c2 c3,.slice t1 t2 t3,.slice i1 i2 i3,.int .i64 xd,.slice a1 a2 a3,.int .i64 (kindG xb),.int .i64 y2,.string y3,.int .i64 y4,.slice y5 y6 y7,.int .i64 y8,.string y9,.int .i64 y10,.slice y11 y12 y13,.string y14,.slice y15 y16 y17,.slice y18 y19 y20] 33)):=(Below.refl _ _).alloc (Nat.le_refl _) _
 have hz1:(w.alloc (.cells #[.int .i64 4,.string (bs xn),.slice v1 v2 v3,.slice c1 c2 c3,.slice t1 t2 t3,.slice i1 i2 i3,.int .i64 xd,.slice a1 a2 a3,.int .i64 (kindG xb),.int .i64 y2,.string y3,.int .i64 y4,.slice y5 y6 y7,.int .i64 y8,.string y9,.int .i64 y10,.slice y11 y12 y13,.string y14,.slice y15 y16 y17,.slice y18 y19 y20] 33)).heap.size=w.heap.size+1:=by simp
 have HB1:=Lib.hid hb1
 have HBX:=Lib.hid (show (w.alloc (.cells #[.int .i64 4,.string (bs xn),.slice v1 v2 v3,.slice c1 c2 c3,.slice t1 t2 t3,.slice i1 i2 i3,.int .i64 xd,.slice a1 a2 a3,.int .i64 (kindG xb),.int .i64 y2,.string y3,.int .i64 y4,.slice y5 y6 y7,.int .i64 y8,.string y9,.int .i64 y10,.slice y11 y12 y13,.string y14,.slice y15 y16 y17,.slice y18 y19 y20] 33)).heap[w.heap.size]?=_ from heap_alloc_new w _)
 have hhi:hi≤(w.alloc (.cells #[.int .i64 4,.string (bs xn),.slice v1 v2 v3,.slice c1 c2 c3,.slice t1 t2 t3,.slice i1 i2 i3,.int .i64 xd,.slice a1 a2 a3,.int .i64 (kindG xb),.int .i64 y2,.string y3,.int .i64 y4,.slice y5 y6 y7,.int .i64 y8,.string y9,.int .i64 y10,.slice y11 y12 y13,.string y14,.slice y15 y16 y17,.slice y18 y19 y20] 33)).heap.size:=by omega
 have HHI:=Lib.hid hhi
 obtain ⟨oka,okb⟩:=hok
 replace oka:∀ t ∈ xa,termOk t:=oka
 replace okb:goalFit xb∧(goalF xb).length≤1099511627776:=okb
 simp only [List.length_append,List.length_cons,List.length_nil] at hl
 have hlj:=joinF_le_args (xa.map termF)
 have hla:(argsF (xa.map termF)).length≤1099511627776:=by omega
 have HA:=Lib.hid (stays (ArgsV.stable _ _ (TermV.stable 66)) pA hb1 hh)
 have HOA:=Lib.hid oka
 have HCT:Hid (∀ W,Below (w.alloc (.cells #[.int .i64 4,.string (bs xn),.slice v1 v2 v3,.slice c1 c2 c3,.slice t1 t2 t3,.slice i1 i2 i3,.int .i64 xd,.slice a1 a2 a3,.int .i64 (kindG xb),.int .i64 y2,.string y3,.int .i64 y4,.slice y5 y6 y7,.int .i64 y8,.string y9,.int .i64 y10,.slice y11 y12 y13,.string y14,.slice y15 y16 y17,.slice y18 y19 y20] 33)).heap.size (w.alloc (.cells #[.int .i64 4,.string (bs xn),.slice v1 v2 v3,.slice c1 c2 c3,.slice t1 t2 t3,.slice i1 i2 i3,.int .i64 xd,.slice a1 a2 a3,.int .i64 (kindG xb),.int .i64 y2,.string y3,.int .i64 y4,.slice y5 y6 y7,.int .i64 y8,.string y9,.int .i64 y10,.slice y11 y12 y13,.string y14,.slice y15 y16 y17,.slice y18 y19 y20] 33)) W→Calls Tryz.prog 37 #[.slice a1 a2 a3] W (fun e W'=>(∃ v',e=.returned v'∧StrRow (xa.map termF) v' W')∧Below W.heap.size W W')):=Lib.hid (fun W hW=>r3terms _ (TermV.stable 66) (TermV.this 66) termOk termF (Lib.hid (r3term_any 66)) xa _ lo hi W (stays (ArgsV.stable _ _ (TermV.stable 66)) HA.out hW HHI.out) HOA.out (Nat.le_trans HHI.out hW.size) (by omega))
 have r1:=r3add xn (argsF (xa.map termF)) (by omega)
 have hkn:(kindG xb == 1)=false:=by simpa using hkk
 have r2:=r3add [32,58,45,32] (goalF xb) (by simp only [List.length_append,List.length_cons,List.length_nil];omega)
 have r4:=r3add (xn++argsF (xa.map termF)) ([32,58,45,32]++goalF xb) (by simp only [List.length_append,List.length_cons,List.length_nil];omega)
 have r5:=r3add (xn++argsF (xa.map termF)++([32,58,45,32]++goalF xb)) [46,10] (by simp only [List.length_append,List.length_cons,List.length_nil];omega)
 rw [show bs [32,58,45,32]=⟨#[32,58,45,32]⟩ from rfl] at r2
 rw [show bs [46,10]=⟨#[46,10]⟩ from rfl] at r5
 rw [show xn++argsF (xa.map termF)++([32,58,45,32]++goalF xb)++[46,10]=xn++(argsF (xa.map termF)++([32,58,45,32]++goalF xb))++[46,10] by simp] at r5
 generalize xn++(argsF (xa.map termF)++([32,58,45,32]++goalF xb))++[46,10]=FF at HG r5
 generalize bs (xn++argsF (xa.map termF)++([32,58,45,32]++goalF xb))=x3 at r4 r5
 generalize bs ([32,58,45,32]++goalF xb)=x2 at r2 r4
 generalize bs (xn++argsF (xa.map termF))=x1 at r1 r4
 have HGV:=Lib.hid (stays (GoalV.stable 134) pG hb1 hh)
 have HOB:=Lib.hid okb
 have HCG:Hid (∀ W,Below (w.alloc (.cells #[.int .i64 4,.string (bs xn),.slice v1 v2 v3,.slice c1 c2 c3,.slice t1 t2 t3,.slice i1 i2 i3,.int .i64 xd,.slice a1 a2 a3,.int .i64 (kindG xb),.int .i64 y2,.string y3,.int .i64 y4,.slice y5 y6 y7,.int .i64 y8,.string y9,.int .i64 y10,.slice y11 y12 y13,.string y14,.slice y15 y16 y17,.slice y18 y19 y20] 33)).heap.size (w.alloc (.cells #[.int .i64 4,.string (bs xn),.slice v1 v2 v3,.slice c1 c2 c3,.slice t1 t2 t3,.slice i1 i2 i3,.int .i64 xd,.slice a1 a2 a3,.int .i64 (kindG xb),.int .i64 y2,.string y3,.int .i64 y4,.slice y5 y6 y7,.int .i64 y8,.string y9,.int .i64 y10,.slice y11 y12 y13,.string y14,.slice y15 y16 y17,.slice y18 y19 y20] 33)) W→Calls Tryz.prog 13 #[.agg #[.int .i64 (kindG xb),.int .i64 y2,.string y3,.int .i64 y4,.slice y5 y6 y7,.int .i64 y8,.string y9,.int .i64 y10,.slice y11 y12 y13,.string y14,.slice y15 y16 y17,.slice y18 y19 y20]] W (fun e W'=>e=.returned (.string (bs (goalF xb)))∧Below W.heap.size W W')):=Lib.hid (fun W hW=>r3goal_any 134 xb _ lo hi W (stays (GoalV.stable 134) HGV.out hW HHI.out) HOB.out.1 (Nat.le_trans HHI.out hW.size) HOB.out.2)
 have HD:=Lib.hid ((Below.refl (w.alloc (.cells #[.int .i64 4,.string (bs xn),.slice v1 v2 v3,.slice c1 c2 c3,.slice t1 t2 t3,.slice i1 i2 i3,.int .i64 xd,.slice a1 a2 a3,.int .i64 (kindG xb),.int .i64 y2,.string y3,.int .i64 y4,.slice y5 y6 y7,.int .i64 y8,.string y9,.int .i64 y10,.slice y11 y12 y13,.string y14,.slice y15 y16 y17,.slice y18 y19 y20] 33)).heap.size (w.alloc (.cells #[.int .i64 4,.string (bs xn),.slice v1 v2 v3,.slice c1 c2 c3,.slice t1 t2 t3,.slice i1 i2 i3,.int .i64 xd,.slice a1 a2 a3,.int .i64 (kindG xb),.int .i64 y2,.string y3,.int .i64 y4,.slice y5 y6 y7,.int .i64 y8,.string y9,.int .i64 y10,.slice y11 y12 y13,.string y14,.slice y15 y16 y17,.slice y18 y19 y20] 33))).drew)
 clear pV pC pT pI pA pG hl oka okb hlj hkk
 generalize kindG xb=kb at *
 generalize bs (goalF xb)=gb at *
 go_enter Tryz.func11,Tryz.ntmps11
 go_upto_region 27 with fail
 go_region_law (first
  | (go_simp;go_at_call 37;refine (HCT.out _ HD.out).mono ?_;rintro e w3 ⟨⟨vv3,rfl,hs⟩,hb3⟩;have HB3:=Lib.hid (HD.out.trans (hb3.mono HD.out.size));have d1:w3.cell? ⟨w.heap.size,1,none⟩=some (.string (bs xn)):=(Lib.cell_of_heap ((HB3.out.block w.heap.size (by simp)).trans HBX.out) 1).trans rfl)
  | (go_simp;go_at_call 34;refine (r3row_any _ _ _ hs hla).mono ?_;rintro e w4 ⟨rfl,rfl⟩))
 all_goals
  have HBY:=Lib.hid (HB1.out.trans (HB3.out.mono HB1.out.size))
  have HX3:=Lib.hid ((HB3.out.block w.heap.size (by simp)).trans HBX.out)
  have d8:w4.cell? ⟨w.heap.size,8,none⟩=some (.int .i64 kb):=(Lib.cell_of_heap HX3.out 8).trans rfl
  have d9:w4.cell? ⟨w.heap.size,9,none⟩=some (.int .i64 y2):=(Lib.cell_of_heap HX3.out 9).trans rfl
  have d10:w4.cell? ⟨w.heap.size,10,none⟩=some (.string y3):=(Lib.cell_of_heap HX3.out 10).trans rfl
  have d11:w4.cell? ⟨w.heap.size,11,none⟩=some (.int .i64 y4):=(Lib.cell_of_heap HX3.out 11).trans rfl
  have d12:w4.cell? ⟨w.heap.size,12,none⟩=some (.slice y5 y6 y7):=(Lib.cell_of_heap HX3.out 12).trans rfl
  have d13:w4.cell? ⟨w.heap.size,13,none⟩=some (.int .i64 y8):=(Lib.cell_of_heap HX3.out 13).trans rfl
  have d14:w4.cell? ⟨w.heap.size,14,none⟩=some (.string y9):=(Lib.cell_of_heap HX3.out 14).trans rfl
  have d15:w4.cell? ⟨w.heap.size,15,none⟩=some (.int .i64 y10):=(Lib.cell_of_heap HX3.out 15).trans rfl
  have d16:w4.cell? ⟨w.heap.size,16,none⟩=some (.slice y11 y12 y13):=(Lib.cell_of_heap HX3.out 16).trans rfl
  have d17:w4.cell? ⟨w.heap.size,17,none⟩=some (.string y14):=(Lib.cell_of_heap HX3.out 17).trans rfl
  have d18:w4.cell? ⟨w.heap.size,18,none⟩=some (.slice y15 y16 y17):=(Lib.cell_of_heap HX3.out 18).trans rfl
  have d19:w4.cell? ⟨w.heap.size,19,none⟩=some (.slice y18 y19 y20):=(Lib.cell_of_heap HX3.out 19).trans rfl
  clear hb3 hs
  go_wp2_with fail
  go_at_call 13
  refine (HCG.out _ HB3.out).mono ?_
  rintro e w5 ⟨rfl,hb5⟩
  have HBZ:=Lib.hid (HBY.out.trans (hb5.mono HBY.out.size))
  clear hb5 d8 d9 d10 d11 d12 d13 d14 d15 d16 d17 d18 d19
  go_wp2_with fail
  go_ret
  exact ⟨(congrArg (fun l=>Ending.returned (Value.string (bs l))) HG.out).symm,HBZ.out⟩
end Lx
end Go.Proofs.YtajomoclbpobhaaGreatDoor
namespace Go.Proofs.YtajomoclbpobhaaGreatDoor
set_option linter.unusedSimpArgs false
set_option linter.unusedVariables false
namespace Lx
open Go Go.RowKit
set_option maxRecDepth 100000 in
set_option maxHeartbeats 2000000 in
theorem r3item_3 (xn:List UInt8) (xv:List (List UInt8)) (xc:List CtorT) (xt:List TypeT) (xi:List Bool) (xd:Int) (xa:List TermT) (xb:GoalT) (v:Value) (lo hi:Nat) (w:World) (hv:ItemV ⟨3,xn,xv,xc,xt,xi,xd,xa,xb⟩ v lo hi w) (hok:itemFit ⟨3,xn,xv,xc,xt,xi,xd,xa,xb⟩) (hh:hi≤w.heap.size) (hl:(itemF ⟨3,xn,xv,xc,xt,xi,xd,xa,xb⟩).length≤1099511627776) :
  Calls Tryz.prog 11 #[v] w fun e w'=>e=.returned (.string (bs (itemF ⟨3,xn,xv,xc,xt,xi,xd,xa,xb⟩)))∧Below w.heap.size w w':=by
 have HG:Hid (itemF ⟨3,xn,xv,xc,xt,xi,xd,xa,xb⟩=[109,111,100,101,32]++(xn++(argsF (xi.map wayF)++([32,105,115,32]++detF xd)))++[46,10]):=Lib.hid (by
  unfold itemF
  simp)
 rw [HG.out] at hl
 obtain ⟨pv0,pc0,pt0,pi0,pa0,pb0,pb1,pb2,pb3,pb4,pb5,pb6,pb7,pb8,pb9,pb10,pb11,e1,pV,pC,pT,pI,pA,pG⟩:=hv
 have e2:v=.agg #[.int .i64 3,.string (bs xn),pv0,pc0,pt0,pi0,.int .i64 xd,pa0,pb0,pb1,pb2,pb3,pb4,pb5,pb6,pb7,pb8,pb9,pb10,pb11]:=e1
 clear e1
 subst e2
 replace pV:ArgsV 9 1 strH xv pv0 lo hi w:=pV
 replace pC:ArgsV 80 2 CtorV xc pc0 lo hi w:=pC
 replace pT:ArgsV 35 3 (TypeV 66) xt pt0 lo hi w:=pT
 replace pI:ArgsV 4 1 boolV xi pi0 lo hi w:=pI
 replace pA:ArgsV 28 4 (TermV 66) xa pa0 lo hi w:=pA
 replace pG:GoalV 134 xb (.agg #[pb0,pb1,pb2,pb3,pb4,pb5,pb6,pb7,pb8,pb9,pb10,pb11]) lo hi w:=pG
 obtain ⟨v1,v2,v3,rfl⟩:=pV.slice
 obtain ⟨c1,c2,c3,rfl⟩:=pC.slice
 obtain ⟨t1,t2,t3,rfl⟩:=pT.slice
 obtain ⟨i1,i2,i3,rfl⟩:=pI.slice
 obtain ⟨a1,a2,a3,rfl⟩:=pA.slice
 obtain ⟨y2,y3,y4,y5,y6,y7,y8,y9,y10,y11,y12,y13,y14,y15,y16,y17,y18,y19,y20,pe⟩:=GoalV.shape _ _ _ _ _ _ pG
 simp only [Value.agg.injEq,Array.mk.injEq,List.cons.injEq,and_true] at pe
 obtain ⟨rfl,rfl,rfl,rfl,rfl,rfl,rfl,rfl,rfl,rfl,rfl,rfl⟩:=pe
 have hb1:Below w.heap.size w (w.alloc (.cells #[.int .i64 3,.string (bs xn),.slice v1 v2 v3,.slice c1 c2 c3,.slice t1 t2 t3,.slice i1 i2 i3,.int .i64 xd,.slice a1 a2 a3,.int .i64 (kindG xb),.int .i64 y2,.string y3,.int .i64 y4,.slice y5 y6 y7,.int .i64 y8,.string y9,.int .i64 y10,.slice y11 y12 y13,.string y14,.slice y15 y16 y17,.slice y18 y19 y20] 33)):=(Below.refl _ _).alloc (Nat.le_refl _) _
 have hz1:(w.alloc (.cells #[.int .i64 3,.string (bs xn),.slice v1 v2 v3,.slice c1 c2 c3,.slice t1 t2 t3,.slice i1 i2 i3,.int .i64 xd,.slice a1 a2 a3,.int .i64 (kindG xb),.int .i64 y2,.string y3,.int .i64 y4,.slice y5 y6 y7,.int .i64 y8,.string y9,.int .i64 y10,.slice y11 y12 y13,.string y14,.slice y15 y16 y17,.slice y18 y19 y20] 33)).heap.size=w.heap.size+1:=by simp
 have HB1:=Lib.hid hb1
 have HBX:=Lib.hid (show (w.alloc (.cells #[.int .i64 3,.string (bs xn),.slice v1 v2 v3,.slice c1 c2 c3,.slice t1 t2 t3,.slice i1 i2 i3,.int .i64 xd,.slice a1 a2 a3,.int .i64 (kindG xb),.int .i64 y2,.string y3,.int .i64 y4,.slice y5 y6 y7,.int .i64 y8,.string y9,.int .i64 y10,.slice y11 y12 y13,.string y14,.slice y15 y16 y17,.slice y18 y19 y20] 33)).heap[w.heap.size]?=_ from heap_alloc_new w _)
 have hhi:hi≤(w.alloc (.cells #[.int .i64 3,.string (bs xn),.slice v1 v2 v3,.slice c1 c2 c3,.slice t1 t2 t3,.slice i1 i2 i3,.int .i64 xd,.slice a1 a2 a3,.int .i64 (kindG xb),.int .i64 y2,.string y3,.int .i64 y4,.slice y5 y6 y7,.int .i64 y8,.string y9,.int .i64 y10,.slice y11 y12 y13,.string y14,.slice y15 y16 y17,.slice y18 y19 y20] 33)).heap.size:=by omega
 have HHI:=Lib.hid hhi
 obtain ⟨oka,okb⟩:=hok
 replace oka:∀ t ∈ xa,termOk t:=oka
 replace okb:goalFit xb∧(goalF xb).length≤1099511627776:=okb
 have hmi:=joinF_many [44,32] (by simp) (xi.map wayF)
 have hlv:=joinF_le_args (xi.map wayF)
 rw [List.length_map] at hmi
 simp only [List.length_append,List.length_cons,List.length_nil] at hl
 have hce:∀ x v lo hi w,boolV x v lo hi w→(cellsL v).length=1:=fun x v lo hi w h=>by rw [show v=.bool x from h];rfl
 obtain ⟨A,c,e9,_⟩:=pI.at hce (by decide)
 injection e9 with e9 e10 e11
 subst e9 e10 e11
 have HC:=Lib.hid (stays (ArgsV.stable _ _ boolV.stable) pI hb1 hh)
 have r1:=r3add [109,111,100,101,32] xn (by simp only [List.length_cons,List.length_nil];omega)
 have r2:=r3add ([109,111,100,101,32]++xn) (argsF (xi.map wayF)) (by simp only [List.length_append,List.length_cons,List.length_nil];omega)
 have r3:=r3add ([109,111,100,101,32]++xn++argsF (xi.map wayF)) [32,105,115,32] (by simp only [List.length_append,List.length_cons,List.length_nil];omega)
 have r4:=r3add ([109,111,100,101,32]++xn++argsF (xi.map wayF)++[32,105,115,32]) (detF xd) (by simp only [List.length_append,List.length_cons,List.length_nil];omega)
 have r5:=r3add ([109,111,100,101,32]++xn++argsF (xi.map wayF)++[32,105,115,32]++detF xd) [46,10] (by simp only [List.length_append,List.length_cons,List.length_nil];omega)
 rw [show bs [109,111,100,101,32]=⟨#[109,111,100,101,32]⟩ from rfl] at r1
 rw [show bs [32,105,115,32]=⟨#[32,105,115,32]⟩ from rfl] at r3
 rw [show bs [46,10]=⟨#[46,10]⟩ from rfl] at r5
 rw [show [109,111,100,101,32]++xn++argsF (xi.map wayF)++[32,105,115,32]++detF xd++[46,10]=[109,111,100,101,32]++(xn++(argsF (xi.map wayF)++([32,105,115,32]++detF xd)))++[46,10] by simp] at r5
 have r6:detF xd=[]→bs ([109,111,100,101,32]++xn++argsF (xi.map wayF)++[32,105,115,32])=bs ([109,111,100,101,32]++xn++argsF (xi.map wayF)++[32,105,115,32]++detF xd):=fun e=>by rw [e,List.append_nil]
 generalize [109,111,100,101,32]++(xn++(argsF (xi.map wayF)++([32,105,115,32]++detF xd)))++[46,10]=FF at HG r5
 generalize bs ([109,111,100,101,32]++xn++argsF (xi.map wayF)++[32,105,115,32]++detF xd)=x4 at r4 r5 r6
 generalize bs ([109,111,100,101,32]++xn++argsF (xi.map wayF)++[32,105,115,32])=x3 at r3 r4 r6
 generalize bs ([109,111,100,101,32]++xn++argsF (xi.map wayF))=x2 at r2 r3
 generalize bs ([109,111,100,101,32]++xn)=x1 at r1 r2
 have hl1:(argsF (xi.map wayF)).length≤1099511627776:=by omega
 have hl3:xi.length≤1099511627777:=by omega
 have HR1:=Lib.hid r1
 have HR2:=Lib.hid r2
 have HR3:=Lib.hid r3
 have HR4:=Lib.hid r4
 have HR5:=Lib.hid r5
 have HR6:=Lib.hid r6
 have HL1:=Lib.hid hl1
 clear pV pC pT pI pA pG hl oka okb hmi hlv r1 r2 r3 r4 r5 r6 hl1
 obtain ⟨i0,hi0,hi1,hi2,hi3⟩:=info_parts infoSt
 have HI0:=Lib.hid hi0
 have HI1:=Lib.hid hi1
 have HI2:=Lib.hid hi2
 have HI3:=Lib.hid hi3
 clear hi0 hi1 hi2 hi3
 go_enter Tryz.func11,Tryz.ntmps11
 go_wp2_with fail
 have HST:=Lib.hid (Wds.emptyAt (w0:=(w.alloc (.cells #[.int .i64 3,.string (bs xn),.slice v1 v2 v3,.slice c1 c2 c3,.slice t1 t2 t3,.slice i1 xi.length i3,.int .i64 xd,.slice a1 a2 a3,.int .i64 (kindG xb),.int .i64 y2,.string y3,.int .i64 y4,.slice y5 y6 y7,.int .i64 y8,.string y9,.int .i64 y10,.slice y11 y12 y13,.string y14,.slice y15 y16 y17,.slice y18 y19 y20] 33))) (xi.map wayF) (Below.refl _ _) (cs:=#[]) rfl hz1)
 go_loopw [7,61] (fun sl t wr=>∃ n A' cap',n≤xi.length∧t=.int .i64 (n:Nat)∧sl=.slice A' n cap'∧Hid (Wds (w.alloc (.cells #[.int .i64 3,.string (bs xn),.slice v1 v2 v3,.slice c1 c2 c3,.slice t1 t2 t3,.slice i1 xi.length i3,.int .i64 xd,.slice a1 a2 a3,.int .i64 (kindG xb),.int .i64 y2,.string y3,.int .i64 y4,.slice y5 y6 y7,.int .i64 y8,.string y9,.int .i64 y10,.slice y11 y12 y13,.string y14,.slice y15 y16 y17,.slice y18 y19 y20] 33)) (xi.map wayF) n A' cap' wr)) (fun _ t _=>xi.length - (intOf t).toNat)
 case atStart=>exact ⟨0,_,_,Nat.zero_le _,rfl,rfl,HST⟩
 case round =>
  obtain ⟨n,A',cap',hn,rfl,rfl,HI⟩:=hrel
  have hsz:=HI.out.below.size
  by_cases hlt:n < xi.length
  ·have r1:=stays (ArgsV.stable _ _ boolV.stable) HC.out HI.out.below HHI.out
   obtain ⟨_,_,q1,r1⟩:=r1.at hce (by decide)
   injection q1 with q1 _ qc1
   subst q1
   clear qc1
   obtain ⟨g1,u1,p1,t1',rfl,_,m1,hv1,cc1⟩:=r1 n hlt
   have e9:(xi.map wayF)[n]'(by simpa using hlt)=wayF xi[n]:=by simp
   have hk0:(0:Int)≤(n:Int):=by omega
   have hk1:(n:Int) < (xi.length:Int):=by omega
   have hdc:decide (n < xi.length)=true:=by simpa using hlt
   have hkm:n < (xi.map wayF).length:=by simpa using hlt
   have a0:=(cc1 0 (by decide)).trans rfl
   obtain rfl:u1=.bool xi[n]:=hv1
   simp only [cellsL,Value.cells,List.getElem?_cons_zero,Nat.add_zero,Nat.mul_one] at a0
   clear cc1 r1
   generalize xi[n]=bb at a0 e9
   cases bb with
   | true =>
    have hn4:n≤1099511627776:=by omega
    go_wp2_with (at_builtin;refine wpList_append_lies _ rfl _ _ 22 rfl _ 9 i0 (.string ⟨#[]⟩) 1 16 Tryz.underlying22 HI0.out HI1.out HI2.out HI3.out rfl (by decide) _ _ _ rfl (HI.out.own.alloc _) ⟨wr.heap.size,0,none⟩ 1 1 [.string ⟨#[105,110]⟩] rfl rfl (cells_new _ #[.string ⟨#[105,110]⟩] _ _ rfl) (by simp [Value.oneCell']) (by decide) (by unfold maxLen;omega) (by omega) (by simp;omega) _ rfl ?_;intro g2 cap2 w6 hown6 hg6 _ _;have HNX:=Lib.hid (Wds.next HI.out hkm e9 (Below.refl _ _) hown6 hg6);clear hown6 hg6)
    go_roundw
    case rel=>exact ⟨n+1,_,_,by omega,by go_num,rfl,HNX⟩
    case measure=>simp [intOf];omega
   | false =>
    have hn4:n≤1099511627776:=by omega
    go_wp2_with (at_builtin;refine wpList_append_lies _ rfl _ _ 22 rfl _ 9 i0 (.string ⟨#[]⟩) 1 16 Tryz.underlying22 HI0.out HI1.out HI2.out HI3.out rfl (by decide) _ _ _ rfl (HI.out.own.alloc _) ⟨wr.heap.size,0,none⟩ 1 1 [.string ⟨#[111,117,116]⟩] rfl rfl (cells_new _ #[.string ⟨#[111,117,116]⟩] _ _ rfl) (by simp [Value.oneCell']) (by decide) (by unfold maxLen;omega) (by omega) (by simp;omega) _ rfl ?_;intro g2 cap2 w6 hown6 hg6 _ _;have HNX:=Lib.hid (Wds.next HI.out hkm e9 (Below.refl _ _) hown6 hg6);clear hown6 hg6)
    go_roundw
    case rel=>exact ⟨n+1,_,_,by omega,by go_num,rfl,HNX⟩
    case measure=>simp [intOf];omega
  ·obtain rfl:n=xi.length:=by omega
   have hdc:decide (xi.length < xi.length)=false:=by simp
   have HD:=HI.out
   rw [show xi.length=(xi.map wayF).length by simp] at HD
   have hSR:=HD.done (by rw [List.length_map];omega)
   rw [List.length_map] at hSR
   have HSR:=Lib.hid hSR
   have HBW:=Lib.hid (HB1.out.trans (HI.out.below.mono HB1.out.size))
   have HXB:=Lib.hid ((HI.out.below.block w.heap.size (by omega)).trans HBX.out)
   have HQ1:=Lib.hid (fun m=>r3row_any (xi.map wayF) _ (wr.drewN m) (HSR.out.drewN m) HL1.out)
   have d1:wr.cell? ⟨w.heap.size,1,none⟩=some (.string (bs xn)):=(Lib.cell_of_heap HXB.out 1).trans rfl
   have d6:wr.cell? ⟨w.heap.size,6,none⟩=some (.int .i64 xd):=(Lib.cell_of_heap HXB.out 6).trans rfl
   have r1:=HR1.out
   have r2:=HR2.out
   have r3:=HR3.out
   have r4:=HR4.out
   have r5:=HR5.out
   have hcases:xd=1 ∨ xd=2 ∨ xd=3 ∨ xd=4 ∨ ((xd < 1 ∨ 4 < xd)∧detF xd=[]):=by
    by_cases h1:xd=1
    ·exact .inl h1
    by_cases h2:xd=2
    ·exact .inr (.inl h2)
    by_cases h3:xd=3
    ·exact .inr (.inr (.inl h3))
    by_cases h4:xd=4
    ·exact .inr (.inr (.inr (.inl h4)))
    refine .inr (.inr (.inr (.inr ⟨by omega,?_⟩)))
    unfold detF
    rw [if_neg h1,if_neg h2,if_neg h3,if_neg h4]
   have HLT9:=Lib.hid (show w.heap.size < wr.heap.size by omega)
   clear HD hSR HI HC hsz hn hlt
   go_upto_region 23 with fail
   go_quiet (first | (go_at_call 34;exact Calls.quiet_of_same (HQ1.out _)))
   have HBN:=Lib.hid (below_drewN HBW.out nq)
   have d6n:(wr.drewN nq).cell? ⟨w.heap.size,6,none⟩=some (.int .i64 xd):=d6
   have hlt9:w.heap.size < (wr.drewN nq).heap.size:=HLT9.out
   clear d6 d1 HSR HXB HBW HQ1
   generalize wr.drewN nq=WN at *
   have d6b:∀ o,(WN.alloc o).cell? ⟨w.heap.size,6,none⟩=some (.int .i64 xd):=fun o=>(World.cell?_of_block (a:=⟨w.heap.size,6,none⟩) (Lib.alloc_old WN o _ hlt9)).trans d6n
   rcases hcases with rfl | rfl | rfl | rfl | ⟨hx,hdx⟩
   ·rw [show bs (detF 1)=⟨#[100,101,116]⟩ from rfl] at r4
    go_wp2_with fail
    go_ret
    exact ⟨(congrArg (fun l=>Ending.returned (Value.string (bs l))) HG.out).symm,HBN.out.alloc HBN.out.size _⟩
   ·rw [show bs (detF 2)=⟨#[115,101,109,105,100,101,116]⟩ from rfl] at r4
    go_wp2_with fail
    go_ret
    exact ⟨(congrArg (fun l=>Ending.returned (Value.string (bs l))) HG.out).symm,HBN.out.alloc HBN.out.size _⟩
   ·rw [show bs (detF 3)=⟨#[109,117,108,116,105]⟩ from rfl] at r4
    go_wp2_with fail
    go_ret
    exact ⟨(congrArg (fun l=>Ending.returned (Value.string (bs l))) HG.out).symm,HBN.out.alloc HBN.out.size _⟩
   ·rw [show bs (detF 4)=⟨#[110,111,110,100,101,116]⟩ from rfl] at r4
    go_wp2_with fail
    go_ret
    exact ⟨(congrArg (fun l=>Ending.returned (Value.string (bs l))) HG.out).symm,HBN.out.alloc HBN.out.size _⟩
   ·have e6:=HR6.out hdx
    subst e6
    rcases hx with hx | hx
    ·go_wp2_with fail
     go_ret
     exact ⟨(congrArg (fun l=>Ending.returned (Value.string (bs l))) HG.out).symm,HBN.out⟩
    ·have hy:1≤xd:=by omega
     go_wp2_with fail
     go_ret
     exact ⟨(congrArg (fun l=>Ending.returned (Value.string (bs l))) HG.out).symm,HBN.out⟩
end Lx
end Go.Proofs.YtajomoclbpobhaaGreatDoor
namespace Go.Proofs.YtajomoclbpobhaaGreatDoor
set_option linter.unusedSimpArgs false
set_option linter.unusedVariables false
namespace Lx
open Go Go.RowKit
theorem r3item_any:Says 11 ItemV itemFit itemF:=by
 rintro ⟨xk,xn,xv,xc,xt,xi,xd,xa,xb⟩ v lo hi w hv hok hh hl
 by_cases h1:xk=1
 ·subst h1
  exact r3item_1 xn xv xc xt xi xd xa xb v lo hi w hv hok hh hl
 by_cases h2:xk=2
 ·subst h2
  exact r3item_2 xn xv xc xt xi xd xa xb v lo hi w hv hok hh hl
 by_cases h3:xk=3
 ·subst h3
  exact r3item_3 xn xv xc xt xi xd xa xb v lo hi w hv hok hh hl
 by_cases h4:xk=4
 ·subst h4
  by_cases hk:kindG xb=1
  ·exact r3item_4a xn xv xc xt xi xd xa xb hk v lo hi w hv hok hh hl
  ·exact r3item_4b xn xv xc xt xi xd xa xb hk v lo hi w hv hok hh hl
 exact r3item_0 xn xv xc xt xi xd xa xb xk h1 h2 h3 h4 v lo hi w hv hok hh hl
end Lx
end Go.Proofs.YtajomoclbpobhaaGreatDoor
namespace Go.Proofs.YtajomoclbpobhaaGreatDoor
set_option linter.unusedSimpArgs false
set_option linter.unusedVariables false
namespace Lx
open Go Go.RowKit
theorem goalF_le_inner (k:Int) (x:GoalT):(goalF x).length≤(innerF k x).length:=by
 rw [innerF_eq]
 split
 ·rw [paren_len];omega
 ·exact Nat.le_refl _
theorem kids_fit {k:Int} {a b:TermT} {s:List UInt8} {l:List TermT} {gs:List GoalT} (ho:goalOk (.mk k a b s l gs)) (hn:gs.length≤1099511627776) (hi:∀ x ∈ gs,(innerF k x).length≤1099511627776) (hx:∀ x ∈ gs,goalOk x→(goalF x).length≤1099511627776→goalFit x):goalFit (.mk k a b s l gs):=by
 rw [goalOk,goalsOk_iff] at ho
 rw [goalFit,kidsFit_iff]
 exact ⟨⟨ho.1,ho.2.1,ho.2.2.1⟩,hn,fun x h=>⟨hi x h,hx x h (ho.2.2.2 x h) (Nat.le_trans (goalF_le_inner k x) (hi x h))⟩⟩
theorem goalF_5 (gs:List GoalT):goalF (.mk 5 zeroT zeroT [] [] gs)=joinF [44,32] (gs.map (innerF 5)):=by
 rw [goalF]
 simp only [goalW,show ¬ ((5:Int)=1) by decide,show ¬ ((5:Int)=2) by decide,show ¬ ((5:Int)=3) by decide,show ¬ ((5:Int)=4) by decide,if_false,if_true]
 exact congrArg _ (mapW_5 gs)
theorem goalF_6 (gs:List GoalT):goalF (.mk 6 zeroT zeroT [] [] gs)=joinF [32,59,32] (gs.map (innerF 6)):=by
 rw [goalF]
 simp only [goalW,show ¬ ((6:Int)=1) by decide,show ¬ ((6:Int)=2) by decide,show ¬ ((6:Int)=3) by decide,show ¬ ((6:Int)=4) by decide,show ¬ ((6:Int)=5) by decide,if_false,if_true]
 exact congrArg _ (mapW_6 gs)
theorem conj_fit {P:GoalT→Prop} (HP:∀ x,P x→goalOk x→(goalF x).length≤1099511627776→goalFit x) (g:GoalT) (h:conjB P g) (ho:goalOk g) (hl:(goalF g).length≤1099511627776):goalFit g:=by
 rcases h with ⟨gs,rfl,_,h3,h4⟩ | ⟨_,h2⟩
 ·rw [goalF_5] at hl
  exact kids_fit ho (by omega) (fun x hx=>Nat.le_trans (joinF_each _ _ _ (List.mem_map.2 ⟨x,hx,rfl⟩)) hl) (fun x hx=>HP x (h4 x hx))
 ·exact HP g h2 ho hl
theorem top_fit {P:GoalT→Prop} (HP:∀ x,P x→goalOk x→(goalF x).length≤1099511627776→goalFit x) (g:GoalT) (h:topB P g) (ho:goalOk g) (hl:(goalF g).length≤1099511627776):goalFit g:=by
 rcases h with ⟨gs,rfl,_,h3,h4⟩ | ⟨_,h2⟩
 ·rw [goalF_6] at hl
  exact kids_fit ho (by omega) (fun x hx=>Nat.le_trans (joinF_each _ _ _ (List.mem_map.2 ⟨x,hx,rfl⟩)) hl) (fun x hx=>conj_fit HP x (h4 x hx))
 ·exact conj_fit HP g h2 ho hl
theorem prim_fit:∀ (m:Nat) (ne:Int) (g:GoalT),primB m ne g→goalOk g→(goalF g).length≤1099511627776→goalFit g
 | 0,_,_,h,_,_=>h.elim
 | m+1,ne,g,h,ho,hl=>by
  have IH:=prim_fit m (ne+1)
  rw [primB] at h
  obtain ⟨_,h2⟩:=h
  rcases h2 with rfl | rfl | ⟨a,rfl,h2⟩ | ⟨t,rfl,h2⟩ | ⟨a,b,s,rfl,hv,h2,h3⟩ | ⟨t,u,rfl,h2,h3⟩ | ⟨s,l,rfl,h2⟩ | ⟨e,h2⟩
  ·exact kids_fit ho (by simp) (by simp) (by simp)
  ·exact kids_fit ho (by simp) (by simp) (by simp)
  ·have e:goalF (.mk 7 zeroT zeroT [] [] [a])=[110,111,116,32]++innerF 7 a:=by
    rw [goalF]
    simp only [goalW,show ¬ ((7:Int)=1) by decide,show ¬ ((7:Int)=2) by decide,show ¬ ((7:Int)=3) by decide,show ¬ ((7:Int)=4) by decide,show ¬ ((7:Int)=5) by decide,show ¬ ((7:Int)=6) by decide,if_false,if_true]
    rw [partW_I (.inl rfl)]
    rfl
   rw [e,List.length_append] at hl
   refine kids_fit ho (by simp) (fun x hx=>?_) (fun x hx=>?_)
   ·obtain rfl:x=a:=by simpa using hx
    omega
   ·obtain rfl:x=a:=by simpa using hx
    exact IH x h2
  ·exact kids_fit ho (by simp) (by simp) (by simp)
  ·have e:goalF (.mk 9 zeroT zeroT s [] [a,b])=[116,114,121,32]++(innerF 9 a++([32,99,97,116,99,104,32]++(s++([32,116,104,101,110,32]++innerF 9 b)))):=by
    rw [goalF]
    simp only [goalW,show ¬ ((9:Int)=1) by decide,show ¬ ((9:Int)=2) by decide,show ¬ ((9:Int)=3) by decide,show ¬ ((9:Int)=4) by decide,show ¬ ((9:Int)=5) by decide,show ¬ ((9:Int)=6) by decide,show ¬ ((9:Int)=7) by decide,show ¬ ((9:Int)=8) by decide,if_false,if_true]
    rw [partW_I (.inr rfl),partW_I (.inr rfl)]
    rfl
   rw [e] at hl
   simp only [List.length_append] at hl
   refine kids_fit ho (by simp) (fun x hx=>?_) (fun x hx=>?_)
   ·rcases List.mem_cons.1 hx with rfl | hx
    ·omega
    ·obtain rfl:x=b:=by simpa using hx
     omega
   ·rcases List.mem_cons.1 hx with rfl | hx
    ·exact IH x h2
    ·obtain rfl:x=b:=by simpa using hx
     exact IH x h3
  ·exact kids_fit ho (by simp) (by simp) (by simp)
  ·exact kids_fit ho (by simp) (by simp) (by simp)
  ·exact top_fit IH g h2 ho hl
theorem itemF_body (x:ItemT) (hx:x.kind=4) (hk:kindG x.body ≠ 1):(goalF x.body).length≤(itemF x).length:=by
 unfold itemF bodyF
 simp only [hx,hk,show ¬ ((4:Int)=1) by decide,show ¬ ((4:Int)=2) by decide,show ¬ ((4:Int)=3) by decide,if_false,if_true,List.length_append]
 omega
theorem zeroG_fit:goalFit zeroG:=kids_fit zeroG_ok (by simp) (by simp) (by simp)
theorem trueG_fit:goalFit trueG:=kids_fit trueG_ok (by simp) (by simp) (by simp)
theorem item_fit {x:ItemT} (h:itemB x) (ho:itemOk x) (hl:(itemF x).length≤1099511627776):itemFit x:=by
 obtain ⟨hn,h⟩:=h
 refine ⟨ho.1,?_⟩
 have hz:goalFit zeroG∧(goalF zeroG).length≤1099511627776:=⟨zeroG_fit,by decide⟩
 rcases h with ⟨vs,cs,hx,_⟩ | ⟨l,hx,_⟩ | ⟨ws,d,hx,_⟩ | ⟨l,g,hx,_,_,hg⟩
 ·rw [hx];exact hz
 ·rw [hx];exact hz
 ·rw [hx];exact hz
 ·have hb:x.body=g:=by rw [hx]
  have hk:x.kind=4:=by rw [hx]
  have ho2:=ho.2
  rcases hg with ⟨_,rfl⟩ | ⟨h1,h2⟩
  ·rw [hb]
   exact ⟨trueG_fit,by decide⟩
  ·have h3:=itemF_body x hk (by rw [hb];exact h1)
   rw [hb] at h3 ho2 ⊢
   exact ⟨top_fit (prim_fit 66 0) g h2 ho2 (by omega),by omega⟩
theorem takeF_le (l:List ItemT) (k:Nat):((l.map itemF).take k).flatten.length≤(sourceF l).length:=by
 unfold sourceF
 rw [joinF_nil]
 have e:(l.map itemF).flatten=((l.map itemF).take k).flatten++((l.map itemF).drop k).flatten:=by rw [← List.flatten_append,List.take_append_drop]
 rw [e,List.length_append]
 omega
theorem takeF_next (l:List ItemT) (k:Nat) (h:k < l.length):((l.map itemF).take (k+1)).flatten=((l.map itemF).take k).flatten++itemF l[k]:=by
 rw [List.take_succ_eq_append_getElem (by simpa using h),List.flatten_append,List.flatten_cons,List.flatten_nil,List.append_nil,List.getElem_map]
theorem takeF_all (l:List ItemT):((l.map itemF).take l.length).flatten=sourceF l:=by
 unfold sourceF
 rw [joinF_nil,List.take_of_length_le (by simp)]
set_option maxRecDepth 100000 in
set_option maxHeartbeats 2000000 in
theorem r3source_any (l:List ItemT) (v:Value) (lo hi:Nat) (w:World) (hv:ArgsV 33 20 ItemV l v lo hi w) (hok:∀ x ∈ l,itemFit x) (hh:hi≤w.heap.size) (hlen:(sourceF l).length≤1099511627776) :
  Calls Tryz.prog 21 #[v] w fun e w'=>e=.returned (.string (bs (sourceF l)))∧Below w.heap.size w w':=by
 have hce:∀ x v lo hi w,ItemV x v lo hi w→(cellsL v).length=20:=fun _ _ _ _ _ h=>ItemV.cells' h
 have HOK:=Lib.hid hok
 have HLE:=Lib.hid hlen
 obtain ⟨A,c,rfl,_⟩:=hv.at hce (by decide)
 have hfew:=hv.few
 unfold maxLen at hfew
 have HV:=Lib.hid hv
 clear hv hok hlen
 go_enter Tryz.func21,Tryz.ntmps21
 go_wp2_with fail
 go_loopw [3,8] (fun x i wr=>∃ k:Nat,k≤l.length∧i=.int .i64 k∧x=.string (bs ((l.map itemF).take k).flatten)∧Hid (Below w.heap.size w wr)) (fun _ i _=>l.length - (intOf i).toNat)
 case atStart=>exact ⟨0,Nat.zero_le _,rfl,rfl,Lib.hid (Below.refl _ _)⟩
 case round =>
  obtain ⟨k,hk,rfl,rfl,HB⟩:=hrel
  by_cases hlt:k < l.length
  ·have r1:=stays (ArgsV.stable _ _ ItemV.stable) HV.out HB.out hh
   obtain ⟨_,_,q1,r1⟩:=r1.at hce (by decide)
   injection q1 with q1 _ qc1
   subst q1
   clear qc1
   obtain ⟨g1,u1,p1,t1,rfl,_,m1,hv1,cc1⟩:=r1 k hlt
   obtain ⟨C1,rfl,hC1,hC2⟩:=itemV_row' hv1
   have hr1:wr.rangeAt g1 (k * 20) C1.toList:=by
    intro j v hv
    have hj:j < 20:=by
     have:=(List.getElem?_eq_some_iff.1 hv).1
     simp at this
     omega
    exact (cc1 j hj).trans hv
   have HR1:=Lib.hid hr1
   have HCS:Hid ((Tryz.prog.info? 33).map (·.size)=some C1.toList.length):=Lib.hid (by rw [Array.length_toList,hC1];exact infoItem)
   have HCT:Hid ((Tryz.prog.info? 33).map (·.size)=some C1.size):=Lib.hid (by rw [hC1];exact infoItem)
   have HC2:=Lib.hid hC2
   have HTH:Hid ((wr.alloc (.cells #[.int .i64 0,.string ⟨#[]⟩,.slice none 0 0,.slice none 0 0,.slice none 0 0,.slice none 0 0,.int .i64 0,.slice none 0 0,.int .i64 0,.int .i64 0,.string ⟨#[]⟩,.int .i64 0,.slice none 0 0,.int .i64 0,.string ⟨#[]⟩,.int .i64 0,.slice none 0 0,.string ⟨#[]⟩,.slice none 0 0,.slice none 0 0] 33)).there wr.heap.size 0 C1.size):=Lib.hid (by rw [hC1];exact there_all (heap_alloc_new wr _))
   obtain ⟨hs1,hs2,hs3⟩:=stored (w:=wr) (C:=C1) (Z:=#[.int .i64 0,.string ⟨#[]⟩,.slice none 0 0,.slice none 0 0,.slice none 0 0,.slice none 0 0,.int .i64 0,.slice none 0 0,.int .i64 0,.int .i64 0,.string ⟨#[]⟩,.int .i64 0,.slice none 0 0,.int .i64 0,.string ⟨#[]⟩,.int .i64 0,.slice none 0 0,.string ⟨#[]⟩,.slice none 0 0,.slice none 0 0]) (T:=33) (by rw [hC1];rfl)
   have HS1:=Lib.hid hs1
   have HS2:=Lib.hid hs2
   have HV1:=Lib.hid hv1
   have hk0:(0:Int)≤(k:Int):=by omega
   have hk1:(k:Int) < (l.length:Int):=by omega
   have hdc:decide (k < l.length)=true:=by simpa using hlt
   have hsz:=HB.out.size
   have hz2:t1≤w.heap.size:=by omega
   have hfl:=takeF_next l k hlt
   have hle:=takeF_le l (k+1)
   have hle2:=HLE.out
   rw [hfl,List.length_append] at hle
   have HFL:=Lib.hid hfl
   have HOKk:=Lib.hid (HOK.out _ (List.getElem_mem hlt))
   clear cc1 hv1 r1 hC1 hC2 hs1 hs2 hs3 hr1 hfl
   go_upto_region 4 with fail
   refine wp_region_list ?_
   go_step
   go_step
   refine wpList_load_mid rfl 33 (.tmp 10) rfl g1 (k * 20) rfl C1.toList _ HR1.out Tryz.underlying33 rfl HCS.out ?_
   go_step
   go_step
   go_step
   refine wpList_store_mid rfl 33 (.tmp 5) (.tmp 11) rfl wr.heap.size 0 C1 rfl rfl HTH.out HCT.out HC2.out ?_
   clear HTH HR1
   generalize World.setCells _ _ _ _=X at HS1 HS2 ⊢
   have HBX:=Lib.hid (HB.out.trans (HS2.out.mono HB.out.size))
   have HVX:=Lib.hid (stays ItemV.stable HV1.out (HS2.out.mono hsz) hz2)
   clear HS2 HV1 HB
   go_upto_region 5 with fail
   refine wp_region_list ?_
   go_step
   go_step
   refine wpList_load_mid rfl 33 (.tmp 5) rfl wr.heap.size 0 rfl C1.toList _ (range_all HS1.out) Tryz.underlying33 rfl HCS.out ?_
   go_wp2_with fail
   go_at_call 11
   refine (r3item_any l[k] _ p1 t1 _ HVX.out HOKk.out (Nat.le_trans hz2 HBX.out.size) (by omega)).mono ?_
   rintro e w3 ⟨rfl,hb3⟩
   have HB3:=Lib.hid (HBX.out.trans (hb3.mono HBX.out.size))
   clear hb3 HS1 HCS HCT HC2 HVX
   have r9:=r3add ((l.map itemF).take k).flatten (itemF l[k]) (by omega)
   rw [← HFL.out] at r9
   clear hle hle2
   generalize bs (itemF l[k])=y at *
   generalize bs ((l.map itemF).take k).flatten=yy at *
   go_wp2_with fail
   go_roundw
   case rel=>exact ⟨k+1,by omega,by go_num,rfl,HB3⟩
   case measure=>simp [intOf];omega
  ·obtain rfl:k=l.length:=by omega
   have hdc:decide (l.length < l.length)=false:=by simp
   rw [takeF_all]
   go_wp2_with fail
   go_ret
   exact ⟨rfl,HB.out⟩
end Lx
end Go.Proofs.YtajomoclbpobhaaGreatDoor
