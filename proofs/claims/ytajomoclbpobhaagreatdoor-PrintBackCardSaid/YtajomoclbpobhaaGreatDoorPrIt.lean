/- The contract of the call of package print's printer that puts a clause. Conditions: the printer's block is its own; at most 2^40 bytes; the terms' numbers are a machine's. -/
/- The contract of the call of package print's printer that puts an item, kind by kind. Conditions: the printer's block is its own; at most 2^40 bytes; the terms' numbers are a machine's. -/
/- The contract of the call of package print's printer that puts an item that is a clause. Conditions: the printer's block is its own; at most 2^40 bytes; the terms' numbers are a machine's. -/
/- The contract of package print's row at items: their forms, the mark between each two. Conditions: the printer's block is its own; at most 2^40 bytes; the terms' numbers are a machine's. -/
/- The contracts of package print's Item, Term and Source: the form. Conditions: the tables of words stand; at most 2^40 bytes; the terms' numbers are a machine's. -/
import Derived.Test.YtajomoclbpobhaaGreatDoorPrGo
import Derived.Test.YtajomoclbpobhaaGreatDoorPrRow
namespace Go.Proofs.YtajomoclbpobhaaGreatDoor
set_option linter.unusedSimpArgs false
set_option linter.unusedVariables false
namespace Lx
open Go Go.RowKit
set_option maxRecDepth 100000 in
set_option maxHeartbeats 2000000 in
theorem pclause_none (B b:Nat) (l:List UInt8) (xk:Int) (xn:List UInt8) (xv:List (List UInt8)) (xc:List CtorT) (xt:List TypeT) (xi:List Bool) (xd:Int) (xa:List TermT) (xb:GoalT) (v:Value) (lo hi:Nat) (w:World) (h:Pri B b l w) (hv:ItemV ⟨xk,xn,xv,xc,xt,xi,xd,xa,xb⟩ v lo hi w) (hok:itemOk ⟨xk,xn,xv,xc,xt,xi,xd,xa,xb⟩) (hkk :  kindG xb=1) (hh:hi≤B) (hl:l.length+(xn++(argsF (xa.map termF)++bodyF xb)).length≤1099511627776) :
  Calls Tryz.prog 71 #[.pointer (some ⟨b,0,none⟩),v] w fun e w'=>PutR B b l (xn++(argsF (xa.map termF)++bodyF xb)) w e w':=by
 have hb:bodyF xb=[]:=by unfold bodyF;rw [if_pos hkk]
 rw [hb] at hl ⊢
 clear hb
 simp only [List.length_append,List.length_cons,List.length_nil] at hl
 have hmf:∀ (fn:Fn) (first cap:Array Value) (w:World),(Instr.makeFunc fn first cap).run Tryz.prog w=.ok (.func fn first cap) w:=fun _ _ _ _=>rfl
 obtain ⟨pv0,pc0,pt0,pi0,pa0,pb0,pb1,pb2,pb3,pb4,pb5,pb6,pb7,pb8,pb9,pb10,pb11,rfl,pV,pC,pT,pI,pA,pG⟩:=hv
 obtain ⟨v1,v2,v3,rfl⟩:=pV.slice
 obtain ⟨c1,c2,c3,rfl⟩:=pC.slice
 obtain ⟨t1,t2,t3,rfl⟩:=pT.slice
 obtain ⟨i1,i2,i3,rfl⟩:=pI.slice
 obtain ⟨a1,a2,a3,rfl⟩:=pA.slice
 obtain ⟨y2,y3,y4,y5,y6,y7,y8,y9,y10,y11,y12,y13,y14,y15,y16,y17,y18,y19,y20,pe⟩:=GoalV.shape _ _ _ _ _ _ pG
 simp only [Value.agg.injEq,Array.mk.injEq,List.cons.injEq,and_true] at pe
 obtain ⟨rfl,rfl,rfl,rfl,rfl,rfl,rfl,rfl,rfl,rfl,rfl,rfl⟩:=pe
 have HV:=Lib.hid pV
 have HC:=Lib.hid pC
 have HT:=Lib.hid pT
 have HI:=Lib.hid pI
 have HA:=Lib.hid pA
 have HG:=Lib.hid pG
 clear pV pC pT pI pA pG
 dsimp only at *
 have HP:=Lib.hid h
 have hl0:=h.lt
 clear h
 have hok1:=hok.1
 have hok2:=hok.2
 dsimp only at hok1 hok2
 clear hok
 have hw0:(w.alloc (.cells #[.int .i64 xk,.string (bs xn),.slice v1 v2 v3,.slice c1 c2 c3,.slice t1 t2 t3,.slice i1 i2 i3,.int .i64 xd,.slice a1 a2 a3,.int .i64 (kindG xb),.int .i64 y2,.string y3,.int .i64 y4,.slice y5 y6 y7,.int .i64 y8,.string y9,.int .i64 y10,.slice y11 y12 y13,.string y14,.slice y15 y16 y17,.slice y18 y19 y20] 33)).heap.size=w.heap.size+1:=by simp
 have hq:(kindG xb == 1)=true:=by simp [hkk]
 clear hkk
 go_enter Tryz.func71,Tryz.ntmps71
 go_wp2_with fail
 go_at_call 62
 refine (put_one B b _ xn _ rfl _ _ (by simp) (HP.out.alloc _) (by (try simp only [List.length_append,List.length_cons,List.length_nil]);omega)).mono ?_
 rintro e w1 ⟨rfl,hp,hk⟩
 have HP1:=Lib.hid hp
 have HK1:=Lib.hid (((Kept.refl B b w).alloc (by omega) _).trans hk)
 have HB1:=Lib.hid (hk.cells (heap_alloc_new w _) (by decide) (by omega))
 clear hp hk
 have c7:w1.cell? ⟨w.heap.size,7,none⟩=some (.slice a1 a2 a3):=(Lib.cell_of_heap HB1.out 7).trans rfl
 go_wp2_with fail
 clear c7
 go_at_call 72
 refine (ptermA_any 66 B b _ xa _ lo hi _ HP1.out (stays (ArgsV.stable _ _ (TermV.stable 66)) HA.out HK1.out.below hh) hok1 hh (by (try simp only [List.length_append,List.length_cons,List.length_nil]);omega)).mono ?_
 rintro e w2 ⟨rfl,hp,hk⟩
 have HP2:=Lib.hid hp
 have HK2:=Lib.hid (HK1.out.trans hk)
 have HB2:=Lib.hid (hk.cells HB1.out (by decide) (by omega))
 clear hp hk
 have c8:w2.cell? ⟨w.heap.size,8,none⟩=some (.int .i64 (kindG xb)):=(Lib.cell_of_heap HB2.out 8).trans rfl
 go_wp2_with fail
 clear c8
 go_end0
 exact ⟨rfl,by have e:=HP2.out;(try simp only [List.append_assoc,List.cons_append,List.nil_append,List.append_nil] at e ⊢);exact e,HK2.out⟩
set_option maxRecDepth 100000 in
set_option maxHeartbeats 2000000 in
theorem pclause_some (B b:Nat) (l:List UInt8) (xk:Int) (xn:List UInt8) (xv:List (List UInt8)) (xc:List CtorT) (xt:List TypeT) (xi:List Bool) (xd:Int) (xa:List TermT) (xb:GoalT) (v:Value) (lo hi:Nat) (w:World) (h:Pri B b l w) (hv:ItemV ⟨xk,xn,xv,xc,xt,xi,xd,xa,xb⟩ v lo hi w) (hok:itemOk ⟨xk,xn,xv,xc,xt,xi,xd,xa,xb⟩) (hkk:¬ kindG xb=1) (hh:hi≤B) (hl:l.length+(xn++(argsF (xa.map termF)++bodyF xb)).length≤1099511627776) :
  Calls Tryz.prog 71 #[.pointer (some ⟨b,0,none⟩),v] w fun e w'=>PutR B b l (xn++(argsF (xa.map termF)++bodyF xb)) w e w':=by
 have hb:bodyF xb=[32,58,45,32]++goalF xb:=by unfold bodyF;rw [if_neg hkk]
 rw [hb] at hl ⊢
 clear hb
 simp only [List.length_append,List.length_cons,List.length_nil] at hl
 have hmf:∀ (fn:Fn) (first cap:Array Value) (w:World),(Instr.makeFunc fn first cap).run Tryz.prog w=.ok (.func fn first cap) w:=fun _ _ _ _=>rfl
 obtain ⟨pv0,pc0,pt0,pi0,pa0,pb0,pb1,pb2,pb3,pb4,pb5,pb6,pb7,pb8,pb9,pb10,pb11,rfl,pV,pC,pT,pI,pA,pG⟩:=hv
 obtain ⟨v1,v2,v3,rfl⟩:=pV.slice
 obtain ⟨c1,c2,c3,rfl⟩:=pC.slice
 obtain ⟨t1,t2,t3,rfl⟩:=pT.slice
 obtain ⟨i1,i2,i3,rfl⟩:=pI.slice
 obtain ⟨a1,a2,a3,rfl⟩:=pA.slice
 obtain ⟨y2,y3,y4,y5,y6,y7,y8,y9,y10,y11,y12,y13,y14,y15,y16,y17,y18,y19,y20,pe⟩:=GoalV.shape _ _ _ _ _ _ pG
 simp only [Value.agg.injEq,Array.mk.injEq,List.cons.injEq,and_true] at pe
 obtain ⟨rfl,rfl,rfl,rfl,rfl,rfl,rfl,rfl,rfl,rfl,rfl,rfl⟩:=pe
 have HV:=Lib.hid pV
 have HC:=Lib.hid pC
 have HT:=Lib.hid pT
 have HI:=Lib.hid pI
 have HA:=Lib.hid pA
 have HG:=Lib.hid pG
 clear pV pC pT pI pA pG
 dsimp only at *
 have HP:=Lib.hid h
 have hl0:=h.lt
 clear h
 have hok1:=hok.1
 have hok2:=hok.2
 dsimp only at hok1 hok2
 clear hok
 have hw0:(w.alloc (.cells #[.int .i64 xk,.string (bs xn),.slice v1 v2 v3,.slice c1 c2 c3,.slice t1 t2 t3,.slice i1 i2 i3,.int .i64 xd,.slice a1 a2 a3,.int .i64 (kindG xb),.int .i64 y2,.string y3,.int .i64 y4,.slice y5 y6 y7,.int .i64 y8,.string y9,.int .i64 y10,.slice y11 y12 y13,.string y14,.slice y15 y16 y17,.slice y18 y19 y20] 33)).heap.size=w.heap.size+1:=by simp
 have hq:(kindG xb == 1)=false:=by simp [hkk]
 clear hkk
 go_enter Tryz.func71,Tryz.ntmps71
 go_wp2_with fail
 go_at_call 62
 refine (put_one B b _ xn _ rfl _ _ (by simp) (HP.out.alloc _) (by (try simp only [List.length_append,List.length_cons,List.length_nil]);omega)).mono ?_
 rintro e w1 ⟨rfl,hp,hk⟩
 have HP1:=Lib.hid hp
 have HK1:=Lib.hid (((Kept.refl B b w).alloc (by omega) _).trans hk)
 have HB1:=Lib.hid (hk.cells (heap_alloc_new w _) (by decide) (by omega))
 clear hp hk
 have c7:w1.cell? ⟨w.heap.size,7,none⟩=some (.slice a1 a2 a3):=(Lib.cell_of_heap HB1.out 7).trans rfl
 go_wp2_with fail
 clear c7
 go_at_call 72
 refine (ptermA_any 66 B b _ xa _ lo hi _ HP1.out (stays (ArgsV.stable _ _ (TermV.stable 66)) HA.out HK1.out.below hh) hok1 hh (by (try simp only [List.length_append,List.length_cons,List.length_nil]);omega)).mono ?_
 rintro e w2 ⟨rfl,hp,hk⟩
 have HP2:=Lib.hid hp
 have HK2:=Lib.hid (HK1.out.trans hk)
 have HB2:=Lib.hid (hk.cells HB1.out (by decide) (by omega))
 clear hp hk
 have c8:w2.cell? ⟨w.heap.size,8,none⟩=some (.int .i64 (kindG xb)):=(Lib.cell_of_heap HB2.out 8).trans rfl
 go_wp2_with fail
 clear c8
 go_at_call 62
 refine (put_one B b _ [32,58,45,32] _ rfl _ _ (by simp) HP2.out (by (try simp only [List.length_append,List.length_cons,List.length_nil]);omega)).mono ?_
 rintro e w3 ⟨rfl,hp,hk⟩
 have HP3:=Lib.hid hp
 have HK3:=Lib.hid (HK2.out.trans hk)
 have HB3:=Lib.hid (hk.cells HB2.out (by decide) (by omega))
 clear hp hk
 have c8:w3.cell? ⟨w.heap.size,8,none⟩=some (.int .i64 (kindG xb)):=(Lib.cell_of_heap HB3.out 8).trans rfl
 have c9:w3.cell? ⟨w.heap.size,9,none⟩=some (.int .i64 y2):=(Lib.cell_of_heap HB3.out 9).trans rfl
 have c10:w3.cell? ⟨w.heap.size,10,none⟩=some (.string y3):=(Lib.cell_of_heap HB3.out 10).trans rfl
 have c11:w3.cell? ⟨w.heap.size,11,none⟩=some (.int .i64 y4):=(Lib.cell_of_heap HB3.out 11).trans rfl
 have c12:w3.cell? ⟨w.heap.size,12,none⟩=some (.slice y5 y6 y7):=(Lib.cell_of_heap HB3.out 12).trans rfl
 have c13:w3.cell? ⟨w.heap.size,13,none⟩=some (.int .i64 y8):=(Lib.cell_of_heap HB3.out 13).trans rfl
 have c14:w3.cell? ⟨w.heap.size,14,none⟩=some (.string y9):=(Lib.cell_of_heap HB3.out 14).trans rfl
 have c15:w3.cell? ⟨w.heap.size,15,none⟩=some (.int .i64 y10):=(Lib.cell_of_heap HB3.out 15).trans rfl
 have c16:w3.cell? ⟨w.heap.size,16,none⟩=some (.slice y11 y12 y13):=(Lib.cell_of_heap HB3.out 16).trans rfl
 have c17:w3.cell? ⟨w.heap.size,17,none⟩=some (.string y14):=(Lib.cell_of_heap HB3.out 17).trans rfl
 have c18:w3.cell? ⟨w.heap.size,18,none⟩=some (.slice y15 y16 y17):=(Lib.cell_of_heap HB3.out 18).trans rfl
 have c19:w3.cell? ⟨w.heap.size,19,none⟩=some (.slice y18 y19 y20):=(Lib.cell_of_heap HB3.out 19).trans rfl
 go_wp2_with fail
 clear c8 c9 c10 c11 c12 c13 c14 c15 c16 c17 c18 c19
 go_at_call 38
 refine (pgoal_any 134 B b _ xb _ lo hi _ HP3.out (stays (GoalV.stable 134) HG.out HK3.out.below hh) hok2 hh (by (try simp only [List.length_append,List.length_cons,List.length_nil]);omega)).mono ?_
 rintro e w4 ⟨rfl,hp,hk⟩
 have HP4:=Lib.hid hp
 have HK4:=Lib.hid (HK3.out.trans hk)
 have HB4:=Lib.hid (hk.cells HB3.out (by decide) (by omega))
 clear hp hk
 go_wp2_with fail
 go_end0
 exact ⟨rfl,by have e:=HP4.out;(try simp only [List.append_assoc,List.cons_append,List.nil_append,List.append_nil] at e ⊢);exact e,HK4.out⟩
theorem pclause_any (B b:Nat) (l:List UInt8) (x:ItemT) (v:Value) (lo hi:Nat) (w:World) (h:Pri B b l w) (hv:ItemV x v lo hi w) (hok:itemOk x) (hh:hi≤B) (hl:l.length+(x.name++(argsF (x.args.map termF)++bodyF x.body)).length≤1099511627776) :
  Calls Tryz.prog 71 #[.pointer (some ⟨b,0,none⟩),v] w fun e w'=>PutR B b l (x.name++(argsF (x.args.map termF)++bodyF x.body)) w e w':=by
 obtain ⟨xk,xn,xv,xc,xt,xi,xd,xa,xb⟩:=x
 by_cases hq:kindG xb=1
 ·exact pclause_none B b l xk xn xv xc xt xi xd xa xb v lo hi w h hv hok hq hh hl
 ·exact pclause_some B b l xk xn xv xc xt xi xd xa xb v lo hi w h hv hok hq hh hl
end Lx
end Go.Proofs.YtajomoclbpobhaaGreatDoor
namespace Go.Proofs.YtajomoclbpobhaaGreatDoor
set_option linter.unusedSimpArgs false
set_option linter.unusedVariables false
namespace Lx
open Go Go.RowKit
theorem ctorThis:ThisCt CtorV:=by
 rintro ⟨n,xs⟩ v lo hi w ⟨va,rfl,ha⟩
 obtain ⟨A,m,c,rfl⟩:=ha.slice
 exact ⟨_,_,_,_,rfl⟩
theorem pargsW_any (B b:Nat) (l:List UInt8) (xs:List (List UInt8)) (v:Value) (lo hi:Nat) (w:World) (h:Pri B b l w) (hv:ArgsV 9 1 strH xs v lo hi w) (hh:hi≤B) (hl:l.length+(argsF xs).length≤1099511627776) :
  Calls Tryz.prog 63 #[.pointer (some ⟨b,0,none⟩),v,.func (.func 64) #[.pointer (some ⟨b,0,none⟩)] #[]] w fun e w'=>PutR B b l (argsF xs) w e w':=by
 have h1:=pargsSt _ strH.stable strH.this _ _ (Lib.hid pword_any) B b l xs v lo hi w h hv (fun _ _=>trivial) hh (by rw [List.map_id'];exact hl)
 rwa [List.map_id'] at h1
set_option maxRecDepth 100000 in
set_option maxHeartbeats 2000000 in
theorem pitem_1 (B b:Nat) (l:List UInt8) (xn:List UInt8) (xv:List (List UInt8)) (xc:List CtorT) (xt:List TypeT) (xi:List Bool) (xd:Int) (xa:List TermT) (xb:GoalT) (v:Value) (lo hi:Nat) (w:World) (h:Pri B b l w) (hv:ItemV ⟨1,xn,xv,xc,xt,xi,xd,xa,xb⟩ v lo hi w) (hok:itemOk ⟨1,xn,xv,xc,xt,xi,xd,xa,xb⟩) (hh:hi≤B) (hl:l.length+(itemF ⟨1,xn,xv,xc,xt,xi,xd,xa,xb⟩).length≤1099511627776) :
  Calls Tryz.prog 32 #[.pointer (some ⟨b,0,none⟩),v] w fun e w'=>PutR B b l (itemF ⟨1,xn,xv,xc,xt,xi,xd,xa,xb⟩) w e w':=by
 have hfe:itemF ⟨1,xn,xv,xc,xt,xi,xd,xa,xb⟩=([116,121,112,101,32]++(xn++(argsF xv++([32,61,32]++joinF [32,124,32] (xc.map ctorF)))))++[46,10]:=by
  simp only [itemF,if_true,if_false,termsF_map,typesF_map]
 rw [hfe] at hl ⊢
 clear hfe
 simp only [List.length_append,List.length_cons,List.length_nil] at hl
 have hmf:∀ (fn:Fn) (first cap:Array Value) (w:World),(Instr.makeFunc fn first cap).run Tryz.prog w=.ok (.func fn first cap) w:=fun _ _ _ _=>rfl
 obtain ⟨pv0,pc0,pt0,pi0,pa0,pb0,pb1,pb2,pb3,pb4,pb5,pb6,pb7,pb8,pb9,pb10,pb11,rfl,pV,pC,pT,pI,pA,pG⟩:=hv
 obtain ⟨v1,v2,v3,rfl⟩:=pV.slice
 obtain ⟨c1,c2,c3,rfl⟩:=pC.slice
 obtain ⟨t1,t2,t3,rfl⟩:=pT.slice
 obtain ⟨i1,i2,i3,rfl⟩:=pI.slice
 obtain ⟨a1,a2,a3,rfl⟩:=pA.slice
 obtain ⟨y2,y3,y4,y5,y6,y7,y8,y9,y10,y11,y12,y13,y14,y15,y16,y17,y18,y19,y20,pe⟩:=GoalV.shape _ _ _ _ _ _ pG
 simp only [Value.agg.injEq,Array.mk.injEq,List.cons.injEq,and_true] at pe
 obtain ⟨rfl,rfl,rfl,rfl,rfl,rfl,rfl,rfl,rfl,rfl,rfl,rfl⟩:=pe
 have HV:=Lib.hid pV
 have HC:=Lib.hid pC
 have HT:=Lib.hid pT
 have HI:=Lib.hid pI
 have HA:=Lib.hid pA
 have HG:=Lib.hid pG
 clear pV pC pT pI pA pG
 dsimp only at *
 have HP:=Lib.hid h
 have hl0:=h.lt
 clear h
 have hw0:(w.alloc (.cells #[.int .i64 1,.string (bs xn),.slice v1 v2 v3,.slice c1 c2 c3,.slice t1 t2 t3,.slice i1 i2 i3,.int .i64 xd,.slice a1 a2 a3,.int .i64 (kindG xb),.int .i64 y2,.string y3,.int .i64 y4,.slice y5 y6 y7,.int .i64 y8,.string y9,.int .i64 y10,.slice y11 y12 y13,.string y14,.slice y15 y16 y17,.slice y18 y19 y20] 33)).heap.size=w.heap.size+1:=by simp
 go_enter Tryz.func32,Tryz.ntmps32
 go_wp2_with fail
 go_at_call 62
 refine (put_two B b _ [116,121,112,101,32] xn _ _ rfl rfl _ _ (by simp) (HP.out.alloc _) (by (try simp only [List.length_append,List.length_cons,List.length_nil]);omega)).mono ?_
 rintro e w1 ⟨rfl,hp,hk⟩
 have HP1:=Lib.hid hp
 have HK1:=Lib.hid (((Kept.refl B b w).alloc (by omega) _).trans hk)
 have HB1:=Lib.hid (hk.cells (heap_alloc_new w _) (by decide) (by omega))
 clear hp hk
 have c2:w1.cell? ⟨w.heap.size,2,none⟩=some (.slice v1 v2 v3):=(Lib.cell_of_heap HB1.out 2).trans rfl
 go_wp2_with fail
 clear c2
 go_at_call 63
 refine (pargsW_any B b _ xv _ lo hi _ HP1.out (stays (ArgsV.stable _ _ strH.stable) HV.out HK1.out.below hh) hh (by (try simp only [List.length_append,List.length_cons,List.length_nil]);omega)).mono ?_
 rintro e w2 ⟨rfl,hp,hk⟩
 have HP2:=Lib.hid hp
 have HK2:=Lib.hid (HK1.out.trans hk)
 have HB2:=Lib.hid (hk.cells HB1.out (by decide) (by omega))
 clear hp hk
 go_wp2_with fail
 go_at_call 62
 refine (put_one B b _ [32,61,32] _ rfl _ _ (by simp) HP2.out (by (try simp only [List.length_append,List.length_cons,List.length_nil]);omega)).mono ?_
 rintro e w3 ⟨rfl,hp,hk⟩
 have HP3:=Lib.hid hp
 have HK3:=Lib.hid (HK2.out.trans hk)
 have HB3:=Lib.hid (hk.cells HB2.out (by decide) (by omega))
 clear hp hk
 have c3:w3.cell? ⟨w.heap.size,3,none⟩=some (.slice c1 c2 c3):=(Lib.cell_of_heap HB3.out 3).trans rfl
 go_wp2_with fail
 clear c3
 go_at_call 65
 refine (prowCt _ CtorV.stable ctorThis _ _ (Lib.hid pctor_any) B b _ xc _ lo hi _ [32,124,32] _ rfl HP3.out (stays (ArgsV.stable _ _ CtorV.stable) HC.out HK3.out.below hh) (fun _ _=>trivial) hh (by (try simp only [List.length_append,List.length_cons,List.length_nil]);omega)).mono ?_
 rintro e w4 ⟨rfl,hp,hk⟩
 have HP4:=Lib.hid hp
 have HK4:=Lib.hid (HK3.out.trans hk)
 have HB4:=Lib.hid (hk.cells HB3.out (by decide) (by omega))
 clear hp hk
 go_wp2_with fail
 go_at_call 62
 refine (put_one B b _ [46,10] _ rfl _ _ (by simp) HP4.out (by (try simp only [List.length_append,List.length_cons,List.length_nil]);omega)).mono ?_
 rintro e w5 ⟨rfl,hp,hk⟩
 have HP5:=Lib.hid hp
 have HK5:=Lib.hid (HK4.out.trans hk)
 have HB5:=Lib.hid (hk.cells HB4.out (by decide) (by omega))
 clear hp hk
 go_wp2_with fail
 go_end0
 exact ⟨rfl,by have e:=HP5.out;(try simp only [List.map_id',List.append_assoc,List.cons_append,List.nil_append,List.append_nil] at e ⊢);exact e,HK5.out⟩
set_option maxRecDepth 100000 in
set_option maxHeartbeats 2000000 in
theorem pitem_2 (B b:Nat) (l:List UInt8) (xn:List UInt8) (xv:List (List UInt8)) (xc:List CtorT) (xt:List TypeT) (xi:List Bool) (xd:Int) (xa:List TermT) (xb:GoalT) (v:Value) (lo hi:Nat) (w:World) (h:Pri B b l w) (hv:ItemV ⟨2,xn,xv,xc,xt,xi,xd,xa,xb⟩ v lo hi w) (hok:itemOk ⟨2,xn,xv,xc,xt,xi,xd,xa,xb⟩) (hh:hi≤B) (hl:l.length+(itemF ⟨2,xn,xv,xc,xt,xi,xd,xa,xb⟩).length≤1099511627776) :
  Calls Tryz.prog 32 #[.pointer (some ⟨b,0,none⟩),v] w fun e w'=>PutR B b l (itemF ⟨2,xn,xv,xc,xt,xi,xd,xa,xb⟩) w e w':=by
 have hfe:itemF ⟨2,xn,xv,xc,xt,xi,xd,xa,xb⟩=([112,114,101,100,32]++(xn++argsF (xt.map typeF)))++[46,10]:=by
  simp only [itemF,show ¬ ((2:Int)=1) by decide,if_true,if_false,termsF_map,typesF_map]
 rw [hfe] at hl ⊢
 clear hfe
 simp only [List.length_append,List.length_cons,List.length_nil] at hl
 have hmf:∀ (fn:Fn) (first cap:Array Value) (w:World),(Instr.makeFunc fn first cap).run Tryz.prog w=.ok (.func fn first cap) w:=fun _ _ _ _=>rfl
 obtain ⟨pv0,pc0,pt0,pi0,pa0,pb0,pb1,pb2,pb3,pb4,pb5,pb6,pb7,pb8,pb9,pb10,pb11,rfl,pV,pC,pT,pI,pA,pG⟩:=hv
 obtain ⟨v1,v2,v3,rfl⟩:=pV.slice
 obtain ⟨c1,c2,c3,rfl⟩:=pC.slice
 obtain ⟨t1,t2,t3,rfl⟩:=pT.slice
 obtain ⟨i1,i2,i3,rfl⟩:=pI.slice
 obtain ⟨a1,a2,a3,rfl⟩:=pA.slice
 obtain ⟨y2,y3,y4,y5,y6,y7,y8,y9,y10,y11,y12,y13,y14,y15,y16,y17,y18,y19,y20,pe⟩:=GoalV.shape _ _ _ _ _ _ pG
 simp only [Value.agg.injEq,Array.mk.injEq,List.cons.injEq,and_true] at pe
 obtain ⟨rfl,rfl,rfl,rfl,rfl,rfl,rfl,rfl,rfl,rfl,rfl,rfl⟩:=pe
 have HV:=Lib.hid pV
 have HC:=Lib.hid pC
 have HT:=Lib.hid pT
 have HI:=Lib.hid pI
 have HA:=Lib.hid pA
 have HG:=Lib.hid pG
 clear pV pC pT pI pA pG
 dsimp only at *
 have HP:=Lib.hid h
 have hl0:=h.lt
 clear h
 have hw0:(w.alloc (.cells #[.int .i64 2,.string (bs xn),.slice v1 v2 v3,.slice c1 c2 c3,.slice t1 t2 t3,.slice i1 i2 i3,.int .i64 xd,.slice a1 a2 a3,.int .i64 (kindG xb),.int .i64 y2,.string y3,.int .i64 y4,.slice y5 y6 y7,.int .i64 y8,.string y9,.int .i64 y10,.slice y11 y12 y13,.string y14,.slice y15 y16 y17,.slice y18 y19 y20] 33)).heap.size=w.heap.size+1:=by simp
 go_enter Tryz.func32,Tryz.ntmps32
 go_wp2_with fail
 go_at_call 62
 refine (put_two B b _ [112,114,101,100,32] xn _ _ rfl rfl _ _ (by simp) (HP.out.alloc _) (by (try simp only [List.length_append,List.length_cons,List.length_nil]);omega)).mono ?_
 rintro e w1 ⟨rfl,hp,hk⟩
 have HP1:=Lib.hid hp
 have HK1:=Lib.hid (((Kept.refl B b w).alloc (by omega) _).trans hk)
 have HB1:=Lib.hid (hk.cells (heap_alloc_new w _) (by decide) (by omega))
 clear hp hk
 have c4:w1.cell? ⟨w.heap.size,4,none⟩=some (.slice t1 t2 t3):=(Lib.cell_of_heap HB1.out 4).trans rfl
 go_wp2_with fail
 clear c4
 go_at_call 67
 refine (ptypeA_any 66 B b _ xt _ lo hi _ HP1.out (stays (ArgsV.stable _ _ (TypeV.stable 66)) HT.out HK1.out.below hh) (fun _ _=>trivial) hh (by (try simp only [List.length_append,List.length_cons,List.length_nil]);omega)).mono ?_
 rintro e w2 ⟨rfl,hp,hk⟩
 have HP2:=Lib.hid hp
 have HK2:=Lib.hid (HK1.out.trans hk)
 have HB2:=Lib.hid (hk.cells HB1.out (by decide) (by omega))
 clear hp hk
 go_wp2_with fail
 go_at_call 62
 refine (put_one B b _ [46,10] _ rfl _ _ (by simp) HP2.out (by (try simp only [List.length_append,List.length_cons,List.length_nil]);omega)).mono ?_
 rintro e w3 ⟨rfl,hp,hk⟩
 have HP3:=Lib.hid hp
 have HK3:=Lib.hid (HK2.out.trans hk)
 have HB3:=Lib.hid (hk.cells HB2.out (by decide) (by omega))
 clear hp hk
 go_wp2_with fail
 go_end0
 exact ⟨rfl,by have e:=HP3.out;(try simp only [List.map_id',List.append_assoc,List.cons_append,List.nil_append,List.append_nil] at e ⊢);exact e,HK3.out⟩
set_option maxRecDepth 100000 in
set_option maxHeartbeats 2000000 in
theorem pitem_3 (B b:Nat) (l:List UInt8) (xn:List UInt8) (xv:List (List UInt8)) (xc:List CtorT) (xt:List TypeT) (xi:List Bool) (xd:Int) (xa:List TermT) (xb:GoalT) (v:Value) (lo hi:Nat) (w:World) (h:Pri B b l w) (hv:ItemV ⟨3,xn,xv,xc,xt,xi,xd,xa,xb⟩ v lo hi w) (hok:itemOk ⟨3,xn,xv,xc,xt,xi,xd,xa,xb⟩) (hh:hi≤B) (hl:l.length+(itemF ⟨3,xn,xv,xc,xt,xi,xd,xa,xb⟩).length≤1099511627776) :
  Calls Tryz.prog 32 #[.pointer (some ⟨b,0,none⟩),v] w fun e w'=>PutR B b l (itemF ⟨3,xn,xv,xc,xt,xi,xd,xa,xb⟩) w e w':=by
 have hfe:itemF ⟨3,xn,xv,xc,xt,xi,xd,xa,xb⟩=([109,111,100,101,32]++(xn++(argsF (xi.map wayF)++([32,105,115,32]++detF xd))))++[46,10]:=by
  simp only [itemF,show ¬ ((3:Int)=1) by decide,show ¬ ((3:Int)=2) by decide,if_true,if_false,termsF_map,typesF_map]
 rw [hfe] at hl ⊢
 clear hfe
 simp only [List.length_append,List.length_cons,List.length_nil] at hl
 have hmf:∀ (fn:Fn) (first cap:Array Value) (w:World),(Instr.makeFunc fn first cap).run Tryz.prog w=.ok (.func fn first cap) w:=fun _ _ _ _=>rfl
 obtain ⟨pv0,pc0,pt0,pi0,pa0,pb0,pb1,pb2,pb3,pb4,pb5,pb6,pb7,pb8,pb9,pb10,pb11,rfl,pV,pC,pT,pI,pA,pG⟩:=hv
 obtain ⟨v1,v2,v3,rfl⟩:=pV.slice
 obtain ⟨c1,c2,c3,rfl⟩:=pC.slice
 obtain ⟨t1,t2,t3,rfl⟩:=pT.slice
 obtain ⟨i1,i2,i3,rfl⟩:=pI.slice
 obtain ⟨a1,a2,a3,rfl⟩:=pA.slice
 obtain ⟨y2,y3,y4,y5,y6,y7,y8,y9,y10,y11,y12,y13,y14,y15,y16,y17,y18,y19,y20,pe⟩:=GoalV.shape _ _ _ _ _ _ pG
 simp only [Value.agg.injEq,Array.mk.injEq,List.cons.injEq,and_true] at pe
 obtain ⟨rfl,rfl,rfl,rfl,rfl,rfl,rfl,rfl,rfl,rfl,rfl,rfl⟩:=pe
 have HV:=Lib.hid pV
 have HC:=Lib.hid pC
 have HT:=Lib.hid pT
 have HI:=Lib.hid pI
 have HA:=Lib.hid pA
 have HG:=Lib.hid pG
 clear pV pC pT pI pA pG
 dsimp only at *
 have HP:=Lib.hid h
 have hl0:=h.lt
 clear h
 have hw0:(w.alloc (.cells #[.int .i64 3,.string (bs xn),.slice v1 v2 v3,.slice c1 c2 c3,.slice t1 t2 t3,.slice i1 i2 i3,.int .i64 xd,.slice a1 a2 a3,.int .i64 (kindG xb),.int .i64 y2,.string y3,.int .i64 y4,.slice y5 y6 y7,.int .i64 y8,.string y9,.int .i64 y10,.slice y11 y12 y13,.string y14,.slice y15 y16 y17,.slice y18 y19 y20] 33)).heap.size=w.heap.size+1:=by simp
 go_enter Tryz.func32,Tryz.ntmps32
 go_wp2_with fail
 go_at_call 62
 refine (put_two B b _ [109,111,100,101,32] xn _ _ rfl rfl _ _ (by simp) (HP.out.alloc _) (by (try simp only [List.length_append,List.length_cons,List.length_nil]);omega)).mono ?_
 rintro e w1 ⟨rfl,hp,hk⟩
 have HP1:=Lib.hid hp
 have HK1:=Lib.hid (((Kept.refl B b w).alloc (by omega) _).trans hk)
 have HB1:=Lib.hid (hk.cells (heap_alloc_new w _) (by decide) (by omega))
 clear hp hk
 have c5:w1.cell? ⟨w.heap.size,5,none⟩=some (.slice i1 i2 i3):=(Lib.cell_of_heap HB1.out 5).trans rfl
 go_wp2_with fail
 clear c5
 go_at_call 68
 refine (pargsBo _ boolV.stable boolV.this _ _ (Lib.hid pway_any) B b _ xi _ lo hi _ HP1.out (stays (ArgsV.stable _ _ boolV.stable) HI.out HK1.out.below hh) (fun _ _=>trivial) hh (by (try simp only [List.length_append,List.length_cons,List.length_nil]);omega)).mono ?_
 rintro e w2 ⟨rfl,hp,hk⟩
 have HP2:=Lib.hid hp
 have HK2:=Lib.hid (HK1.out.trans hk)
 have HB2:=Lib.hid (hk.cells HB1.out (by decide) (by omega))
 clear hp hk
 go_wp2_with fail
 go_at_call 62
 refine (put_one B b _ [32,105,115,32] _ rfl _ _ (by simp) HP2.out (by (try simp only [List.length_append,List.length_cons,List.length_nil]);omega)).mono ?_
 rintro e w3 ⟨rfl,hp,hk⟩
 have HP3:=Lib.hid hp
 have HK3:=Lib.hid (HK2.out.trans hk)
 have HB3:=Lib.hid (hk.cells HB2.out (by decide) (by omega))
 clear hp hk
 have c6:w3.cell? ⟨w.heap.size,6,none⟩=some (.int .i64 xd):=(Lib.cell_of_heap HB3.out 6).trans rfl
 go_wp2_with fail
 clear c6
 go_at_call 70
 refine (pdet_any xd B b _ _ HP3.out (by (try simp only [List.length_append,List.length_cons,List.length_nil]);omega)).mono ?_
 rintro e w4 ⟨rfl,hp,hk⟩
 have HP4:=Lib.hid hp
 have HK4:=Lib.hid (HK3.out.trans hk)
 have HB4:=Lib.hid (hk.cells HB3.out (by decide) (by omega))
 clear hp hk
 go_wp2_with fail
 go_at_call 62
 refine (put_one B b _ [46,10] _ rfl _ _ (by simp) HP4.out (by (try simp only [List.length_append,List.length_cons,List.length_nil]);omega)).mono ?_
 rintro e w5 ⟨rfl,hp,hk⟩
 have HP5:=Lib.hid hp
 have HK5:=Lib.hid (HK4.out.trans hk)
 have HB5:=Lib.hid (hk.cells HB4.out (by decide) (by omega))
 clear hp hk
 go_wp2_with fail
 go_end0
 exact ⟨rfl,by have e:=HP5.out;(try simp only [List.map_id',List.append_assoc,List.cons_append,List.nil_append,List.append_nil] at e ⊢);exact e,HK5.out⟩
set_option maxRecDepth 100000 in
set_option maxHeartbeats 2000000 in
theorem pitem_0 (B b:Nat) (l:List UInt8) (xk:Int) (xn:List UInt8) (xv:List (List UInt8)) (xc:List CtorT) (xt:List TypeT) (xi:List Bool) (xd:Int) (xa:List TermT) (xb:GoalT) (hkk:¬ xk=1∧¬ xk=2∧¬ xk=3∧¬ xk=4) (v:Value) (lo hi:Nat) (w:World) (h:Pri B b l w) (hv:ItemV ⟨xk,xn,xv,xc,xt,xi,xd,xa,xb⟩ v lo hi w) (hok:itemOk ⟨xk,xn,xv,xc,xt,xi,xd,xa,xb⟩) (hh:hi≤B) (hl:l.length+(itemF ⟨xk,xn,xv,xc,xt,xi,xd,xa,xb⟩).length≤1099511627776) :
  Calls Tryz.prog 32 #[.pointer (some ⟨b,0,none⟩),v] w fun e w'=>PutR B b l (itemF ⟨xk,xn,xv,xc,xt,xi,xd,xa,xb⟩) w e w':=by
 obtain ⟨n1,n2,n3,n4⟩:=hkk
 have hfe:itemF ⟨xk,xn,xv,xc,xt,xi,xd,xa,xb⟩=([])++[46,10]:=by
  simp only [itemF,n1,n2,n3,n4,if_true,if_false,termsF_map,typesF_map]
 rw [hfe] at hl ⊢
 clear hfe
 simp only [List.length_append,List.length_cons,List.length_nil] at hl
 have hmf:∀ (fn:Fn) (first cap:Array Value) (w:World),(Instr.makeFunc fn first cap).run Tryz.prog w=.ok (.func fn first cap) w:=fun _ _ _ _=>rfl
 obtain ⟨pv0,pc0,pt0,pi0,pa0,pb0,pb1,pb2,pb3,pb4,pb5,pb6,pb7,pb8,pb9,pb10,pb11,rfl,pV,pC,pT,pI,pA,pG⟩:=hv
 obtain ⟨v1,v2,v3,rfl⟩:=pV.slice
 obtain ⟨c1,c2,c3,rfl⟩:=pC.slice
 obtain ⟨t1,t2,t3,rfl⟩:=pT.slice
 obtain ⟨i1,i2,i3,rfl⟩:=pI.slice
 obtain ⟨a1,a2,a3,rfl⟩:=pA.slice
 obtain ⟨y2,y3,y4,y5,y6,y7,y8,y9,y10,y11,y12,y13,y14,y15,y16,y17,y18,y19,y20,pe⟩:=GoalV.shape _ _ _ _ _ _ pG
 simp only [Value.agg.injEq,Array.mk.injEq,List.cons.injEq,and_true] at pe
 obtain ⟨rfl,rfl,rfl,rfl,rfl,rfl,rfl,rfl,rfl,rfl,rfl,rfl⟩:=pe
 have HV:=Lib.hid pV
 have HC:=Lib.hid pC
 have HT:=Lib.hid pT
 have HI:=Lib.hid pI
 have HA:=Lib.hid pA
 have HG:=Lib.hid pG
 clear pV pC pT pI pA pG
 dsimp only at *
 have HP:=Lib.hid h
 have hl0:=h.lt
 clear h
 have hw0:(w.alloc (.cells #[.int .i64 xk,.string (bs xn),.slice v1 v2 v3,.slice c1 c2 c3,.slice t1 t2 t3,.slice i1 i2 i3,.int .i64 xd,.slice a1 a2 a3,.int .i64 (kindG xb),.int .i64 y2,.string y3,.int .i64 y4,.slice y5 y6 y7,.int .i64 y8,.string y9,.int .i64 y10,.slice y11 y12 y13,.string y14,.slice y15 y16 y17,.slice y18 y19 y20] 33)).heap.size=w.heap.size+1:=by simp
 have q1:(xk == 1)=false:=by simp [n1]
 have q2:(xk == 2)=false:=by simp [n2]
 have q3:(xk == 3)=false:=by simp [n3]
 have q4:(xk == 4)=false:=by simp [n4]
 clear n1 n2 n3 n4
 go_enter Tryz.func32,Tryz.ntmps32
 go_wp2_with fail
 go_at_call 62
 refine (put_one B b _ [46,10] _ rfl _ _ (by simp) (HP.out.alloc _) (by (try simp only [List.length_append,List.length_cons,List.length_nil]);omega)).mono ?_
 rintro e w1 ⟨rfl,hp,hk⟩
 have HP1:=Lib.hid hp
 have HK1:=Lib.hid (((Kept.refl B b w).alloc (by omega) _).trans hk)
 have HB1:=Lib.hid (hk.cells (heap_alloc_new w _) (by decide) (by omega))
 clear hp hk
 go_wp2_with fail
 go_end0
 exact ⟨rfl,by have e:=HP1.out;(try simp only [List.map_id',List.append_assoc,List.cons_append,List.nil_append,List.append_nil] at e ⊢);exact e,HK1.out⟩
end Lx
end Go.Proofs.YtajomoclbpobhaaGreatDoor
namespace Go.Proofs.YtajomoclbpobhaaGreatDoor
set_option linter.unusedSimpArgs false
set_option linter.unusedVariables false
namespace Lx
open Go Go.RowKit
set_option maxRecDepth 100000 in
set_option maxHeartbeats 2000000 in
theorem pitem_4 (B b:Nat) (l:List UInt8) (xn:List UInt8) (xv:List (List UInt8)) (xc:List CtorT) (xt:List TypeT) (xi:List Bool) (xd:Int) (xa:List TermT) (xb:GoalT) (v:Value) (lo hi:Nat) (w:World) (h:Pri B b l w) (hv:ItemV ⟨4,xn,xv,xc,xt,xi,xd,xa,xb⟩ v lo hi w) (hok:itemOk ⟨4,xn,xv,xc,xt,xi,xd,xa,xb⟩) (hh:hi≤B) (hl:l.length+(itemF ⟨4,xn,xv,xc,xt,xi,xd,xa,xb⟩).length≤1099511627776) :
  Calls Tryz.prog 32 #[.pointer (some ⟨b,0,none⟩),v] w fun e w'=>PutR B b l (itemF ⟨4,xn,xv,xc,xt,xi,xd,xa,xb⟩) w e w':=by
 have hfe:itemF ⟨4,xn,xv,xc,xt,xi,xd,xa,xb⟩=(xn++(argsF (xa.map termF)++bodyF xb))++[46,10]:=by
  simp only [itemF,show ¬ ((4:Int)=1) by decide,show ¬ ((4:Int)=2) by decide,show ¬ ((4:Int)=3) by decide,if_true,if_false,termsF_map,typesF_map]
 rw [hfe] at hl ⊢
 clear hfe
 simp only [List.length_append,List.length_cons,List.length_nil] at hl
 have hv0:=Lib.hid hv
 have hok0:=Lib.hid hok
 have hmf:∀ (fn:Fn) (first cap:Array Value) (w:World),(Instr.makeFunc fn first cap).run Tryz.prog w=.ok (.func fn first cap) w:=fun _ _ _ _=>rfl
 obtain ⟨pv0,pc0,pt0,pi0,pa0,pb0,pb1,pb2,pb3,pb4,pb5,pb6,pb7,pb8,pb9,pb10,pb11,rfl,pV,pC,pT,pI,pA,pG⟩:=hv
 obtain ⟨v1,v2,v3,rfl⟩:=pV.slice
 obtain ⟨c1,c2,c3,rfl⟩:=pC.slice
 obtain ⟨t1,t2,t3,rfl⟩:=pT.slice
 obtain ⟨i1,i2,i3,rfl⟩:=pI.slice
 obtain ⟨a1,a2,a3,rfl⟩:=pA.slice
 obtain ⟨y2,y3,y4,y5,y6,y7,y8,y9,y10,y11,y12,y13,y14,y15,y16,y17,y18,y19,y20,pe⟩:=GoalV.shape _ _ _ _ _ _ pG
 simp only [Value.agg.injEq,Array.mk.injEq,List.cons.injEq,and_true] at pe
 obtain ⟨rfl,rfl,rfl,rfl,rfl,rfl,rfl,rfl,rfl,rfl,rfl,rfl⟩:=pe
 have HV:=Lib.hid pV
 have HC:=Lib.hid pC
 have HT:=Lib.hid pT
 have HI:=Lib.hid pI
 have HA:=Lib.hid pA
 have HG:=Lib.hid pG
 clear pV pC pT pI pA pG
 dsimp only at *
 have HP:=Lib.hid h
 have hl0:=h.lt
 clear h
 have hw0:(w.alloc (.cells #[.int .i64 4,.string (bs xn),.slice v1 v2 v3,.slice c1 c2 c3,.slice t1 t2 t3,.slice i1 i2 i3,.int .i64 xd,.slice a1 a2 a3,.int .i64 (kindG xb),.int .i64 y2,.string y3,.int .i64 y4,.slice y5 y6 y7,.int .i64 y8,.string y9,.int .i64 y10,.slice y11 y12 y13,.string y14,.slice y15 y16 y17,.slice y18 y19 y20] 33)).heap.size=w.heap.size+1:=by simp
 go_enter Tryz.func32,Tryz.ntmps32
 go_upto_region 16 with fail
 refine wp_region_list ?_
 have hgi:=heap_alloc_new w (.cells #[.int .i64 4,.string (bs xn),.slice v1 v2 v3,.slice c1 c2 c3,.slice t1 t2 t3,.slice i1 i2 i3,.int .i64 xd,.slice a1 a2 a3,.int .i64 (kindG xb),.int .i64 y2,.string y3,.int .i64 y4,.slice y5 y6 y7,.int .i64 y8,.string y9,.int .i64 y10,.slice y11 y12 y13,.string y14,.slice y15 y16 y17,.slice y18 y19 y20] 33)
 go_step
 go_step
 refine wpList_load_mid rfl 33 (.tmp 3) rfl w.heap.size 0 rfl _ _ (range_all hgi) Tryz.underlying33 rfl infoItem ?_
 clear hgi
 go_wp2_with fail
 go_at_call 71
 refine (pclause_any B b _ _ _ lo hi _ (HP.out.alloc _) (stays ItemV.stable hv0.out ((Kept.refl B b w).alloc (by omega) _).below hh) hok0.out hh (by (try simp only [List.length_append,List.length_cons,List.length_nil]);omega)).mono ?_
 rintro e w1 ⟨rfl,hp,hk⟩
 have HP1:=Lib.hid hp
 have HK1:=Lib.hid (((Kept.refl B b w).alloc (by omega) _).trans hk)
 have HB1:=Lib.hid (hk.cells (heap_alloc_new w _) (by decide) (by omega))
 clear hp hk
 go_wp2_with fail
 go_at_call 62
 refine (put_one B b _ [46,10] _ rfl _ _ (by simp) HP1.out (by (try simp only [List.length_append,List.length_cons,List.length_nil]);omega)).mono ?_
 rintro e w2 ⟨rfl,hp,hk⟩
 have HP2:=Lib.hid hp
 have HK2:=Lib.hid (HK1.out.trans hk)
 have HB2:=Lib.hid (hk.cells HB1.out (by decide) (by omega))
 clear hp hk
 go_wp2_with fail
 go_end0
 exact ⟨rfl,by have e:=HP2.out;(try simp only [List.map_id',List.append_assoc,List.cons_append,List.nil_append,List.append_nil] at e ⊢);exact e,HK2.out⟩
end Lx
end Go.Proofs.YtajomoclbpobhaaGreatDoor
namespace Go.Proofs.YtajomoclbpobhaaGreatDoor
set_option linter.unusedSimpArgs false
set_option linter.unusedVariables false
namespace Lx
open Go Go.RowKit
theorem pitem_any:Puts 32 ItemV itemOk itemF:=by
 rintro B b l ⟨xk,xn,xv,xc,xt,xi,xd,xa,xb⟩ v lo hi w h hv hok hh hl
 by_cases n1:xk=1
 ·subst n1
  exact pitem_1 B b l xn xv xc xt xi xd xa xb v lo hi w h hv hok hh hl
 by_cases n2:xk=2
 ·subst n2
  exact pitem_2 B b l xn xv xc xt xi xd xa xb v lo hi w h hv hok hh hl
 by_cases n3:xk=3
 ·subst n3
  exact pitem_3 B b l xn xv xc xt xi xd xa xb v lo hi w h hv hok hh hl
 by_cases n4:xk=4
 ·subst n4
  exact pitem_4 B b l xn xv xc xt xi xd xa xb v lo hi w h hv hok hh hl
 exact pitem_0 B b l xk xn xv xc xt xi xd xa xb ⟨n1,n2,n3,n4⟩ v lo hi w h hv hok hh hl
theorem ItemV.cells' {x:ItemT} {v:Value} {lo hi:Nat} {w:World} (h:ItemV x v lo hi w):(cellsL v).length=20:=by
 obtain ⟨vv,vc,vt,vi,va,b0,b1,b2,b3,b4,b5,b6,b7,b8,b9,b10,b11,rfl,_⟩:=h
 rfl
theorem itemV_row' {x:ItemT} {v:Value} {lo hi:Nat} {w:World} (h:ItemV x v lo hi w):∃ C:Array Value,v=.agg C∧C.size=20∧C.all (·.oneCell')=true:=by
 obtain ⟨vv,vc,vt,vi,va,b0,b1,b2,b3,b4,b5,b6,b7,b8,b9,b10,b11,rfl,p1,p2,p3,p4,p5,p6⟩:=h
 obtain ⟨_,_,_,rfl⟩:=p1.slice
 obtain ⟨_,_,_,rfl⟩:=p2.slice
 obtain ⟨_,_,_,rfl⟩:=p3.slice
 obtain ⟨_,_,_,rfl⟩:=p4.slice
 obtain ⟨_,_,_,rfl⟩:=p5.slice
 obtain ⟨y2,y3,y4,y5,y6,y7,y8,y9,y10,y11,y12,y13,y14,y15,y16,y17,y18,y19,y20,pe⟩:=GoalV.shape _ _ _ _ _ _ p6
 simp only [Value.agg.injEq,Array.mk.injEq,List.cons.injEq,and_true] at pe
 obtain ⟨rfl,rfl,rfl,rfl,rfl,rfl,rfl,rfl,rfl,rfl,rfl,rfl⟩:=pe
 exact ⟨_,rfl,rfl,by simp [Value.oneCell']⟩
/-- Where a struct of an item has been stored into a new block. -/
theorem stored {w:World} {C:Array Value} {Z:Array Value} {T:TypeId} (hC:C.size=Z.size):((w.alloc (.cells Z T)).setCells w.heap.size 0 C.toList).heap[w.heap.size]?=some (.cells C T (0,0))∧Below w.heap.size w ((w.alloc (.cells Z T)).setCells w.heap.size 0 C.toList)∧w.heap.size < ((w.alloc (.cells Z T)).setCells w.heap.size 0 C.toList).heap.size :=
 ⟨sets_all C (heap_alloc_new w _) hC,⟨(sets_os _ _ _ _).1,(sets_os _ _ _ _).2.1,(sets_os _ _ _ _).2.2,by rw [sets_size];simp,fun k hk=>(sets_else _ _ _ _ k (by omega)).trans (Below.heap_alloc w _ k hk)⟩,by rw [sets_size];simp⟩
set_option maxRecDepth 100000 in
set_option maxHeartbeats 2000000 in
theorem prowIt (B b:Nat) (l:List UInt8) (xs:List ItemT) (v:Value) (lo hi:Nat) (w:World) (m:List UInt8) (x:ByteArray) (hx:x=bs m) (h:Pri B b l w) (hv:ArgsV 33 20 ItemV xs v lo hi w) (hok:∀ x ∈ xs,itemOk x) (hh:hi≤B) (hl:l.length+(joinF m (xs.map itemF)).length≤1099511627776) :
  Calls Tryz.prog 45 #[.pointer (some ⟨b,0,none⟩),.string x,v,.func (.func 32) #[.pointer (some ⟨b,0,none⟩)] #[]] w fun e w'=>PutR B b l (joinF m (xs.map itemF)) w e w'∧(xs=[]→w'=w):=by
 subst hx
 have hce:∀ x v lo hi w,ItemV x v lo hi w→(cellsL v).length=20:=fun _ _ _ _ _ h=>ItemV.cells' h
 have HF:=Lib.hid pitem_any
 have HP:=Lib.hid h
 have HV:=Lib.hid hv
 have HOK:=Lib.hid hok
 clear hok
 obtain ⟨A,c,rfl,_⟩:=hv.at hce (by decide)
 have hlen:=hv.few
 unfold maxLen at hlen
 have hl0:=h.lt
 clear hv h
 go_enter Tryz.func45,Tryz.ntmps45
 go_wp2_with fail
 go_loopw [12] (fun t wr=>∃ k:Nat,k≤xs.length∧t=.int .i64 k∧Hid (Pri B b (l++joinF m ((xs.map itemF).take k)) wr)∧Hid (Kept B b w wr)∧Hid (k=0→wr=w)) (fun t _=>xs.length - (intOf t).toNat)
 case atStart=>exact ⟨0,Nat.zero_le _,rfl,Lib.hid (by simpa [joinF] using HP.out),Lib.hid (Kept.refl _ _ _),Lib.hid (fun _=>rfl)⟩
 case round =>
  obtain ⟨k,hk,rfl,HI,HK,HZ⟩:=hrel
  by_cases hlt:k < xs.length
  ·clear HZ
   have r1:=stays (ArgsV.stable _ _ ItemV.stable) HV.out HK.out.below hh
   obtain ⟨_,_,q1,r1⟩:=r1.at hce (by decide)
   injection q1 with q1 _ qc1
   subst q1
   clear qc1
   obtain ⟨g1,u1,p1,t1,rfl,_,m1,hv1,cc1⟩:=r1 k hlt
   obtain ⟨C1,rfl,hC1,hC2⟩:=itemV_row' hv1
   have hr1:wr.rangeAt g1 (k * 20) C1.toList:=by
    intro j v hv
    have hj:j < 20:=by
     have:=(List.getElem?_eq_some_iff.1 hv).1
     simp at this
     omega
    exact (cc1 j hj).trans hv
   have HR1:=Lib.hid hr1
   have HCS:Hid ((Tryz.prog.info? 33).map (·.size)=some C1.toList.length):=Lib.hid (by rw [Array.length_toList,hC1];exact infoItem)
   have HCT:Hid ((Tryz.prog.info? 33).map (·.size)=some C1.size):=Lib.hid (by rw [hC1];exact infoItem)
   have HC2:=Lib.hid hC2
   have HTH:Hid ((wr.alloc (.cells #[.int .i64 0,.string ⟨#[]⟩,.slice none 0 0,.slice none 0 0,.slice none 0 0,.slice none 0 0,.int .i64 0,.slice none 0 0,.int .i64 0,.int .i64 0,.string ⟨#[]⟩,.int .i64 0,.slice none 0 0,.int .i64 0,.string ⟨#[]⟩,.int .i64 0,.slice none 0 0,.string ⟨#[]⟩,.slice none 0 0,.slice none 0 0] 33)).there wr.heap.size 0 C1.size):=Lib.hid (by rw [hC1];exact there_all (heap_alloc_new wr _))
   obtain ⟨hs1,hs2,hs3⟩:=stored (w:=wr) (C:=C1) (Z:=#[.int .i64 0,.string ⟨#[]⟩,.slice none 0 0,.slice none 0 0,.slice none 0 0,.slice none 0 0,.int .i64 0,.slice none 0 0,.int .i64 0,.int .i64 0,.string ⟨#[]⟩,.int .i64 0,.slice none 0 0,.int .i64 0,.string ⟨#[]⟩,.int .i64 0,.slice none 0 0,.string ⟨#[]⟩,.slice none 0 0,.slice none 0 0]) (T:=33) (by rw [hC1];rfl)
   have HS1:=Lib.hid hs1
   have HS2:=Lib.hid hs2
   have HS3:=Lib.hid hs3
   have HV1:=Lib.hid hv1
   have hk0:(0:Int)≤(k:Int):=by omega
   have hk1:(k:Int) < (xs.length:Int):=by omega
   have hdc:decide (k < xs.length)=true:=by simpa using hlt
   have hpl:=HI.out.lt
   obtain ⟨hj,hjl⟩:=joinF_step m itemF xs k hlt
   have HJ:=Lib.hid hj
   have hT1:t1≤B:=by omega
   have hjl2:l.length+(joinF m ((xs.map itemF).take (k+1))).length≤1099511627776:=by omega
   rw [hj] at hjl2
   clear cc1 hv1 r1 hj hjl hC1 hC2 hs1 hs2 hs3 hr1
   go_upto_region 2 with fail
   refine wp_region_list ?_
   go_step
   go_step
   go_step
   go_step
   go_step
   refine wpList_load_mid rfl 33 (.tmp 15) rfl g1 (k * 20) rfl C1.toList _ HR1.out Tryz.underlying33 rfl HCS.out ?_
   go_step
   go_step
   go_step
   go_step
   go_step
   go_step
   refine wpList_store_mid rfl 33 (.tmp 9) (.tmp 16) rfl wr.heap.size 0 C1 rfl rfl HTH.out HCT.out HC2.out ?_
   clear HTH HR1
   generalize World.setCells _ _ _ _=X at HS1 HS2 HS3 ⊢
   have HPX:=Lib.hid (HI.out.move HS2.out)
   have HKX:=Lib.hid (HK.out.move HS2.out (by omega))
   have HVX:=Lib.hid (stays ItemV.stable HV1.out (HS2.out.mono (by omega:B≤wr.heap.size)) hT1)
   have hX3:=HS3.out
   clear HI HK HS2 HV1
   by_cases h0:k=0
   ·have hk3:decide (0 < k)=false:=by simp;omega
    have HE:l++joinF m ((xs.map itemF).take k)=l:=by rw [h0];simp [joinF]
    rw [HE] at HPX
    rw [if_pos h0] at hjl2
    have HJ0:Hid (joinF m ((xs.map itemF).take (k+1))=itemF xs[k]):=Lib.hid (by rw [HJ.out,if_pos h0])
    clear h0 HJ HE
    go_upto_region 5 with fail
    refine wp_region_list ?_
    go_step
    go_step
    refine wpList_load_mid rfl 33 (.tmp 9) rfl wr.heap.size 0 rfl C1.toList _ (range_all HS1.out) Tryz.underlying33 rfl HCS.out ?_
    go_wp2_with fail
    go_at_call 32
    refine (HF.out B b l _ _ p1 t1 _ HPX.out HVX.out (HOK.out _ (List.getElem_mem hlt)) hT1 hjl2).mono ?_
    rintro e w3 ⟨rfl,hp3,hk3⟩
    have HP3:Hid (Pri B b (l++joinF m ((xs.map itemF).take (k+1))) w3):=Lib.hid (by rw [HJ0.out];exact hp3)
    have HK3:=Lib.hid (HKX.out.trans hk3)
    clear hp3 hk3
    go_wp2_with fail
    go_roundw
    case rel=>exact ⟨k+1,by omega,by go_num,HP3,HK3,Lib.hid (fun e=>by omega)⟩
    case measure=>simp [intOf];omega
   ·have hk3:decide (0 < k)=true:=by simp;omega
    rw [if_neg h0] at hjl2
    simp only [List.length_append] at hjl2
    have HJ0:Hid (l++joinF m ((xs.map itemF).take (k+1))=((l++joinF m ((xs.map itemF).take k))++m)++itemF xs[k]):=Lib.hid (by rw [HJ.out,if_neg h0];simp [List.append_assoc])
    clear h0 HJ
    go_wp2_with fail
    go_at_call 62
    refine (put_one B b _ m _ rfl _ _ rfl HPX.out (by rw [List.length_append];omega)).mono ?_
    rintro e w2 ⟨rfl,hp2,hk2⟩
    have HP2:=Lib.hid hp2
    have HV2:=Lib.hid (stays ItemV.stable HVX.out hk2.below hT1)
    have HS5:=Lib.hid (hk2.cells HS1.out (by decide) (by omega))
    have HK2:=Lib.hid (HKX.out.trans hk2)
    clear hp2 hk2
    go_upto_region 5 with fail
    refine wp_region_list ?_
    go_step
    go_step
    refine wpList_load_mid rfl 33 (.tmp 9) rfl wr.heap.size 0 rfl C1.toList _ (range_all HS5.out) Tryz.underlying33 rfl HCS.out ?_
    go_wp2_with fail
    go_at_call 32
    refine (HF.out B b _ _ _ p1 t1 _ HP2.out HV2.out (HOK.out _ (List.getElem_mem hlt)) hT1 (by rw [List.length_append,List.length_append];omega)).mono ?_
    rintro e w3 ⟨rfl,hp3,hk3⟩
    have HP3:Hid (Pri B b (l++joinF m ((xs.map itemF).take (k+1))) w3):=Lib.hid (by rw [HJ0.out];exact hp3)
    have HK3:=Lib.hid (HK2.out.trans hk3)
    clear hp3 hk3
    go_wp2_with fail
    go_roundw
    case rel=>exact ⟨k+1,by omega,by go_num,HP3,HK3,Lib.hid (fun e=>by omega)⟩
    case measure=>simp [intOf];omega
  ·obtain rfl:k=xs.length:=by omega
   have hdc:decide (xs.length < xs.length)=false:=by simp
   go_wp2_with fail
   go_end0
   exact ⟨⟨rfl,by have:=HI.out;rwa [List.take_of_length_le (by simp)] at this,HK.out⟩,fun e=>HZ.out (by rw [e];rfl)⟩
end Lx
end Go.Proofs.YtajomoclbpobhaaGreatDoor
namespace Go.Proofs.YtajomoclbpobhaaGreatDoor
set_option linter.unusedSimpArgs false
set_option linter.unusedVariables false
namespace Lx
open Go Go.RowKit
/-- What printing reads of the program's variables. -/
structure PEnv (w:World):Prop where
 env:Env w
 words:StrTab 1 wordsT w
 dets:StrTab 3 detsT w
 low:LowB w.heap.size
theorem LowB.mono {B C:Nat} (h:LowB B) (hc:B≤C):LowB C:=by
 obtain ⟨h1,h2,h3,h4,h5⟩:=h
 exact ⟨by omega,by omega,by omega,by omega,by omega⟩
theorem PEnv.below {w w':World} (h:PEnv w) (hb:Below w.heap.size w w'):PEnv w':=⟨h.env.below hb,h.words.below hb h.words.1,h.dets.below hb h.dets.1,h.low.mono hb.size⟩
theorem PEnv.fresh {w W:World} (h:PEnv w) (hb:Below w.heap.size w W):Pri w.heap.size W.heap.size [] (W.alloc (.cells #[.pointer none,.slice none 0 0] 76)):=by
 have hb2:Below w.heap.size w (W.alloc (.cells #[.pointer none,.slice none 0 0] 76)):=hb.alloc hb.size _
 exact ⟨.inl ⟨hb.size,.slice none 0 0,heap_alloc_new W _,World.ownsRow_nil _ _ _ _,by simp [Value.ownBlock]⟩,h.words.below hb2 h.words.1,h.dets.below hb2 h.dets.1,h.env.below hb2,h.low⟩
theorem itemF_ne (x:ItemT):itemF x ≠ []:=by unfold itemF;simp
set_option maxRecDepth 100000 in
set_option maxHeartbeats 2000000 in
theorem printItem_any (x:ItemT) (v:Value) (lo hi:Nat) (w:World) (h:PEnv w) (hv:ItemV x v lo hi w) (hok:itemOk x) (hh:hi≤w.heap.size) (hl:(itemF x).length≤1099511627776) :
  Calls Tryz.prog 10 #[v] w fun e w'=>e=.returned (.string (bs (itemF x)))∧Below w.heap.size w w':=by
 have HW:=Lib.hid h
 have HVV:=Lib.hid hv
 obtain ⟨pv0,pc0,pt0,pi0,pa0,pb0,pb1,pb2,pb3,pb4,pb5,pb6,pb7,pb8,pb9,pb10,pb11,rfl,pV,pC,pT,pI,pA,pG⟩:=hv
 obtain ⟨v1,v2,v3,rfl⟩:=pV.slice
 obtain ⟨c1,c2,c3,rfl⟩:=pC.slice
 obtain ⟨t1,t2,t3,rfl⟩:=pT.slice
 obtain ⟨i1,i2,i3,rfl⟩:=pI.slice
 obtain ⟨a1,a2,a3,rfl⟩:=pA.slice
 obtain ⟨y2,y3,y4,y5,y6,y7,y8,y9,y10,y11,y12,y13,y14,y15,y16,y17,y18,y19,y20,pe⟩:=GoalV.shape _ _ _ _ _ _ pG
 simp only [Value.agg.injEq,Array.mk.injEq,List.cons.injEq,and_true] at pe
 obtain ⟨rfl,rfl,rfl,rfl,rfl,rfl,rfl,rfl,rfl,rfl,rfl,rfl⟩:=pe
 clear pV pC pT pI pA pG
 have hw1:Below w.heap.size w (w.alloc (.cells #[.int .i64 x.kind,.string (bs x.name),.slice v1 v2 v3,.slice c1 c2 c3,.slice t1 t2 t3,.slice i1 i2 i3,.int .i64 x.det,.slice a1 a2 a3,.int .i64 (kindG x.body),.int .i64 y2,.string y3,.int .i64 y4,.slice y5 y6 y7,.int .i64 y8,.string y9,.int .i64 y10,.slice y11 y12 y13,.string y14,.slice y15 y16 y17,.slice y18 y19 y20] 33)):=(Below.refl _ _).alloc (Nat.le_refl _) _
 have hz1:(w.alloc (.cells #[.int .i64 x.kind,.string (bs x.name),.slice v1 v2 v3,.slice c1 c2 c3,.slice t1 t2 t3,.slice i1 i2 i3,.int .i64 x.det,.slice a1 a2 a3,.int .i64 (kindG x.body),.int .i64 y2,.string y3,.int .i64 y4,.slice y5 y6 y7,.int .i64 y8,.string y9,.int .i64 y10,.slice y11 y12 y13,.string y14,.slice y15 y16 y17,.slice y18 y19 y20] 33)).heap.size=w.heap.size+1:=by simp
 have hgi:((w.alloc (.cells #[.int .i64 x.kind,.string (bs x.name),.slice v1 v2 v3,.slice c1 c2 c3,.slice t1 t2 t3,.slice i1 i2 i3,.int .i64 x.det,.slice a1 a2 a3,.int .i64 (kindG x.body),.int .i64 y2,.string y3,.int .i64 y4,.slice y5 y6 y7,.int .i64 y8,.string y9,.int .i64 y10,.slice y11 y12 y13,.string y14,.slice y15 y16 y17,.slice y18 y19 y20] 33)).alloc (.cells #[.pointer none,.slice none 0 0] 76)).heap[w.heap.size]?=some (.cells #[.int .i64 x.kind,.string (bs x.name),.slice v1 v2 v3,.slice c1 c2 c3,.slice t1 t2 t3,.slice i1 i2 i3,.int .i64 x.det,.slice a1 a2 a3,.int .i64 (kindG x.body),.int .i64 y2,.string y3,.int .i64 y4,.slice y5 y6 y7,.int .i64 y8,.string y9,.int .i64 y10,.slice y11 y12 y13,.string y14,.slice y15 y16 y17,.slice y18 y19 y20] 33):=(Below.heap_alloc (w.alloc (.cells #[.int .i64 x.kind,.string (bs x.name),.slice v1 v2 v3,.slice c1 c2 c3,.slice t1 t2 t3,.slice i1 i2 i3,.int .i64 x.det,.slice a1 a2 a3,.int .i64 (kindG x.body),.int .i64 y2,.string y3,.int .i64 y4,.slice y5 y6 y7,.int .i64 y8,.string y9,.int .i64 y10,.slice y11 y12 y13,.string y14,.slice y15 y16 y17,.slice y18 y19 y20] 33)) _ w.heap.size (by simp)).trans (heap_alloc_new w _)
 have hfr:=h.fresh hw1
 rw [hz1] at hfr
 have HFR:=Lib.hid hfr
 have HVX:=Lib.hid (stays ItemV.stable HVV.out (hw1.alloc (by simp) (.cells #[.pointer none,.slice none 0 0] 76)) hh)
 clear h hfr
 go_enter Tryz.func10,Tryz.ntmps10
 go_upto_region 2 with fail
 refine wp_region_list ?_
 refine wpList_load_mid rfl 33 (.tmp 1) rfl w.heap.size 0 rfl _ _ (range_all hgi) Tryz.underlying33 rfl infoItem ?_
 clear hgi
 go_wp2_with fail
 go_at_call 32
 refine (pitem_any w.heap.size _ [] x _ lo hi _ HFR.out HVX.out hok hh (by simpa using hl)).mono ?_
 rintro e w1 ⟨rfl,hp,hk⟩
 rw [List.nil_append] at hp
 have HP1:=Lib.hid hp
 have HK1:=Lib.hid ((hw1.alloc (by simp) (.cells #[.pointer none,.slice none 0 0] 76)).trans hk.below)
 clear hp hk hw1 hz1
 go_wp2_with fail
 go_at_call 33
 refine (pString_some w.heap.size _ (itemF x) w1 HP1.out.isP (itemF_ne x)).mono ?_
 rintro e w2 ⟨rfl,hb2⟩
 go_wp2_with fail
 go_ret
 exact ⟨rfl,HK1.out.trans hb2⟩
set_option maxRecDepth 100000 in
set_option maxHeartbeats 2000000 in
theorem printTerm_any (k:Int) (s:List UInt8) (z:Int) (xs:List TermT) (v:Value) (lo hi:Nat) (w:World) (d:Nat) (h:PEnv w) (hv:TermV (d+1) (.mk k s z xs) v lo hi w) (hok:termOk (.mk k s z xs)) (hh:hi≤w.heap.size) (hl:(termF (.mk k s z xs)).length≤1099511627776) (hne:termF (.mk k s z xs) ≠ []) :
  Calls Tryz.prog 14 #[v] w fun e w'=>e=.returned (.string (bs (termF (.mk k s z xs))))∧Below w.heap.size w w':=by
 have HW:=Lib.hid h
 have HVV:=Lib.hid hv
 obtain ⟨va,rfl,ha⟩:=hv
 obtain ⟨A,n,c,rfl⟩:=ha.slice
 have hw1:Below w.heap.size w (w.alloc (.cells #[.int .i64 k,.string (bs s),.int .i64 z,.slice A n c] 28)):=(Below.refl _ _).alloc (Nat.le_refl _) _
 have hz1:(w.alloc (.cells #[.int .i64 k,.string (bs s),.int .i64 z,.slice A n c] 28)).heap.size=w.heap.size+1:=by simp
 have hfr:=h.fresh hw1
 rw [hz1] at hfr
 have HFR:=Lib.hid hfr
 have HVX:=Lib.hid (stays (TermV.stable (d+1)) HVV.out (hw1.alloc (by simp) (.cells #[.pointer none,.slice none 0 0] 76)) hh)
 clear h hfr ha
 go_enter Tryz.func14,Tryz.ntmps14
 go_wp2_with fail
 go_at_call 40
 refine (pterm_any (d+1) w.heap.size _ [] _ _ lo hi _ HFR.out HVX.out hok hh (by simpa using hl)).mono ?_
 rintro e w1 ⟨rfl,hp,hk⟩
 rw [List.nil_append] at hp
 have HP1:=Lib.hid hp
 have HK1:=Lib.hid ((hw1.alloc (by simp) (.cells #[.pointer none,.slice none 0 0] 76)).trans hk.below)
 clear hp hk hw1 hz1
 go_wp2_with fail
 go_at_call 33
 refine (pString_some w.heap.size _ _ w1 HP1.out.isP hne).mono ?_
 rintro e w2 ⟨rfl,hb2⟩
 go_wp2_with fail
 go_ret
 exact ⟨rfl,HK1.out.trans hb2⟩
set_option maxRecDepth 100000 in
set_option maxHeartbeats 2000000 in
theorem printSource_any (xs:List ItemT) (v:Value) (lo hi:Nat) (w:World) (h:PEnv w) (hv:ArgsV 33 20 ItemV xs v lo hi w) (hok:∀ x ∈ xs,itemOk x) (hh:hi≤w.heap.size) (hl:(sourceF xs).length≤1099511627776) :
  Calls Tryz.prog 19 #[v] w fun e w'=>e=.returned (.string (bs (sourceF xs)))∧Below w.heap.size w w':=by
 have hmf:∀ (fn:Fn) (first cap:Array Value) (w:World),(Instr.makeFunc fn first cap).run Tryz.prog w=.ok (.func fn first cap) w:=fun _ _ _ _=>rfl
 have HVV:=Lib.hid hv
 obtain ⟨A,n,c,rfl⟩:=hv.slice
 have hw1:Below w.heap.size w (w.alloc (.cells #[.pointer none,.slice none 0 0] 76)):=(Below.refl _ _).alloc (Nat.le_refl _) _
 have hfr:=h.fresh (Below.refl _ w)
 have HFR:=Lib.hid hfr
 have HVX:=Lib.hid (stays (ArgsV.stable _ _ ItemV.stable) HVV.out hw1 hh)
 have hbk:=heap_alloc_new w (.cells #[.pointer none,.slice none 0 0] 76)
 have HBK:=Lib.hid hbk
 have HNE:Hid (xs ≠ []→sourceF xs ≠ []):=Lib.hid (fun hx=>by
  unfold sourceF
  rw [joinF_nil]
  match xs,hx with
  | x :: r,_ =>
   have:=itemF_ne x
   simp [this])
 clear h hfr hv hbk
 go_enter Tryz.func19,Tryz.ntmps19
 go_wp2_with fail
 go_at_call 45
 refine (prowIt w.heap.size _ [] xs _ lo hi _ [] _ rfl HFR.out HVX.out hok hh (by simpa [sourceF] using hl)).mono ?_
 rintro e w1 ⟨⟨rfl,hp,hk⟩,hnil⟩
 rw [List.nil_append] at hp
 have HP1:=Lib.hid hp
 have HK1:=Lib.hid (hw1.trans hk.below)
 have HNIL:=Lib.hid hnil
 clear hp hk hw1 hnil
 go_wp2_with fail
 go_at_call 33
 by_cases hx:xs=[]
 ·have e1:=HNIL.out hx
  subst e1
  subst hx
  refine (pString_nil w.heap.size _ _ _ HBK.out).mono ?_
  rintro e w2 ⟨rfl,hb2⟩
  go_wp2_with fail
  go_ret
  exact ⟨rfl,HK1.out.trans hb2⟩
 ·refine (pString_some w.heap.size _ (sourceF xs) w1 HP1.out.isP (HNE.out hx)).mono ?_
  rintro e w2 ⟨rfl,hb2⟩
  go_wp2_with fail
  go_ret
  exact ⟨rfl,HK1.out.trans hb2⟩
end Lx
end Go.Proofs.YtajomoclbpobhaaGreatDoor
