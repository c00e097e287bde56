/- Package data's Text: the form of good data's term, or the error. Conditions: the sixteen error variables hold pointers to cells of their own; strconv's table of powers of ten holds them; the numbers are a machine's. -/
/- The reference's Same of one and the same data. Conditions: as each states. -/
/- The walk of the statement DataReads: it returns true. Conditions: the sixteen error variables hold pointers to cells of their own; strconv's table of powers of ten holds them. -/
import Derived.Test.YtiljemkglhloeaaGreatDoorGxI
import Derived.Test.YtiljemkglhloeaaGreatDoorGxB
import Derived.Test.YtiljemkglhloeaaGreatDoorDxJ
import Derived.Test.YtiljemkglhloeaaGreatDoorDxA
import Derived.Test.YtiljemkglhloeaaGreatDoorDxE
namespace Go.Proofs.YtiljemkglhloeaaGreatDoor
set_option linter.unusedSimpArgs false
set_option linter.unusedVariables false
namespace Lx
open Go Go.RowKit
mutual
def numsD:DaT→Prop
 | .mk c n _ l=>if c=true then numsDs l else numOk n
def numsDs:List DaT→Prop
 | []=>True
 | x :: l=>numsD x∧numsDs l
end
mutual
theorem tm_ok:∀ x:DaT,numsD x→termOk (tmOf x)
 | .mk c n s l,h=>by
  cases c
  ·rw [numsD,if_neg (by decide)] at h
   rw [tmOf,if_neg (by decide),termOk]
   exact ⟨h,by rw [termsOk];trivial⟩
  ·rw [numsD,if_pos rfl] at h
   rw [tmOf,if_pos rfl,termOk]
   exact ⟨by simp [numOk],tms_ok l h⟩
theorem tms_ok:∀ l:List DaT,numsDs l→termsOk (tmOfs l)
 | [],_=>by rw [tmOfs,termsOk];trivial
 | x :: l,h=>by
  rw [numsDs] at h
  rw [tmOfs,termsOk]
  exact ⟨tm_ok x h.1,tms_ok l h.2⟩
end
theorem len_sizeDs:∀ l:List DaT,l.length≤sizeDs l
 | []=>by simp
 | x :: l=>by
  rw [sizeDs,List.length_cons]
  have:=len_sizeDs l
  have:=sizeD_pos x
  omega
mutual
theorem size_few:∀ x:DaT,sizeD x≤4096→fewD x
 | .mk c n s l,h=>by
  rw [fewD]
  intro hc
  subst hc
  rw [sizeD,if_pos rfl] at h
  have:=len_sizeDs l
  exact ⟨by omega,sizes_few l (by omega)⟩
theorem sizes_few:∀ l:List DaT,sizeDs l≤4096→fewDs l
 | [],_=>by rw [fewDs];trivial
 | x :: l,h=>by
  rw [sizeDs] at h
  rw [fewDs]
  exact ⟨size_few x (by omega),sizes_few l (by omega)⟩
end
mutual
theorem ok_da:∀ x:TermT,termOk x→numsD (daOf x)
 | .mk k s z l,h=>by
  rw [termOk] at h
  by_cases k2:k=2
  ·rw [daOf,if_pos k2,numsD,if_neg (by decide)]
   exact h.1
  ·rw [daOf,if_neg k2,numsD,if_pos rfl]
   exact oks_da l h.2
theorem oks_da:∀ l:List TermT,termsOk l→numsDs (daOfs l)
 | [],_=>by rw [daOfs,numsDs];trivial
 | x :: l,h=>by
  rw [termsOk] at h
  rw [daOfs,numsDs]
  exact ⟨ok_da x h.1,oks_da l h.2⟩
end
theorem good_size {x:DaT} (h:goodD x=true):sizeD x≤4096:=by
 unfold goodD at h
 simp only [Bool.and_eq_true,decide_eq_true_eq] at h
 exact h.1
/-- What Text returns. -/
def textV (f:Nat→Addr) (x:DaT):Value:=if goodD x=true then .tuple #[.string (bs (termF (tmOf x))),.nilIface] else .tuple #[.string ⟨#[]⟩,errP (f 3)]
set_option maxRecDepth 100000 in
set_option maxHeartbeats 4000000 in
theorem dtext_any (f:Nat→Addr) (d:Nat) (x:DaT) (v:Value) (w:World) (hE:Env w) (hS:Sents w f) (hv:DaW d (fun k=>w.heap.size≤k) x v w) (hn:numsD x) (hl:goodD x=true→(termF (tmOf x)).length≤1099511627776∧termF (tmOf x) ≠ []) :
  Calls Tryz.prog 23 #[v] w fun e w'=>e=.returned (textV f x)∧Below w.heap.size w w':=by
 obtain ⟨A,n,c,rfl⟩:=hv.this
 have hb:=below_alloc w (.cells #[.bool x.ctor,.int .i64 x.int,.string x.name,.slice A n c] 46)
 have HB:=Lib.hid hb
 have HV:=Lib.hid ((DaW.step d).below hv hb)
 have HX:=Lib.hid (heap_alloc_new w (.cells #[.bool x.ctor,.int .i64 x.int,.string x.name,.slice A n c] 46))
 have HEE:=Lib.hid (hE.below hb)
 have HS:=Lib.hid (hS.below hb)
 have HN:=Lib.hid hn
 have HL:=Lib.hid hl
 clear hb hv hE hS hn hl
 obtain ⟨cc,hcc⟩:∃ cc,x.ctor=cc:=⟨_,rfl⟩
 obtain ⟨zz,hzz⟩:∃ zz,x.int=zz:=⟨_,rfl⟩
 obtain ⟨ss,hss⟩:∃ ss,x.name=ss:=⟨_,rfl⟩
 rw [hcc,hzz,hss] at HB HV HX HEE HS ⊢
 clear hcc hzz hss
 go_enter Tryz.func23,Tryz.ntmps23
 have x0:=(cellH HX.out 0).trans rfl
 have x1:=(cellH HX.out 1).trans rfl
 have x2:=(cellH HX.out 2).trans rfl
 have x3:=(cellH HX.out 3).trans rfl
 go_wp2_with fail
 clear x0 x1 x2 x3
 generalize (w.alloc (.cells #[.bool cc,.int .i64 zz,.string ss,.slice A n c] 46))=W at HB HV HX HEE HS ⊢
 obtain ⟨N0,hN0⟩:∃ N0,w.heap.size=N0:=⟨_,rfl⟩
 have HN0:=Lib.hid hN0
 rw [hN0] at HX
 try rw [hN0]
 clear hN0
 try go_at_call 18
 refine (good_any d _ x _ W HV.out).mono ?_
 rintro e w1 ⟨rfl,hb1⟩
 have HB1:=Lib.hid (HB.out.trans (hb1.mono HB.out.size))
 have HX1:=Lib.hid ((hb1.block _ (Array.getElem?_eq_some_iff.1 HX.out).1).trans HX.out)
 have HV1:=Lib.hid ((DaW.step d).below HV.out hb1)
 have HE1:=Lib.hid (HEE.out.below hb1)
 have HS1:=Lib.hid (HS.out.below hb1)
 clear hb1
 cases hg:goodD x
 ·have HT:=Lib.hid (show textV f x=.tuple #[.string ⟨#[]⟩,errP (f 3)] by unfold textV;rw [hg,if_neg (by decide)])
  have hgl:w1.cell? ⟨0,0,none⟩=some (errP (f 3)):=HS1.out.cell 3 (by omega)
  clear hg
  go_wp2_with fail
  go_quiet (fail)
  go_wp2_with fail
  exact bodyPost_ret (v:=.tuple #[.string ⟨#[]⟩,errP (f 3)]) (by simp [results,Tryz.results23,go_sem]) rfl ⟨by rw [HT.out],below_drewN HB1.out _⟩
 ·have HT:=Lib.hid (show textV f x=.tuple #[.string (bs (termF (tmOf x))),.nilIface] by unfold textV;rw [hg,if_pos rfl])
  have HFW:=Lib.hid (size_few x (good_size hg))
  have HLL:=Lib.hid (HL.out hg)
  clear hg
  have x0:=(cellH HX1.out 0).trans rfl
  have x1:=(cellH HX1.out 1).trans rfl
  have x2:=(cellH HX1.out 2).trans rfl
  have x3:=(cellH HX1.out 3).trans rfl
  go_wp2_with fail
  clear x0 x1 x2 x3
  try go_at_call 48
  refine (termOf_any d (fun k=>k < 0) x _ w1 (DaW.step d _ _ _ _ _ _ HV1.out (Kb.refl _ _) (fun k _ e=>absurd e (by omega))) HFW.out (fun k e=>absurd e (by omega))).mono ?_
  rintro e w2 ⟨v2,rfl,hv2,hb2⟩
  have HB2:=Lib.hid (HB1.out.trans (hb2.mono HB1.out.size))
  have HE2:=Lib.hid (HE1.out.below hb2)
  have HV2:=Lib.hid (TmW.step d _ (fun k=>w2.heap.size≤k) _ _ _ _ hv2 (Kb.refl _ _) (fun k h e=>by have e2:w2.heap.size≤k:=e;omega))
  obtain ⟨y0,y1,y2,y3,y4,y5,rfl⟩:=hv2.shape
  clear hb2 hv2
  go_wp2_with fail
  try go_at_call 11
  refine (printTm_any d (tmOf x) _ w2 HE2.out HV2.out (tm_ok x HN.out) HLL.out.1 HLL.out.2).mono ?_
  rintro e w3 ⟨rfl,hb3⟩
  have HB3:=Lib.hid (HB2.out.trans (hb3.mono HB2.out.size))
  clear hb3
  go_wp2_with fail
  exact bodyPost_ret (v:=.tuple #[.string (bs (termF (tmOf x))),.nilIface]) (by simp [results,Tryz.results23,go_sem]) rfl ⟨by rw [HT.out],HB3.out⟩
end Lx
end Go.Proofs.YtiljemkglhloeaaGreatDoor
namespace Go.Proofs.YtiljemkglhloeaaGreatDoor
set_option linter.unusedSimpArgs false
set_option linter.unusedVariables false
namespace Lx
open Go Go.RowKit
set_option maxRecDepth 100000 in
set_option maxHeartbeats 4000000 in
theorem same_self (d:Nat) (Vol Vol2:Nat→Prop) (x:DaT) (v1 v2:Value) (w:World) (h1:DaW d Vol x v1 w) (h2:DaW d Vol2 x v2 w) :
  Calls Tryz.prog 26 #[v1,v2] w fun e w'=>e=.returned (.bool true)∧Below w.heap.size w w':=by
 obtain ⟨A,n,c,rfl⟩:=h1.this
 obtain ⟨A2,n2,c2,rfl⟩:=h2.this
 have HH1:=Lib.hid h1
 have HH2:=Lib.hid h2
 clear h1 h2
 generalize hcc:x.ctor=cc at HH1 HH2
 generalize hzz:x.int=zz at HH1 HH2
 generalize hss:x.name=ss at HH1 HH2
 clear hcc hzz hss
 go_enter Tryz.func26,Tryz.ntmps26
 go_wp2_with fail
 try go_at_call 50
 have hb:=(below_alloc w (.cells #[.bool cc,.int .i64 zz,.string ss,.slice A n c] 46)).trans ((below_alloc (w.alloc (.cells #[.bool cc,.int .i64 zz,.string ss,.slice A n c] 46)) (.cells #[.bool cc,.int .i64 zz,.string ss,.slice A2 n2 c2] 46)).mono (by simp))
 have hcall:=rcompare_any d Vol Vol2 x x _ _ ((w.alloc (.cells #[.bool cc,.int .i64 zz,.string ss,.slice A n c] 46)).alloc (.cells #[.bool cc,.int .i64 zz,.string ss,.slice A2 n2 c2] 46)) (DaW.step d _ _ _ _ _ _ HH1.out (Kb.of_below hb) (fun _ _ e=>e)) (DaW.step d _ _ _ _ _ _ HH2.out (Kb.of_below hb) (fun _ _ e=>e))
 rw [cmpD_self] at hcall
 have HB:=Lib.hid hb
 clear hb
 with_reducible refine hcall.mono ?_
 rintro e w2 ⟨rfl,hb2⟩
 have HB2:=Lib.hid hb2
 clear hb2 hcall
 go_wp2_with fail
 go_ret
 exact ⟨rfl,HB.out.trans (HB2.out.mono HB.out.size)⟩
end Lx
end Go.Proofs.YtiljemkglhloeaaGreatDoor
namespace Go.Proofs.YtiljemkglhloeaaGreatDoor
set_option linter.unusedSimpArgs false
set_option linter.unusedVariables false
namespace Lx
open Go Go.RowKit
theorem eqlP_same (a:Addr) (W:World):(binOp .eql 49 (errP a) (errP a)).run Tryz.prog W=.ok (.bool true) W:=by
 obtain ⟨i,hi,hc⟩:∃ i,Tryz.prog.info? 231=some i∧i.comparable=true:=by
  have h:(Tryz.prog.info? 231).map (·.comparable)=some true:=by kernel_rfl
  cases h2:Tryz.prog.info? 231 with
  | none=>rw [h2] at h;cases h
  | some i=>rw [h2] at h;exact ⟨i,rfl,by simpa using h⟩
 obtain ⟨j,hj⟩:∃ j,Tryz.prog.info? 233=some j:=by
  have h:(Tryz.prog.info? 233).isSome=true:=by kernel_rfl
  exact Option.isSome_iff_exists.1 h
 exact run_eql_iface_ptr_same W a Tryz.underlying49 Tryz.underlying231 hi hc hj
theorem eqn_err (a:Addr) (W:World):(binOp .eql 49 (errP a) .nilIface).run Tryz.prog W=.ok (.bool false) W:=by
 first | (go_simp;done) | kernel_rfl | rfl
theorem eqg_err (a:Addr) (n:Nat) (W:World):(eqGuard .eql 49 (.tmp n) (.const .nilIface) (errP a) .nilIface).run Tryz.prog W=.ok () W:=by
 first | (go_simp;done) | kernel_rfl | rfl
theorem eqg_nil (n:Nat) (W:World):(eqGuard .eql 49 (.tmp n) (.const .nilIface) .nilIface .nilIface).run Tryz.prog W=.ok () W:=by
 first | (go_simp;done) | kernel_rfl | rfl
theorem eqn_nil (W:World):(binOp .eql 49 .nilIface .nilIface).run Tryz.prog W=.ok (.bool true) W:=by
 first | (go_simp;done) | kernel_rfl | rfl
def RdO.thing:RdO→DaT
 | .ok x=>x
 | _=>.mk false 0 ⟨#[]⟩ []
theorem held_da {w w':World} {v:Value} {O:RdO} (h:O.held w v w'):DaE (fun j=>j < w.heap.size) O.thing v w':=by
 cases O with
 | ok x=>exact h
 | no i=>obtain rfl:v=zeroDa:=h;exact ⟨1,_,rfl,RowW.nil _ _⟩
 | data=>obtain rfl:v=zeroDa:=h;exact ⟨1,_,rfl,RowW.nil _ _⟩
theorem num_readO (f:Nat→Addr) (O:RdO) (w:World) (hS:Sents w f) :
  Calls Tryz.prog 22 #[O.err f] w fun e w'=>e=.returned (.int .i64 O.num)∧Below w.heap.size w w':=by
 cases O with
 | no i=>exact num_four f i w hS
 | data=>exact num_lit f 9 (by omega) 10 rfl w hS
 | ok x =>
  refine (num_nil w).mono ?_
  rintro e w' ⟨rfl,rfl⟩
  exact ⟨rfl,Below.refl _ _⟩
theorem same_selfE (Vol Vol2:Nat→Prop) (x:DaT) (v1 v2:Value) (w:World) (h1:DaE Vol x v1 w) (h2:DaE Vol2 x v2 w) :
  Calls Tryz.prog 26 #[v1,v2] w fun e w'=>e=.returned (.bool true)∧Below w.heap.size w w':=by
 obtain ⟨d1,h1⟩:=h1
 obtain ⟨d2,h2⟩:=h2
 exact same_self (d1+d2) Vol Vol2 x v1 v2 w (DaW.ups (by omega) h1) (DaW.ups (by omega) h2)
/-- What is read from the text of what was read. -/
theorem read_back {s:ByteArray} {x:DaT} (h:readO s=.ok x):goodD x=true∧numsD x∧(termF (tmOf x)).length≤327680000∧termF (tmOf x) ≠ [] ∧
  (((termF (tmOf x)).length≤16384∧readO (bs (termF (tmOf x)))=.ok x) ∨ (16384 < (termF (tmOf x)).length∧readO (bs (termF (tmOf x)))=.no 1)):=by
 unfold readO at h
 cases ho:textO rdTe s with
 | no i=>rw [ho] at h;cases h
 | ok t k =>
  rw [ho] at h
  simp only at h
  cases hop:opT t with
  | true=>rw [hop,if_pos rfl] at h;cases h
  | false =>
   rw [hop,if_neg (by decide)] at h
   cases hg:goodD (daOf t) with
   | false=>rw [hg,if_neg (by decide)] at h;cases h
   | true =>
    rw [hg,if_pos rfl] at h
    injection h with h
    subst h
    have hB:=term_B ho
    have ht:=tm_da 66 0 t hB hop
    obtain ⟨hok,hr⟩:=term_round ho
    rw [ht]
    refine ⟨hg,ok_da t hok,hr.short,hr.some,?_⟩
    rcases Nat.lt_or_ge 16384 (termF t).length with hb | hb
    ·exact .inr ⟨hb,by unfold readO;rw [hr.big hb]⟩
    ·obtain ⟨k2,hk2⟩:=hr.back hb
     refine .inl ⟨hb,?_⟩
     unfold readO
     rw [hk2]
     simp only
     rw [hop,if_neg (by decide),hg,if_pos rfl]
set_option maxRecDepth 100000 in
set_option maxHeartbeats 8000000 in
theorem lawReads_any (s:ByteArray) (w:World) (hE:Env w) (f:Nat→Addr) (hS:Sents w f) :
  Calls Tryz.prog 5 #[.string s] w fun e w'=>e=.returned (.bool true)∧Below w.heap.size w w':=by
 have HA:=Lib.hid (dalive_any (fun i=>if i=0 then f 3 else f 9) w ⟨hS.cell 3 (by omega),hS.cell 9 (by omega)⟩)
 have HE:=Lib.hid hE
 have HS:=Lib.hid hS
 clear hE hS
 obtain ⟨O,hO⟩:∃ O,readO s=O:=⟨_,rfl⟩
 have HO:=Lib.hid hO
 clear hO
 go_enter Tryz.func5,Tryz.ntmps5
 go_wp2_with fail
 try go_at_call 15
 refine HA.out.mono ?_
 rintro e w1 ⟨rfl,hb1⟩
 have HB1:=Lib.hid hb1
 have HE1:=Lib.hid (HE.out.below hb1)
 have HS1:=Lib.hid (HS.out.below hb1)
 clear hb1 HA
 go_wp2_with fail
 try go_at_call 27
 refine (dread_any s w1 HE1.out f HS1.out).mono ?_
 rintro e w2 ⟨v,rfl,hb2,hh⟩
 rw [HO.out] at hh ⊢
 have hd:=held_da hh
 obtain ⟨A,n,c,hve⟩:=hd.this
 obtain ⟨cc,hcc⟩:∃ cc,O.thing.ctor=cc:=⟨_,rfl⟩
 obtain ⟨zz,hzz⟩:∃ zz,O.thing.int=zz:=⟨_,rfl⟩
 obtain ⟨ss,hss⟩:∃ ss,O.thing.name=ss:=⟨_,rfl⟩
 rw [hcc,hzz,hss] at hve
 subst hve
 have HC:=Lib.hid hcc
 have HZ:=Lib.hid hzz
 have HN:=Lib.hid hss
 have hbx:=below_alloc w2 (.cells #[.bool cc,.int .i64 zz,.string ss,.slice A n c] 46)
 have HB2:=Lib.hid ((HB1.out.trans (hb2.mono HB1.out.size)).trans (hbx.mono (Nat.le_trans HB1.out.size hb2.size)))
 have HE2:=Lib.hid ((HE1.out.below hb2).below hbx)
 have HS2:=Lib.hid ((HS1.out.below hb2).below hbx)
 have HD2:=Lib.hid (DaE.step _ _ _ _ _ _ hd (Kb.of_below hbx) (fun _ _ e=>e))
 have HX2:=Lib.hid (heap_alloc_new w2 (.cells #[.bool cc,.int .i64 zz,.string ss,.slice A n c] 46))
 have HW2:=Lib.hid hb2.size
 clear hcc hzz hss hbx hb2 hh hd
 generalize hEE:O.err f=EE
 have HEE:=Lib.hid hEE
 clear hEE
 go_upto_region 4 with fail
 generalize w2.alloc (.cells #[.bool cc,.int .i64 zz,.string ss,.slice A n c] 46)=W2 at HB2 HE2 HS2 HD2 HX2 ⊢
 obtain ⟨N2,hN2⟩:∃ N2,w2.heap.size=N2:=⟨_,rfl⟩
 rw [hN2] at HX2 ⊢
 clear hN2
 go_wp2_with fail
 try go_at_call 28
 refine (rdread_any s W2).mono ?_
 rintro e w3 ⟨v3,rfl,hb3,hh⟩
 rw [HO.out] at hh ⊢
 have hd:=held_da hh
 obtain ⟨A3,n3,c3,hve⟩:=hd.this
 rw [HC.out,HZ.out,HN.out] at hve
 subst hve
 have hbx:=below_alloc w3 (.cells #[.bool cc,.int .i64 zz,.string ss,.slice A3 n3 c3] 46)
 have HB3:=Lib.hid ((HB2.out.trans (hb3.mono HB2.out.size)).trans (hbx.mono (Nat.le_trans HB2.out.size hb3.size)))
 have HE3:=Lib.hid ((HE2.out.below hb3).below hbx)
 have HS3:=Lib.hid ((HS2.out.below hb3).below hbx)
 have HD3:=Lib.hid (DaE.step _ _ _ _ _ _ hd (Kb.of_below hbx) (fun _ _ e=>e))
 have HX3:=Lib.hid (heap_alloc_new w3 (.cells #[.bool cc,.int .i64 zz,.string ss,.slice A3 n3 c3] 46))
 have hb32:=hb3.trans (hbx.mono hb3.size)
 have HX23:=Lib.hid ((hb32.block _ (Array.getElem?_eq_some_iff.1 HX2.out).1).trans HX2.out)
 have HD23:=Lib.hid (DaE.step _ _ _ _ _ _ HD2.out (Kb.of_below hb32) (fun _ _ e=>e))
 clear hbx hb3 hh hd hb32
 generalize hnn:O.num=nn
 have HNN:=Lib.hid hnn
 clear hnn
 go_upto_region 5 with fail
 generalize w3.alloc (.cells #[.bool cc,.int .i64 zz,.string ss,.slice A3 n3 c3] 46)=W3 at HB3 HE3 HS3 HD3 HX3 HX23 HD23 ⊢
 obtain ⟨N3,hN3⟩:∃ N3,w3.heap.size=N3:=⟨_,rfl⟩
 rw [hN3] at HX3 ⊢
 clear hN3
 go_wp2_with fail
 try go_at_call 22
 rw [← HEE.out]
 refine (num_readO f O W3 HS3.out).mono ?_
 rintro e w4 ⟨rfl,hb4⟩
 rw [HNN.out,HEE.out]
 have HB4:=Lib.hid (HB3.out.trans (hb4.mono HB3.out.size))
 have HE4:=Lib.hid (HE3.out.below hb4)
 have HS4:=Lib.hid (HS3.out.below hb4)
 have HD4:=Lib.hid (DaE.step _ _ _ _ _ _ HD3.out (Kb.of_below hb4) (fun _ _ e=>e))
 have HD24:=Lib.hid (DaE.step _ _ _ _ _ _ HD23.out (Kb.of_below hb4) (fun _ _ e=>e))
 have HX4:=Lib.hid ((hb4.block _ (Array.getElem?_eq_some_iff.1 HX3.out).1).trans HX3.out)
 have HX24:=Lib.hid ((hb4.block _ (Array.getElem?_eq_some_iff.1 HX23.out).1).trans HX23.out)
 clear hb4
 have hnq:(nn != nn)=false:=by simp
 have t0:=(cellH HX4.out 0).trans rfl
 have t1:=(cellH HX4.out 1).trans rfl
 have t2:=(cellH HX4.out 2).trans rfl
 have t3:=(cellH HX4.out 3).trans rfl
 have u0:=(cellH HX24.out 0).trans rfl
 have u1:=(cellH HX24.out 1).trans rfl
 have u2:=(cellH HX24.out 2).trans rfl
 have u3:=(cellH HX24.out 3).trans rfl
 go_wp2_with fail
 try go_at_call 26
 refine (same_selfE _ _ O.thing _ _ w4 HD24.out HD4.out).mono ?_
 rintro e w5 ⟨rfl,hb5⟩
 have HB5:=Lib.hid (HB4.out.trans (hb5.mono HB4.out.size))
 have HE5:=Lib.hid (HE4.out.below hb5)
 have HS5:=Lib.hid (HS4.out.below hb5)
 have HD25:=Lib.hid (DaE.step _ _ _ _ _ _ HD24.out (Kb.of_below hb5) (fun _ _ e=>e))
 have HX25:=Lib.hid ((hb5.block _ (Array.getElem?_eq_some_iff.1 HX24.out).1).trans HX24.out)
 clear hb5 t0 t1 t2 t3 u0 u1 u2 u3 hnq
 by_cases h0:nn=0
 ·subst h0
  obtain ⟨x,rfl⟩:∃ x,O=.ok x:=by
   cases O with
   | ok x=>exact ⟨x,rfl⟩
   | no i=>exact absurd HNN.out (erN_ne i)
   | data=>exact absurd HNN.out (by decide)
  obtain rfl:Value.nilIface=EE:=HEE.out
  have hrb:=read_back HO.out
  have HTV:=Lib.hid (show textV f x=.tuple #[.string (bs (termF (tmOf x))),.nilIface] by unfold textV;rw [hrb.1,if_pos rfl])
  have HG:=Lib.hid hrb.2.1
  have HLN:=Lib.hid hrb.2.2.1
  have HNE:=Lib.hid hrb.2.2.2.1
  have HRB:=Lib.hid hrb.2.2.2.2
  clear hrb
  obtain ⟨D,hD⟩:=HD25.out
  have HVD:=Lib.hid (DaW.step D _ (fun k=>w5.heap.size≤k) _ _ _ _ hD (Kb.refl _ _) (fun k h e=>by have e2:w5.heap.size≤k:=e;omega))
  clear hD
  have u0:=(cellH HX25.out 0).trans rfl
  have u1:=(cellH HX25.out 1).trans rfl
  have u2:=(cellH HX25.out 2).trans rfl
  have u3:=(cellH HX25.out 3).trans rfl
  go_wp2_with fail
  clear u0 u1 u2 u3
  try go_at_call 23
  refine (dtext_any f D x _ w5 HE5.out HS5.out HVD.out HG.out (fun _=>⟨by have:=HLN.out;omega,HNE.out⟩)).mono ?_
  rintro e w6 ⟨rfl,hb6⟩
  rw [HTV.out]
  have HB6:=Lib.hid (HB5.out.trans (hb6.mono HB5.out.size))
  have HE6:=Lib.hid (HE5.out.below hb6)
  have HS6:=Lib.hid (HS5.out.below hb6)
  have HD6:=Lib.hid (DaE.step _ _ _ _ _ _ HD25.out (Kb.of_below hb6) (fun _ _ e=>e))
  have HX6:=Lib.hid ((hb6.block _ (Array.getElem?_eq_some_iff.1 HX25.out).1).trans HX25.out)
  clear hb6
  generalize hlf:termF (tmOf x)=lf at HLN HRB ⊢
  clear hlf HNE HTV
  go_wp2_with fail
  try go_at_call 27
  refine (dread_any (bs lf) w6 HE6.out f HS6.out).mono ?_
  rintro e w7 ⟨v7,rfl,hb7,hh⟩
  have HB7:=Lib.hid (HB6.out.trans (hb7.mono HB6.out.size))
  have HS7:=Lib.hid (HS6.out.below hb7)
  have HD7:=Lib.hid (DaE.step _ _ _ _ _ _ HD6.out (Kb.of_below hb7) (fun _ _ e=>e))
  have HX7:=Lib.hid ((hb7.block _ (Array.getElem?_eq_some_iff.1 HX6.out).1).trans HX6.out)
  clear hb7
  have hsz:(bs lf).size=lf.length:=bs_size lf
  rcases HRB.out with ⟨hsm,hro⟩ | ⟨hbig,hro⟩
  ·rw [hro] at hh ⊢
   have hd:DaE (fun j=>j < w6.heap.size) x v7 w7:=hh
   obtain ⟨A7,n7,c7,hve⟩:=hd.this
   obtain ⟨c7a,hc7⟩:∃ q,x.ctor=q:=⟨_,rfl⟩
   obtain ⟨z7a,hz7⟩:∃ q,x.int=q:=⟨_,rfl⟩
   obtain ⟨s7a,hs7⟩:∃ q,x.name=q:=⟨_,rfl⟩
   rw [hc7,hz7,hs7] at hve
   subst hve
   clear hc7 hz7 hs7 hro hsm hh
   have hbx:=below_alloc w7 (.cells #[.bool c7a,.int .i64 z7a,.string s7a,.slice A7 n7 c7] 46)
   have HB8:=Lib.hid (HB7.out.trans (hbx.mono HB7.out.size))
   have HD8:=Lib.hid (DaE.step _ _ _ _ _ _ hd (Kb.of_below hbx) (fun _ _ e=>e))
   have HD78:=Lib.hid (DaE.step _ _ _ _ _ _ HD7.out (Kb.of_below hbx) (fun _ _ e=>e))
   have HX8:=Lib.hid (heap_alloc_new w7 (.cells #[.bool c7a,.int .i64 z7a,.string s7a,.slice A7 n7 c7] 46))
   have HX78:=Lib.hid ((hbx.block _ (Array.getElem?_eq_some_iff.1 HX7.out).1).trans HX7.out)
   clear hbx hd
   go_upto_region 11 with fail
   generalize w7.alloc (.cells #[.bool c7a,.int .i64 z7a,.string s7a,.slice A7 n7 c7] 46)=W8 at HB8 HD8 HD78 HX8 HX78 ⊢
   obtain ⟨N8,hN8⟩:∃ N8,w7.heap.size=N8:=⟨_,rfl⟩
   rw [hN8] at HX8 ⊢
   clear hN8
   have t0:=(cellH HX8.out 0).trans rfl
   have t1:=(cellH HX8.out 1).trans rfl
   have t2:=(cellH HX8.out 2).trans rfl
   have t3:=(cellH HX8.out 3).trans rfl
   have u0:=(cellH HX78.out 0).trans rfl
   have u1:=(cellH HX78.out 1).trans rfl
   have u2:=(cellH HX78.out 2).trans rfl
   have u3:=(cellH HX78.out 3).trans rfl
   have hq:=eqn_nil
   have hgd:=eqg_nil
   unfold RdO.err
   go_wp2_with fail
   try go_at_call 26
   refine (same_selfE _ _ x _ _ W8 HD8.out HD78.out).mono ?_
   rintro e w9 ⟨rfl,hb9⟩
   have HB9:=Lib.hid (HB8.out.trans (hb9.mono HB8.out.size))
   clear hb9 t0 t1 t2 t3 u0 u1 u2 u3
   go_wp2_with fail
   go_ret
   exact ⟨rfl,HB9.out⟩
  ·rw [hro] at hh ⊢
   obtain rfl:v7=zeroDa:=hh
   have hs3:((RdO.no 1).err f)=errP (f 3):=rfl
   rw [hs3]
   have HB8:=Lib.hid (HB7.out.trans ((below_alloc w7 (.cells #[.bool false,.int .i64 0,.string ⟨#[]⟩,.slice none 0 0] 46)).mono HB7.out.size))
   have hgl:(w7.alloc (.cells #[.bool false,.int .i64 0,.string ⟨#[]⟩,.slice none 0 0] 46)).cell? ⟨0,0,none⟩=some (errP (f 3)):=(HS7.out.below (below_alloc w7 (.cells #[.bool false,.int .i64 0,.string ⟨#[]⟩,.slice none 0 0] 46))).cell 3 (by omega)
   have HGL:=Lib.hid hgl
   have hbl:decide ((16384:Int) < (lf.length:Int))=true:=by simp;omega
   have HBL:=Lib.hid hbl
   clear hgl hro hbig hbl
   unfold zeroDa
   go_upto_region 11 with fail
   generalize w7.alloc (.cells #[.bool false,.int .i64 0,.string ⟨#[]⟩,.slice none 0 0] 46)=W8 at HB8 HGL ⊢
   have hgl:=HGL.out
   have hq:=eqn_nil
   have hgd:=eqg_nil
   have hq1:=eqn_err (f 3)
   have hgd1:=eqg_err (f 3)
   have hq2:=eqlP_same (f 3)
   go_wp2_with fail
   go_ret
   exact ⟨congrArg (fun q=>Ending.returned (.bool q)) HBL.out,HB8.out⟩
 ·have hq:(nn != 0)=true:=by simpa using h0
  go_wp2_with fail
  go_ret
  exact ⟨rfl,HB5.out⟩
end Lx
end Go.Proofs.YtiljemkglhloeaaGreatDoor
