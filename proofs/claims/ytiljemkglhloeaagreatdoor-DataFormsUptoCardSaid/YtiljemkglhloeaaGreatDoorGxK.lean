/- Package data's Text: the form of good data's term, or the error. Conditions: the sixteen error variables hold pointers to cells of their own; strconv's table of powers of ten holds them; the numbers are a machine's. -/
/- The reference's Same of one and the same data. Conditions: as each states. -/
/- The walk of the statement DataReads: it returns true. Conditions: the sixteen error variables hold pointers to cells of their own; strconv's table of powers of ten holds them. -/
import Derived.Test.YtiljemkglhloeaaGreatDoorGxI
import Derived.Test.YtiljemkglhloeaaGreatDoorGxB
import Derived.Test.YtiljemkglhloeaaGreatDoorDxJ
import Derived.Test.YtiljemkglhloeaaGreatDoorDxA
import Derived.Test.YtiljemkglhloeaaGreatDoorDxE
namespace Go.Proofs.YtiljemkglhloeaaGreatDoor
set_option linter.unusedSimpArgs false
set_option linter.unusedVariables false
namespace Lx
open Go Go.RowKit
mutual
def numsD:DaT→Prop
 | .mk c n _ l=>if c=true then numsDs l else numOk n
def numsDs:List DaT→Prop
 | []=>True
 | x :: l=>numsD x∧numsDs l
end
mutual
theorem tm_ok:∀ x:DaT,numsD x→termOk (tmOf x)
 | .mk c n s l,h=>by
  cases c
  ·rw [numsD,if_neg (by decide)] at h
   rw [tmOf,if_neg (by decide),termOk]
   exact ⟨h,by rw [termsOk];trivial⟩
  ·rw [numsD,if_pos rfl] at h
   rw [tmOf,if_pos rfl,termOk]
   exact ⟨by simp [numOk],tms_ok l h⟩
theorem tms_ok:∀ l:List DaT,numsDs l→termsOk (tmOfs l)
 | [],_=>by rw [tmOfs,termsOk];trivial
 | x :: l,h=>by
  rw [numsDs] at h
  rw [tmOfs,termsOk]
  exact ⟨tm_ok x h.1,tms_ok l h.2⟩
end
theorem len_sizeDs:∀ l:List DaT,l.length≤sizeDs l
 | []=>by simp
 | x :: l=>by
  rw [sizeDs,List.length_cons]
  have:=len_sizeDs l
  have:=sizeD_pos x
  omega
mutual
theorem size_few:∀ x:DaT,sizeD x≤4096→fewD x
 | .mk c n s l,h=>by
  rw [fewD]
  intro hc
  subst hc
  rw [sizeD,if_pos rfl] at h
  have:=len_sizeDs l
  exact ⟨by omega,sizes_few l (by omega)⟩
theorem sizes_few:∀ l:List DaT,sizeDs l≤4096→fewDs l
 | [],_=>by rw [fewDs];trivial
 | x :: l,h=>by
  rw [sizeDs] at h
  rw [fewDs]
  exact ⟨size_few x (by omega),sizes_few l (by omega)⟩
end
mutual
theorem ok_da:∀ x:TermT,termOk x→numsD (daOf x)
 | .mk k s z l,h=>by
  rw [termOk] at h
  by_cases k2:k=2
  ·rw [daOf,if_pos k2,numsD,if_neg (by decide)]
   exact h.1
  ·rw [daOf,if_neg k2,numsD,if_pos rfl]
   exact oks_da l h.2
theorem oks_da:∀ l:List TermT,termsOk l→numsDs (daOfs l)
 | [],_=>by rw [daOfs,numsDs];trivial
 | x :: l,h=>by
  rw [termsOk] at h
  rw [daOfs,numsDs]
  exact ⟨ok_da x h.1,oks_da l h.2⟩
end
theorem good_size {x:DaT} (h:goodD x=true):sizeD x≤4096:=by
 unfold goodD at h
 simp only [Bool.and_eq_true,decide_eq_true_eq] at h
 exact h.1
/-- What Text returns. -/
def textV (f:Nat→Addr) (x:DaT):Value:=if goodD x=true then .tuple #[.string (bs (termF (tmOf x))),.nilIface] else .tuple #[.string ⟨#[]⟩,errP (f 3)]
end Lx
end Go.Proofs.YtiljemkglhloeaaGreatDoor
namespace Go.Proofs.YtiljemkglhloeaaGreatDoor
set_option linter.unusedSimpArgs false
set_option linter.unusedVariables false
namespace Lx
open Go Go.RowKit
set_option maxRecDepth 100000 in
set_option maxHeartbeats 4000000 in
theorem same_self (d:Nat) (Vol Vol2:Nat→Prop) (x:DaT) (v1 v2:Value) (w:World) (h1:DaW d Vol x v1 w) (h2:DaW d Vol2 x v2 w) :
  Calls Tryz.prog 26 #[v1,v2] w fun e w'=>e=.returned (.bool true)∧Below w.heap.size w w':=by
 obtain ⟨A,n,c,rfl⟩:=h1.this
 obtain ⟨A2,n2,c2,rfl⟩:=h2.this
 have HH1:=Lib.hid h1
 have HH2:=Lib.hid h2
 clear h1 h2
 generalize hcc:x.ctor=cc at HH1 HH2
 generalize hzz:x.int=zz at HH1 HH2
 generalize hss:x.name=ss at HH1 HH2
 clear hcc hzz hss
 go_enter Tryz.func26,Tryz.ntmps26
 go_wp2_with fail
 try go_at_call 50
 have hb:=(below_alloc w (.cells #[.bool cc,.int .i64 zz,.string ss,.slice A n c] 46)).trans ((below_alloc (w.alloc (.cells #[.bool cc,.int .i64 zz,.string ss,.slice A n c] 46)) (.cells #[.bool cc,.int .i64 zz,.string ss,.slice A2 n2 c2] 46)).mono (by simp))
 have hcall:=rcompare_any d Vol Vol2 x x _ _ ((w.alloc (.cells #[.bool cc,.int .i64 zz,.string ss,.slice A n c] 46)).alloc (.cells #[.bool cc,.int .i64 zz,.string ss,.slice A2 n2 c2] 46)) (DaW.step d _ _ _ _ _ _ HH1.out (Kb.of_below hb) (fun _ _ e=>e)) (DaW.step d _ _ _ _ _ _ HH2.out (Kb.of_below hb) (fun _ _ e=>e))
 rw [cmpD_self] at hcall
 have HB:=Lib.hid hb
 clear hb
 with_reducible refine hcall.mono ?_
 rintro e w2 ⟨rfl,hb2⟩
 have HB2:=Lib.hid hb2
 clear hb2 hcall
 go_wp2_with fail
 go_ret
 exact ⟨rfl,HB.out.trans (HB2.out.mono HB.out.size)⟩
end Lx
end Go.Proofs.YtiljemkglhloeaaGreatDoor
namespace Go.Proofs.YtiljemkglhloeaaGreatDoor
set_option linter.unusedSimpArgs false
set_option linter.unusedVariables false
namespace Lx
open Go Go.RowKit
theorem eqlP_same (a:Addr) (W:World):(binOp .eql 49 (errP a) (errP a)).run Tryz.prog W=.ok (.bool true) W:=by
 obtain ⟨i,hi,hc⟩:∃ i,Tryz.prog.info? 231=some i∧i.comparable=true:=by
  have h:(Tryz.prog.info? 231).map (·.comparable)=some true:=by kernel_rfl
  cases h2:Tryz.prog.info? 231 with
  | none=>rw [h2] at h;cases h
  | some i=>rw [h2] at h;exact ⟨i,rfl,by simpa using h⟩
 obtain ⟨j,hj⟩:∃ j,Tryz.prog.info? 233=some j:=by
  have h:(Tryz.prog.info? 233).isSome=true:=by kernel_rfl
  exact Option.isSome_iff_exists.1 h
 exact run_eql_iface_ptr_same W a Tryz.underlying49 Tryz.underlying231 hi hc hj
def RdO.thing:RdO→DaT
 | .ok x=>x
 | _=>.mk false 0 ⟨#[]⟩ []
theorem held_da {w w':World} {v:Value} {O:RdO} (h:O.held w v w'):DaE (fun j=>j < w.heap.size) O.thing v w':=by
 cases O with
 | ok x=>exact h
 | no i=>obtain rfl:v=zeroDa:=h;exact ⟨1,_,rfl,RowW.nil _ _⟩
 | data=>obtain rfl:v=zeroDa:=h;exact ⟨1,_,rfl,RowW.nil _ _⟩
theorem num_readO (f:Nat→Addr) (O:RdO) (w:World) (hS:Sents w f) :
  Calls Tryz.prog 22 #[O.err f] w fun e w'=>e=.returned (.int .i64 O.num)∧Below w.heap.size w w':=by
 cases O with
 | no i=>exact num_four f i w hS
 | data=>exact num_lit f 9 (by omega) 10 rfl w hS
 | ok x =>
  refine (num_nil w).mono ?_
  rintro e w' ⟨rfl,rfl⟩
  exact ⟨rfl,Below.refl _ _⟩
theorem same_selfE (Vol Vol2:Nat→Prop) (x:DaT) (v1 v2:Value) (w:World) (h1:DaE Vol x v1 w) (h2:DaE Vol2 x v2 w) :
  Calls Tryz.prog 26 #[v1,v2] w fun e w'=>e=.returned (.bool true)∧Below w.heap.size w w':=by
 obtain ⟨d1,h1⟩:=h1
 obtain ⟨d2,h2⟩:=h2
 exact same_self (d1+d2) Vol Vol2 x v1 v2 w (DaW.ups (by omega) h1) (DaW.ups (by omega) h2)
end Lx
end Go.Proofs.YtiljemkglhloeaaGreatDoor
