/- For every input, the statement DataOrders returns true: the tied card of its row. Conditions: the package variables that the row lists hold what the program's text lays. -/
import Derived.Test.YtnpacamcgifabaaDoorDn
import Derived.Test.YtnpacamcgifabaaDoorDi
namespace Go.Proofs.YtnpacamcgifabaaDoor.lawDataOrders
set_option linter.unusedSimpArgs false
set_option linter.unusedVariables false
open Go.ChangeShapes Go.WideShapes Go.ChangeAt Go.RowKit
theorem laidOut:laidOutB Tryd.prog=true:=by kernel_rfl
set_option maxRecDepth 100000 in
theorem contract (H:Type) (enc:TypeId × Value→H) (W:World) (base:Nat) (args:Array Value) (ds gs:List (DataW H)) (before:List MemPlace)
  (hval:∀ (j:Nat) t v,Tryd.f9.params[j]?=some t→args[j]?=some v→Value.okWide Tryd.prog W .any base t v)
  (hW:DataW.Whole enc Tryd.prog Tryd.f9.params.toList Rows.dataOrdersSpec.vars false W args.toList ds gs before) (hsz0:(DataW.weightsEach Tryd.prog (Tryd.f9.params.toList++(OpenSpec.ofChange Rows.dataOrdersSpec).bare.plain.varTypes Tryd.prog) (ds++gs)).all (·≤reachBytes)=true) (hL:laidMetH Tryd.prog Rows.dataOrdersRow.laid W) :
  Calls Tryd.prog 9 args W fun e W'=>∃ v,e=.returned v∧Rows.dataOrdersSpec.post enc Tryd.prog Tryd.f9 false true false false W args v W':=by
 have hW':=hW
 obtain ⟨p,q,hA0,hV,rfl,hfz,hnd⟩:=hW
 have hA:DataW.TrodAll enc Tryd.prog W 0 (fun _=>true) true Tryd.f9.params.toList args.toList ds p:=hA0
 rw [Tryd.params9] at hA hval
 obtain ⟨v0,vs0,d0,ds0,p0,q0,hargs,rfl,rfl,h0,r0⟩:=trodAll_cons hA
 obtain ⟨v1,vs1,d1,ds1,p1,q1,rfl,rfl,rfl,h1,r1⟩:=trodAll_cons r0
 obtain ⟨v2,vs2,d2,ds2,p2,q2,rfl,rfl,rfl,h2,r2⟩:=trodAll_cons r1
 obtain ⟨rfl,rfl,rfl⟩:=trodAll_nil r2
 obtain rfl:args=#[v0,v1,v2]:=by cases args;simp_all
 obtain ⟨rfl,rfl⟩:=trodVars_none hV
 obtain ⟨cs0,rfl,hcs0⟩:=okWide_struct Tryd.underlying68 (hval 0 68 v0 rfl rfl)
 have h0k:=h0
 obtain ⟨fuel0,hf0⟩:=h0
 have hwt0:∀ z ∈ d0.weights Tryd.prog 68,z≤reachBytes:=fun z hz=>by
  have:=List.all_eq_true.1 hsz0 z (DataW.weights_mem_each (j:=0) rfl rfl z hz)
  simpa using this
 obtain ⟨T0,u0,e0,hT0,_⟩:=Lx.open_da fuel0 _ _ hf0 hwt0
 obtain ⟨A0,n0,c0,hv0⟩:=hT0.this
 have ev0:Value.agg cs0=u0:=by
  rw [hv0]
  rw [hv0] at e0
  have e2:cs0.toList=[.bool T0.ctor,.int .i64 T0.int,.string T0.name,.slice A0 n0 c0]:=by simpa [Value.cells,Lx.cellsL] using e0
  rw [show cs0=#[.bool T0.ctor,.int .i64 T0.int,.string T0.name,.slice A0 n0 c0] from Array.toList_inj.1 e2]
 obtain ⟨cs1,rfl,hcs1⟩:=okWide_struct Tryd.underlying68 (hval 1 68 v1 rfl rfl)
 have h1k:=h1
 obtain ⟨fuel1,hf1⟩:=h1
 have hwt1:∀ z ∈ d1.weights Tryd.prog 68,z≤reachBytes:=fun z hz=>by
  have:=List.all_eq_true.1 hsz0 z (DataW.weights_mem_each (j:=1) rfl rfl z hz)
  simpa using this
 obtain ⟨T1,u1,e1,hT1,_⟩:=Lx.open_da fuel1 _ _ hf1 hwt1
 obtain ⟨A1,n1,c1,hv1⟩:=hT1.this
 have ev1:Value.agg cs1=u1:=by
  rw [hv1]
  rw [hv1] at e1
  have e2:cs1.toList=[.bool T1.ctor,.int .i64 T1.int,.string T1.name,.slice A1 n1 c1]:=by simpa [Value.cells,Lx.cellsL] using e1
  rw [show cs1=#[.bool T1.ctor,.int .i64 T1.int,.string T1.name,.slice A1 n1 c1] from Array.toList_inj.1 e2]
 obtain ⟨cs2,rfl,hcs2⟩:=okWide_struct Tryd.underlying68 (hval 2 68 v2 rfl rfl)
 have h2k:=h2
 obtain ⟨fuel2,hf2⟩:=h2
 have hwt2:∀ z ∈ d2.weights Tryd.prog 68,z≤reachBytes:=fun z hz=>by
  have:=List.all_eq_true.1 hsz0 z (DataW.weights_mem_each (j:=2) rfl rfl z hz)
  simpa using this
 obtain ⟨T2,u2,e2,hT2,_⟩:=Lx.open_da fuel2 _ _ hf2 hwt2
 obtain ⟨A2,n2,c2,hv2⟩:=hT2.this
 have ev2:Value.agg cs2=u2:=by
  rw [hv2]
  rw [hv2] at e2
  have e2:cs2.toList=[.bool T2.ctor,.int .i64 T2.int,.string T2.name,.slice A2 n2 c2]:=by simpa [Value.cells,Lx.cellsL] using e2
  rw [show cs2=#[.bool T2.ctor,.int .i64 T2.int,.string T2.name,.slice A2 n2 c2] from Array.toList_inj.1 e2]
 clear hA0 hsz0
 simp only [List.append_nil] at hW'
 have e7:Rows.dataOrdersRow.laid=Lx.laidD:=rfl
 rw [e7] at hL
 obtain ⟨f,hE⟩:=Lx.env_ofD hL
 have hlt0:∀ x ∈ p0,x.block < W.heap.size:=fun x hx=>by
  have:=hW'.lt x (by simp [hx])
  simpa using this
 have hlt1:∀ x ∈ p1,x.block < W.heap.size:=fun x hx=>by
  have:=hW'.lt x (by simp [hx])
  simpa using this
 have hlt2:∀ x ∈ p2,x.block < W.heap.size:=fun x hx=>by
  have:=hW'.lt x (by simp [hx])
  simpa using this
 rw [ev0,ev1,ev2]
 refine (Lx.lawOrders_any f (max fuel0 (max fuel1 fuel2)) T0 T1 T2 u0 u1 u2 W (Lx.DaW.ups (by omega) hT0) (Lx.DaW.ups (by omega) hT1) (Lx.DaW.ups (by omega) hT2) hE).mono fun e W' ⟨he,hb⟩=>?_
 subst he
 rw [← ev0,← ev1,← ev2]
 refine ⟨_,rfl,_,_,_,[],(p0++(p1++(p2++[]))),[],hW',?_,?_,rfl,hb.frame _,fun h=>by cases h⟩
 ·exact trodAll_cons_mk (shut_bool Tryd.underlying4 _) trodAll_mk0
 ·exact trodAll_cons_mk (Below.trod laidOut (by kernel_rfl) (of_decide_eq_true (by kernel_rfl)) h0k hb hlt0) (trodAll_cons_mk (Below.trod laidOut (by kernel_rfl) (of_decide_eq_true (by kernel_rfl)) h1k hb hlt1) (trodAll_cons_mk (Below.trod laidOut (by kernel_rfl) (of_decide_eq_true (by kernel_rfl)) h2k hb hlt2) trodAll_mk0))
theorem laid_met (os:Os):laidMet Tryd.prog Rows.dataOrdersRow.laid ((Lx.laidWorldD os).forCall (fun _ _=>0) ⟨#[],#[.agg #[.bool false,.int .i64 0,.string ⟨#[]⟩,.slice none 0 0],.agg #[.bool false,.int .i64 0,.string ⟨#[]⟩,.slice none 0 0],.agg #[.bool false,.int .i64 0,.string ⟨#[]⟩,.slice none 0 0]],[]⟩).memory :=
 laidMet_of_run3 8 (by kernel_rfl) (by kernel_rfl) (by kernel_rfl)
theorem reads (os:Os) {H:Type} (enc:TypeId × Value→H):∃ places,DataW.whole enc Tryd.prog ((Lx.laidWorldD os).forCall (fun _ _=>0) ⟨#[],#[.agg #[.bool false,.int .i64 0,.string ⟨#[]⟩,.slice none 0 0],.agg #[.bool false,.int .i64 0,.string ⟨#[]⟩,.slice none 0 0],.agg #[.bool false,.int .i64 0,.string ⟨#[]⟩,.slice none 0 0]],[]⟩).memory Tryd.f9.params.toList Rows.dataOrdersSpec.vars false #[Value.agg #[.bool false,.int .i64 0,.string ⟨#[]⟩,.slice none 0 0],Value.agg #[.bool false,.int .i64 0,.string ⟨#[]⟩,.slice none 0 0],Value.agg #[.bool false,.int .i64 0,.string ⟨#[]⟩,.slice none 0 0]].toList 8=some ([.agg [.lit (.bool false),.lit (.int .i64 0),.lit (.string []),.nil],.agg [.lit (.bool false),.lit (.int .i64 0),.lit (.string []),.nil],.agg [.lit (.bool false),.lit (.int .i64 0),.lit (.string []),.nil]],[],places) :=
 ⟨[],by kernel_rfl⟩
set_option maxRecDepth 100000 in
theorem lifted (os:Os) (started:os.Started) (H:Type) (enc:TypeId × Value→H) (F:Stop.Interp) :
  ReturnsInHanded {} Tryd.checked os 9 .any ((OpenSpec.ofChange Rows.dataOrdersSpec).preRow enc Tryd.prog Tryd.f9 Rows.dataOrdersRow.domain false Rows.dataOrdersRow.laid) (((OpenSpec.ofChange Rows.dataOrdersSpec).at F).post enc Tryd.prog Tryd.f9 false true false false):=by
 obtain ⟨places,hx⟩:=reads os enc
 refine returnsInHanded_of_row (C:=Tryd.checked) (s:=OpenSpec.ofChange Rows.dataOrdersSpec) Lx.own started (by kernel_rfl) Tryd.func9
  (witness_row_atRef (enc:=enc) (C:=Tryd.checked) false (Lx.laidWorldD os) #[.agg #[.bool false,.int .i64 0,.string ⟨#[]⟩,.slice none 0 0],.agg #[.bool false,.int .i64 0,.string ⟨#[]⟩,.slice none 0 0],.agg #[.bool false,.int .i64 0,.string ⟨#[]⟩,.slice none 0 0]] rfl (by kernel_rfl) (by kernel_rfl) (by kernel_rfl)
   (OpenSpec.preRow_of_cond 8 hx (by kernel_rfl) (fun k hk=>by cases hk) (by kernel_rfl) (laid_met os))) ?_
 intro W base args ds gs before hval hW _ _ hsz hL _ _
 exact contract H enc W base args ds gs before hval hW hsz hL
theorem said:Rows.DataOrdersSaid :=
 OpenClaim.holds_of_cond 9 Tryd.f9 rfl rfl rfl rfl rfl rfl rfl ⟨rfl,rfl,rfl,rfl,rfl⟩ rfl rfl rfl rfl rfl (by kernel_rfl) Tryd.func9 (by kernel_rfl)
  (of_decide_eq_true (by kernel_rfl)) (by unfold Func.isWrapper;first | (rw [if_pos (by decide +kernel)];kernel_rfl) | (rw [if_neg (by decide +kernel)];exact ⟨rfl,rfl⟩))
  (fun os started H enc _ F=>by rw [OpenClaim.pre_eq_preRow];exact lifted os started H enc F)
theorem plain (f : FuncId) (fn : Func) (hf : Tryd.pinned.checked.prog.funcNamed "augur/augurlaw10.DataOrders" = some f) (hfn : Tryd.pinned.checked.prog.funcs[f]? = some fn) :
  true=Tryd.pinned.checked.prog.looks []∧∀ (j:Nat) t,fn.params[j]?=some t→Tryd.pinned.checked.prog.wantsStandIn t=false:=by
 obtain rfl : f = 9 := Option.some.inj ((show Tryd.prog.funcNamed "augur/augurlaw10.DataOrders" = some 9 by kernel_rfl).symm.trans hf) |>.symm
 obtain rfl:fn=Tryd.f9:=(Option.some.inj (Tryd.func9.symm.trans hfn)).symm
 refine ⟨by kernel_rfl,fun j t ht=>?_⟩
 rw [Tryd.params9] at ht
 have hm:=Array.mem_of_getElem? ht
 simp only [List.mem_toArray,List.mem_cons,List.not_mem_nil,or_false] at hm
 rcases hm with rfl | rfl | rfl
 ·exact (show Tryd.prog.wantsStandIn 68=false by kernel_rfl)
 ·exact (show Tryd.prog.wantsStandIn 68=false by kernel_rfl)
 ·exact (show Tryd.prog.wantsStandIn 68=false by kernel_rfl)
theorem card:Rows.DataOrdersCardSaid :=
 Claim7.holds_tied_plain_at .later [] _ _ _ _ said (fun _ h=>by cases h) (by kernel_rfl) (fun _ h=>by cases h) dataOrders_row_tie rfl ⟨rfl,rfl⟩ (by kernel_rfl) rfl plain (by kernel_rfl)
end Go.Proofs.YtnpacamcgifabaaDoor.lawDataOrders
