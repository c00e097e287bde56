/- For every input, the statement DataSizes returns true: the tied card of its row. Conditions: the package variables that the row lists hold what the program's text lays. -/
import Derived.Test.YtnpacamcgifabaaDoorDh
import Derived.Test.YtnpacamcgifabaaDoorDi
namespace Go.Proofs.YtnpacamcgifabaaDoor.lawDataSizes
set_option linter.unusedSimpArgs false
set_option linter.unusedVariables false
open Go.ChangeShapes Go.WideShapes Go.ChangeAt Go.RowKit
theorem laidOut:laidOutB Tryd.prog=true:=by kernel_rfl
set_option maxRecDepth 100000 in
theorem contract (H:Type) (enc:TypeId × Value→H) (W:World) (base:Nat) (args:Array Value) (ds gs:List (DataW H)) (before:List MemPlace)
  (hval:∀ (j:Nat) t v,Tryd.f10.params[j]?=some t→args[j]?=some v→Value.okWide Tryd.prog W .any base t v)
  (hW:DataW.Whole enc Tryd.prog Tryd.f10.params.toList Rows.dataSizesSpec.vars false W args.toList ds gs before) (hsz0:(DataW.weightsEach Tryd.prog (Tryd.f10.params.toList++(OpenSpec.ofChange Rows.dataSizesSpec).bare.plain.varTypes Tryd.prog) (ds++gs)).all (·≤reachBytes)=true) (hL:laidMetH Tryd.prog Rows.dataSizesRow.laid W) :
  Calls Tryd.prog 10 args W fun e W'=>∃ v,e=.returned v∧Rows.dataSizesSpec.post enc Tryd.prog Tryd.f10 false true false false W args v W':=by
 have hW':=hW
 obtain ⟨p,q,hA0,hV,rfl,hfz,hnd⟩:=hW
 have hA:DataW.TrodAll enc Tryd.prog W 0 (fun _=>true) true Tryd.f10.params.toList args.toList ds p:=hA0
 rw [Tryd.params10] at hA hval
 obtain ⟨v0,vs0,d0,ds0,p0,q0,hargs,rfl,rfl,h0,r0⟩:=trodAll_cons hA
 obtain ⟨rfl,rfl,rfl⟩:=trodAll_nil r0
 obtain rfl:args=#[v0]:=by cases args;simp_all
 obtain ⟨rfl,rfl⟩:=trodVars_none hV
 obtain ⟨cs1,rfl,hcs⟩:=okWide_struct Tryd.underlying68 (hval 0 68 v0 rfl rfl)
 have h0k:=h0
 obtain ⟨fuel,hf⟩:=h0
 have hwt:∀ z ∈ d0.weights Tryd.prog 68,z≤reachBytes:=fun z hz=>by
  have:=List.all_eq_true.1 hsz0 z (DataW.weights_mem_each (j:=0) rfl rfl z hz)
  simpa using this
 obtain ⟨T,v,e,hT,_⟩:=Lx.open_da fuel _ _ hf hwt
 obtain ⟨A1,n1,c1,hv⟩:=hT.this
 have ev:Value.agg cs1=v:=by
  rw [hv]
  rw [hv] at e
  have e2:cs1.toList=[.bool T.ctor,.int .i64 T.int,.string T.name,.slice A1 n1 c1]:=by simpa [Value.cells,Lx.cellsL] using e
  rw [show cs1=#[.bool T.ctor,.int .i64 T.int,.string T.name,.slice A1 n1 c1] from Array.toList_inj.1 e2]
 clear hA0 hsz0
 simp only [List.append_nil] at hW'
 have e7:Rows.dataSizesRow.laid=Lx.laidD:=rfl
 rw [e7] at hL
 obtain ⟨f,hE⟩:=Lx.env_ofD hL
 have hlt:∀ x ∈ p0,x.block < W.heap.size:=fun x hx=>by
  have:=hW'.lt x (by simpa using hx)
  simpa using this
 rw [ev]
 refine (Lx.lawSizes_any f fuel T v W (Lx.DaW.up _ _ _ _ _ hT) hE).mono fun e W' ⟨he,hb⟩=>?_
 subst he
 rw [← ev]
 refine ⟨_,rfl,_,_,_,[],(p0++[]),[],hW',?_,?_,rfl,hb.frame _,fun h=>by cases h⟩
 ·exact trodAll_cons_mk (shut_bool Tryd.underlying4 _) trodAll_mk0
 ·exact trodAll_cons_mk (Below.trod laidOut (by kernel_rfl) (of_decide_eq_true (by kernel_rfl)) h0k hb hlt) trodAll_mk0
theorem laid_met (os:Os):laidMet Tryd.prog Rows.dataSizesRow.laid ((Lx.laidWorldD os).forCall (fun _ _=>0) ⟨#[],#[.agg #[.bool false,.int .i64 0,.string ⟨#[]⟩,.slice none 0 0]],[]⟩).memory :=
 laidMet_of_run3 8 (by kernel_rfl) (by kernel_rfl) (by kernel_rfl)
theorem reads (os:Os) {H:Type} (enc:TypeId × Value→H):∃ places,DataW.whole enc Tryd.prog ((Lx.laidWorldD os).forCall (fun _ _=>0) ⟨#[],#[.agg #[.bool false,.int .i64 0,.string ⟨#[]⟩,.slice none 0 0]],[]⟩).memory Tryd.f10.params.toList Rows.dataSizesSpec.vars false #[Value.agg #[.bool false,.int .i64 0,.string ⟨#[]⟩,.slice none 0 0]].toList 8=some ([.agg [.lit (.bool false),.lit (.int .i64 0),.lit (.string []),.nil]],[],places) :=
 ⟨[],by kernel_rfl⟩
set_option maxRecDepth 100000 in
theorem lifted (os:Os) (started:os.Started) (H:Type) (enc:TypeId × Value→H) (F:Stop.Interp) :
  ReturnsInHanded {} Tryd.checked os 10 .any ((OpenSpec.ofChange Rows.dataSizesSpec).preRow enc Tryd.prog Tryd.f10 Rows.dataSizesRow.domain false Rows.dataSizesRow.laid) (((OpenSpec.ofChange Rows.dataSizesSpec).at F).post enc Tryd.prog Tryd.f10 false true false false):=by
 obtain ⟨places,hx⟩:=reads os enc
 refine returnsInHanded_of_row (C:=Tryd.checked) (s:=OpenSpec.ofChange Rows.dataSizesSpec) Lx.own started (by kernel_rfl) Tryd.func10
  (witness_row_atRef (enc:=enc) (C:=Tryd.checked) false (Lx.laidWorldD os) #[.agg #[.bool false,.int .i64 0,.string ⟨#[]⟩,.slice none 0 0]] rfl (by kernel_rfl) (by kernel_rfl) (by kernel_rfl)
   (OpenSpec.preRow_of_cond 8 hx (by kernel_rfl) (fun k hk=>by cases hk) (by kernel_rfl) (laid_met os))) ?_
 intro W base args ds gs before hval hW _ _ hsz hL _ _
 exact contract H enc W base args ds gs before hval hW hsz hL
theorem said:Rows.DataSizesSaid :=
 OpenClaim.holds_of_cond 10 Tryd.f10 rfl rfl rfl rfl rfl rfl rfl ⟨rfl,rfl,rfl,rfl,rfl⟩ rfl rfl rfl rfl rfl (by kernel_rfl) Tryd.func10 (by kernel_rfl)
  (of_decide_eq_true (by kernel_rfl)) (by unfold Func.isWrapper;first | (rw [if_pos (by decide +kernel)];kernel_rfl) | (rw [if_neg (by decide +kernel)];exact ⟨rfl,rfl⟩))
  (fun os started H enc _ F=>by rw [OpenClaim.pre_eq_preRow];exact lifted os started H enc F)
theorem plain (f : FuncId) (fn : Func) (hf : Tryd.pinned.checked.prog.funcNamed "augur/augurlaw10.DataSizes" = some f) (hfn : Tryd.pinned.checked.prog.funcs[f]? = some fn) :
  true=Tryd.pinned.checked.prog.looks []∧∀ (j:Nat) t,fn.params[j]?=some t→Tryd.pinned.checked.prog.wantsStandIn t=false:=by
 obtain rfl : f = 10 := Option.some.inj ((show Tryd.prog.funcNamed "augur/augurlaw10.DataSizes" = some 10 by kernel_rfl).symm.trans hf) |>.symm
 obtain rfl:fn=Tryd.f10:=(Option.some.inj (Tryd.func10.symm.trans hfn)).symm
 refine ⟨by kernel_rfl,fun j t ht=>?_⟩
 rw [Tryd.params10] at ht
 have hm:=Array.mem_of_getElem? ht
 simp only [List.mem_toArray,List.mem_cons,List.not_mem_nil,or_false] at hm
 obtain rfl:=hm
 exact (show Tryd.prog.wantsStandIn 68=false by kernel_rfl)
theorem card:Rows.DataSizesCardSaid :=
 Claim7.holds_tied_plain_at .later [] _ _ _ _ said (fun _ h=>by cases h) (by kernel_rfl) (fun _ h=>by cases h) dataSizes_row_tie rfl ⟨rfl,rfl⟩ (by kernel_rfl) rfl plain (by kernel_rfl)
end Go.Proofs.YtnpacamcgifabaaDoor.lawDataSizes
