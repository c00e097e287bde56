/- For every input, of at most 1048576 values and letters, the statement DataForms returns true: the tied card of its second row. Conditions: the bound; the package variables that the row lists hold what the program's text lays. -/
import Derived.Test.YtiljemkglhloeaaGreatDoorFrA
import Derived.Test.YtiljemkglhloeaaGreatDoorHxE
namespace Go.Proofs.YtiljemkglhloeaaGreatDoor.lawDataForms
set_option linter.unusedSimpArgs false
set_option linter.unusedVariables false
open Go.ChangeShapes Go.WideShapes Go.ChangeAt Go.RowKit
theorem laidOut:laidOutB Tryz.prog=true:=by kernel_rfl
set_option maxRecDepth 100000 in
theorem contract (H:Type) (enc:TypeId × Value→H) (W:World) (base:Nat) (args:Array Value) (ds gs:List (DataW H)) (before:List MemPlace)
  (hval:∀ (j:Nat) t v,Tryz.f4.params[j]?=some t→args[j]?=some v→Value.okWide Tryz.prog W .any base t v)
  (hW:DataW.Whole enc Tryz.prog Tryz.f4.params.toList Rows.dataFormsSpec.vars false W args.toList ds gs before) (hsz0:(DataW.weightsEach Tryz.prog (Tryz.f4.params.toList++(Rows.OpenSpec.upto Rows.dataFormsSpec).bare.plain.varTypes Tryz.prog) (ds++gs)).all (·≤reachBytes)=true) (hk:Rows.uptoSmall H (ds++gs)=true) (hL:laidMetH Tryz.prog Rows.dataFormsUptoRow.laid W) :
  Calls Tryz.prog 4 args W fun e W'=>∃ v,e=.returned v∧Rows.dataFormsSpec.post enc Tryz.prog Tryz.f4 false true false false W args v W':=by
 have hW':=hW
 obtain ⟨p,q,hA0,hV,rfl,hfz,hnd⟩:=hW
 have hA:DataW.TrodAll enc Tryz.prog W 0 (fun _=>true) true Tryz.f4.params.toList args.toList ds p:=hA0
 rw [Tryz.params4] at hA hval
 obtain ⟨v0,vs0,d0,ds0,p0,q0,hargs,rfl,rfl,h0,r0⟩:=trodAll_cons hA
 obtain ⟨rfl,rfl,rfl⟩:=trodAll_nil r0
 obtain rfl:args=#[v0]:=by cases args;simp_all
 obtain ⟨rfl,rfl⟩:=trodVars_none hV
 obtain ⟨cs1,rfl,hcs⟩:=okWide_struct Tryz.underlying46 (hval 0 46 v0 rfl rfl)
 have h0k:=h0
 obtain ⟨fuel,hf⟩:=h0
 have hwt:∀ z ∈ d0.weights Tryz.prog 46,z≤reachBytes:=fun z hz=>by
  have:=List.all_eq_true.1 hsz0 z (DataW.weights_mem_each (j:=0) rfl rfl z hz)
  simpa using this
 have hbk:Rows.uptoBulk d0≤1048576:=by
  have h:=of_decide_eq_true hk
  simp only [List.append_nil,Rows.uptoBulkAll] at h
  omega
 obtain ⟨T,v,e,hT,hF⟩:=Lx.open_daF fuel _ _ hf hwt
 have hnum:=Lx.wf_nums T hF.1
 have hlen:(Lx.termF (Lx.tmOf T)).length≤1099511627776:=by
  have h1:=Lx.dtx_short T hnum
  have h2:Lx.wtD T≤Rows.uptoBulk d0:=hF.2
  rw [← Lx.dtx_form]
  omega
 obtain ⟨A1,n1,c1,hv⟩:=hT.this
 have ev:Value.agg cs1=v:=by
  rw [hv]
  rw [hv] at e
  have e2:cs1.toList=[.bool T.ctor,.int .i64 T.int,.string T.name,.slice A1 n1 c1]:=by simpa [Value.cells,Lx.cellsL] using e
  rw [show cs1=#[.bool T.ctor,.int .i64 T.int,.string T.name,.slice A1 n1 c1] from Array.toList_inj.1 e2]
 clear hA0 hsz0
 simp only [List.append_nil] at hW'
 have e7:Rows.dataFormsUptoRow.laid=Lx.laid21:=rfl
 rw [e7] at hL
 obtain ⟨hE,f,hS⟩:=Lx.env_of_laid21 hL
 have hlt:∀ x ∈ p0,x.block < W.heap.size:=fun x hx=>by
  have:=hW'.lt x (by simpa using hx)
  simpa using this
 rw [ev]
 refine (Lx.lawForms_any fuel T v W hT hnum (fun _=>hlen) hE f hS).mono fun e W' ⟨he,hb⟩=>?_
 subst he
 rw [← ev]
 refine ⟨_,rfl,_,_,_,[],(p0++[]),[],hW',?_,?_,rfl,hb.frame _,fun h=>by cases h⟩
 ·exact trodAll_cons_mk (shut_bool Tryz.underlying4 _) trodAll_mk0
 ·exact trodAll_cons_mk (Below.trod laidOut (by kernel_rfl) (of_decide_eq_true (by kernel_rfl)) h0k hb hlt) trodAll_mk0
theorem laid_met (os:Os):laidMet Tryz.prog Rows.dataFormsUptoRow.laid ((Lx.laidWorld21 os).forCall (fun _ _=>0) ⟨#[],#[.agg #[.bool false,.int .i64 0,.string ⟨#[]⟩,.slice none 0 0]],[]⟩).memory :=
 laidMet_of_run3 8 (by kernel_rfl) (by kernel_rfl) (by kernel_rfl)
theorem reads (os:Os) {H:Type} (enc:TypeId × Value→H):∃ places,DataW.whole enc Tryz.prog ((Lx.laidWorld21 os).forCall (fun _ _=>0) ⟨#[],#[.agg #[.bool false,.int .i64 0,.string ⟨#[]⟩,.slice none 0 0]],[]⟩).memory Tryz.f4.params.toList Rows.dataFormsSpec.vars false #[Value.agg #[.bool false,.int .i64 0,.string ⟨#[]⟩,.slice none 0 0]].toList 8=some ([.agg [.lit (.bool false),.lit (.int .i64 0),.lit (.string []),.nil]],[],places) :=
 ⟨[],by kernel_rfl⟩
set_option maxRecDepth 100000 in
theorem lifted (os:Os) (started:os.Started) (H:Type) (enc:TypeId × Value→H) (F:Stop.Interp) :
  ReturnsInHanded {} Tryz.checked os 4 .any ((Rows.OpenSpec.upto Rows.dataFormsSpec).preRow enc Tryz.prog Tryz.f4 Rows.dataFormsUptoRow.domain false Rows.dataFormsUptoRow.laid) (((Rows.OpenSpec.upto Rows.dataFormsSpec).at F).post enc Tryz.prog Tryz.f4 false true false false):=by
 obtain ⟨places,hx⟩:=reads os enc
 refine returnsInHanded_of_row (C:=Tryz.checked) (s:=Rows.OpenSpec.upto Rows.dataFormsSpec) Lx.own started (by kernel_rfl) Tryz.func4
  (witness_row_atRef (enc:=enc) (C:=Tryz.checked) false (Lx.laidWorld21 os) #[.agg #[.bool false,.int .i64 0,.string ⟨#[]⟩,.slice none 0 0]] rfl (by kernel_rfl) (by kernel_rfl) (by kernel_rfl)
   (OpenSpec.preRow_of_cond 8 hx (by kernel_rfl) (fun k hk=>by cases hk;kernel_rfl) (by kernel_rfl) (laid_met os))) ?_
 intro W base args ds gs before hval hW _ hcond hsz hL _ _
 exact contract H enc W base args ds gs before hval hW hsz (hcond _ rfl) hL
theorem said:Rows.DataFormsUptoSaid :=
 OpenClaim.holds_of_cond 4 Tryz.f4 rfl rfl rfl rfl rfl rfl rfl ⟨rfl,rfl,rfl,rfl,rfl⟩ rfl rfl rfl rfl rfl (by kernel_rfl) Tryz.func4 (by kernel_rfl)
  (of_decide_eq_true (by kernel_rfl)) (by unfold Func.isWrapper;first | (rw [if_pos (by decide +kernel)];kernel_rfl) | (rw [if_neg (by decide +kernel)];exact ⟨rfl,rfl⟩))
  (fun os started H enc _ F=>by rw [OpenClaim.pre_eq_preRow];exact lifted os started H enc F)
theorem plain (f : FuncId) (fn : Func) (hf : Tryz.pinned.checked.prog.funcNamed "augur/augurlaw10.DataForms" = some f) (hfn : Tryz.pinned.checked.prog.funcs[f]? = some fn) :
  true=Tryz.pinned.checked.prog.looks []∧∀ (j:Nat) t,fn.params[j]?=some t→Tryz.pinned.checked.prog.wantsStandIn t=false:=by
 obtain rfl : f = 4 := Option.some.inj ((show Tryz.prog.funcNamed "augur/augurlaw10.DataForms" = some 4 by kernel_rfl).symm.trans hf) |>.symm
 obtain rfl:fn=Tryz.f4:=(Option.some.inj (Tryz.func4.symm.trans hfn)).symm
 refine ⟨by kernel_rfl,fun j t ht=>?_⟩
 rw [Tryz.params4] at ht
 have hm:=Array.mem_of_getElem? ht
 simp only [List.mem_toArray,List.mem_cons,List.not_mem_nil,or_false] at hm
 obtain rfl:=hm
 exact (show Tryz.prog.wantsStandIn 46=false by kernel_rfl)
theorem card:Rows.DataFormsUptoCardSaid :=
 Claim7.holds_tied_plain_at .later [] _ _ _ _ said (fun _ h=>by cases h) (by kernel_rfl) (fun _ h=>by cases h) dataFormsUpto_row_tie rfl ⟨rfl,rfl⟩ (by kernel_rfl) rfl plain (by kernel_rfl)
end Go.Proofs.YtiljemkglhloeaaGreatDoor.lawDataForms
