/- For every input, of at most 1048576 values and letters, the statement UnifyForms returns true: the tied card of its second row. Conditions: the bound; the package variables that the row lists hold what the program's text lays. -/
import Derived.Test.YtnpacamcgifabaaDoorZv
import Derived.Test.YtnpacamcgifabaaDoorZxU
namespace Go.Proofs.YtnpacamcgifabaaDoor.lawUnifyForms
set_option linter.unusedSimpArgs false
set_option linter.unusedVariables false
open Go.ChangeShapes Go.WideShapes Go.ChangeAt Go.RowKit
theorem laidOut:laidOutB Tryd.prog=true:=by kernel_rfl
set_option maxRecDepth 100000 in
theorem contract (H:Type) (enc:TypeId × Value→H) (W:World) (base:Nat) (args:Array Value) (ds gs:List (DataW H)) (before:List MemPlace)
  (hval:∀ (j:Nat) t v,Tryd.f4.params[j]?=some t→args[j]?=some v→Value.okWide Tryd.prog W .any base t v)
  (hW:DataW.Whole enc Tryd.prog Tryd.f4.params.toList Rows.unifyFormsSpec.vars false W args.toList ds gs before) (hsz0:(DataW.weightsEach Tryd.prog (Tryd.f4.params.toList++(Rows.OpenSpec.upto Rows.unifyFormsSpec).bare.plain.varTypes Tryd.prog) (ds++gs)).all (·≤reachBytes)=true) (hk:Rows.uptoSmall H (ds++gs)=true) (hL:laidMetH Tryd.prog Rows.unifyFormsUptoRow.laid W) :
  Calls Tryd.prog 4 args W fun e W'=>∃ v,e=.returned v∧Rows.unifyFormsSpec.post enc Tryd.prog Tryd.f4 false true false false W args v W':=by
 have hW':=hW
 obtain ⟨p,q,hA0,hV,rfl,hfz,hnd⟩:=hW
 have hA:DataW.TrodAll enc Tryd.prog W 0 (fun _=>true) true Tryd.f4.params.toList args.toList ds p:=hA0
 rw [Tryd.params4] at hA hval
 obtain ⟨v0,vs0,d0,ds0,p0,q0,hargs,rfl,rfl,h0,r0⟩:=trodAll_cons hA
 obtain ⟨v1,vs1,d1,ds1,p1,q1,rfl,rfl,rfl,h1,r1⟩:=trodAll_cons r0
 obtain ⟨rfl,rfl,rfl⟩:=trodAll_nil r1
 obtain rfl:args=#[v0,v1]:=by cases args;simp_all
 obtain ⟨rfl,rfl⟩:=trodVars_none hV
 obtain ⟨a0,len0,cap0,rfl⟩:=okWide_slice Tryd.underlying27 (hval 0 27 v0 rfl rfl)
 obtain ⟨a1,len1,cap1,rfl⟩:=okWide_slice Tryd.underlying48 (hval 1 48 v1 rfl rfl)
 have h0k:=h0
 have h1k:=h1
 obtain ⟨fuel0,hf0⟩:=h0
 obtain ⟨fuel1,hf1⟩:=h1
 have hwt0:∀ z ∈ d0.weights Tryd.prog 27,z≤reachBytes:=fun z hz=>by
  have:=List.all_eq_true.1 hsz0 z (DataW.weights_mem_each (j:=0) rfl rfl z hz)
  simpa using this
 have hwt1:∀ z ∈ d1.weights Tryd.prog 48,z≤reachBytes:=fun z hz=>by
  have:=List.all_eq_true.1 hsz0 z (DataW.weights_mem_each (j:=1) rfl rfl z hz)
  simpa using this
 obtain ⟨hbk0,hbk1⟩:=Lx.bulk_twoF hk
 obtain ⟨l,es0,hl,hlen0,hG0,_,hbl0⟩:=Lx.open_row (.mk 0 ⟨#[]⟩ 0 []) Lx.TyW Lx.FullT (by decide) Tryd.underlying27 Lx.cellsTy4 Lx.TyW.up Lx.tyCellsF fuel0 _ _ hf0 hwt0 (fun n _=>Lx.open_tyF n)
 obtain ⟨xs,es1,hx,hlen1,hG1,_,hbl1⟩:=Lx.open_row (.mk false ⟨#[]⟩ []) Lx.ExW Lx.FullE (by decide) Tryd.underlying48 Lx.cellsEx3 Lx.ExW.up Lx.exCells fuel1 _ _ hf1 hwt1 (fun n _=>Lx.open_exF n)
 have hw0:Lx.wtTs l≤1048576:=Nat.le_trans (Lx.wts_bulk l es0 hlen0 (fun i h h'=>(hG0 i h h').2.2)) (Nat.le_trans hbl0 hbk0)
 have hw1:Lx.wtEs xs≤1048576:=Nat.le_trans (Lx.wtsE_bulk xs es1 hlen1 hG1) (Nat.le_trans hbl1 hbk1)
 have hwf:Lx.wfTs l:=Lx.wfTs_of l (fun i h=>(hG0 i h (by omega)).2.1)
 clear hA0 hsz0
 simp only [List.append_nil] at hW'
 have e7:Rows.unifyFormsUptoRow.laid=Lx.laidF:=rfl
 rw [e7] at hL
 obtain ⟨⟨f,hE⟩,hT⟩:=Lx.env_ofF hL
 have hlt0:∀ x ∈ p0,x.block < W.heap.size:=fun x hx=>by
  have:=hW'.lt x (by simp [hx])
  simpa using this
 have hlt1:∀ x ∈ p1,x.block < W.heap.size:=fun x hx=>by
  have:=hW'.lt x (by simp [hx])
  simpa using this
 refine (Lx.lawForms_any f fuel0 fuel1 l xs _ _ W hl hx (fun i h=>(hG0 i h (by omega)).1) hwf (by have:=Lx.sizes_wt l;omega) (fun i h=>by
  have h1:=Lx.text_wt l[i] (Lx.wfTs_mem hwf h)
  have h2:=Lx.wtTs_mem (List.getElem_mem h)
  omega) (fun n hn=>by
  have:=Lx.names_wt xs n hn
  unfold maxLen
  omega) (by have:=Lx.sizesE_wt xs;omega) hE hT).mono fun e W' ⟨he,hb⟩=>?_
 subst he
 refine ⟨_,rfl,_,_,_,[],(p0++(p1++[])),[],hW',?_,?_,rfl,hb.frame _,fun h=>by cases h⟩
 ·exact trodAll_cons_mk (shut_bool Tryd.underlying4 _) trodAll_mk0
 ·exact trodAll_cons_mk (Below.trod laidOut (by kernel_rfl) (of_decide_eq_true (by kernel_rfl)) h0k hb hlt0) (trodAll_cons_mk (Below.trod laidOut (by kernel_rfl) (of_decide_eq_true (by kernel_rfl)) h1k hb hlt1) trodAll_mk0)
theorem laid_met (os:Os):laidMet Tryd.prog Rows.unifyFormsUptoRow.laid ((Lx.laidWorldF os).forCall (fun _ _=>0) ⟨#[],#[.slice none 0 0,.slice none 0 0],[]⟩).memory :=
 laidMet_of_run3 8 (by kernel_rfl) (by kernel_rfl) (by kernel_rfl)
theorem reads (os:Os) {H:Type} (enc:TypeId × Value→H):∃ places,DataW.whole enc Tryd.prog ((Lx.laidWorldF os).forCall (fun _ _=>0) ⟨#[],#[.slice none 0 0,.slice none 0 0],[]⟩).memory Tryd.f4.params.toList Rows.unifyFormsSpec.vars false #[Value.slice none 0 0,Value.slice none 0 0].toList 8=some ([.nil,.nil],[],places) :=
 ⟨[],by kernel_rfl⟩
set_option maxRecDepth 100000 in
theorem lifted (os:Os) (started:os.Started) (H:Type) (enc:TypeId × Value→H) (F:Stop.Interp) :
  ReturnsInHanded {} Tryd.checked os 4 .any ((Rows.OpenSpec.upto Rows.unifyFormsSpec).preRow enc Tryd.prog Tryd.f4 Rows.unifyFormsUptoRow.domain false Rows.unifyFormsUptoRow.laid) (((Rows.OpenSpec.upto Rows.unifyFormsSpec).at F).post enc Tryd.prog Tryd.f4 false true false false):=by
 obtain ⟨places,hx⟩:=reads os enc
 refine returnsInHanded_of_row (C:=Tryd.checked) (s:=Rows.OpenSpec.upto Rows.unifyFormsSpec) Lx.own started (by kernel_rfl) Tryd.func4
  (witness_row_atRef (enc:=enc) (C:=Tryd.checked) false (Lx.laidWorldF os) #[.slice none 0 0,.slice none 0 0] rfl (by kernel_rfl) (by kernel_rfl) (by kernel_rfl)
   (OpenSpec.preRow_of_cond 8 hx (by kernel_rfl) (fun k hk=>by cases hk;kernel_rfl) (by kernel_rfl) (laid_met os))) ?_
 intro W base args ds gs before hval hW _ hcond hsz hL _ _
 exact contract H enc W base args ds gs before hval hW hsz (hcond _ rfl) hL
theorem said:Rows.UnifyFormsUptoSaid :=
 OpenClaim.holds_of_cond 4 Tryd.f4 rfl rfl rfl rfl rfl rfl rfl ⟨rfl,rfl,rfl,rfl,rfl⟩ rfl rfl rfl rfl rfl (by kernel_rfl) Tryd.func4 (by kernel_rfl)
  (of_decide_eq_true (by kernel_rfl)) (by unfold Func.isWrapper;first | (rw [if_pos (by decide +kernel)];kernel_rfl) | (rw [if_neg (by decide +kernel)];exact ⟨rfl,rfl⟩))
  (fun os started H enc _ F=>by rw [OpenClaim.pre_eq_preRow];exact lifted os started H enc F)
theorem plain (f : FuncId) (fn : Func) (hf : Tryd.pinned.checked.prog.funcNamed "augur/augurlaw06.UnifyForms" = some f) (hfn : Tryd.pinned.checked.prog.funcs[f]? = some fn) :
  true=Tryd.pinned.checked.prog.looks []∧∀ (j:Nat) t,fn.params[j]?=some t→Tryd.pinned.checked.prog.wantsStandIn t=false:=by
 obtain rfl : f = 4 := Option.some.inj ((show Tryd.prog.funcNamed "augur/augurlaw06.UnifyForms" = some 4 by kernel_rfl).symm.trans hf) |>.symm
 obtain rfl:fn=Tryd.f4:=(Option.some.inj (Tryd.func4.symm.trans hfn)).symm
 refine ⟨by kernel_rfl,fun j t ht=>?_⟩
 rw [Tryd.params4] at ht
 have hm:=Array.mem_of_getElem? ht
 simp only [List.mem_toArray,List.mem_cons,List.not_mem_nil,or_false] at hm
 rcases hm with rfl | rfl
 ·exact (show Tryd.prog.wantsStandIn 27=false by kernel_rfl)
 ·exact (show Tryd.prog.wantsStandIn 48=false by kernel_rfl)
theorem card:Rows.UnifyFormsUptoCardSaid :=
 Claim7.holds_tied_plain_at .later [] _ _ _ _ said (fun _ h=>by cases h) (by kernel_rfl) (fun _ h=>by cases h) unifyFormsUpto_row_tie rfl ⟨rfl,rfl⟩ (by kernel_rfl) rfl plain (by kernel_rfl)
end Go.Proofs.YtnpacamcgifabaaDoor.lawUnifyForms
