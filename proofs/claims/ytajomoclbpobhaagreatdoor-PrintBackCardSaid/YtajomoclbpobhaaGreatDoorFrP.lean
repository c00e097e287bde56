/- A table of texts that is a package-level variable: from a row's condition to its cells. No program stands in this text; no conditions. -/
/- From what a row of layer 3 lists of the package variables to what the walks ask of them; and a world in which they hold what their initialisers lay. No conditions. -/
import Derived.Test.YtajomoclbpobhaaGreatDoorFrame2
import Derived.Test.YtajomoclbpobhaaGreatDoorPrP
import Derived.Test.YtajomoclbpobhaaGreatDoorPrIt
namespace Go.Proofs.YtajomoclbpobhaaGreatDoor
set_option linter.unusedSimpArgs false
set_option linter.unusedVariables false
namespace Lx
open Go.ChangeShapes Go.WideShapes Go.ChangeAt Go.RowKit
def strData {H:Type} (zs:List (List UInt8)):DataW H:=.agg (zs.map fun z=>.lit (.string z))
theorem cells_of_strs {H:Type} {enc:TypeId × Value→H} {P:Program} {w:World} {base:Nat} {sp:Nat→Bool} {held:Bool} {fuel:Nat} {t e:TypeId} {n:Nat} {cs:List Value} {zs:List (List UInt8)} {p:List MemPlace}
  (ht:P.underlying t=some (.array n e)) (he:P.underlying e=some .string) (hce:P.cellsOf e=1) (hct:P.cellsOf t=n)
  (h:DataW.trod enc P w base sp held fuel t cs=some (strData zs,p)):cs=zs.map fun z=>Value.string (bs z):=by
 cases fuel with
 | zero=>simp [DataW.trod] at h
 | succ fuel =>
  simp only [DataW.trod,ht,hce,hct,Nat.mul_one] at h
  split at h
  ·rename_i hl
   obtain ⟨xs,hm,hx⟩:=Option.map_eq_some_iff.1 h
   have hxs:xs.map (·.1)=zs.map fun z=>(DataW.lit (.string z):DataW H):=by
    have:=congrArg Prod.fst hx
    simpa [strData] using this
   have hxl:xs.length=n:=by simpa using Lib.mapM_length hm
   have hzl:zs.length=n:=by
    have:=congrArg List.length hxs
    simp at this
    omega
   apply List.ext_getElem?
   intro i
   by_cases hi:i < n
   ·obtain ⟨b,hb,hf⟩:=Lib.mapM_at hm i i (by simp [hi])
    obtain ⟨z,hc,rfl,_⟩:=DataW.trod_string he hf
    have h1:cs[i]?=some (.string z):=by
     have:=congrArg (·[0]?) hc
     simpa [List.getElem?_take,List.getElem?_drop] using this
    have h2:(xs.map (·.1))[i]?=some (DataW.lit (.string z.data.toList)):=by simp [hb]
    rw [hxs] at h2
    simp only [List.getElem?_map,Option.map_eq_some_iff,DataW.lit.injEq,Lit.string.injEq] at h2
    obtain ⟨z',hz',h3⟩:=h2
    have e:bs z'=z:=by cases z;simp only [bs,ByteArray.mk.injEq];exact Array.toList_inj.1 h3
    simp [h1,hz',e]
   ·rw [List.getElem?_eq_none (by omega),List.getElem?_eq_none (by simp;omega)]
  ·cases h
theorem strTab_of_head {P:Program} {W:World} {name:String} {zs:List (List UInt8)} {rest:List (String × DataW Unit)} {g:Nat} {t e:TypeId} {n:Nat}
  (hg:P.globalNamed name=some g) (hty:(P.globals[g]?).map (·.type)=some t) (ht:P.underlying t=some (.array n e)) (he:P.underlying e=some .string) (hce:P.cellsOf e=1) (hct:P.cellsOf t=n) (hz:zs ≠ [])
  (h:laidMet P ((name,strData zs) :: rest) W):StrTab g zs W:=by
 obtain ⟨ps,⟨g',t',cs,fuel,p,q,hg',ht',hvar,hd,_,_⟩,_⟩:=h
 obtain rfl:=Option.some.inj (hg.symm.trans hg')
 obtain rfl:=Option.some.inj (hty.symm.trans ht')
 have hcs:=cells_of_strs ht he hce hct hd
 have hc:∀ j (hj:j < zs.length),W.cell? ⟨g,j,none⟩=some (.string (bs zs[j])):=fun j hj=>by
  have h1:=World.var?_cell hg hvar j
  have h2:cs[j]?=some (.string (bs zs[j])):=by
   have:=congrArg (·[j]?) hcs
   simpa [hj] using this
  rw [h1]
  simpa using h2
 refine ⟨?_,hc⟩
 rcases Nat.lt_or_ge g W.heap.size with h1 | h1
 ·exact h1
 ·have h0:=hc 0 (List.length_pos_iff.2 hz)
  simp [World.cell?,Array.getElem?_eq_none h1] at h0
end Lx
end Go.Proofs.YtajomoclbpobhaaGreatDoor
namespace Go.Proofs.YtajomoclbpobhaaGreatDoor
set_option linter.unusedSimpArgs false
set_option linter.unusedVariables false
namespace Lx
open Go.ChangeShapes Go.WideShapes Go.ChangeAt Go.RowKit
theorem gWords : Tryz.prog.globalNamed "augur/print.words" = some 1 := by kernel_rfl
theorem gWordsT:(Tryz.prog.globals[1]?).map (·.type)=some 124:=by kernel_rfl
theorem gDets : Tryz.prog.globalNamed "augur/print.dets" = some 3 := by kernel_rfl
theorem gDetsT:(Tryz.prog.globals[3]?).map (·.type)=some 149:=by kernel_rfl
theorem cellsW10:Tryz.prog.cellsOf 124=10:=by kernel_rfl
theorem cellsD5:Tryz.prog.cellsOf 149=5:=by kernel_rfl
def laid11 : Laid := [("math/bits.deBruijn32tab", Rows.laid_math_bits_deBruijn32tab), ("math/bits.deBruijn64tab", Rows.laid_math_bits_deBruijn64tab), ("internal/strconv.uint64pow10", Rows.laid_internal_strconv_uint64pow10), ("augur/api.ErrText", Rows.laid_augur_api_ErrText), ("augur/api.ErrSyntax", Rows.laid_augur_api_ErrSyntax), ("augur/api.ErrNest", Rows.laid_augur_api_ErrNest), ("augur/api.ErrLarge", Rows.laid_augur_api_ErrLarge), ("strconv.ErrRange", Rows.laid_strconv_ErrRange), ("strconv.ErrSyntax", Rows.laid_strconv_ErrSyntax), ("augur/print.words", strData wordsT), ("augur/print.dets", strData detsT)]
theorem met_of_H11 {W:World} (h:laidMetH Tryz.prog laid11 W):laidMet Tryz.prog laid11 W:=by
 unfold laidMetH at h
 rw [show (laid11.filter fun x=>x.2.handleName?.isSome)=[] from by kernel_rfl] at h
 exact h
theorem env_of_laid11 {W:World} (hH:laidMetH Tryz.prog laid11 W):PEnv W∧∃ f,Errs4 W f:=by
 have h:=met_of_H11 hH
 unfold laid11 at h
 have h1:=tl h
 have h2:=tl h1
 have h3:=tl h2
 have h4:=tl h3
 have h5:=tl h4
 have h6:=tl h5
 have h7:=tl h6
 have h8:=tl h7
 have h9:=tl h8
 have h10:=tl h9
 rw [pow_data] at h2
 obtain ⟨at_,ht⟩:=sent_of h3 gText gTextT
 obtain ⟨ax,hx⟩:=sent_of h4 gSx gSxT
 obtain ⟨an,hn⟩:=sent_of h5 gNest gNestT
 obtain ⟨al,hl⟩:=sent_of h6 gLarge gLargeT
 obtain ⟨ar,hr⟩:=sent_of h7 gRng gRngT
 obtain ⟨as_,hs⟩:=sent_of h8 gSyn gSynT
 have hp:=Lib.tabIs_of_head gPow gPowT Tryz.underlying178 Tryz.underlying167 cellsU64 cellsPow h2
 have hw:=strTab_of_head gWords gWordsT Tryz.underlying124 Tryz.underlying9 cellsStr cellsW10 (by decide) h9
 have hd:=strTab_of_head gDets gDetsT Tryz.underlying149 Tryz.underlying9 cellsStr cellsD5 (by decide) h10
 have hpl:6 < W.heap.size:=by
  rcases Nat.lt_or_ge 6 W.heap.size with hlt | hge
  ·exact hlt
  ·simp [Lib.TabIs,World.var?,gPow,Array.getElem?_eq_none hge] at hp
 refine ⟨⟨⟨?_,⟨_,_,hs⟩,⟨_,_,hr⟩,hp⟩,hw,hd,⟨hw.1,hd.1,World.block_lt_of_cell? _ _ hs,World.block_lt_of_cell? _ _ hr,hpl⟩⟩,fun i=>if i=0 then an else if i=1 then al else if i=2 then ax else at_,⟨hn,hl,hx,ht⟩⟩
 obtain ⟨ps,⟨g,t,cs,fuel,p,q,hg,_,hv,_⟩,_⟩:=h1
 obtain rfl:=Option.some.inj (gB64.symm.trans hg)
 rcases Nat.lt_or_ge 8 W.heap.size with hlt | hge
 ·omega
 ·simp [World.var?,gB64,Array.getElem?_eq_none hge] at hv
/-! ### a world in which the listed variables hold what their initialisers lay -/
def putCP (cs:Array Value):Obj→Obj
 | .cells _ t frozen=>.cells cs t frozen
 | o=>o
def dataCP:DataW Unit→Array Value
 | .agg l=>(l.map fun
  | .lit (.int k z)=>.int k z
  | .lit (.string l)=>.string ⟨l.toArray⟩
  | _=>undef).toArray
 | _=>#[]
def textCP:DataW Unit→Array Value
 | .iface _ (.ptr (.agg [.lit (.string l)]))=>#[.string ⟨l.toArray⟩]
 | _=>#[]
noncomputable def lowP:Nat:=(World.holding Tryz.prog default ⟨#[],#[],[]⟩).heap.size
def esBP (d:DataW Unit):Obj:=.cells (textCP d) 205
noncomputable def esPP (i:Nat):Obj→Obj:=putCP #[.iface 203 (.pointer (some ⟨lowP+i,0,none⟩))]
noncomputable def laidWorldP (os:Os):World :=
 let w0:=World.holding Tryz.prog os ⟨#[esBP Rows.laid_augur_api_ErrText,esBP Rows.laid_augur_api_ErrSyntax,esBP Rows.laid_augur_api_ErrNest,esBP Rows.laid_augur_api_ErrLarge,esBP Rows.laid_strconv_ErrRange,esBP Rows.laid_strconv_ErrSyntax],#[],[]⟩
 { w0 with heap:=((((((((((w0.heap.modify 7 (putCP (dataCP Rows.laid_math_bits_deBruijn32tab))).modify 8 (putCP (dataCP Rows.laid_math_bits_deBruijn64tab))).modify 6 (putCP (dataCP Rows.laid_internal_strconv_uint64pow10))).modify
   5 (esPP 0)).modify 2 (esPP 1)).modify 4 (esPP 2)).modify 0 (esPP 3)).modify 10 (esPP 4)).modify 9 (esPP 5)).modify 1 (putCP (dataCP Rows.laid_augur_print_words))).modify 3 (putCP (dataCP Rows.laid_augur_print_dets)) }
end Lx
end Go.Proofs.YtajomoclbpobhaaGreatDoor
