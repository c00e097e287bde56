/- From what a row lists of the package variables to what the walks ask of them; and a world in which they hold what their initialisers lay. No conditions. -/
/- The sixteen errors of package api, as the row lists them: each variable holds a pointer to a cell of its own, no two the same; and the contract of the reference's Num. Conditions: the variables hold so. -/
/- From a row that lists all sixteen errors of package api to what the walks ask of them; and a world in which they hold what their initialisers lay. No conditions. -/
import Derived.Test.YtiljemkglhloeaaGreatDoorCards
import Derived.Test.YtiljemkglhloeaaGreatDoorTie
import Derived.Test.YtiljemkglhloeaaGreatDoorLexA
import Derived.WalkKit
import Derived.ProofKit
import Derived.OpenShut
import Derived.Deep.DeepHandedRow
import Derived.Deep.DeepWitnessRowRef
import Derived.Deep.DeepLaidRun
import Derived.Lib.LaidTab
import Derived.Stop.LaidErr
import Derived.SevenTiedAt
import Derived.LaidEql
namespace Go.Proofs.YtiljemkglhloeaaGreatDoor
set_option linter.unusedSimpArgs false
set_option linter.unusedVariables false
namespace Lx
open Go.ChangeShapes Go.WideShapes Go.ChangeAt Go.RowKit
theorem own:ownKnob Tryz.prog.godebug=none:=by kernel_rfl
theorem gPow : Tryz.prog.globalNamed "internal/strconv.uint64pow10" = some 18 := by kernel_rfl
theorem gPowT:(Tryz.prog.globals[18]?).map (·.type)=some 204:=by kernel_rfl
theorem gB64 : Tryz.prog.globalNamed "math/bits.deBruijn64tab" = some 20 := by kernel_rfl
theorem cellsPow:Tryz.prog.cellsOf 204=20:=by kernel_rfl
theorem cellsU64:Tryz.prog.cellsOf 135=1:=by kernel_rfl
theorem cellsES:Tryz.prog.cellsOf 233=1:=by kernel_rfl
theorem cellsStr:Tryz.prog.cellsOf 9=1:=by kernel_rfl
theorem star : "*" ++ "errors.errorString" = "*errors.errorString" := by decide
theorem rowES (u : TypeId) (h : Tryz.prog.typeName? 3 u = some "*errors.errorString") : u = 231 :=
 typeName_ptr_named (nm := "errors.errorString") (by rw [star]; kernel_rfl) (by kernel_rfl) (by decide) u (by rw [star]; exact h)
abbrev Laid:=List (String × DataW Unit)
theorem tl {P:Program} {x:String × DataW Unit} {r:Laid} {w:World} (h:laidMet P (x :: r) w):laidMet P r w:=by
 obtain ⟨n,d⟩:=x
 obtain ⟨ps,⟨g,t,cs,fuel,p,q,_,_,_,_,hq,rfl⟩,hn,hr⟩:=h
 exact ⟨q,hq,(List.nodup_append.1 hn).2.1,fun b off hb=>hr b off (List.mem_append_right _ hb)⟩
theorem pow_data {H:Type}:(Rows.laid_internal_strconv_uint64pow10:DataW H)=Lib.tabData .u64 Lib.pow10Tab:=by
 simp [Rows.laid_internal_strconv_uint64pow10,Lib.tabData,Lib.pow10Tab,List.range_succ]
/-! ### a world in which the listed variables hold what their initialisers lay -/
def putC (cs:Array Value):Obj→Obj
 | .cells _ t frozen=>.cells cs t frozen
 | o=>o
def dataC:DataW Unit→Array Value
 | .agg l=>(l.map fun
  | .lit (.int k z)=>.int k z
  | _=>undef).toArray
 | _=>#[]
def textC:DataW Unit→Array Value
 | .iface _ (.ptr (.agg [.lit (.string l)]))=>#[.string ⟨l.toArray⟩]
 | _=>#[]
noncomputable def low:Nat:=(World.holding Tryz.prog default ⟨#[],#[],[]⟩).heap.size
def esB (d:DataW Unit):Obj:=.cells (textC d) 233
noncomputable def esP (i:Nat):Obj→Obj:=putC #[.iface 231 (.pointer (some ⟨low+i,0,none⟩))]
end Lx
end Go.Proofs.YtiljemkglhloeaaGreatDoor
namespace Go.Proofs.YtiljemkglhloeaaGreatDoor
set_option linter.unusedSimpArgs false
set_option linter.unusedVariables false
namespace Lx
open Go.ChangeShapes Go.WideShapes Go.ChangeAt Go.RowKit
/-- A listed sentinel: its variable's name and number, its text. -/
structure SEnt where
 name:String
 g:Nat
 text:List UInt8
def SEnt.laid (e : SEnt) : String × DataW Unit := (e.name, .iface "*errors.errorString" (.ptr (.agg [.lit (.string e.text)])))
abbrev sentV (a:Addr):Value:=.iface 231 (.pointer (some a))
set_option maxRecDepth 100000 in
theorem sents_go {W:World}:∀ (L:List SEnt) (R:Laid) (ps:List MemPlace),DataW.LaidVars Tryz.prog W (L.map SEnt.laid++R) ps→ps.Nodup →
  (∀ b off,MemPlace.cell b off ∈ ps→(∃ c t,W.heap[b]?=some (.cells c t (0,0)))∧∀ u v,W.cell? ⟨b,off,none⟩=some (.iface u v)→Value.okWide Tryz.prog W .any 0 u v) →
  (∀ e ∈ L,Tryz.prog.globalNamed e.name=some e.g∧(Tryz.prog.globals[e.g]?).map (·.type)=some 49) →
  ∃ al:List Addr,al.length=L.length∧al.Nodup∧(∀ a ∈ al,MemPlace.cell a.block a.off ∈ ps)∧∀ (i:Nat) (a:Addr),al[i]?=some a→∃ e:SEnt,L[i]?=some e∧W.cell? ⟨e.g,0,none⟩=some (sentV a)
 | [],_,_,_,_,_,_=>⟨[],rfl,.nil,by simp,by simp⟩
 | e :: L,R,ps,hv,hn,hr,hg=>by
  simp only [List.map_cons,List.cons_append,SEnt.laid] at hv
  obtain ⟨g,t,cs,fuel,p,q,h1,h2,h3,h4,h5,rfl⟩:=hv
  obtain ⟨k1,k2⟩:=hg e (List.mem_cons_self ..)
  obtain rfl:=Option.some.inj (k1.symm.trans h1)
  obtain rfl:=Option.some.inj (k2.symm.trans h2)
  have hcell:=World.var?_cell h1 h3 0
  obtain ⟨l0⟩:=cs
  have ok0:∀ u v,l0=[.iface u v]→Value.okWide Tryz.prog W .any 0 u v:=fun u v h=>by
   subst h
   exact (hr e.g 0 (by simp [MemPlace.row])).2 u v (by simpa using hcell)
  obtain ⟨a0,s0,rfl,_,_,_,rfl⟩:=errorString_of_trod Tryz.underlying49 rowES Tryz.underlying231 Tryz.underlying233 rfl rfl Tryz.underlying9 cellsES cellsStr h4 ok0
  have hpl:MemPlace.row a0 1=[.cell a0.block a0.off]:=by simp [MemPlace.row]
  rw [hpl] at hn hr ⊢
  have hn2:=List.nodup_append.1 hn
  obtain ⟨al,e1,e2,e3,e4⟩:=sents_go L R q h5 hn2.2.1 (fun b off hb=>hr b off (List.mem_append_right _ hb)) (fun x hx=>hg x (List.mem_cons_of_mem _ hx))
  refine ⟨a0 :: al,by simp [e1],List.nodup_cons.2 ⟨fun hm=>?_,e2⟩,?_,?_⟩
  ·exact hn2.2.2 (.cell a0.block a0.off) (List.mem_append_right _ (List.mem_singleton.2 rfl)) _ (e3 a0 hm) rfl
  ·intro a ha
   rcases List.mem_cons.1 ha with rfl | ha
   ·exact List.mem_append_left _ (List.mem_append_right _ (List.mem_singleton.2 rfl))
   ·exact List.mem_append_right _ (e3 a ha)
  ·intro i a hi
   cases i with
   | zero =>
    simp only [List.getElem?_cons_zero,Option.some.injEq] at hi
    subst hi
    exact ⟨e,rfl,by simpa using hcell⟩
   | succ i =>
    simp only [List.getElem?_cons_succ] at hi ⊢
    exact e4 i a hi
/-- The sixteen variables, in the document's order. -/
def errId:Nat→Nat
 | 0=>2 | 1=>3 | 2=>4 | 3=>0 | 4=>5 | 5=>6 | 6=>7 | 7=>8
 | 8=>9 | 9=>1 | 10=>10 | 11=>11 | 12=>12 | 13=>13 | 14=>14 | _=>15
structure Sents (w:World) (f:Nat→Addr):Prop where
 cell:∀ i,i < 16→w.cell? ⟨errId i,0,none⟩=some (sentV (f i))
 block:∀ i,i < 16→∃ c t,w.heap[(f i).block]?=some (.cells c t (0,0))
 ne:∀ i j,i < 16→j < 16→i ≠ j→f i ≠ f j
theorem Sents.below {w w':World} {f:Nat→Addr} (h:Sents w f) (hb:Below w.heap.size w w'):Sents w' f :=
 ⟨fun i hi=>(hb.cell (World.block_lt_of_cell? w _ (h.cell i hi))).trans (h.cell i hi),fun i hi=>by
  obtain ⟨c,t,e⟩:=h.block i hi
  exact ⟨c,t,(hb.block _ (Array.getElem?_eq_some_iff.1 e).1).trans e⟩,h.ne⟩
theorem eqlS_same (a:Addr) (W:World):(binOp .eql 49 (sentV a) (sentV a)).run Tryz.prog W=.ok (.bool true) W:=by
 obtain ⟨i,hi,hc⟩:∃ i,Tryz.prog.info? 231=some i∧i.comparable=true:=by
  have h:(Tryz.prog.info? 231).map (·.comparable)=some true:=by kernel_rfl
  cases h2:Tryz.prog.info? 231 with
  | none=>rw [h2] at h;cases h
  | some i=>rw [h2] at h;exact ⟨i,rfl,by simpa using h⟩
 obtain ⟨j,hj⟩:∃ j,Tryz.prog.info? 233=some j:=by
  have h:(Tryz.prog.info? 233).isSome=true:=by kernel_rfl
  exact Option.isSome_iff_exists.1 h
 exact run_eql_iface_ptr_same W a Tryz.underlying49 Tryz.underlying231 hi hc hj
theorem eqlS_other {a b:Addr} (W:World) (hne:a ≠ b) (ha:∃ c t,W.heap[a.block]?=some (.cells c t (0,0))) (hb:∃ c t,W.heap[b.block]?=some (.cells c t (0,0))):(binOp .eql 49 (sentV a) (sentV b)).run Tryz.prog W=.ok (.bool false) W:=by
 obtain ⟨i,hi,hc⟩:∃ i,Tryz.prog.info? 231=some i∧i.comparable=true:=by
  have h:(Tryz.prog.info? 231).map (·.comparable)=some true:=by kernel_rfl
  cases h2:Tryz.prog.info? 231 with
  | none=>rw [h2] at h;cases h
  | some i=>rw [h2] at h;exact ⟨i,rfl,by simpa using h⟩
 obtain ⟨j,hj,hs⟩:∃ j,Tryz.prog.info? 233=some j∧j.size ≠ 0:=by
  have h:(Tryz.prog.info? 233).map (·.size)=some 1:=by kernel_rfl
  cases h2:Tryz.prog.info? 233 with
  | none=>rw [h2] at h;cases h
  | some i=>rw [h2] at h;exact ⟨i,rfl,by simp only [Option.map_some,Option.some.injEq] at h;omega⟩
 obtain ⟨_,_,ha⟩:=ha
 obtain ⟨_,_,hb⟩:=hb
 exact run_eql_iface_ptr_other W Tryz.underlying49 Tryz.underlying231 hi hc hj hs hne ha hb
theorem num_nil (w:World):Calls Tryz.prog 22 #[.nilIface] w fun e w'=>e=.returned (.int .i64 0)∧w=w':=by
 go_enter Tryz.func22,Tryz.ntmps22
 go_wp2
 go_ret
 exact ⟨rfl,rfl⟩
def rowS (f:Nat→Addr):Array Value:=#[sentV (f 0),sentV (f 1),sentV (f 2),sentV (f 3),sentV (f 4),sentV (f 5),sentV (f 6),sentV (f 7),sentV (f 8),sentV (f 9),sentV (f 10),sentV (f 11),sentV (f 12),sentV (f 13),sentV (f 14),sentV (f 15)]
theorem rowS_at (f:Nat→Addr) (k:Nat) (hk:k < 16):(rowS f)[k]?=some (sentV (f k)):=by
 rcases k with _ | _ | _ | _ | _ | _ | _ | _ | _ | _ | _ | _ | _ | _ | _ | _ | k
 all_goals first | rfl | omega
set_option maxRecDepth 100000 in
set_option maxHeartbeats 2000000 in
theorem num_at (f:Nat→Addr) (i:Nat) (hi:i < 16) (w:World) (hS:Sents w f) :
  Calls Tryz.prog 22 #[sentV (f i)] w fun e w'=>e=.returned (.int .i64 ((i:Int)+1))∧Below w.heap.size w w':=by
 have HS:=Lib.hid hS
 have c0:=hS.cell 0 (by omega)
 have c1:=hS.cell 1 (by omega)
 have c2:=hS.cell 2 (by omega)
 have c3:=hS.cell 3 (by omega)
 have c4:=hS.cell 4 (by omega)
 have c5:=hS.cell 5 (by omega)
 have c6:=hS.cell 6 (by omega)
 have c7:=hS.cell 7 (by omega)
 have c8:=hS.cell 8 (by omega)
 have c9:=hS.cell 9 (by omega)
 have c10:=hS.cell 10 (by omega)
 have c11:=hS.cell 11 (by omega)
 have c12:=hS.cell 12 (by omega)
 have c13:=hS.cell 13 (by omega)
 have c14:=hS.cell 14 (by omega)
 have c15:=hS.cell 15 (by omega)
 simp only [errId] at c0 c1 c2 c3 c4 c5 c6 c7 c8 c9 c10 c11 c12 c13 c14 c15
 clear hS
 go_enter Tryz.func22,Tryz.ntmps22
 go_wp2
 clear c0 c1 c2 c3 c4 c5 c6 c7 c8 c9 c10 c11 c12 c13 c14 c15
 go_loop [27] (fun u=>∃ k:Nat,k≤i∧u=.int .i64 k) (fun u=>16 - (intOf u).toNat)
 case atStart=>exact ⟨0,Nat.zero_le _,rfl⟩
 case round =>
  obtain ⟨k,hk,rfl⟩:=hrel
  have hb:Below w.heap.size w (w.alloc (.cells (rowS f) 49)):=(Below.refl _ _).alloc (Nat.le_refl _) _
  have hcell:(w.alloc (.cells (rowS f) 49)).cell? ⟨w.heap.size,k,none⟩=some (sentV (f k)):=by
   rw [cell_of_row _ w.heap.size k _ _ _ (heap_alloc_new w _)]
   exact rowS_at f k (by omega)
  have hS2:=HS.out.below hb
  unfold rowS at hcell hS2
  by_cases hki:k=i
  ·have heq:=eqlS_same (f k)
   subst hki
   go_wp2
   go_ret
   exact ⟨rfl,(Below.refl _ _).alloc (Nat.le_refl _) _⟩
  ·have heq:=eqlS_other _ (hS2.ne i k hi (by omega) (fun e=>hki e.symm)) (hS2.block i hi) (hS2.block k (by omega))
   clear hS2
   go_wp2
   go_round
   case rel=>exact ⟨k+1,by omega,by go_num⟩
   case measure=>simp [intOf];omega
end Lx
end Go.Proofs.YtiljemkglhloeaaGreatDoor
namespace Go.Proofs.YtiljemkglhloeaaGreatDoor
set_option linter.unusedSimpArgs false
set_option linter.unusedVariables false
namespace Lx
open Go.ChangeShapes Go.WideShapes Go.ChangeAt Go.RowKit
def textOf:DataW Unit→List UInt8
 | .iface _ (.ptr (.agg [.lit (.string l)]))=>l
 | _=>[]
def ents18 : List SEnt := [⟨ "augur/api.ErrText", 2, textOf Rows.laid_augur_api_ErrText⟩, ⟨ "augur/api.ErrSyntax", 3, textOf Rows.laid_augur_api_ErrSyntax⟩, ⟨ "augur/api.ErrNest", 4, textOf Rows.laid_augur_api_ErrNest⟩, ⟨ "augur/api.ErrLarge", 0, textOf Rows.laid_augur_api_ErrLarge⟩, ⟨ "augur/api.ErrNames", 5, textOf Rows.laid_augur_api_ErrNames⟩, ⟨ "augur/api.ErrTypes", 6, textOf Rows.laid_augur_api_ErrTypes⟩, ⟨ "augur/api.ErrModes", 7, textOf Rows.laid_augur_api_ErrModes⟩, ⟨ "augur/api.ErrDet", 8, textOf Rows.laid_augur_api_ErrDet⟩, ⟨ "augur/api.ErrNone", 9, textOf Rows.laid_augur_api_ErrNone⟩, ⟨ "augur/api.ErrData", 1, textOf Rows.laid_augur_api_ErrData⟩, ⟨ "augur/api.ErrBytes", 10, textOf Rows.laid_augur_api_ErrBytes⟩, ⟨ "augur/api.ErrCode", 11, textOf Rows.laid_augur_api_ErrCode⟩, ⟨ "augur/api.ErrFuel", 12, textOf Rows.laid_augur_api_ErrFuel⟩, ⟨ "augur/api.ErrHeap", 13, textOf Rows.laid_augur_api_ErrHeap⟩, ⟨ "augur/api.ErrFrames", 14, textOf Rows.laid_augur_api_ErrFrames⟩, ⟨ "augur/api.ErrState", 15, textOf Rows.laid_augur_api_ErrState⟩, ⟨ "strconv.ErrRange", 22, textOf Rows.laid_strconv_ErrRange⟩, ⟨ "strconv.ErrSyntax", 21, textOf Rows.laid_strconv_ErrSyntax⟩]
def laid21 : Laid := [("math/bits.deBruijn32tab", Rows.laid_math_bits_deBruijn32tab), ("math/bits.deBruijn64tab", Rows.laid_math_bits_deBruijn64tab), ("internal/strconv.uint64pow10", Rows.laid_internal_strconv_uint64pow10), ("augur/api.ErrText", Rows.laid_augur_api_ErrText), ("augur/api.ErrSyntax", Rows.laid_augur_api_ErrSyntax), ("augur/api.ErrNest", Rows.laid_augur_api_ErrNest), ("augur/api.ErrLarge", Rows.laid_augur_api_ErrLarge), ("augur/api.ErrNames", Rows.laid_augur_api_ErrNames), ("augur/api.ErrTypes", Rows.laid_augur_api_ErrTypes), ("augur/api.ErrModes", Rows.laid_augur_api_ErrModes), ("augur/api.ErrDet", Rows.laid_augur_api_ErrDet), ("augur/api.ErrNone", Rows.laid_augur_api_ErrNone), ("augur/api.ErrData", Rows.laid_augur_api_ErrData), ("augur/api.ErrBytes", Rows.laid_augur_api_ErrBytes), ("augur/api.ErrCode", Rows.laid_augur_api_ErrCode), ("augur/api.ErrFuel", Rows.laid_augur_api_ErrFuel), ("augur/api.ErrHeap", Rows.laid_augur_api_ErrHeap), ("augur/api.ErrFrames", Rows.laid_augur_api_ErrFrames), ("augur/api.ErrState", Rows.laid_augur_api_ErrState), ("strconv.ErrRange", Rows.laid_strconv_ErrRange), ("strconv.ErrSyntax", Rows.laid_strconv_ErrSyntax)]
theorem laid21_eq : laid21 = ("math/bits.deBruijn32tab", Rows.laid_math_bits_deBruijn32tab) :: ("math/bits.deBruijn64tab", Rows.laid_math_bits_deBruijn64tab) :: ("internal/strconv.uint64pow10", Rows.laid_internal_strconv_uint64pow10) :: (ents18.map SEnt.laid ++ []) := rfl
theorem gE0 : Tryz.prog.globalNamed "augur/api.ErrText" = some 2 ∧ (Tryz.prog.globals[2]?).map (·.type) = some 49 := ⟨by kernel_rfl, by kernel_rfl⟩
theorem gE1 : Tryz.prog.globalNamed "augur/api.ErrSyntax" = some 3 ∧ (Tryz.prog.globals[3]?).map (·.type) = some 49 := ⟨by kernel_rfl, by kernel_rfl⟩
theorem gE2 : Tryz.prog.globalNamed "augur/api.ErrNest" = some 4 ∧ (Tryz.prog.globals[4]?).map (·.type) = some 49 := ⟨by kernel_rfl, by kernel_rfl⟩
theorem gE3 : Tryz.prog.globalNamed "augur/api.ErrLarge" = some 0 ∧ (Tryz.prog.globals[0]?).map (·.type) = some 49 := ⟨by kernel_rfl, by kernel_rfl⟩
theorem gE4 : Tryz.prog.globalNamed "augur/api.ErrNames" = some 5 ∧ (Tryz.prog.globals[5]?).map (·.type) = some 49 := ⟨by kernel_rfl, by kernel_rfl⟩
theorem gE5 : Tryz.prog.globalNamed "augur/api.ErrTypes" = some 6 ∧ (Tryz.prog.globals[6]?).map (·.type) = some 49 := ⟨by kernel_rfl, by kernel_rfl⟩
theorem gE6 : Tryz.prog.globalNamed "augur/api.ErrModes" = some 7 ∧ (Tryz.prog.globals[7]?).map (·.type) = some 49 := ⟨by kernel_rfl, by kernel_rfl⟩
theorem gE7 : Tryz.prog.globalNamed "augur/api.ErrDet" = some 8 ∧ (Tryz.prog.globals[8]?).map (·.type) = some 49 := ⟨by kernel_rfl, by kernel_rfl⟩
theorem gE8 : Tryz.prog.globalNamed "augur/api.ErrNone" = some 9 ∧ (Tryz.prog.globals[9]?).map (·.type) = some 49 := ⟨by kernel_rfl, by kernel_rfl⟩
theorem gE9 : Tryz.prog.globalNamed "augur/api.ErrData" = some 1 ∧ (Tryz.prog.globals[1]?).map (·.type) = some 49 := ⟨by kernel_rfl, by kernel_rfl⟩
theorem gE10 : Tryz.prog.globalNamed "augur/api.ErrBytes" = some 10 ∧ (Tryz.prog.globals[10]?).map (·.type) = some 49 := ⟨by kernel_rfl, by kernel_rfl⟩
theorem gE11 : Tryz.prog.globalNamed "augur/api.ErrCode" = some 11 ∧ (Tryz.prog.globals[11]?).map (·.type) = some 49 := ⟨by kernel_rfl, by kernel_rfl⟩
theorem gE12 : Tryz.prog.globalNamed "augur/api.ErrFuel" = some 12 ∧ (Tryz.prog.globals[12]?).map (·.type) = some 49 := ⟨by kernel_rfl, by kernel_rfl⟩
theorem gE13 : Tryz.prog.globalNamed "augur/api.ErrHeap" = some 13 ∧ (Tryz.prog.globals[13]?).map (·.type) = some 49 := ⟨by kernel_rfl, by kernel_rfl⟩
theorem gE14 : Tryz.prog.globalNamed "augur/api.ErrFrames" = some 14 ∧ (Tryz.prog.globals[14]?).map (·.type) = some 49 := ⟨by kernel_rfl, by kernel_rfl⟩
theorem gE15 : Tryz.prog.globalNamed "augur/api.ErrState" = some 15 ∧ (Tryz.prog.globals[15]?).map (·.type) = some 49 := ⟨by kernel_rfl, by kernel_rfl⟩
theorem gE16 : Tryz.prog.globalNamed "strconv.ErrRange" = some 22 ∧ (Tryz.prog.globals[22]?).map (·.type) = some 49 := ⟨by kernel_rfl, by kernel_rfl⟩
theorem gE17 : Tryz.prog.globalNamed "strconv.ErrSyntax" = some 21 ∧ (Tryz.prog.globals[21]?).map (·.type) = some 49 := ⟨by kernel_rfl, by kernel_rfl⟩
theorem ents18_ok:∀ e ∈ ents18,Tryz.prog.globalNamed e.name=some e.g∧(Tryz.prog.globals[e.g]?).map (·.type)=some 49:=by
 intro e he
 simp only [ents18,List.mem_cons,List.not_mem_nil,or_false] at he
 rcases he with rfl | rfl | rfl | rfl | rfl | rfl | rfl | rfl | rfl | rfl | rfl | rfl | rfl | rfl | rfl | rfl | rfl | rfl
 ·exact gE0
 ·exact gE1
 ·exact gE2
 ·exact gE3
 ·exact gE4
 ·exact gE5
 ·exact gE6
 ·exact gE7
 ·exact gE8
 ·exact gE9
 ·exact gE10
 ·exact gE11
 ·exact gE12
 ·exact gE13
 ·exact gE14
 ·exact gE15
 ·exact gE16
 ·exact gE17
theorem met_of_H21 {W:World} (h:laidMetH Tryz.prog laid21 W):laidMet Tryz.prog laid21 W:=by
 unfold laidMetH at h
 rw [show (laid21.filter fun x=>x.2.handleName?.isSome)=[] from by kernel_rfl] at h
 exact h
theorem env_of_laid21 {W:World} (hH:laidMetH Tryz.prog laid21 W):Env W∧∃ f,Sents W f:=by
 have h:=met_of_H21 hH
 rw [laid21_eq] at h
 have h1:=tl h
 have h2:=tl h1
 have h3:=tl h2
 rw [pow_data] at h2
 obtain ⟨ps,hv,hn,hr⟩:=h3
 obtain ⟨al,e1,e2,e3,e4⟩:=sents_go ents18 [] ps hv hn hr ents18_ok
 have hlen:al.length=18:=e1
 have hat:∀ i,i < 18→al[i]?=some (al.getD i ⟨0,0,none⟩):=fun i hi=>by
  rw [List.getElem?_eq_getElem (by omega),List.getD_eq_getElem?_getD,List.getElem?_eq_getElem (by omega)]
  rfl
 have hp:=Lib.tabIs_of_head gPow gPowT Tryz.underlying204 Tryz.underlying135 cellsU64 cellsPow h2
 refine ⟨⟨?_,?_,?_,hp⟩,fun i=>al.getD i ⟨0,0,none⟩,⟨?_,?_,?_⟩⟩
 ·obtain ⟨ps,⟨g,t,cs,fuel,p,q,hg,_,hv,_⟩,_⟩:=h1
  obtain rfl:=Option.some.inj (gB64.symm.trans hg)
  rcases Nat.lt_or_ge 20 W.heap.size with hlt | hge
  ·omega
  ·simp [World.var?,gB64,Array.getElem?_eq_none hge] at hv
 ·obtain ⟨e,he,hc⟩:=e4 17 _ (hat 17 (by omega))
  cases he
  exact ⟨_,_,hc⟩
 ·obtain ⟨e,he,hc⟩:=e4 16 _ (hat 16 (by omega))
  cases he
  exact ⟨_,_,hc⟩
 ·intro i hi
  obtain ⟨e,he,hc⟩:=e4 i _ (hat i (by omega))
  rcases i with _ | _ | _ | _ | _ | _ | _ | _ | _ | _ | _ | _ | _ | _ | _ | _ | i
  all_goals first | omega | (cases he;exact hc)
 ·intro i hi
  exact (hr _ _ (e3 _ (List.mem_of_getElem? (hat i (by omega))))).1
 ·intro i j hi hj hij he
  have h1:=hat i (by omega)
  have h2:=hat j (by omega)
  exact hij ((List.getElem?_inj (by omega) e2).1 (h1.trans ((congrArg some he).trans h2.symm)))
noncomputable def laidWorld21 (os:Os):World :=
 let w0:=World.holding Tryz.prog os ⟨#[esB Rows.laid_augur_api_ErrText,esB Rows.laid_augur_api_ErrSyntax,esB Rows.laid_augur_api_ErrNest,esB Rows.laid_augur_api_ErrLarge,esB Rows.laid_augur_api_ErrNames,esB Rows.laid_augur_api_ErrTypes,esB Rows.laid_augur_api_ErrModes,esB Rows.laid_augur_api_ErrDet,esB Rows.laid_augur_api_ErrNone,esB Rows.laid_augur_api_ErrData,esB Rows.laid_augur_api_ErrBytes,esB Rows.laid_augur_api_ErrCode,esB Rows.laid_augur_api_ErrFuel,esB Rows.laid_augur_api_ErrHeap,esB Rows.laid_augur_api_ErrFrames,esB Rows.laid_augur_api_ErrState,esB Rows.laid_strconv_ErrRange,esB Rows.laid_strconv_ErrSyntax],#[],[]⟩
 { w0 with heap:=(((((((((((((((((((((w0.heap.modify 19 (putC (dataC Rows.laid_math_bits_deBruijn32tab))).modify 20 (putC (dataC Rows.laid_math_bits_deBruijn64tab))).modify 18 (putC (dataC Rows.laid_internal_strconv_uint64pow10))).modify 2 (esP 0)).modify 3 (esP 1)).modify 4 (esP 2)).modify 0 (esP 3)).modify 5 (esP 4)).modify 6 (esP 5)).modify 7 (esP 6)).modify 8 (esP 7)).modify 9 (esP 8)).modify 1 (esP 9)).modify 10 (esP 10)).modify 11 (esP 11)).modify 12 (esP 12)).modify 13 (esP 13)).modify 14 (esP 14)).modify 15 (esP 15)).modify 22 (esP 16)).modify 21 (esP 17)) }
end Lx
end Go.Proofs.YtiljemkglhloeaaGreatDoor
