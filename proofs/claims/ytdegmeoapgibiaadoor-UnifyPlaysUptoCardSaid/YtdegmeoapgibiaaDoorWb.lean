/- The sixteen errors of package api, as the rows list them: each variable holds a pointer to a cell of its own, no two the same; the contract of the reference's Num; a world in which they hold so. Conditions: as each states. -/
import Derived.Test.YtdegmeoapgibiaaDoorUv
import Derived.LaidEql
namespace Go.Proofs.YtdegmeoapgibiaaDoor
set_option linter.unusedSimpArgs false
set_option linter.unusedVariables false
namespace Lx
open Go.ChangeShapes Go.WideShapes Go.ChangeAt Go.RowKit
/-- A listed sentinel: its variable's name and number, its text. -/
structure SEnt where
 name:String
 g:Nat
 text:List UInt8
def SEnt.laid (e : SEnt) : String × DataW Unit := (e.name, .iface "*errors.errorString" (.ptr (.agg [.lit (.string e.text)])))
set_option maxRecDepth 100000 in
theorem sents_go {W:World}:∀ (L:List SEnt) (R:Laid) (ps:List MemPlace),DataW.LaidVars Tryd.prog W (L.map SEnt.laid++R) ps→ps.Nodup →
  (∀ b off,MemPlace.cell b off ∈ ps→(∃ c t,W.heap[b]?=some (.cells c t (0,0)))∧∀ u v,W.cell? ⟨b,off,none⟩=some (.iface u v)→Value.okWide Tryd.prog W .any 0 u v) →
  (∀ e ∈ L,Tryd.prog.globalNamed e.name=some e.g∧(Tryd.prog.globals[e.g]?).map (·.type)=some 38) →
  ∃ al:List Addr,al.length=L.length∧al.Nodup∧(∀ a ∈ al,MemPlace.cell a.block a.off ∈ ps)∧∀ (i:Nat) (a:Addr),al[i]?=some a→∃ e:SEnt,L[i]?=some e∧W.cell? ⟨e.g,0,none⟩=some (errP a)
 | [],_,_,_,_,_,_=>⟨[],rfl,.nil,by simp,by simp⟩
 | e :: L,R,ps,hv,hn,hr,hg=>by
  simp only [List.map_cons,List.cons_append,SEnt.laid] at hv
  obtain ⟨g,t,cs,fuel,p,q,h1,h2,h3,h4,h5,rfl⟩:=hv
  obtain ⟨k1,k2⟩:=hg e (List.mem_cons_self ..)
  obtain rfl:=Option.some.inj (k1.symm.trans h1)
  obtain rfl:=Option.some.inj (k2.symm.trans h2)
  have hcell:=World.var?_cell h1 h3 0
  obtain ⟨l0⟩:=cs
  have ok0:∀ u v,l0=[.iface u v]→Value.okWide Tryd.prog W .any 0 u v:=fun u v h=>by
   subst h
   exact (hr e.g 0 (by simp [MemPlace.row])).2 u v (by simpa using hcell)
  obtain ⟨a0,s0,rfl,_,_,_,rfl⟩:=errorString_of_trod Tryd.underlying38 rowES Tryd.underlying125 Tryd.underlying141 rfl rfl Tryd.underlying9 cellsES cellsS1 h4 ok0
  have hpl:MemPlace.row a0 1=[.cell a0.block a0.off]:=by simp [MemPlace.row]
  rw [hpl] at hn hr ⊢
  have hn2:=List.nodup_append.1 hn
  obtain ⟨al,e1,e2,e3,e4⟩:=sents_go L R q h5 hn2.2.1 (fun b off hb=>hr b off (List.mem_append_right _ hb)) (fun x hx=>hg x (List.mem_cons_of_mem _ hx))
  refine ⟨a0 :: al,by simp [e1],List.nodup_cons.2 ⟨fun hm=>?_,e2⟩,?_,?_⟩
  ·exact hn2.2.2 (.cell a0.block a0.off) (List.mem_append_right _ (List.mem_singleton.2 rfl)) _ (e3 a0 hm) rfl
  ·intro a ha
   rcases List.mem_cons.1 ha with rfl | ha
   ·exact List.mem_append_left _ (List.mem_append_right _ (List.mem_singleton.2 rfl))
   ·exact List.mem_append_right _ (e3 a ha)
  ·intro i a hi
   cases i with
   | zero =>
    simp only [List.getElem?_cons_zero,Option.some.injEq] at hi
    subst hi
    exact ⟨e,rfl,by simpa using hcell⟩
   | succ i =>
    simp only [List.getElem?_cons_succ] at hi ⊢
    exact e4 i a hi
/-- The sixteen variables, in the document's order. -/
def errId:Nat→Nat
 | 0=>3 | 1=>4 | 2=>5 | 3=>0 | 4=>6 | 5=>2 | 6=>7 | 7=>8
 | 8=>9 | 9=>10 | 10=>11 | 11=>12 | 12=>13 | 13=>14 | 14=>15 | _=>1
structure Sents (w:World) (f:Nat→Addr):Prop where
 cell:∀ i,i < 16→w.cell? ⟨errId i,0,none⟩=some (errP (f i))
 block:∀ i,i < 16→∃ c t,w.heap[(f i).block]?=some (.cells c t (0,0))
 ne:∀ i j,i < 16→j < 16→i ≠ j→f i ≠ f j
theorem Sents.below {w w':World} {f:Nat→Addr} (h:Sents w f) (hb:Below w.heap.size w w'):Sents w' f :=
 ⟨fun i hi=>(hb.cell (World.block_lt_of_cell? w _ (h.cell i hi))).trans (h.cell i hi),fun i hi=>by
  obtain ⟨c,t,e⟩:=h.block i hi
  exact ⟨c,t,(hb.block _ (Array.getElem?_eq_some_iff.1 e).1).trans e⟩,h.ne⟩
theorem eqlS_same (a:Addr) (W:World):(binOp .eql 38 (errP a) (errP a)).run Tryd.prog W=.ok (.bool true) W:=by
 obtain ⟨i,hi,hc⟩:∃ i,Tryd.prog.info? 125=some i∧i.comparable=true:=by
  have h:(Tryd.prog.info? 125).map (·.comparable)=some true:=by kernel_rfl
  cases h2:Tryd.prog.info? 125 with
  | none=>rw [h2] at h;cases h
  | some i=>rw [h2] at h;exact ⟨i,rfl,by simpa using h⟩
 obtain ⟨j,hj⟩:∃ j,Tryd.prog.info? 141=some j:=by
  have h:(Tryd.prog.info? 141).isSome=true:=by kernel_rfl
  exact Option.isSome_iff_exists.1 h
 exact run_eql_iface_ptr_same W a Tryd.underlying38 Tryd.underlying125 hi hc hj
theorem eqlS_other {a b:Addr} (W:World) (hne:a ≠ b) (ha:∃ c t,W.heap[a.block]?=some (.cells c t (0,0))) (hb:∃ c t,W.heap[b.block]?=some (.cells c t (0,0))):(binOp .eql 38 (errP a) (errP b)).run Tryd.prog W=.ok (.bool false) W:=by
 obtain ⟨i,hi,hc⟩:∃ i,Tryd.prog.info? 125=some i∧i.comparable=true:=by
  have h:(Tryd.prog.info? 125).map (·.comparable)=some true:=by kernel_rfl
  cases h2:Tryd.prog.info? 125 with
  | none=>rw [h2] at h;cases h
  | some i=>rw [h2] at h;exact ⟨i,rfl,by simpa using h⟩
 obtain ⟨j,hj,hs⟩:∃ j,Tryd.prog.info? 141=some j∧j.size ≠ 0:=by
  have h:(Tryd.prog.info? 141).map (·.size)=some 1:=by kernel_rfl
  cases h2:Tryd.prog.info? 141 with
  | none=>rw [h2] at h;cases h
  | some i=>rw [h2] at h;exact ⟨i,rfl,by simp only [Option.map_some,Option.some.injEq] at h;omega⟩
 obtain ⟨_,_,ha⟩:=ha
 obtain ⟨_,_,hb⟩:=hb
 exact run_eql_iface_ptr_other W Tryd.underlying38 Tryd.underlying125 hi hc hj hs hne ha hb
theorem num_nil (w:World):Calls Tryd.prog 13 #[.nilIface] w fun e w'=>e=.returned (.int .i64 0)∧w=w':=by
 go_enter Tryd.func13,Tryd.ntmps13
 go_wp2_with fail
 go_ret
 exact ⟨rfl,rfl⟩
def rowS (f:Nat→Addr):Array Value:=#[errP (f 0),errP (f 1),errP (f 2),errP (f 3),errP (f 4),errP (f 5),errP (f 6),errP (f 7),errP (f 8),errP (f 9),errP (f 10),errP (f 11),errP (f 12),errP (f 13),errP (f 14),errP (f 15)]
theorem rowS_at (f:Nat→Addr) (k:Nat) (hk:k < 16):(rowS f)[k]?=some (errP (f k)):=by
 rcases k with _ | _ | _ | _ | _ | _ | _ | _ | _ | _ | _ | _ | _ | _ | _ | _ | k
 all_goals first | rfl | omega
set_option maxRecDepth 100000 in
set_option maxHeartbeats 2000000 in
theorem num_at (f:Nat→Addr) (i:Nat) (hi:i < 16) (w:World) (hS:Sents w f) :
  Calls Tryd.prog 13 #[errP (f i)] w fun e w'=>e=.returned (.int .i64 ((i:Int)+1))∧Below w.heap.size w w':=by
 have HS:=Lib.hid hS
 have c0:=hS.cell 0 (by omega)
 have c1:=hS.cell 1 (by omega)
 have c2:=hS.cell 2 (by omega)
 have c3:=hS.cell 3 (by omega)
 have c4:=hS.cell 4 (by omega)
 have c5:=hS.cell 5 (by omega)
 have c6:=hS.cell 6 (by omega)
 have c7:=hS.cell 7 (by omega)
 have c8:=hS.cell 8 (by omega)
 have c9:=hS.cell 9 (by omega)
 have c10:=hS.cell 10 (by omega)
 have c11:=hS.cell 11 (by omega)
 have c12:=hS.cell 12 (by omega)
 have c13:=hS.cell 13 (by omega)
 have c14:=hS.cell 14 (by omega)
 have c15:=hS.cell 15 (by omega)
 simp only [errId] at c0 c1 c2 c3 c4 c5 c6 c7 c8 c9 c10 c11 c12 c13 c14 c15
 clear hS
 go_enter Tryd.func13,Tryd.ntmps13
 go_wp2_with fail
 clear c0 c1 c2 c3 c4 c5 c6 c7 c8 c9 c10 c11 c12 c13 c14 c15
 go_loop [27] (fun u=>∃ k:Nat,k≤i∧u=.int .i64 k) (fun u=>16 - (intOf u).toNat)
 case atStart=>exact ⟨0,Nat.zero_le _,rfl⟩
 case round =>
  obtain ⟨k,hk,rfl⟩:=hrel
  have hb:Below w.heap.size w (w.alloc (.cells (rowS f) 38)):=(Below.refl _ _).alloc (Nat.le_refl _) _
  have hcell:(w.alloc (.cells (rowS f) 38)).cell? ⟨w.heap.size,k,none⟩=some (errP (f k)):=by
   rw [cell_of_row _ w.heap.size k _ _ _ (heap_alloc_new w _)]
   exact rowS_at f k (by omega)
  have hS2:=HS.out.below hb
  unfold rowS at hcell hS2
  by_cases hki:k=i
  ·have heq:=eqlS_same (f k)
   subst hki
   go_wp2_with fail
   go_ret
   exact ⟨rfl,(Below.refl _ _).alloc (Nat.le_refl _) _⟩
  ·have heq:=eqlS_other _ (hS2.ne i k hi (by omega) (fun e=>hki e.symm)) (hS2.block i hi) (hS2.block k (by omega))
   clear hS2
   go_wp2_with fail
   go_round
   case rel=>exact ⟨k+1,by omega,by go_num⟩
   case measure=>simp [intOf];omega
def textOf:DataW Unit→List UInt8
 | .iface _ (.ptr (.agg [.lit (.string l)]))=>l
 | _=>[]
def ents16 : List SEnt := [⟨ "augur/api.ErrText", 3, textOf Rows.laid_augur_api_ErrText⟩, ⟨ "augur/api.ErrSyntax", 4, textOf Rows.laid_augur_api_ErrSyntax⟩, ⟨ "augur/api.ErrNest", 5, textOf Rows.laid_augur_api_ErrNest⟩, ⟨ "augur/api.ErrLarge", 0, textOf Rows.laid_augur_api_ErrLarge⟩, ⟨ "augur/api.ErrNames", 6, textOf Rows.laid_augur_api_ErrNames⟩, ⟨ "augur/api.ErrTypes", 2, textOf Rows.laid_augur_api_ErrTypes⟩, ⟨ "augur/api.ErrModes", 7, textOf Rows.laid_augur_api_ErrModes⟩, ⟨ "augur/api.ErrDet", 8, textOf Rows.laid_augur_api_ErrDet⟩, ⟨ "augur/api.ErrNone", 9, textOf Rows.laid_augur_api_ErrNone⟩, ⟨ "augur/api.ErrData", 10, textOf Rows.laid_augur_api_ErrData⟩, ⟨ "augur/api.ErrBytes", 11, textOf Rows.laid_augur_api_ErrBytes⟩, ⟨ "augur/api.ErrCode", 12, textOf Rows.laid_augur_api_ErrCode⟩, ⟨ "augur/api.ErrFuel", 13, textOf Rows.laid_augur_api_ErrFuel⟩, ⟨ "augur/api.ErrHeap", 14, textOf Rows.laid_augur_api_ErrHeap⟩, ⟨ "augur/api.ErrFrames", 15, textOf Rows.laid_augur_api_ErrFrames⟩, ⟨ "augur/api.ErrState", 1, textOf Rows.laid_augur_api_ErrState⟩]
def laid16 : Laid := [("augur/api.ErrText", Rows.laid_augur_api_ErrText), ("augur/api.ErrSyntax", Rows.laid_augur_api_ErrSyntax), ("augur/api.ErrNest", Rows.laid_augur_api_ErrNest), ("augur/api.ErrLarge", Rows.laid_augur_api_ErrLarge), ("augur/api.ErrNames", Rows.laid_augur_api_ErrNames), ("augur/api.ErrTypes", Rows.laid_augur_api_ErrTypes), ("augur/api.ErrModes", Rows.laid_augur_api_ErrModes), ("augur/api.ErrDet", Rows.laid_augur_api_ErrDet), ("augur/api.ErrNone", Rows.laid_augur_api_ErrNone), ("augur/api.ErrData", Rows.laid_augur_api_ErrData), ("augur/api.ErrBytes", Rows.laid_augur_api_ErrBytes), ("augur/api.ErrCode", Rows.laid_augur_api_ErrCode), ("augur/api.ErrFuel", Rows.laid_augur_api_ErrFuel), ("augur/api.ErrHeap", Rows.laid_augur_api_ErrHeap), ("augur/api.ErrFrames", Rows.laid_augur_api_ErrFrames), ("augur/api.ErrState", Rows.laid_augur_api_ErrState)]
theorem laid16_eq:laid16=(ents16.map SEnt.laid++[]):=rfl
theorem gE0 : Tryd.prog.globalNamed "augur/api.ErrText" = some 3 ∧ (Tryd.prog.globals[3]?).map (·.type) = some 38 := ⟨by kernel_rfl, by kernel_rfl⟩
theorem gE1 : Tryd.prog.globalNamed "augur/api.ErrSyntax" = some 4 ∧ (Tryd.prog.globals[4]?).map (·.type) = some 38 := ⟨by kernel_rfl, by kernel_rfl⟩
theorem gE2 : Tryd.prog.globalNamed "augur/api.ErrNest" = some 5 ∧ (Tryd.prog.globals[5]?).map (·.type) = some 38 := ⟨by kernel_rfl, by kernel_rfl⟩
theorem gE3 : Tryd.prog.globalNamed "augur/api.ErrLarge" = some 0 ∧ (Tryd.prog.globals[0]?).map (·.type) = some 38 := ⟨by kernel_rfl, by kernel_rfl⟩
theorem gE4 : Tryd.prog.globalNamed "augur/api.ErrNames" = some 6 ∧ (Tryd.prog.globals[6]?).map (·.type) = some 38 := ⟨by kernel_rfl, by kernel_rfl⟩
theorem gE5 : Tryd.prog.globalNamed "augur/api.ErrTypes" = some 2 ∧ (Tryd.prog.globals[2]?).map (·.type) = some 38 := ⟨by kernel_rfl, by kernel_rfl⟩
theorem gE6 : Tryd.prog.globalNamed "augur/api.ErrModes" = some 7 ∧ (Tryd.prog.globals[7]?).map (·.type) = some 38 := ⟨by kernel_rfl, by kernel_rfl⟩
theorem gE7 : Tryd.prog.globalNamed "augur/api.ErrDet" = some 8 ∧ (Tryd.prog.globals[8]?).map (·.type) = some 38 := ⟨by kernel_rfl, by kernel_rfl⟩
theorem gE8 : Tryd.prog.globalNamed "augur/api.ErrNone" = some 9 ∧ (Tryd.prog.globals[9]?).map (·.type) = some 38 := ⟨by kernel_rfl, by kernel_rfl⟩
theorem gE9 : Tryd.prog.globalNamed "augur/api.ErrData" = some 10 ∧ (Tryd.prog.globals[10]?).map (·.type) = some 38 := ⟨by kernel_rfl, by kernel_rfl⟩
theorem gE10 : Tryd.prog.globalNamed "augur/api.ErrBytes" = some 11 ∧ (Tryd.prog.globals[11]?).map (·.type) = some 38 := ⟨by kernel_rfl, by kernel_rfl⟩
theorem gE11 : Tryd.prog.globalNamed "augur/api.ErrCode" = some 12 ∧ (Tryd.prog.globals[12]?).map (·.type) = some 38 := ⟨by kernel_rfl, by kernel_rfl⟩
theorem gE12 : Tryd.prog.globalNamed "augur/api.ErrFuel" = some 13 ∧ (Tryd.prog.globals[13]?).map (·.type) = some 38 := ⟨by kernel_rfl, by kernel_rfl⟩
theorem gE13 : Tryd.prog.globalNamed "augur/api.ErrHeap" = some 14 ∧ (Tryd.prog.globals[14]?).map (·.type) = some 38 := ⟨by kernel_rfl, by kernel_rfl⟩
theorem gE14 : Tryd.prog.globalNamed "augur/api.ErrFrames" = some 15 ∧ (Tryd.prog.globals[15]?).map (·.type) = some 38 := ⟨by kernel_rfl, by kernel_rfl⟩
theorem gE15 : Tryd.prog.globalNamed "augur/api.ErrState" = some 1 ∧ (Tryd.prog.globals[1]?).map (·.type) = some 38 := ⟨by kernel_rfl, by kernel_rfl⟩
theorem ents16_ok:∀ e ∈ ents16,Tryd.prog.globalNamed e.name=some e.g∧(Tryd.prog.globals[e.g]?).map (·.type)=some 38:=by
 intro e he
 simp only [ents16,List.mem_cons,List.not_mem_nil,or_false] at he
 rcases he with rfl | rfl | rfl | rfl | rfl | rfl | rfl | rfl | rfl | rfl | rfl | rfl | rfl | rfl | rfl | rfl
 ·exact gE0
 ·exact gE1
 ·exact gE2
 ·exact gE3
 ·exact gE4
 ·exact gE5
 ·exact gE6
 ·exact gE7
 ·exact gE8
 ·exact gE9
 ·exact gE10
 ·exact gE11
 ·exact gE12
 ·exact gE13
 ·exact gE14
 ·exact gE15
theorem met_of_H16 {W:World} (h:laidMetH Tryd.prog laid16 W):laidMet Tryd.prog laid16 W:=by
 unfold laidMetH at h
 rw [show (laid16.filter fun x=>x.2.handleName?.isSome)=[] from by kernel_rfl] at h
 exact h
theorem env_of_laid16 {W:World} (hH:laidMetH Tryd.prog laid16 W):∃ f,Sents W f:=by
 have h3:=met_of_H16 hH
 rw [laid16_eq] at h3
 obtain ⟨ps,hv,hn,hr⟩:=h3
 obtain ⟨al,e1,e2,e3,e4⟩:=sents_go ents16 [] ps hv hn hr ents16_ok
 have hlen:al.length=16:=e1
 have hat:∀ i,i < 16→al[i]?=some (al.getD i ⟨0,0,none⟩):=fun i hi=>by
  rw [List.getElem?_eq_getElem (by omega),List.getD_eq_getElem?_getD,List.getElem?_eq_getElem (by omega)]
  rfl
 refine ⟨fun i=>al.getD i ⟨0,0,none⟩,⟨?_,?_,?_⟩⟩
 ·intro i hi
  obtain ⟨e,he,hc⟩:=e4 i _ (hat i (by omega))
  rcases i with _ | _ | _ | _ | _ | _ | _ | _ | _ | _ | _ | _ | _ | _ | _ | _ | i
  all_goals first | omega | (cases he;exact hc)
 ·intro i hi
  exact (hr _ _ (e3 _ (List.mem_of_getElem? (hat i (by omega))))).1
 ·intro i j hi hj hij he
  have h1:=hat i (by omega)
  have h2:=hat j (by omega)
  exact hij ((List.getElem?_inj (by omega) e2).1 (h1.trans ((congrArg some he).trans h2.symm)))
/-- The three errors of package unify among the sixteen. -/
def three (f:Nat→Addr) (i:Nat):Addr:=if i=0 then f 3 else if i=1 then f 15 else f 5
theorem Sents.three {w:World} {f:Nat→Addr} (h:Sents w f):ErrU (three f) w:=⟨h.cell 3 (by omega),h.cell 15 (by omega),h.cell 5 (by omega)⟩
noncomputable def laidWorld16 (os:Os):World :=
 let w0:=World.holding Tryd.prog os ⟨#[esB Rows.laid_augur_api_ErrText,esB Rows.laid_augur_api_ErrSyntax,esB Rows.laid_augur_api_ErrNest,esB Rows.laid_augur_api_ErrLarge,esB Rows.laid_augur_api_ErrNames,esB Rows.laid_augur_api_ErrTypes,esB Rows.laid_augur_api_ErrModes,esB Rows.laid_augur_api_ErrDet,esB Rows.laid_augur_api_ErrNone,esB Rows.laid_augur_api_ErrData,esB Rows.laid_augur_api_ErrBytes,esB Rows.laid_augur_api_ErrCode,esB Rows.laid_augur_api_ErrFuel,esB Rows.laid_augur_api_ErrHeap,esB Rows.laid_augur_api_ErrFrames,esB Rows.laid_augur_api_ErrState],#[],[]⟩
 { w0 with heap:=((((((((((((((((w0.heap.modify 3 (esP 0)).modify 4 (esP 1)).modify 5 (esP 2)).modify 0 (esP 3)).modify 6 (esP 4)).modify 2 (esP 5)).modify 7 (esP 6)).modify 8 (esP 7)).modify 9 (esP 8)).modify 10 (esP 9)).modify 11 (esP 10)).modify 12 (esP 11)).modify 13 (esP 12)).modify 14 (esP 13)).modify 15 (esP 14)).modify 1 (esP 15)) }
end Lx
end Go.Proofs.YtdegmeoapgibiaaDoor
