/- The statements' example: it holds. Conditions: the error variables hold their errors. -/
import Derived.Test.YtnpacamcgifabaaDoorUq
namespace Go.Proofs.YtnpacamcgifabaaDoor
set_option linter.unusedSimpArgs false
set_option linter.unusedVariables false
namespace Lx
open Go Go.RowKit
theorem rowT_of {B b:Nat} {A:Option Addr} {c:Nat} {w:World} (h:TabF B b 2 A c w):∃ g R,A=some ⟨g,0,none⟩∧B≤g∧RowT b g 2 c ⟨.int .i64 0 :: .string ⟨#[]⟩ :: .int .i64 0 :: .slice none 0 0 :: .int .i64 1 :: .slice none 0 0 :: .int .i64 0 :: .string ⟨#[]⟩ :: .int .i64 0 :: .slice none 0 0 :: .int .i64 1 :: .slice none 0 0 :: R⟩ w:=by
 obtain ⟨_,hbk,ho⟩:=h
 rcases ho.2 with ⟨_,e⟩ | ⟨g,cap,cur,e,hB,hg,h1,h2,h3,h4⟩
 ·omega
 ·injection e with e _ e2
  subst e e2
  refine ⟨g,cur.toList.drop 12,rfl,hB,hbk,?_,by simp⟩
  rw [hg]
  congr 2
  have:cur.toList=freeCells 2++cur.toList.drop 12:=by rw [← h4];exact (List.take_append_drop 12 cur.toList).symm
  calc cur=⟨cur.toList⟩:=rfl
   _=⟨freeCells 2++cur.toList.drop 12⟩:=by rw [← this]
   _=_:=rfl
theorem data_any (s:ByteArray) (A:Option Addr) (l c:Nat) (w:World):Calls Tryd.prog 48 #[.string s,.slice A l c] w fun e w'=>e=.returned (.agg #[.int .i64 2,.string s,.int .i64 0,.slice A l c])∧Below w.heap.size w w':=by
 go_enter Tryd.func48,Tryd.ntmps48
 go_wp2_with fail
 exact bodyPost_ret (v:=.agg #[.int .i64 2,.string s,.int .i64 0,.slice A l c]) (by simp [results,Tryd.results48,go_sem]) rfl ⟨rfl,below_alloc _ _⟩
theorem eqlE_same (a:Addr) (W:World):(binOp .eql 38 (.iface 163 (.pointer (some a))) (.iface 163 (.pointer (some a)))).run Tryd.prog W=.ok (.bool true) W:=by
 obtain ⟨i,hi,hc⟩:∃ i,Tryd.prog.info? 163=some i∧i.comparable=true:=by
  have h:(Tryd.prog.info? 163).map (·.comparable)=some true:=by kernel_rfl
  cases h2:Tryd.prog.info? 163 with
  | none=>rw [h2] at h;cases h
  | some i=>rw [h2] at h;exact ⟨i,rfl,by simpa using h⟩
 obtain ⟨j,hj⟩:∃ j,Tryd.prog.info? 178=some j:=by
  have h:(Tryd.prog.info? 178).isSome=true:=by kernel_rfl
  exact Option.isSome_iff_exists.1 h
 exact run_eql_iface_ptr_same W a Tryd.underlying38 Tryd.underlying163 hi hc hj
/-- The example's first table: two unknowns that are not bound; list of the first and list of int. -/
theorem first_unify (f:Nat→Addr) (b g c:Nat) (R:List Value) (s:ByteArray) (g1 g2:Nat) (w:World)
  (h:RowT b g 2 c ⟨.int .i64 0 :: .string ⟨#[]⟩ :: .int .i64 0 :: .slice none 0 0 :: .int .i64 1 :: .slice none 0 0 :: R⟩ w) (he:ErrU f w)
  (h1:TyW 2 (fun _=>False) (.mk 2 s 0 [.mk 4 ⟨#[]⟩ 0 []]) (.agg #[.int .i64 2,.string s,.int .i64 0,.slice (some ⟨g1,0,none⟩) 1 1]) w)
  (h2:TyW 2 (fun _=>False) (.mk 2 s 0 [.mk 1 ⟨#[]⟩ 0 []]) (.agg #[.int .i64 2,.string s,.int .i64 0,.slice (some ⟨g2,0,none⟩) 1 1]) w) :
  Calls Tryd.prog 18 #[.pointer (some ⟨b,0,none⟩),.agg #[.int .i64 2,.string s,.int .i64 0,.slice (some ⟨g1,0,none⟩) 1 1],.agg #[.int .i64 2,.string s,.int .i64 0,.slice (some ⟨g2,0,none⟩) 1 1]] w
   fun e w'=>e=.returned .nilIface∧∃ A' c',RowT b g 2 c ⟨.int .i64 1 :: .string ⟨#[]⟩ :: .int .i64 0 :: .slice A' 0 c' :: .int .i64 1 :: .slice none 0 0 :: R⟩ w'∧Kb (fun k=>k=g) w w':=by
 refine unify_gen f b 2 2 _ _ _ _ _ _ _ w h1 h2 ⟨by decide,⟨by decide,trivial⟩,trivial⟩ ⟨by decide,⟨by decide,trivial⟩,trivial⟩ (fun k e=>e.elim) h.tab he ?_ (Lib.hid ?_)
 ·have e1:nodesZ (.mk 2 s 0 [.mk 4 ⟨#[]⟩ 0 []])=2:=by simp [nodesZ,nodesZs]
  have e2:nodesZ (.mk 2 s 0 [.mk 1 ⟨#[]⟩ 0 []])=2:=by simp [nodesZ,nodesZs]
  have e3:decide (IntKind.i64.wrap 2 > 200)=false:=by decide
  simp [refuseV,largeT,e1,e2,e3,strange,stranges]
 ·intro W vA vB hb hA hB
  simp only [cleanT,cleanTs,if_true] at hA hB
  obtain ⟨va,rfl,A1,c1,rfl,k1,_,r1⟩:=hA
  obtain ⟨vb,rfl,A2,c2,rfl,k2,_,r2⟩:=hB
  obtain ⟨p1,o1,u1,rfl,lt1,_,⟨z1,rfl,B1,m1,rfl,_⟩,cc1⟩:=r1 0 (by simp)
  obtain ⟨p2,o2,u2,rfl,lt2,_,⟨z2,rfl,B2,m2,rfl,_⟩,cc2⟩:=r2 0 (by simp)
  have hR:=RowT.stay _ _ _ _ _ _ _ h hb
  have q1:=And.intro ((cc1 0 (by decide)).trans rfl) (And.intro ((cc1 1 (by decide)).trans rfl) (And.intro ((cc1 2 (by decide)).trans rfl) ((cc1 3 (by decide)).trans rfl)))
  have q2:=And.intro ((cc2 0 (by decide)).trans rfl) (And.intro ((cc2 1 (by decide)).trans rfl) (And.intro ((cc2 2 (by decide)).trans rfl) ((cc2 3 (by decide)).trans rfl)))
  simp only [cellsL,Value.cells,List.getElem?_cons_zero,List.getElem?_cons_succ,Nat.zero_mul,Nat.add_zero] at q1 q2
  refine unify_one b s 0 0 p1 o1 c1 p2 o2 c2 4 0 1 0 ⟨#[]⟩ ⟨#[]⟩ B1 B2 0 m1 0 m2 _ W lt1 lt2 q1 q2 (Lib.hid fun X hX=>?_)
  have hRX:=RowT.stay _ _ _ _ _ _ _ hR hX
  refine unify_free b 2 0 ⟨#[]⟩ B1 0 m1 1 0 ⟨#[]⟩ B2 0 m2 (by decide) _ _ X (hRX.cell rfl) (by decide) (Lib.hid fun Y hY=>?_)
  have hRY:=RowT.stay _ _ _ _ _ _ _ hRX hY
  refine (bind_int B2 m2 b g c _ _ _ _ _ R Y hRY).mono fun e w' ⟨e1,e2,e3⟩=>⟨e1,B2,m2,e2,?_⟩
  exact (Kb.of_below (hb.trans ((hX.trans (hY.mono hX.size)).mono hb.size))).trans e3
/-- The second: an unknown and a list of it. -/
theorem second_unify (f:Nat→Addr) (b g c:Nat) (y0 y1 y2 y3 y4 y5:Value) (R:List Value) (s:ByteArray) (g2:Nat) (w:World)
  (h:RowT b g 2 c ⟨y0 :: y1 :: y2 :: y3 :: y4 :: y5 :: .int .i64 0 :: R⟩ w) (he:ErrU f w)
  (h2:TyW 2 (fun _=>False) (.mk 2 s 0 [.mk 4 ⟨#[]⟩ 1 []]) (.agg #[.int .i64 2,.string s,.int .i64 0,.slice (some ⟨g2,0,none⟩) 1 1]) w) :
  Calls Tryd.prog 18 #[.pointer (some ⟨b,0,none⟩),.agg #[.int .i64 4,.string ⟨#[]⟩,.int .i64 1,.slice none 0 0],.agg #[.int .i64 2,.string s,.int .i64 0,.slice (some ⟨g2,0,none⟩) 1 1]] w
   fun e w'=>e=.returned (errP (f 2))∧Below w.heap.size w w':=by
 have h1:TyW 2 (fun _=>False) (.mk 4 ⟨#[]⟩ 1 []) (.agg #[.int .i64 4,.string ⟨#[]⟩,.int .i64 1,.slice none 0 0]) w:=⟨_,rfl,RowW.nil _ _⟩
 refine unify_gen f b 2 2 _ _ _ _ _ _ _ w h1 h2 ⟨by decide,trivial⟩ ⟨by decide,⟨by decide,trivial⟩,trivial⟩ (fun k e=>e.elim) h.tab he ?_ (Lib.hid ?_)
 ·have e1:nodesZ (.mk 4 ⟨#[]⟩ 1 [])=1:=by simp [nodesZ]
  have e2:nodesZ (.mk 2 s 0 [.mk 4 ⟨#[]⟩ 1 []])=2:=by simp [nodesZ,nodesZs]
  have e3:decide (IntKind.i64.wrap 2 > 200)=false:=by decide
  have e4:decide (IntKind.i64.wrap 1 > 200)=false:=by decide
  simp [refuseV,largeT,e1,e2,e3,e4,strange,stranges]
 ·intro W vA vB hb hA hB
  simp only [cleanT,cleanTs,if_true] at hA hB
  obtain ⟨va,rfl,A1,c1,rfl,k1,_,r1⟩:=hA
  obtain ⟨vb,rfl,A2,c2,rfl,k2,_,r2⟩:=hB
  obtain ⟨p2,o2,u2,rfl,lt2,_,⟨z2,rfl,B2,m2,rfl,_⟩,cc2⟩:=r2 0 (by simp)
  have hR:=RowT.stay _ _ _ _ _ _ _ h hb
  have q2:=And.intro ((cc2 0 (by decide)).trans rfl) (And.intro ((cc2 1 (by decide)).trans rfl) (And.intro ((cc2 2 (by decide)).trans rfl) ((cc2 3 (by decide)).trans rfl)))
  simp only [cellsL,Value.cells,List.getElem?_cons_zero,List.getElem?_cons_succ,Nat.zero_mul,Nat.add_zero] at q2
  refine unify_free b 2 1 ⟨#[]⟩ A1 0 c1 2 0 s (some ⟨p2,o2,none⟩) 1 c2 (by decide) _ _ W (hR.cell rfl) (by decide) (Lib.hid fun Y hY=>?_)
  have heY:=ErrU.stay f _ _ he (hb.trans (hY.mono hb.size))
  refine (bind_in f b 1 2 0 s (some ⟨p2,o2,none⟩) 1 c2 Y heY (Lib.hid fun Z hZ=>?_)).mono fun e w' ⟨e1,e2⟩=>⟨e1,(hb.trans (hY.mono hb.size)).trans (e2.mono (hb.trans (hY.mono hb.size)).size)⟩
  have hWZ:Below W.heap.size W Z:=hY.trans (hZ.mono hY.size)
  refine occurs_top b 1 2 0 2 0 s s _ _ 1 c2 1 c2 true Z (Lib.hid fun X hX=>head_other b 2 0 s (some ⟨p2,o2,none⟩) 1 c2 X (by decide)) (fun e=>by cases e) (Lib.hid fun _ X hX=>?_)
  have hWX:Below W.heap.size W X:=hWZ.trans (hX.1.mono hWZ.size)
  obtain ⟨a0,a1,a2,a3⟩:=cells4 lt2 q2 hWX
  exact occursRow1 b 2 1 1 ⟨#[]⟩ B2 0 m2 Z X hX (RowT.cell (RowT.stay _ _ _ _ _ _ _ hR hWX) rfl) (by decide) rfl p2 o2 c2 a0 a1 a2 a3
end Lx
end Go.Proofs.YtnpacamcgifabaaDoor
