/- Package unify: refuse: the error of types that came in. Conditions: as each states. -/
import Derived.Test.YtnpacamcgifabaaDoorUi
namespace Go.Proofs.YtnpacamcgifabaaDoor
set_option linter.unusedSimpArgs false
set_option linter.unusedVariables false
namespace Lx
open Go Go.RowKit
abbrev errP (a:Addr):Value:=.iface 163 (.pointer (some a))
/-- The three errors, as the package's variables hold them. -/
structure ErrU (f:Nat→Addr) (w:World):Prop where
 large:w.cell? ⟨0,0,none⟩=some (errP (f 0))
 state:w.cell? ⟨1,0,none⟩=some (errP (f 1))
 types:w.cell? ⟨3,0,none⟩=some (errP (f 2))
theorem ErrU.stay (f:Nat→Addr):StayI (ErrU f):=fun w w' h hb =>
 ⟨(hb.cell (World.block_lt_of_cell? w _ h.large)).trans h.large,(hb.cell (World.block_lt_of_cell? w _ h.state)).trans h.state,(hb.cell (World.block_lt_of_cell? w _ h.types)).trans h.types⟩
/-- The error of types that are handed in; none. -/
def refuseV (f:Nat→Addr) (m:Int) (l:List TyT):Value:=if l.any (strange m)=true then errP (f 1) else if l.any largeT=true then errP (f 0) else .nilIface
theorem I_true:StayI (fun _=>True):=fun _ _ _ _=>trivial
set_option maxRecDepth 100000 in
set_option maxHeartbeats 2000000 in
theorem refuse_any (f:Nat→Addr) (b m d:Nat) (Vol:Nat→Prop) (l:List TyT) (v:Value) (w:World) (hv:RowW 4 (TyW d) Vol l v w) (ht:TabC b m w) (he:ErrU f w) :
  Calls Tryd.prog 49 #[.pointer (some ⟨b,0,none⟩),v] w fun e w'=>e=.returned (refuseV f m l)∧Below w.heap.size w w':=by
 have H1:=Lib.hid (contains_strange ⟨b,0,none⟩ (strange (m:Int)) (TabC b m) (TabC.stay b m) d (Lib.hid (strange_any b m d)) Vol l v w hv ht)
 have H2:=Lib.hid (fun W hb=>contains_large largeT (fun _=>True) I_true d (Lib.hid (large_any d)) Vol l v W ((RowW.step (TyW.step d)).below hv hb) trivial)
 have HE:=Lib.hid he
 have hq:refuseV f m l=if l.any (strange (m:Int))=true then errP (f 1) else if l.any largeT=true then errP (f 0) else .nilIface:=rfl
 have HQ:=Lib.hid hq
 clear hv ht he hq
 cases h1:l.any (strange (m:Int)) <;> rw [h1] at H1 HQ
 ·cases h2:l.any largeT <;> rw [h2] at H2 HQ
  all_goals
   clear h1 h2
   go_enter Tryd.func49,Tryd.ntmps49
   go_wp2_with fail
   refine H1.out.mono ?_
   rintro e w1 ⟨rfl,hb1⟩
   go_wp2_with fail
   refine (H2.out w1 hb1).mono ?_
   rintro e w2 ⟨rfl,hb2⟩
   have HB:=Lib.hid (hb1.trans (hb2.mono hb1.size))
   have hl:=(ErrU.stay f _ _ HE.out HB.out).large
   clear hb1 hb2
   go_wp2_with fail
   go_ret
   exact ⟨by rw [HQ.out];rfl,HB.out⟩
 ·clear h1 H2
  go_enter Tryd.func49,Tryd.ntmps49
  go_wp2_with fail
  refine H1.out.mono ?_
  rintro e w1 ⟨rfl,hb1⟩
  have HB:=Lib.hid hb1
  have hl:=(ErrU.stay f _ _ HE.out HB.out).state
  clear hb1
  go_wp2_with fail
  go_ret
  exact ⟨by rw [HQ.out];rfl,HB.out⟩
end Lx
end Go.Proofs.YtnpacamcgifabaaDoor
