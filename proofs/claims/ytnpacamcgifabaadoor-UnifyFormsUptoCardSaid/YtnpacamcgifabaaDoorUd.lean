/- Package unify: isStrange, nodes, isLarge: what they give for a type that came in. Conditions: as each states. -/
import Derived.Test.YtnpacamcgifabaaDoorUc
import Derived.BigQuiet
namespace Go.Proofs.YtnpacamcgifabaaDoor
set_option linter.unusedSimpArgs false
set_option linter.unusedVariables false
namespace Lx
open Go Go.RowKit
/-- A table's slice: so many unknowns. -/
def TabC (b:Nat) (m:Nat) (w:World):Prop:=b < w.heap.size∧∃ A c,w.cell? ⟨b,0,none⟩=some (.slice A m c)
theorem TabC.stay (b m:Nat):StayI (TabC b m):=by
 rintro w w' ⟨h0,A,c,h⟩ hb
 exact ⟨Nat.lt_of_lt_of_le h0 hb.size,A,c,by rw [World.cell?_of_block (hb.block b h0)];exact h⟩
set_option maxRecDepth 100000 in
set_option maxHeartbeats 2000000 in
theorem strange_step (b m:Nat) (d:Nat) (HC:Hid (Test_strange ⟨b,0,none⟩ (strange (m:Int)) (TabC b m) d)):Test_strange ⟨b,0,none⟩ (strange (m:Int)) (TabC b m) (d+1):=by
 rintro Vol ⟨k,s,n,l⟩ v w ⟨va,rfl,hr⟩ hi
 obtain ⟨A1,c1,rfl⟩:=hr.slice
 have hb0:=below_alloc w (.cells #[.int .i64 k,.string s,.int .i64 n,.slice A1 l.length c1] 32)
 have HX:=Lib.hid (contains_strange ⟨b,0,none⟩ (strange (m:Int)) (TabC b m) (TabC.stay b m) d HC Vol l _ _ ((RowW.step (TyW.step d)).below hr hb0) (TabC.stay b m _ _ hi hb0))
 obtain ⟨_,A,c,ht⟩:=TabC.stay b m _ _ hi hb0
 have HB:=Lib.hid hb0
 clear hr hi hb0
 by_cases k1:k=1
 ·subst k1
  clear ht
  go_enter Tryd.func83,Tryd.ntmps83
  go_wp2_with fail
  go_ret
  exact ⟨by simp [strange],HB.out⟩
 ·by_cases k3:k=3
  ·subst k3
   clear ht
   go_enter Tryd.func83,Tryd.ntmps83
   go_wp2_with fail
   go_ret
   exact ⟨by simp [strange],HB.out⟩
  ·by_cases k2:k=2
   ·subst k2
    clear ht
    go_enter Tryd.func83,Tryd.ntmps83
    go_wp2_with (go_at_call 82;refine HX.out.mono ?_;rintro e w3 ⟨rfl,hb⟩;have HB3:=Lib.hid (HB.out.trans (hb.mono HB.out.size));clear hb)
    go_ret
    exact ⟨by simp [strange,stranges_any],HB3.out⟩
   ·by_cases k4:k=4
    ·subst k4
     clear HX k1 k2 k3
     by_cases hn:n < 0
     ·have hd:decide (n < 0)=true:=by simpa using hn
      go_enter Tryd.func83,Tryd.ntmps83
      go_wp2_with fail
      go_quiet (fail)
      go_wp2_with fail
      go_ret
      exact ⟨by simp [strange,hn],below_drewN HB.out _⟩
     ·have hd:decide (n < 0)=false:=by simpa using hn
      go_enter Tryd.func83,Tryd.ntmps83
      go_wp2_with fail
      go_quiet (fail)
      go_wp2_with fail
      go_ret
      exact ⟨by simp [strange,hn];omega,below_drewN HB.out _⟩
    ·have e1:(k == 1)=false:=by simpa using k1
     have e2:(k == 2)=false:=by simpa using k2
     have e3:(k == 3)=false:=by simpa using k3
     have e4:(k == 4)=false:=by simpa using k4
     clear ht
     go_enter Tryd.func83,Tryd.ntmps83
     go_wp2_with fail
     go_ret
     exact ⟨by simp [strange,k1,k2,k3,k4],HB.out⟩
theorem strange_any (b m:Nat):∀ d,Test_strange ⟨b,0,none⟩ (strange (m:Int)) (TabC b m) d
 | 0=>fun _ _ _ _ h _=>h.elim
 | d+1=>strange_step b m d (Lib.hid (strange_any b m d))
end Lx
end Go.Proofs.YtnpacamcgifabaaDoor
