/- The library's IndexFunc and ContainsFunc over rows of types, at tests that only read: whether one of the row has it. Conditions: as each states. -/
import Derived.Test.YtnpacamcgifabaaDoorUxA
namespace Go.Proofs.YtnpacamcgifabaaDoor
set_option linter.unusedSimpArgs false
set_option linter.unusedVariables false
namespace Lx
open Go Go.RowKit
/-- A condition on memory that new blocks don't touch. -/
def StayI (I:World→Prop):Prop:=∀ w w',I w→Below w.heap.size w w'→I w'
/-- What a test on types gives, wherever it is made. -/
def Test_strange (t:Addr) (p:TyT→Bool) (I:World→Prop) (d:Nat):Prop:=∀ (Vol:Nat→Prop) (x:TyT) (v:Value) (w:World),TyW d Vol x v w→I w→Calls Tryd.prog 83 #[.pointer (some t),v] w fun e w'=>e=.returned (.bool (p x))∧Below w.heap.size w w'
set_option maxRecDepth 100000 in
set_option maxHeartbeats 2000000 in
theorem index_strange (t:Addr) (p:TyT→Bool) (I:World→Prop) (hI:StayI I) (d:Nat) (HC:Hid (Test_strange t p I d)) (Vol:Nat→Prop) (l:List TyT) (v:Value) (w:World) (hv:RowW 4 (TyW d) Vol l v w) (hi:I w) :
  Calls Tryd.prog 104 #[v,.func (.func 83) #[.pointer (some t)] #[]] w fun e w'=>∃ r:Int,e=.returned (.int .i64 r)∧decide (r ≥ 0)=l.any p∧Below w.heap.size w w':=by
 obtain ⟨A,c,rfl⟩:=hv.slice
 have hfew:=hv.few
 unfold maxLen at hfew
 have HV:=Lib.hid hv
 have HI:=Lib.hid hi
 have HS:=Lib.hid hI
 clear hv hi hI
 go_enter Tryd.func104,Tryd.ntmps104
 go_wp2_with fail
 go_loopw [8] (fun t wr=>∃ k:Nat,k≤l.length∧t=.int .i64 k∧Hid (Below w.heap.size w wr)∧Hid (∀ (j:Nat) (h:j < l.length),j < k→p l[j]=false)) (fun t _=>l.length - (intOf t).toNat)
 case atStart=>exact ⟨0,Nat.zero_le _,rfl,Lib.hid (Below.refl _ _),Lib.hid (fun j _ h=>by omega)⟩
 case round =>
  obtain ⟨k,hk,rfl,HB,HN⟩:=hrel
  by_cases hlt:k < l.length
  ·obtain ⟨g,o,vi,rfl,hg,_,hvi,hc⟩:=RowW.at ((RowW.step (TyW.step d)).below HV.out HB.out) k hlt
   obtain ⟨B1,n1,c1,rfl⟩:=hvi.this
   have a0:=(hc 0 (by decide)).trans rfl
   have a1:=(hc 1 (by decide)).trans rfl
   have a2:=(hc 2 (by decide)).trans rfl
   have a3:=(hc 3 (by decide)).trans rfl
   simp only [cellsL,Value.cells,List.getElem?_cons_zero,List.getElem?_cons_succ,Nat.add_zero] at a0 a1 a2 a3
   have HX:=Lib.hid (HC.out Vol l[k] _ _ hvi (HS.out _ _ HI.out HB.out))
   have hk0:(0:Int)≤(k:Int):=by omega
   have hk1:(k:Int) < (l.length:Int):=by omega
   have hdc:decide (k < l.length)=true:=by simpa using hlt
   clear hc hvi
   cases hp:p l[k]
   all_goals
    rw [hp] at HX
    go_wp2_with (go_at_call 83;refine HX.out.mono ?_;rintro e w3 ⟨rfl,hb3⟩;have HB3:=Lib.hid (HB.out.trans (hb3.mono HB.out.size));clear hb3)
   ·go_roundw
    case rel=>exact ⟨k+1,by omega,by go_num,HB3,Lib.hid (fun j h hj=>by
     by_cases e:j=k
     ·subst e;exact hp
     ·exact HN.out j h (by omega))⟩
    case measure=>simp [intOf];omega
   ·go_ret
    exact ⟨(k:Int),rfl,by
     have:l.any p=true:=List.any_eq_true.2 ⟨l[k],List.getElem_mem _,hp⟩
     rw [this];simp,HB3.out⟩
  ·obtain rfl:k=l.length:=by omega
   have hdc:decide (l.length < l.length)=false:=by simp
   go_wp2_with fail
   go_ret
   exact ⟨-1,rfl,by
    have:l.any p=false:=by
     rw [List.any_eq_false]
     intro x hx
     obtain ⟨j,hj,rfl⟩:=List.getElem_of_mem hx
     rw [HN.out j hj hj];simp
    rw [this];rfl,HB.out⟩
theorem contains_strange (t:Addr) (p:TyT→Bool) (I:World→Prop) (hI:StayI I) (d:Nat) (HC:Hid (Test_strange t p I d)) (Vol:Nat→Prop) (l:List TyT) (v:Value) (w:World) (hv:RowW 4 (TyW d) Vol l v w) (hi:I w) :
  Calls Tryd.prog 82 #[v,.func (.func 83) #[.pointer (some t)] #[]] w fun e w'=>e=.returned (.bool (l.any p))∧Below w.heap.size w w':=by
 have HX:=Lib.hid (index_strange t p I hI d HC Vol l v w hv hi)
 clear hv hi hI
 go_enter Tryd.func82,Tryd.ntmps82
 go_wp2_with (go_at_call 104;refine HX.out.mono ?_;rintro e w3 ⟨r,rfl,hr,hb⟩;have HR:=Lib.hid hr;have HB:=Lib.hid hb;clear hr hb)
 go_ret
 exact ⟨by rw [HR.out];rfl,HB.out⟩
/-- What a test on types gives, wherever it is made. -/
def Test_large  (p:TyT→Bool) (I:World→Prop) (d:Nat):Prop:=∀ (Vol:Nat→Prop) (x:TyT) (v:Value) (w:World),TyW d Vol x v w→I w→Calls Tryd.prog 84 #[v] w fun e w'=>e=.returned (.bool (p x))∧Below w.heap.size w w'
set_option maxRecDepth 100000 in
set_option maxHeartbeats 2000000 in
theorem index_large  (p:TyT→Bool) (I:World→Prop) (hI:StayI I) (d:Nat) (HC:Hid (Test_large  p I d)) (Vol:Nat→Prop) (l:List TyT) (v:Value) (w:World) (hv:RowW 4 (TyW d) Vol l v w) (hi:I w) :
  Calls Tryd.prog 104 #[v,.func (.func 84) #[] #[]] w fun e w'=>∃ r:Int,e=.returned (.int .i64 r)∧decide (r ≥ 0)=l.any p∧Below w.heap.size w w':=by
 obtain ⟨A,c,rfl⟩:=hv.slice
 have hfew:=hv.few
 unfold maxLen at hfew
 have HV:=Lib.hid hv
 have HI:=Lib.hid hi
 have HS:=Lib.hid hI
 clear hv hi hI
 go_enter Tryd.func104,Tryd.ntmps104
 go_wp2_with fail
 go_loopw [8] (fun t wr=>∃ k:Nat,k≤l.length∧t=.int .i64 k∧Hid (Below w.heap.size w wr)∧Hid (∀ (j:Nat) (h:j < l.length),j < k→p l[j]=false)) (fun t _=>l.length - (intOf t).toNat)
 case atStart=>exact ⟨0,Nat.zero_le _,rfl,Lib.hid (Below.refl _ _),Lib.hid (fun j _ h=>by omega)⟩
 case round =>
  obtain ⟨k,hk,rfl,HB,HN⟩:=hrel
  by_cases hlt:k < l.length
  ·obtain ⟨g,o,vi,rfl,hg,_,hvi,hc⟩:=RowW.at ((RowW.step (TyW.step d)).below HV.out HB.out) k hlt
   obtain ⟨B1,n1,c1,rfl⟩:=hvi.this
   have a0:=(hc 0 (by decide)).trans rfl
   have a1:=(hc 1 (by decide)).trans rfl
   have a2:=(hc 2 (by decide)).trans rfl
   have a3:=(hc 3 (by decide)).trans rfl
   simp only [cellsL,Value.cells,List.getElem?_cons_zero,List.getElem?_cons_succ,Nat.add_zero] at a0 a1 a2 a3
   have HX:=Lib.hid (HC.out Vol l[k] _ _ hvi (HS.out _ _ HI.out HB.out))
   have hk0:(0:Int)≤(k:Int):=by omega
   have hk1:(k:Int) < (l.length:Int):=by omega
   have hdc:decide (k < l.length)=true:=by simpa using hlt
   clear hc hvi
   cases hp:p l[k]
   all_goals
    rw [hp] at HX
    go_wp2_with (go_at_call 84;refine HX.out.mono ?_;rintro e w3 ⟨rfl,hb3⟩;have HB3:=Lib.hid (HB.out.trans (hb3.mono HB.out.size));clear hb3)
   ·go_roundw
    case rel=>exact ⟨k+1,by omega,by go_num,HB3,Lib.hid (fun j h hj=>by
     by_cases e:j=k
     ·subst e;exact hp
     ·exact HN.out j h (by omega))⟩
    case measure=>simp [intOf];omega
   ·go_ret
    exact ⟨(k:Int),rfl,by
     have:l.any p=true:=List.any_eq_true.2 ⟨l[k],List.getElem_mem _,hp⟩
     rw [this];simp,HB3.out⟩
  ·obtain rfl:k=l.length:=by omega
   have hdc:decide (l.length < l.length)=false:=by simp
   go_wp2_with fail
   go_ret
   exact ⟨-1,rfl,by
    have:l.any p=false:=by
     rw [List.any_eq_false]
     intro x hx
     obtain ⟨j,hj,rfl⟩:=List.getElem_of_mem hx
     rw [HN.out j hj hj];simp
    rw [this];rfl,HB.out⟩
theorem contains_large  (p:TyT→Bool) (I:World→Prop) (hI:StayI I) (d:Nat) (HC:Hid (Test_large  p I d)) (Vol:Nat→Prop) (l:List TyT) (v:Value) (w:World) (hv:RowW 4 (TyW d) Vol l v w) (hi:I w) :
  Calls Tryd.prog 82 #[v,.func (.func 84) #[] #[]] w fun e w'=>e=.returned (.bool (l.any p))∧Below w.heap.size w w':=by
 have HX:=Lib.hid (index_large  p I hI d HC Vol l v w hv hi)
 clear hv hi hI
 go_enter Tryd.func82,Tryd.ntmps82
 go_wp2_with (go_at_call 104;refine HX.out.mono ?_;rintro e w3 ⟨r,rfl,hr,hb⟩;have HR:=Lib.hid hr;have HB:=Lib.hid hb;clear hr hb)
 go_ret
 exact ⟨by rw [HR.out];rfl,HB.out⟩
end Lx
end Go.Proofs.YtnpacamcgifabaaDoor
