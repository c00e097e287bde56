/- An argument that is a row of numbers: its cells. No conditions beyond what each theorem names. -/
import Derived.Test.YtajomoclbpobhaaGreatDoorLawPN
import Derived.Deep.Slices
import Derived.ChangeSame
import Derived.ChangeShapes
import Derived.WideShapes
namespace Go.Proofs.YtajomoclbpobhaaGreatDoor
set_option linter.unusedSimpArgs false
set_option linter.unusedVariables false
namespace Lx
open Go Go.ChangeShapes Go.WideShapes Go.Deep Go.RowKit
theorem cellsInt1:Tryz.prog.cellsOf 3=1:=by kernel_rfl
section
variable {H:Type} {enc:TypeId × Value→H} {w:World} {base:Nat} {spare:Nat→Bool} {held:Bool}
theorem open_nums {fuel:Nat} {cs:List Value} {x:DataW H × List MemPlace} (h:DataW.trod enc Tryz.prog w base spare held fuel 69 cs=some x) :
  cs=[.slice none 0 0] ∨ ∃ (a:Addr) (zs:List Int) (cap:Nat),cs=[.slice (some a) zs.length cap]∧zs.length≤maxLen∧(0 < zs.length→MemPlace.cell a.block a.off ∈ x.2)∧∀ i (hi:i < zs.length),w.cell? (a.add i)=some (.int .i64 zs[i]):=by
 rcases open_slice1 Tryz.underlying69 cellsInt1 h with ⟨h0,_⟩ | ⟨a,len,cap,m,n,V,D,Pl,rfl,hb,hl,hm,hmm,rfl,hx⟩
 ·exact .inl h0
 right
 have hlm:len≤m:=by rw [hmm];split <;> omega
 obtain ⟨q,hq⟩:=choose_lt (n:=len) (p:=fun i (z:Int)=>w.cell? (a.add i)=some (.int .i64 z)) (fun i hi=>by
  obtain ⟨h1,h2⟩:=hx i (by omega)
  obtain ⟨z,e,_,_⟩:=DataW.trod_int Tryz.underlying3 h2
  obtain e:=(List.cons.inj e).1
  exact ⟨z,by rw [h1,e]⟩)
 refine ⟨a,(List.range len).map q,cap,by simp,by simp;omega,fun h0=>?_,fun i hi=>?_⟩
 ·have h1:0 < len:=by simpa using h0
  exact List.mem_append_left _ (MemPlace.mem_row.2 ⟨0,by omega,by simp⟩)
 ·have hi':i < len:=by simpa using hi
  have e:((List.range len).map q)[i]=q i:=by simp
  rw [e]
  exact hq i hi'
theorem intRow_of {a:Addr} {zs:List Int} (hlt:0 < zs.length→a.block < w.heap.size) (h:∀ i (hi:i < zs.length),w.cell? (a.add i)=some (.int .i64 zs[i])):IntRow w (some a) zs:=by
 intro hne
 have h0:0 < zs.length:=List.length_pos_iff.2 hne
 obtain ⟨b,off,spot⟩:=a
 have hspot:spot=none:=by simpa [Addr.add] using World.cell?_spot (h 0 h0)
 subst hspot
 exact ⟨b,off,rfl,hlt h0,fun j hj=>by
  have:=h j hj
  simp only [Addr.add] at this
  split at this
  ·rename_i e
   subst e
   exact this
  ·exact this⟩
end
end Lx
end Go.Proofs.YtajomoclbpobhaaGreatDoor
