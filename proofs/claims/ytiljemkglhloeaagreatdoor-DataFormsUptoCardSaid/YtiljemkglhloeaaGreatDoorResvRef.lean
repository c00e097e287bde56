/- The contract of the reference's Reserved: it tells whether a name is one of the eighteen words. No conditions. -/
import Derived.Test.YtiljemkglhloeaaGreatDoorResv
namespace Go.Proofs.YtiljemkglhloeaaGreatDoor
set_option linter.unusedSimpArgs false
set_option linter.unusedVariables false
namespace Lx
open Go Go.RowKit
theorem refReserved_any (s:ByteArray) (w:World) :
  Calls Tryz.prog 136 #[.string s] w fun e w'=>e=.returned (.bool (resv s.toList))∧Below w.heap.size w w':=by
 go_enter Tryz.func136,Tryz.ntmps136
 go_wp2
 have hw1:Below w.heap.size w (w.alloc (.cells wordsV 9)):=(Below.refl _ _).alloc (Nat.le_refl _) _
 have hw2:∀ k,k < 18→(w.alloc (.cells wordsV 9)).cell? ⟨w.heap.size,k,none⟩=some (.string (wordB k)):=by
  intro k hk
  rw [cell_of_row _ w.heap.size k wordsV 9 (0,0) (by show (w.heap.push _)[w.heap.size]?=_;simp)]
  exact wordsV_get k hk
 unfold wordsV at hw1 hw2
 generalize w.alloc _=w1 at hw1 hw2 ⊢
 have HB:=Lib.hid hw1
 have HC:=Lib.hid hw2
 clear hw1 hw2
 go_loop [7] (fun i=>∃ k:Nat,k≤18∧i=.int .i64 k∧Hid (noneYet s.toList k)) (fun i=>18 - (intOf i).toNat)
 case atStart=>exact ⟨0,by omega,rfl,Lib.hid (fun j hj=>by omega)⟩
 case round =>
  obtain ⟨k,hk,rfl,hn⟩:=hrel
  by_cases hlt:k < 18
  ·have hc:=HC.out k hlt
   have HH:=Lib.hid (words_hit s.toList k hlt)
   have HX:Hid (((wordB k).toList == s.toList)=false→noneYet s.toList (k+1)):=Lib.hid (fun h j hj=>by
    rcases Nat.lt_or_ge j k with h1 | h1
    ·exact hn.out j h1
    ·obtain rfl:j=k:=by omega
     exact h)
   generalize wordB k=x at *
   go_wp2
   ·go_ret
    exact ⟨ret_bool (HH.out ‹_›).symm,HB.out⟩
   ·go_round
    case rel=>exact ⟨k+1,by omega,by go_num,Lib.hid (HX.out ‹_›)⟩
    case measure=>simp [intOf];omega
  ·obtain rfl:k=18:=by omega
   go_wp2
   go_ret
   exact ⟨ret_bool (words_miss _ hn.out).symm,HB.out⟩
end Lx
end Go.Proofs.YtiljemkglhloeaaGreatDoor
