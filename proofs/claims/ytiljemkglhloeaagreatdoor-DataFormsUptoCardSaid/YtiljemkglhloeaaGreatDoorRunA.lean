/- The contracts of package lex's tests on bytes, of 'run' and of 'skip': each returns what the plain function of the same make gives, and leaves the world as it was. Conditions: a byte lies in 0 .. 255; a text's size fits an int. -/
/- The contracts of package lex's 'run' at its three tests, and of 'skip': a run's length; the first place that belongs to neither a blank nor a comment. Conditions: a text's size fits an int. -/
import Derived.Test.YtiljemkglhloeaaGreatDoorPlainA
import Derived.Test.YtiljemkglhloeaaGreatDoorProg
import Derived.WalkKit
import Derived.WalkSpells
import Derived.WalkLawsBesides
import Derived.Lib.Hide
import Derived.Lib.Strings
import Derived.Lib.IndexBytes
namespace Go.Proofs.YtiljemkglhloeaaGreatDoor
set_option linter.unusedSimpArgs false
set_option linter.unusedVariables false
namespace Lx
open Go Go.RowKit
theorem ret_bool {a b:Bool} (h:a=b):Ending.returned (.bool a)=.returned (.bool b):=by rw [h]
theorem ret_int {k:IntKind} {a b:Int} (h:a=b):Ending.returned (.int k a)=.returned (.int k b):=by rw [h]
theorem low_any (x:Int) (w:World) :
  Calls Tryz.prog 160 #[.int .u8 x] w fun e w'=>e=.returned (.bool (lowI x))∧w=w':=by
 go_enter Tryz.func160,Tryz.ntmps160
 go_wp2
 all_goals go_ret
 all_goals (refine ⟨ret_bool ?_,rfl⟩;unfold lowI;simp;try omega)
theorem up_any (x:Int) (w:World) :
  Calls Tryz.prog 162 #[.int .u8 x] w fun e w'=>e=.returned (.bool (upI x))∧w=w':=by
 go_enter Tryz.func162,Tryz.ntmps162
 go_wp2
 all_goals go_ret
 all_goals (refine ⟨ret_bool ?_,rfl⟩;unfold upI;simp;try omega)
theorem dig_any (x:Int) (w:World) :
  Calls Tryz.prog 163 #[.int .u8 x] w fun e w'=>e=.returned (.bool (digI x))∧w=w':=by
 go_enter Tryz.func163,Tryz.ntmps163
 go_wp2
 all_goals go_ret
 all_goals (refine ⟨ret_bool ?_,rfl⟩;unfold digI;simp;try omega)
theorem cmt_any (x:Int) (w:World) :
  Calls Tryz.prog 159 #[.int .u8 x] w fun e w'=>e=.returned (.bool (cmtI x))∧w=w':=by
 go_enter Tryz.func159,Tryz.ntmps159
 go_wp2
 all_goals go_ret
 all_goals exact ⟨rfl,rfl⟩
theorem blk_any (x:Int) (w:World) :
  Calls Tryz.prog 157 #[.int .u8 x] w fun e w'=>e=.returned (.bool (blkI x))∧w=w':=by
 go_enter Tryz.func157,Tryz.ntmps157
 go_wp2
 all_goals go_ret
 all_goals (refine ⟨ret_bool ?_,rfl⟩;simp [blkI, *])
theorem word_any (x:Int) (w:World) :
  Calls Tryz.prog 179 #[.int .u8 x] w fun e w'=>e=.returned (.bool (wordI x))∧w=w':=by
 have hw:wordI x=(lowI x || upI x || digI x || x == 95):=rfl
 have HW:=Lib.hid hw;clear hw
 have hl:=low_any x
 have hu:=up_any x
 have hd:=dig_any x
 have HL:=Lib.hid hl;clear hl
 have HU:=Lib.hid hu;clear hu
 have HD:=Lib.hid hd;clear hd
 generalize lowI x=a at HL HW
 generalize upI x=b at HU HW
 generalize digI x=c at HD HW
 cases a <;> cases b <;> cases c
 all_goals
  go_enter Tryz.func179,Tryz.ntmps179
  go_wp2_with (first | (go_at_call 160;refine (HL.out _).mono ?_;rintro e w' ⟨rfl,rfl⟩) | (go_at_call 162;refine (HU.out _).mono ?_;rintro e w' ⟨rfl,rfl⟩) | (go_at_call 163;refine (HD.out _).mono ?_;rintro e w' ⟨rfl,rfl⟩))
  go_ret
  exact ⟨ret_bool (by rw [HW.out];simp),rfl⟩
end Lx
end Go.Proofs.YtiljemkglhloeaaGreatDoor
namespace Go.Proofs.YtiljemkglhloeaaGreatDoor
set_option linter.unusedSimpArgs false
set_option linter.unusedVariables false
namespace Lx
open Go Go.RowKit
theorem runB_step (p:Int→Bool) (s:ByteArray) (k:Nat) (hk:k < s.size) (h:p ((s[k]).toNat:Int)=true):runL p (s.data.toList.drop k)=runL p (s.data.toList.drop (k+1))+1 :=
 runL_step p s.data.toList k (by simpa using hk) (by rw [Array.getElem_toList];exact h)
theorem runB_end (p:Int→Bool) (s:ByteArray) (k:Nat) (hk:k < s.size) (h:p ((s[k]).toNat:Int)=false):runL p (s.data.toList.drop k)=0 :=
 runL_end p s.data.toList k (by simpa using hk) (by rw [Array.getElem_toList];exact h)
theorem runB_over (p:Int→Bool) (s:ByteArray) (k:Nat) (hk:s.size≤k):runL p (s.data.toList.drop k)=0 :=
 runL_over p s.data.toList k (by simpa using hk)
theorem ext_list (s:ByteArray) (k:Nat):(s.extract k s.size).data.toList=s.data.toList.drop k:=by
 simp only [ByteArray.data_extract,Array.toList_extract,List.extract_eq_take_drop]
 exact List.take_of_length_le (by simp)
theorem skipB_blank (s:ByteArray) (k:Nat) (hk:k < s.size) (h:blkI ((s[k]).toNat:Int)=true):skipL false (s.data.toList.drop k)=skipL false (s.data.toList.drop (k+1))+1 :=
 skip_blank s.data.toList k (by simpa using hk) (by rw [Array.getElem_toList];exact h)
theorem skipB_comment (s:ByteArray) (k:Nat) (hk:k < s.size) (hb:blkI ((s[k]).toNat:Int)=false) (h:(((s[k]).toNat:Int) == 37)=true) :
  ∃ n:Nat,runL cmtI (s.extract k s.size).data.toList=n∧1≤n∧k+n≤s.size∧skipL false (s.data.toList.drop k)=n+skipL false (s.data.toList.drop (k+n)):=by
 obtain ⟨h1,h2,h3⟩:=skip_comment s.data.toList k (by simpa using hk) (by rw [Array.getElem_toList];exact hb) (by rw [Array.getElem_toList];exact h)
 exact ⟨_,by rw [ext_list],h1,by simpa using h2,h3⟩
theorem skipB_done (s:ByteArray) (k:Nat) (hk:k < s.size) (hb:blkI ((s[k]).toNat:Int)=false) (h:(((s[k]).toNat:Int) == 37)=false):skipL false (s.data.toList.drop k)=0 :=
 skip_done s.data.toList k (by simpa using hk) (by rw [Array.getElem_toList];exact hb) (by rw [Array.getElem_toList];exact h)
theorem run_word (s:ByteArray) (hs:s.size≤9223372036854775807) (w:World) :
  Calls Tryz.prog 158 #[.string s,.func (.func 179) #[] #[]] w fun e w'=>e=.returned (.int .i64 (runL wordI s.data.toList))∧w=w':=by
 have HW:=Lib.hid word_any
 go_enter Tryz.func158,Tryz.ntmps158
 go_wp2
 go_loop [5] (fun i=>∃ k:Nat,k≤s.size∧i=.int .i64 k∧Hid (runL wordI s.data.toList=k+runL wordI (s.data.toList.drop k))) (fun i=>s.size - (intOf i).toNat)
 case atStart=>exact ⟨0,Nat.zero_le _,rfl,Lib.hid (by simp)⟩
 case round =>
  obtain ⟨k,hk,rfl,hr⟩:=hrel
  by_cases hlt:k < s.size
  ·have HS:=Lib.hid (runB_step wordI s k hlt)
   have HE:=Lib.hid (runB_end wordI s k hlt)
   go_wp2_with (go_at_call 179;refine (HW.out _ _).mono ?_;rintro e w' ⟨rfl,rfl⟩)
   ·go_round
    case rel=>exact ⟨k+1,by omega,by go_num,Lib.hid (by rw [hr.out,HS.out ‹_›];omega)⟩
    case measure=>simp [intOf];omega
   ·go_ret
    exact ⟨ret_int (by rw [hr.out,HE.out ‹_›];omega),rfl⟩
  ·have HO:=Lib.hid (runB_over wordI s k (by omega))
   go_wp2
   go_ret
   exact ⟨ret_int (by rw [hr.out,HO.out];omega),rfl⟩
theorem run_dig (s:ByteArray) (hs:s.size≤9223372036854775807) (w:World) :
  Calls Tryz.prog 158 #[.string s,.func (.func 163) #[] #[]] w fun e w'=>e=.returned (.int .i64 (runL digI s.data.toList))∧w=w':=by
 have HW:=Lib.hid dig_any
 go_enter Tryz.func158,Tryz.ntmps158
 go_wp2
 go_loop [5] (fun i=>∃ k:Nat,k≤s.size∧i=.int .i64 k∧Hid (runL digI s.data.toList=k+runL digI (s.data.toList.drop k))) (fun i=>s.size - (intOf i).toNat)
 case atStart=>exact ⟨0,Nat.zero_le _,rfl,Lib.hid (by simp)⟩
 case round =>
  obtain ⟨k,hk,rfl,hr⟩:=hrel
  by_cases hlt:k < s.size
  ·have HS:=Lib.hid (runB_step digI s k hlt)
   have HE:=Lib.hid (runB_end digI s k hlt)
   go_wp2_with (go_at_call 163;refine (HW.out _ _).mono ?_;rintro e w' ⟨rfl,rfl⟩)
   ·go_round
    case rel=>exact ⟨k+1,by omega,by go_num,Lib.hid (by rw [hr.out,HS.out ‹_›];omega)⟩
    case measure=>simp [intOf];omega
   ·go_ret
    exact ⟨ret_int (by rw [hr.out,HE.out ‹_›];omega),rfl⟩
  ·have HO:=Lib.hid (runB_over digI s k (by omega))
   go_wp2
   go_ret
   exact ⟨ret_int (by rw [hr.out,HO.out];omega),rfl⟩
theorem run_cmt (s:ByteArray) (hs:s.size≤9223372036854775807) (w:World) :
  Calls Tryz.prog 158 #[.string s,.func (.func 159) #[] #[]] w fun e w'=>e=.returned (.int .i64 (runL cmtI s.data.toList))∧w=w':=by
 have HW:=Lib.hid cmt_any
 go_enter Tryz.func158,Tryz.ntmps158
 go_wp2
 go_loop [5] (fun i=>∃ k:Nat,k≤s.size∧i=.int .i64 k∧Hid (runL cmtI s.data.toList=k+runL cmtI (s.data.toList.drop k))) (fun i=>s.size - (intOf i).toNat)
 case atStart=>exact ⟨0,Nat.zero_le _,rfl,Lib.hid (by simp)⟩
 case round =>
  obtain ⟨k,hk,rfl,hr⟩:=hrel
  by_cases hlt:k < s.size
  ·have HS:=Lib.hid (runB_step cmtI s k hlt)
   have HE:=Lib.hid (runB_end cmtI s k hlt)
   go_wp2_with (go_at_call 159;refine (HW.out _ _).mono ?_;rintro e w' ⟨rfl,rfl⟩)
   ·go_round
    case rel=>exact ⟨k+1,by omega,by go_num,Lib.hid (by rw [hr.out,HS.out ‹_›];omega)⟩
    case measure=>simp [intOf];omega
   ·go_ret
    exact ⟨ret_int (by rw [hr.out,HE.out ‹_›];omega),rfl⟩
  ·have HO:=Lib.hid (runB_over cmtI s k (by omega))
   go_wp2
   go_ret
   exact ⟨ret_int (by rw [hr.out,HO.out];omega),rfl⟩
theorem skip_any (s:ByteArray) (hs:s.size≤9223372036854775807) (p:Nat) (hp:p≤s.size) (w:World) :
  Calls Tryz.prog 139 #[.string s,.int .i64 p] w fun e w'=>e=.returned (.int .i64 ((p+skipL false (s.data.toList.drop p):Nat):Int))∧w=w':=by
 have HB:=Lib.hid blk_any
 have HC:=Lib.hid run_cmt
 go_enter Tryz.func139,Tryz.ntmps139
 go_wp2
 go_loop [1] (fun i=>∃ k:Nat,k≤s.size∧i=.int .i64 k∧Hid (p+skipL false (s.data.toList.drop p)=k+skipL false (s.data.toList.drop k))) (fun i=>s.size - (intOf i).toNat)
 case atStart=>exact ⟨p,hp,rfl,Lib.hid rfl⟩
 case round =>
  obtain ⟨k,hk,rfl,hr⟩:=hrel
  by_cases hlt:k < s.size
  ·have H1:=Lib.hid (skipB_blank s k hlt)
   have H2:=Lib.hid (skipB_comment s k hlt)
   have H3:=Lib.hid (skipB_done s k hlt)
   by_cases hb:blkI ((s[k]).toNat:Int)=true
   ·go_wp2_with (go_at_call 157;refine (HB.out _ _).mono ?_;rintro e w' ⟨rfl,rfl⟩)
    go_round
    case rel=>exact ⟨k+1,by omega,by go_num,Lib.hid (by have:=hr.out;have:=H1.out hb;omega)⟩
    case measure=>simp [intOf];omega
   ·have hb':blkI ((s[k]).toNat:Int)=false:=by simpa using hb
    clear hb
    by_cases h:(((s[k]).toNat:Int) == 37)=true
    ·obtain ⟨n,hn,h1,h2,h3⟩:=H2.out hb' h
     have HN:=Lib.hid hn;clear hn
     have HT:=Lib.hid h3;clear h3
     go_wp2_with (first | (go_at_call 157;refine (HB.out _ _).mono ?_;rintro e w' ⟨rfl,rfl⟩) | (go_at_call 158;refine (HC.out _ (by simp;omega) _).mono ?_;rw [HN.out];rintro e w' ⟨rfl,rfl⟩))
     go_round
     case rel=>exact ⟨k+n,h2,by go_num,Lib.hid (by have:=hr.out;have:=HT.out;omega)⟩
     case measure=>simp [intOf];omega
    ·have h':(((s[k]).toNat:Int) == 37)=false:=by simpa using h
     clear h
     go_wp2_with (go_at_call 157;refine (HB.out _ _).mono ?_;rintro e w' ⟨rfl,rfl⟩)
     go_ret
     exact ⟨ret_int (by have:=hr.out;have:=H3.out hb' h';omega),rfl⟩
  ·have HO:=Lib.hid (skip_over s.data.toList k (by simp;omega))
   go_wp2
   go_ret
   exact ⟨ret_int (by have:=hr.out;have:=HO.out;omega),rfl⟩
end Lx
end Go.Proofs.YtiljemkglhloeaaGreatDoor
