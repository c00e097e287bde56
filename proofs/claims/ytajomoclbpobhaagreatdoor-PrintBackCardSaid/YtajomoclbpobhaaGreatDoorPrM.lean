/- The contract of layer 3's 'alive': it returns true. Conditions: the error variables and the tables of words hold what they should. -/
import Derived.Test.YtajomoclbpobhaaGreatDoorPrIt
import Derived.Test.YtajomoclbpobhaaGreatDoorPrA
import Derived.Test.YtajomoclbpobhaaGreatDoorPlainA
namespace Go.Proofs.YtajomoclbpobhaaGreatDoor
set_option linter.unusedSimpArgs false
set_option linter.unusedVariables false
namespace Lx
open Go Go.RowKit
theorem pal_num:Lib.itoa (-9223372036854775808)=[45,57,50,50,51,51,55,50,48,51,54,56,53,52,55,55,53,56,48,56]:=by
 rw [show (-9223372036854775808:Int)=-((9223372036854775808:Nat):Int) from rfl,Lib.itoa_neg _ (by decide)]
 rw [dig_step 9223372036854775808 (by decide) (dig_step _ (by decide) (dig_step _ (by decide) (dig_step _ (by decide) (dig_step _ (by decide) (dig_step _ (by decide) (dig_step _ (by decide) (dig_step _ (by decide) (dig_step _ (by decide) (dig_step _ (by decide) (dig_step _ (by decide) (dig_step _ (by decide) (dig_step _ (by decide) (dig_step _ (by decide) (dig_step _ (by decide) (dig_step _ (by decide) (dig_step _ (by decide) (dig_step _ (by decide) (Lib.decDigits_one (by decide)))))))))))))))))))]
 rfl
theorem palT_form:termF (.mk 2 [] (-9223372036854775808) [])=[45,57,50,50,51,51,55,50,48,51,54,56,53,52,55,55,53,56,48,56]:=by
 rw [termF,if_pos rfl,pal_num]
 rfl
theorem palI_ok:∀ x ∈ [palI],itemOk x:=by
 intro x hx
 obtain rfl:x=palI:=by simpa using hx
 refine ⟨by simp [palI],?_⟩
 simp [palI,goalOk,goalsOk,termsOk,zeroT_ok]
set_option maxRecDepth 100000 in
set_option maxHeartbeats 2000000 in
theorem palive_any (w:World) (h:PEnv w) (f:Nat→Addr) (h4:Errs4 w f) :
  Calls Tryz.prog 9 #[] w fun e w'=>e=.returned (.bool true)∧Below w.heap.size w w':=by
 have hL:=textIt_any ⟨#[112,58,45,40,97,59,98,41,44,110,111,116,40,99,44,100,41,46]⟩ w h.env f h4
 rw [pal_text] at hL
 have HL:=Lib.hid hL
 have HW:=Lib.hid h
 have HS:=Lib.hid (fun (v:Value) (lo hi:Nat) (w:World) h hv hh=>printSource_any [palI] v lo hi w h hv palI_ok hh (by rw [pal_form];decide))
 rw [pal_form] at HS
 have HT:=Lib.hid (fun (w:World) h=>printTerm_any 2 [] (-9223372036854775808) [] (.agg #[.int .i64 2,.string ⟨#[]⟩,.int .i64 (-9223372036854775808),.slice none 0 0]) 0 0 w 0 h ⟨_,rfl,.inl ⟨rfl,rfl⟩⟩ (by simp [termOk,termsOk,numOk]) (Nat.zero_le _) (by rw [palT_form];decide) (by rw [palT_form];decide))
 rw [palT_form] at HT
 clear hL h h4
 go_enter Tryz.func9,Tryz.ntmps9
 go_wp2_with fail
 go_at_call 18
 refine HL.out.mono ?_
 rintro e w1 ⟨v,er,rfl,hb1,rfl,hv⟩
 obtain ⟨A,n,c,rfl⟩:=hv.slice
 have HV:=Lib.hid hv
 have HB1:=Lib.hid hb1
 clear hv hb1
 go_wp2_with fail
 go_at_call 19
 refine (HS.out _ _ _ _ (HW.out.below HB1.out) HV.out (Nat.le_refl _)).mono ?_
 rintro e w2 ⟨rfl,hb2⟩
 have HB2:=Lib.hid (HB1.out.trans (hb2.mono HB1.out.size))
 clear hb2
 have hq1:(bs [112,32,58,45,32,40,97,32,59,32,98,41,44,32,110,111,116,32,40,99,44,32,100,41,46,10]).toList=[112,32,58,45,32,40,97,32,59,32,98,41,44,32,110,111,116,32,40,99,44,32,100,41,46,10]:=by rw [ByteArray.toList_eq];rfl
 go_wp2_with fail
 go_at_call 14
 refine (HT.out _ (HW.out.below HB2.out)).mono ?_
 rintro e w3 ⟨rfl,hb3⟩
 have HB3:=Lib.hid (HB2.out.trans (hb3.mono HB2.out.size))
 clear hb3
 have hq:((bs [45,57,50,50,51,51,55,50,48,51,54,56,53,52,55,55,53,56,48,56]).toList == [45,57,50,50,51,51,55,50,48,51,54,56,53,52,55,55,53,56,48,56])=true:=by rw [ByteArray.toList_eq];rfl
 go_wp2_with fail
 go_ret
 exact ⟨rfl,HB3.out⟩
theorem toks_smallT {s:ByteArray} (hs:s.size≤16384):SmallT (toks s.data.toList)∧NumsT (toks s.data.toList):=by
 have hl:s.data.toList.length=s.size:=by simp
 refine ⟨fun t ht=>?_,fun t ht=>?_⟩
 ·have h1:=toks_small ht
  obtain ⟨_,_,_,_,_,h2,h3⟩:=tokAt_spec (toks_good ht)
  have h4:=Lib.itoa_length_le t.num h2 h3
  exact ⟨by omega,by omega⟩
 ·obtain ⟨_,_,_,_,_,h2,h3⟩:=tokAt_spec (toks_good ht)
  exact ⟨h2,h3⟩
end Lx
end Go.Proofs.YtajomoclbpobhaaGreatDoor
