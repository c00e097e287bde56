/- The walk of the statement PrintBack: it returns true. Conditions: the error variables and the tables of words hold what they should. -/
import Derived.Test.YtajomoclbpobhaaGreatDoorQrA
import Derived.Test.YtajomoclbpobhaaGreatDoorPrN
import Derived.Test.YtajomoclbpobhaaGreatDoorSameIts
import Derived.Deep.Cut
namespace Go.Proofs.YtajomoclbpobhaaGreatDoor
set_option linter.unusedSimpArgs false
set_option linter.unusedVariables false
namespace Lx
open Go Go.RowKit
theorem eqlP_sameK (a:Addr) (W:World):(binOp .eql 46 (errP a) (errP a)).run Tryz.prog W=.ok (.bool true) W:=by
 obtain ⟨i,hi,hc⟩:∃ i,Tryz.prog.info? 203=some i∧i.comparable=true:=by
  have h:(Tryz.prog.info? 203).map (·.comparable)=some true:=by kernel_rfl
  cases h2:Tryz.prog.info? 203 with
  | none=>rw [h2] at h;cases h
  | some i=>rw [h2] at h;exact ⟨i,rfl,by simpa using h⟩
 obtain ⟨j,hj⟩:∃ j,Tryz.prog.info? 205=some j:=by
  have h:(Tryz.prog.info? 205).isSome=true:=by kernel_rfl
  exact Option.isSome_iff_exists.1 h
 exact run_eql_iface_ptr_same W a Tryz.underlying46 Tryz.underlying203 hi hc hj
set_option maxRecDepth 100000 in
set_option maxHeartbeats 2000000 in
theorem lawBack_any (s:ByteArray) (w:World) (h:PEnv w) (f:Nat→Addr) (h4:Errs4 w f) :
  Calls Tryz.prog 4 #[.string s] w fun e w'=>e=.returned (.bool true)∧Below w.heap.size w w':=by
 have HA:=Lib.hid (palive_any w h f h4)
 have HW:=Lib.hid h
 have HE:=Lib.hid h4
 have HT:=Lib.hid (fun s w hE h4=>textIt_any s w hE f h4)
 have HP:=Lib.hid (fun l v lo hi w h hv hok hh hl=>printSource_any l v lo hi w h hv hok hh hl)
 have HR3:=Lib.hid (fun l v lo hi w hv hok hh hl=>r3source_any l v lo hi w hv hok hh hl)
 have HRD:=Lib.hid (fun l k (ho:textO srcG s=.ok l k)=>source_round ho)
 have hce:∀ x v lo hi w,ItemV x v lo hi w→(cellsL v).length=20:=fun _ _ _ _ _ h=>ItemV.cells' h
 clear h h4
 go_enter Tryz.func4,Tryz.ntmps4
 go_wp2_with fail
 go_at_call 9
 refine HA.out.mono ?_
 rintro e w1 ⟨rfl,hb1⟩
 have HB1:=Lib.hid hb1
 clear hb1 HA
 go_wp2_with fail
 go_at_call 18
 refine (HT.out s _ (HW.out.below HB1.out).env (HE.out.below HB1.out)).mono ?_
 rintro e w2 ⟨v,er,rfl,hb,ht⟩
 have HB2:=Lib.hid (HB1.out.trans (hb.mono HB1.out.size))
 clear hb HB1
 cases ho:textO srcG s with
 | no i =>
  have ht2:TextR f (ArgsV 33 20 ItemV) (.slice none 0 0) w1 w2 v er (textO srcG s):=ht
  rw [ho] at ht2
  obtain ⟨rfl,rfl⟩:=ht2
  clear ht
  go_wp2_with fail
  go_ret
  exact ⟨rfl,HB2.out⟩
 | ok l k0 =>
  have ht2:TextR f (ArgsV 33 20 ItemV) (.slice none 0 0) w1 w2 v er (textO srcG s):=ht
  rw [ho] at ht2
  obtain ⟨rfl,hv⟩:=ht2
  clear ht
  have HR:=Lib.hid (HRD.out l k0 ho)
  obtain ⟨A,c,rfl,_⟩:=hv.at hce (by decide)
  have HV:=Lib.hid hv
  clear hv ho HRD
  go_wp2_with fail
  go_at_call 19
  refine (HP.out l _ _ _ _ (HW.out.below HB2.out) HV.out HR.out.ok (Nat.le_refl _) (by have:=HR.out.short;omega)).mono ?_
  rintro e w3 ⟨rfl,hb⟩
  have HB3:=Lib.hid (HB2.out.trans (hb.mono HB2.out.size))
  have HS3:=Lib.hid hb.size
  have HV3:=Lib.hid (stays (ArgsV.stable _ _ ItemV.stable) HV.out hb (Nat.le_refl _))
  clear hb HV HB2
  go_wp2_with fail
  go_at_call 18
  refine (HT.out _ _ (HW.out.below HB3.out).env (HE.out.below HB3.out)).mono ?_
  rintro e w4 ⟨v2,er2,rfl,hb,ht⟩
  have HB4:=Lib.hid (HB3.out.trans (hb.mono HB3.out.size))
  have HS4:=Lib.hid hb.size
  have HV4:=Lib.hid (stays (ArgsV.stable _ _ ItemV.stable) HV3.out hb HS3.out)
  have ht2:TextR f (ArgsV 33 20 ItemV) (.slice none 0 0) w3 w4 v2 er2 (textO srcG (bs (sourceF l))):=ht
  clear hb HV3 ht HB3
  have hsz:(bs (sourceF l)).size=(sourceF l).length:=bs_size _
  have hsh:=HR.out.short
  rcases Nat.lt_or_ge 16384 (sourceF l).length with hbig | hsml
  ·rw [HR.out.big hbig] at ht2
   obtain ⟨rfl,rfl⟩:=ht2
   have hcl:=(HE.out.below HB4.out).large
   have heq:=eqlP_sameK (f 1)
   have hq:decide ((16384:Int) < ((bs (sourceF l)).size:Int))=true:=decide_eq_true (by rw [hsz];omega)
   have hy2:(bs (sourceF l)).size≤327680000:=by omega
   clear hsz hsh hbig
   generalize bs (sourceF l)=y at *
   go_wp2_with fail
   go_ret
   exact ⟨rfl,HB4.out⟩
  ·obtain ⟨k2,hk2⟩:=HR.out.back hsml
   rw [hk2] at ht2
   obtain ⟨rfl,hv2⟩:=ht2
   obtain ⟨A2,c2,rfl,_⟩:=hv2.at hce (by decide)
   have HV2:=Lib.hid hv2
   have HC5:=Lib.hid (sameItems_any l _ _ _ _ _ _ w4 HV4.out HV2.out (Nat.le_trans HS3.out HS4.out) (Nat.le_refl _))
   have hq:decide ((16384:Int) < ((bs (sourceF l)).size:Int))=false:=decide_eq_false (by rw [hsz];omega)
   have hy2:(bs (sourceF l)).size≤327680000:=by omega
   clear hk2 hv2 hsz hsh hsml
   generalize hyy:bs (sourceF l)=y at *
   go_wp2_with fail
   go_at_call 20
   refine HC5.out.mono ?_
   rintro e w5 ⟨rfl,hb⟩
   have HB5:=Lib.hid (HB4.out.trans (hb.mono HB4.out.size))
   have HV5:=Lib.hid (stays (ArgsV.stable _ _ ItemV.stable) HV4.out hb (Nat.le_trans HS3.out HS4.out))
   have HV6:=Lib.hid (stays (ArgsV.stable _ _ ItemV.stable) HV2.out hb (Nat.le_refl _))
   have HS5:=Lib.hid hb.size
   clear hb HC5
   go_wp2_with fail
   go_at_call 19
   refine (HP.out l _ _ _ _ (HW.out.below HB5.out) HV6.out HR.out.ok HS5.out (by have:=HR.out.short;omega)).mono ?_
   rw [hyy]
   rintro e w6 ⟨rfl,hb⟩
   have HB6:=Lib.hid (HB5.out.trans (hb.mono HB5.out.size))
   have HV7:=Lib.hid (stays (ArgsV.stable _ _ ItemV.stable) HV5.out hb (Nat.le_trans HS3.out (Nat.le_trans HS4.out HS5.out)))
   have HS6:=Lib.hid hb.size
   clear hb
   go_wp2_with fail
   go_at_call 21
   refine (HR3.out l _ _ _ _ HV7.out (fun x hx=>item_fit (HR.out.shape x hx) (HR.out.ok x hx) (by
    have h1:=HR.out.short
    have h2:=joinF_each [] (l.map itemF) (itemF x) (List.mem_map.2 ⟨x,hx,rfl⟩)
    have h3:(joinF [] (l.map itemF)).length=(sourceF l).length:=rfl
    omega)) (Nat.le_trans HS3.out (Nat.le_trans HS4.out (Nat.le_trans HS5.out HS6.out))) (by have:=HR.out.short;omega)).mono ?_
   rw [hyy]
   rintro e w7 ⟨rfl,hb⟩
   have HB7:=Lib.hid (HB6.out.trans (hb.mono HB6.out.size))
   clear hb
   go_wp2_with fail
   go_ret
   exact ⟨by simp,HB7.out⟩
end Lx
end Go.Proofs.YtajomoclbpobhaaGreatDoor
