/- augurnum.Kept. Conditions: as it states. -/
import Derived.Test.YtnpacamcgifabaaDoorEf
namespace Go.Proofs.YtnpacamcgifabaaDoor
set_option linter.unusedSimpArgs false
set_option linter.unusedVariables false
namespace Lx
open Go Go.RowKit
set_option maxRecDepth 100000 in
set_option maxHeartbeats 4000000 in
theorem kept_any (Vol Vol2:Nat→Prop) (l:List UInt8) (v:Value) (g cap:Nat) (w:World) (h:RowW 1 ByH Vol l v w) (h2:RowW 1 ByH Vol2 (l++marks) (.slice (some ⟨g,0,none⟩) (l.length+6) cap) w) (hl:l.length≤10000000) (hcap:l.length+6≤cap) :
  Calls Tryd.prog 41 #[.slice (some ⟨g,0,none⟩) l.length cap,v] w fun e w'=>e=.returned (.bool true)∧Below w.heap.size w w':=by
 obtain ⟨A,c,rfl⟩:=h.slice
 have hlm:(l++marks).length=l.length+6:=by rw [List.length_append];rfl
 have h3:RowW 1 ByH Vol2 l (.slice (some ⟨g,0,none⟩) l.length cap) w:=by
  have h4:=By.takeC (by rw [hlm];exact h2) (size:=l.length) (by rw [hlm];omega)
  rw [List.take_left'  rfl] at h4
  exact h4
 have hs1:∀ W,(Instr.slice 64 (.slice (some ⟨g,0,none⟩) l.length cap) none (some (.int .i64 (cap:Int))) none).run Tryd.prog W=.ok (.slice (some ⟨g,0,none⟩) cap cap) W:=fun W=>run_head _ _ cap cap W (Nat.le_refl _)
 have hs2:∀ W,(Instr.slice 64 (.slice (some ⟨g,0,none⟩) cap cap) none (some (.int .i64 (l.length:Int))) none).run Tryd.prog W=.ok (.slice (some ⟨g,0,none⟩) l.length cap) W:=fun W=>run_head _ _ cap l.length W (by omega)
 have ht1:∀ j,(convert 64 9 (.slice (some ⟨g,0,none⟩) l.length cap)).run Tryd.prog (w.drewN j)=.ok (.string (bs l)) (w.drewN j):=fun j=>by_text (RowW.step ByH.step _ _ _ _ _ _ h3 ⟨rfl,rfl,rfl,Nat.le_refl _,fun _ _ _=>rfl⟩ (fun _ _ e=>e))
 have ht2:∀ j,(convert 64 9 (.slice A l.length c)).run Tryd.prog (w.drewN j)=.ok (.string (bs l)) (w.drewN j):=fun j=>by_text (RowW.step ByH.step _ _ _ _ _ _ h ⟨rfl,rfl,rfl,Nat.le_refl _,fun _ _ _=>rfl⟩ (fun _ _ e=>e))
 have ht3:=by_text h3
 have ht4:=by_text h
 have H2:=Lib.hid h2
 have hd:decide ((cap:Int) < (l.length:Int)+6)=false:=by simp;omega
 clear h h2 h3
 generalize bs l=tx at ht1 ht2 ht3 ht4
 go_enter Tryd.func41,Tryd.ntmps41
 go_upto_region 2 with fail
 go_quiet (fail)
 have HBW:Hid (Below w.heap.size w (w.drewN nq)):=Lib.hid ⟨rfl,rfl,rfl,Nat.le_refl _,fun _ _=>rfl⟩
 have HR:=Lib.hid (RowW.step ByH.step _ _ _ _ _ _ H2.out (Kb.of_below (S:=Vol2) HBW.out) (fun _ _ e=>e))
 have HLM:=Lib.hid hlm
 clear hlm hs1 hs2 ht1 ht2 ht3 ht4 hd H2
 generalize w.drewN nq=W at HBW HR ⊢
 go_wp2_with fail
 go_loopw [6] (fun t wr=>∃ i:Nat,i≤6∧t=.int .i64 i∧wr=W) (fun t _=>6 - (intOf t).toNat)
 case atStart=>exact ⟨0,Nat.zero_le _,rfl,rfl⟩
 case round =>
  obtain ⟨i,hi,rfl,rfl⟩:=hrel
  by_cases hlt:i < 6
  ·have hilt:l.length+i < (l++marks).length:=by rw [HLM.out];omega
   have hc:wr.cell? ⟨g,l.length+i,none⟩=some (.int .u8 ((201+i:Nat):Int)):=by
    have hx:=HR.out
    rw [show l.length+6=(l++marks).length from HLM.out.symm] at hx
    obtain ⟨b,off,e,_,_,hc⟩:=By.at hx (l.length+i) hilt
    injection e with e
    injection e with e1 e2
    subst e1 e2
    rw [Nat.zero_add] at hc
    rw [hc,List.getElem_append_right (by omega)]
    congr 3
    have:l.length+i - l.length=i:=by omega
    simp only [this]
    match i,hlt with
    | 0,_=>rfl
    | 1,_=>rfl
    | 2,_=>rfl
    | 3,_=>rfl
    | 4,_=>rfl
    | 5,_=>rfl
   rw [show ((201+i:Nat):Int)=201+(i:Int) by omega] at hc
   have hu:IntKind.u8.wrap (201+(i:Int))=201+(i:Int):=by unfold IntKind.wrap;simp [IntKind.bits,IntKind.signed];omega
   have hdt:decide ((i:Int) < 6)=true:=by simp;omega
   clear hilt
   go_wp2_with fail
   refine ⟨⟨i+1,by omega,by go_num,trivial⟩,by simp [intOf];omega⟩
  ·obtain rfl:i=6:=by omega
   go_wp2_with fail
   go_ret
   exact ⟨rfl,HBW.out⟩
end Lx
end Go.Proofs.YtnpacamcgifabaaDoor
