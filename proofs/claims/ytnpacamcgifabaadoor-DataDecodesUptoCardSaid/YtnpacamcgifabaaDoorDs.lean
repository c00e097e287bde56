/- The program's reader of bytes: data. Conditions: as each states. -/
import Derived.Test.YtnpacamcgifabaaDoorDr
namespace Go.Proofs.YtnpacamcgifabaaDoor
set_option linter.unusedSimpArgs false
set_option linter.unusedVariables false
namespace Lx
open Go Go.RowKit
set_option maxRecDepth 100000 in
set_option maxHeartbeats 8000000 in
theorem data_zero:DecC 0:=by
 intro L R n dp rest rv w h hdp hn
 have hRlt:=(Array.getElem?_eq_some_iff.1 h.box).1
 have h1:=h.below (below_alloc w (.cells #[.bool false,.int .i64 0,.string ⟨#[]⟩,.slice none 0 0] 68))
 have hput:=h.put (n':=(n+1:Nat))
 have hkp:Kb (fun j=>j=R) w (w.setCell ⟨R,1,none⟩ (.int .i64 ((n+1:Nat):Int))):=(Kb.refl (fun j=>j=R) _).put (p:=⟨R,1,none⟩) rfl _
 rw [show ((n+1:Nat):Int)=(n:Int)+1 from rfl] at hput hkp
 have hb:=below_alloc (w.setCell ⟨R,1,none⟩ (.int .i64 ((n:Int)+1))) (.cells #[.bool false,.int .i64 0,.string ⟨#[]⟩,.slice none 0 0] 68)
 have hn4:=heap_alloc_new (w.setCell ⟨R,1,none⟩ (.int .i64 ((n:Int)+1))) (.cells #[.bool false,.int .i64 0,.string ⟨#[]⟩,.slice none 0 0] 68)
 have hss:(w.setCell ⟨R,1,none⟩ (.int .i64 ((n:Int)+1))).heap.size=w.heap.size:=by simp
 rw [hss] at hn4
 have HRD:=Lib.hid (hput.below hb)
 have HN4:=Lib.hid hn4
 have HKW:=Lib.hid ((hkp.wider (S':=fun j=>j=R ∨ w.heap.size≤j) (fun _ _ e=>.inl e)).trans (Kb.of_below hb))
 have HDP:=Lib.hid hdp
 have HLN:Hid (L≤w.heap.size):=Lib.hid (by have:=h.lo;omega)
 have HRN:Hid (¬ R=w.heap.size):=Lib.hid (by omega)
 have HSZ:Hid (w.heap.size < ((w.setCell ⟨R,1,none⟩ (.int .i64 ((n:Int)+1))).alloc (.cells #[.bool false,.int .i64 0,.string ⟨#[]⟩,.slice none 0 0] 68)).heap.size):=Lib.hid (Array.getElem?_eq_some_iff.1 HN4.out).1
 have b1:=(cellH h1.box 1).trans rfl
 have f1:=frozenH h1.box 1
 have b1w:=(cellH h.box 1).trans rfl
 have f1w:=frozenH h.box 1
 have b1p:=(cellH HRD.out.box 1).trans rfl
 clear h hb h1 hn4 hput hkp hss
 by_cases hbig:4096 < n+1
 ·have hd1:decide (4096 < n+1)=true:=by simp;omega
  have hd2:decide ((4096:Int) < (n:Int)+1)=true:=by simp;omega
  go_enter Tryd.func72,Tryd.ntmps72
  go_wp2_with fail
  clear b1 f1 b1p b1w f1w
  generalize ((w.setCell ⟨R,1,none⟩ (.int .i64 ((n:Int)+1))).alloc (.cells #[.bool false,.int .i64 0,.string ⟨#[]⟩,.slice none 0 0] 68))=W2 at HRD HN4 HKW HSZ ⊢
  obtain ⟨N4,hN4⟩:∃ N4,w.heap.size=N4:=⟨_,rfl⟩
  have HNE:=Lib.hid hN4
  rw [hN4] at HN4 HLN HRN HSZ ⊢
  clear hN4
  try go_at_call 93
  refine (refuse_any L R _ _ _ _ _ HRD.out).mono ?_
  rintro e W3 ⟨rfl,hrd3,hk3⟩
  have HRF:Hid (Refd L R (n+1:Nat) W3):=Lib.hid ⟨_,hrd3⟩
  have HN4:=Lib.hid ((hk3.block N4 (Array.getElem?_eq_some_iff.1 HN4.out).1 (fun e=>HRN.out e.symm)).trans HN4.out)
  have HKW:=Lib.hid (HKW.out.trans (hk3.wider (fun _ _ e=>.inl e)))
  clear hrd3 hk3
  have e0:=(cellH HN4.out 0).trans rfl
  have e1:=(cellH HN4.out 1).trans rfl
  have e2:=(cellH HN4.out 2).trans rfl
  have e3:=(cellH HN4.out 3).trans rfl
  have g0:=frozenH HN4.out 0
  have g1:=frozenH HN4.out 1
  have g2:=frozenH HN4.out 2
  have g3:=frozenH HN4.out 3
  go_wp2_with fail
  have hp4:=put4 (.bool false) (.int .i64 0) (.string ⟨#[]⟩) (.slice none 0 0) HN4.out
  have hk4:=kput4 W3 N4 (.bool false) (.int .i64 0) (.string ⟨#[]⟩) (.slice none 0 0)
  have c0:=(cellH hp4 0).trans rfl
  have c1:=(cellH hp4 1).trans rfl
  have c2:=(cellH hp4 2).trans rfl
  have c3:=(cellH hp4 3).trans rfl
  exact bodyPost_ret (v:=.agg #[.bool false,.int .i64 0,.string ⟨#[]⟩,.slice none 0 0]) (by simp [results,Tryd.results72,go_sem,c0,c1,c2,c3]) rfl (by unfold OutP;exact ⟨fin_kb HKW.out (Nat.le_of_eq HNE.out) hk4,.inl ⟨rfl,⟨_,_,_,_,_,_,rfl⟩,_,refd_put HRF.out hk4 HLN.out HRN.out⟩⟩)
 ·have hd1:decide (4096 < n+1)=false:=by simp;omega
  have hd2:decide ((4096:Int) < (n:Int)+1)=false:=by simp;omega
  have hd3:decide (200 < dp)=true:=by simp;omega
  have hd4:decide ((200:Int) < (dp:Int))=true:=by simp;omega
  go_enter Tryd.func72,Tryd.ntmps72
  go_wp2_with fail
  clear b1 f1 b1p b1w f1w
  generalize ((w.setCell ⟨R,1,none⟩ (.int .i64 ((n:Int)+1))).alloc (.cells #[.bool false,.int .i64 0,.string ⟨#[]⟩,.slice none 0 0] 68))=W2 at HRD HN4 HKW HSZ ⊢
  obtain ⟨N4,hN4⟩:∃ N4,w.heap.size=N4:=⟨_,rfl⟩
  have HNE:=Lib.hid hN4
  rw [hN4] at HN4 HLN HRN HSZ ⊢
  clear hN4
  try go_at_call 93
  refine (refuse_any L R _ _ _ _ _ HRD.out).mono ?_
  rintro e W3 ⟨rfl,hrd3,hk3⟩
  have HRF:Hid (Refd L R (n+1:Nat) W3):=Lib.hid ⟨_,hrd3⟩
  have HN4:=Lib.hid ((hk3.block N4 (Array.getElem?_eq_some_iff.1 HN4.out).1 (fun e=>HRN.out e.symm)).trans HN4.out)
  have HKW:=Lib.hid (HKW.out.trans (hk3.wider (fun _ _ e=>.inl e)))
  clear hrd3 hk3
  have e0:=(cellH HN4.out 0).trans rfl
  have e1:=(cellH HN4.out 1).trans rfl
  have e2:=(cellH HN4.out 2).trans rfl
  have e3:=(cellH HN4.out 3).trans rfl
  have g0:=frozenH HN4.out 0
  have g1:=frozenH HN4.out 1
  have g2:=frozenH HN4.out 2
  have g3:=frozenH HN4.out 3
  go_wp2_with fail
  have hp4:=put4 (.bool false) (.int .i64 0) (.string ⟨#[]⟩) (.slice none 0 0) HN4.out
  have hk4:=kput4 W3 N4 (.bool false) (.int .i64 0) (.string ⟨#[]⟩) (.slice none 0 0)
  have c0:=(cellH hp4 0).trans rfl
  have c1:=(cellH hp4 1).trans rfl
  have c2:=(cellH hp4 2).trans rfl
  have c3:=(cellH hp4 3).trans rfl
  exact bodyPost_ret (v:=.agg #[.bool false,.int .i64 0,.string ⟨#[]⟩,.slice none 0 0]) (by simp [results,Tryd.results72,go_sem,c0,c1,c2,c3]) rfl (by unfold OutP;exact ⟨fin_kb HKW.out (Nat.le_of_eq HNE.out) hk4,.inl ⟨rfl,⟨_,_,_,_,_,_,rfl⟩,_,refd_put HRF.out hk4 HLN.out HRN.out⟩⟩)
set_option maxRecDepth 100000 in
set_option maxHeartbeats 16000000 in
theorem data_step (k:Nat) (HC:Hid (DecC k)):DecC (k+1):=by
 intro L R n dp rest rv w h hdp hn
 have hRlt:=(Array.getElem?_eq_some_iff.1 h.box).1
 have h1:=h.below (below_alloc w (.cells #[.bool false,.int .i64 0,.string ⟨#[]⟩,.slice none 0 0] 68))
 have hput:=h.put (n':=(n+1:Nat))
 have hkp:Kb (fun j=>j=R) w (w.setCell ⟨R,1,none⟩ (.int .i64 ((n+1:Nat):Int))):=(Kb.refl (fun j=>j=R) _).put (p:=⟨R,1,none⟩) rfl _
 rw [show ((n+1:Nat):Int)=(n:Int)+1 from rfl] at hput hkp
 have hb:=below_alloc (w.setCell ⟨R,1,none⟩ (.int .i64 ((n:Int)+1))) (.cells #[.bool false,.int .i64 0,.string ⟨#[]⟩,.slice none 0 0] 68)
 have hn4:=heap_alloc_new (w.setCell ⟨R,1,none⟩ (.int .i64 ((n:Int)+1))) (.cells #[.bool false,.int .i64 0,.string ⟨#[]⟩,.slice none 0 0] 68)
 have hss:(w.setCell ⟨R,1,none⟩ (.int .i64 ((n:Int)+1))).heap.size=w.heap.size:=by simp
 rw [hss] at hn4
 have HRD:=Lib.hid (hput.below hb)
 have HN4:=Lib.hid hn4
 have HKW:=Lib.hid ((hkp.wider (S':=fun j=>j=R ∨ w.heap.size≤j) (fun _ _ e=>.inl e)).trans (Kb.of_below hb))
 have HDP:=Lib.hid hdp
 have HLN:Hid (L≤w.heap.size):=Lib.hid (by have:=h.lo;omega)
 have HRN:Hid (¬ R=w.heap.size):=Lib.hid (by omega)
 have HSZ:Hid (w.heap.size < ((w.setCell ⟨R,1,none⟩ (.int .i64 ((n:Int)+1))).alloc (.cells #[.bool false,.int .i64 0,.string ⟨#[]⟩,.slice none 0 0] 68)).heap.size):=Lib.hid (Array.getElem?_eq_some_iff.1 HN4.out).1
 have b1:=(cellH h1.box 1).trans rfl
 have f1:=frozenH h1.box 1
 have b1w:=(cellH h.box 1).trans rfl
 have f1w:=frozenH h.box 1
 have b1p:=(cellH HRD.out.box 1).trans rfl
 clear h hb h1 hn4 hput hkp hss
 by_cases hbig:4096 < n+1
 ·have HBG:=Lib.hid hbig
  have hd1:decide (4096 < n+1)=true:=by simp;omega
  have hd2:decide ((4096:Int) < (n:Int)+1)=true:=by simp;omega
  go_enter Tryd.func72,Tryd.ntmps72
  go_wp2_with fail
  clear b1 f1 b1p b1w f1w
  generalize ((w.setCell ⟨R,1,none⟩ (.int .i64 ((n:Int)+1))).alloc (.cells #[.bool false,.int .i64 0,.string ⟨#[]⟩,.slice none 0 0] 68))=W2 at HRD HN4 HKW HSZ ⊢
  obtain ⟨N4,hN4⟩:∃ N4,w.heap.size=N4:=⟨_,rfl⟩
  have HNE:=Lib.hid hN4
  rw [hN4] at HN4 HLN HRN HSZ ⊢
  clear hN4
  try go_at_call 93
  refine (refuse_any L R _ _ _ _ _ HRD.out).mono ?_
  rintro e W3 ⟨rfl,hrd3,hk3⟩
  have HRF:Hid (Refd L R (n+1:Nat) W3):=Lib.hid ⟨_,hrd3⟩
  have HN4:=Lib.hid ((hk3.block N4 (Array.getElem?_eq_some_iff.1 HN4.out).1 (fun e=>HRN.out e.symm)).trans HN4.out)
  have HKW:=Lib.hid (HKW.out.trans (hk3.wider (fun _ _ e=>.inl e)))
  clear hrd3 hk3
  have e0:=(cellH HN4.out 0).trans rfl
  have e1:=(cellH HN4.out 1).trans rfl
  have e2:=(cellH HN4.out 2).trans rfl
  have e3:=(cellH HN4.out 3).trans rfl
  have g0:=frozenH HN4.out 0
  have g1:=frozenH HN4.out 1
  have g2:=frozenH HN4.out 2
  have g3:=frozenH HN4.out 3
  go_wp2_with fail
  have hp4:=put4 (.bool false) (.int .i64 0) (.string ⟨#[]⟩) (.slice none 0 0) HN4.out
  have hk4:=kput4 W3 N4 (.bool false) (.int .i64 0) (.string ⟨#[]⟩) (.slice none 0 0)
  have c0:=(cellH hp4 0).trans rfl
  have c1:=(cellH hp4 1).trans rfl
  have c2:=(cellH hp4 2).trans rfl
  have c3:=(cellH hp4 3).trans rfl
  exact bodyPost_ret (v:=.agg #[.bool false,.int .i64 0,.string ⟨#[]⟩,.slice none 0 0]) (by simp [results,Tryd.results72,go_sem,c0,c1,c2,c3]) rfl (by unfold OutP;exact ⟨fin_kb HKW.out (Nat.le_of_eq HNE.out) hk4,.inl ⟨(by show (if 4096 < n+1 then none else _)=_;rw [if_pos HBG.out]),⟨_,_,_,_,_,_,rfl⟩,_,refd_put HRF.out hk4 HLN.out HRN.out⟩⟩)
 ·have hd1:decide (4096 < n+1)=false:=by simp;omega
  have hd2:decide ((4096:Int) < (n:Int)+1)=false:=by simp;omega
  have hd3:decide (200 < dp)=false:=by simp;omega
  have hd4:decide ((200:Int) < (dp:Int))=false:=by simp;omega
  go_enter Tryd.func72,Tryd.ntmps72
  go_wp2_with fail
  clear b1 f1 b1p b1w f1w
  generalize ((w.setCell ⟨R,1,none⟩ (.int .i64 ((n:Int)+1))).alloc (.cells #[.bool false,.int .i64 0,.string ⟨#[]⟩,.slice none 0 0] 68))=W2 at HRD HN4 HKW HSZ ⊢
  obtain ⟨N4,hN4⟩:∃ N4,w.heap.size=N4:=⟨_,rfl⟩
  have HNE:=Lib.hid hN4
  rw [hN4] at HN4 HLN HRN HSZ ⊢
  clear hN4
  have HN1:Hid (n+1≤4096):=Lib.hid (by omega)
  clear hd1 hd2 hd3 hd4
  try go_at_call 94
  refine (small_any L R rest _ _ false W2 HRD.out (fun e=>by cases e)).mono ?_
  rintro e W3 ⟨hk3,⟨rfl,rfl,hrd3⟩ | ⟨b,r,rv3,rfl,_,rfl,hrd3⟩⟩
  ·have HRD3:=Lib.hid hrd3
   have HN4:=Lib.hid ((hk3.block N4 (Array.getElem?_eq_some_iff.1 HN4.out).1 (fun e=>HRN.out e.symm)).trans HN4.out)
   have HKW:=Lib.hid (HKW.out.trans (hk3.wider (fun _ _ e=>.inl e)))
   have HNO:Hid (dec (k+1) n []=none):=Lib.hid (by show (if 4096 < n+1 then none else none)=_;split <;> rfl)
   clear hk3 hrd3
   go_wp2_with fail
   try go_at_call 95
   refine (number_any L R [] _ _ true W3 HRD3.out (fun _=>rfl)).mono ?_
   rintro e W4 ⟨hk4',⟨_,rfl,hrf4⟩ | ⟨hx,_⟩⟩
   ·have HRF:=Lib.hid hrf4
    have HN4:=Lib.hid ((hk4'.block N4 (Array.getElem?_eq_some_iff.1 HN4.out).1 (fun e=>HRN.out e.symm)).trans HN4.out)
    have HKW:=Lib.hid (HKW.out.trans (hk4'.wider (fun _ _ e=>.inl e)))
    clear hk4' hrf4
    have e0:=(cellH HN4.out 0).trans rfl
    have e1:=(cellH HN4.out 1).trans rfl
    have e2:=(cellH HN4.out 2).trans rfl
    have e3:=(cellH HN4.out 3).trans rfl
    have g0:=frozenH HN4.out 0
    have g1:=frozenH HN4.out 1
    have g2:=frozenH HN4.out 2
    have g3:=frozenH HN4.out 3
    go_wp2_with fail
    have hp4:=put4 (.bool false) (.int .i64 0) (.string ⟨#[]⟩) (.slice none 0 0) HN4.out
    have hk4:=kput4 W4 N4 (.bool false) (.int .i64 0) (.string ⟨#[]⟩) (.slice none 0 0)
    have c0:=(cellH hp4 0).trans rfl
    have c1:=(cellH hp4 1).trans rfl
    have c2:=(cellH hp4 2).trans rfl
    have c3:=(cellH hp4 3).trans rfl
    exact bodyPost_ret (v:=.agg #[.bool false,.int .i64 0,.string ⟨#[]⟩,.slice none 0 0]) (by simp [results,Tryd.results72,go_sem,c0,c1,c2,c3]) rfl (by unfold OutP;exact ⟨fin_kb HKW.out (Nat.le_of_eq HNE.out) hk4,.inl ⟨HNO.out,⟨_,_,_,_,_,_,rfl⟩,_,refd_put HRF.out hk4 HLN.out HRN.out⟩⟩)
   ·simp at hx
  ·have HRD3:=Lib.hid hrd3
   have HN4:=Lib.hid ((hk3.block N4 (Array.getElem?_eq_some_iff.1 HN4.out).1 (fun e=>HRN.out e.symm)).trans HN4.out)
   have HKW:=Lib.hid (HKW.out.trans (hk3.wider (fun _ _ e=>.inl e)))
   clear hk3 hrd3
   by_cases hb0:b.toNat=0
   ·have HB0:=Lib.hid hb0
    rw [hb0]
    clear hb0
    go_wp2_with fail
    try go_at_call 95
    refine (number_any L R r _ _ false W3 HRD3.out (fun e=>by cases e)).mono ?_
    rintro e W4 ⟨hk4',⟨hx,rfl,hrf4⟩ | ⟨hx,rfl,rv4,hrd4⟩⟩
    ·have HRF:=Lib.hid hrf4
     have HNO:Hid (dec (k+1) n (b :: r)=none):=Lib.hid (by rw [dec,if_neg (by have:=HN1.out;omega)];show (if b.toNat=0 then _ else _)=_;rw [if_pos HB0.out,if_pos hx])
     have HN4:=Lib.hid ((hk4'.block N4 (Array.getElem?_eq_some_iff.1 HN4.out).1 (fun e=>HRN.out e.symm)).trans HN4.out)
     have HKW:=Lib.hid (HKW.out.trans (hk4'.wider (fun _ _ e=>.inl e)))
     clear hk4' hrf4 hx
     have e0:=(cellH HN4.out 0).trans rfl
     have e1:=(cellH HN4.out 1).trans rfl
     have e2:=(cellH HN4.out 2).trans rfl
     have e3:=(cellH HN4.out 3).trans rfl
     have g0:=frozenH HN4.out 0
     have g1:=frozenH HN4.out 1
     have g2:=frozenH HN4.out 2
     have g3:=frozenH HN4.out 3
     go_wp2_with fail
     have hp4:=put4 (.bool false) (.int .i64 0) (.string ⟨#[]⟩) (.slice none 0 0) HN4.out
     have hk4:=kput4 W4 N4 (.bool false) (.int .i64 0) (.string ⟨#[]⟩) (.slice none 0 0)
     have c0:=(cellH hp4 0).trans rfl
     have c1:=(cellH hp4 1).trans rfl
     have c2:=(cellH hp4 2).trans rfl
     have c3:=(cellH hp4 3).trans rfl
     exact bodyPost_ret (v:=.agg #[.bool false,.int .i64 0,.string ⟨#[]⟩,.slice none 0 0]) (by simp [results,Tryd.results72,go_sem,c0,c1,c2,c3]) rfl (by unfold OutP;exact ⟨fin_kb HKW.out (Nat.le_of_eq HNE.out) hk4,.inl ⟨HNO.out,⟨_,_,_,_,_,_,rfl⟩,_,refd_put HRF.out hk4 HLN.out HRN.out⟩⟩)
    ·have HOK:Hid (dec (k+1) n (b :: r)=some (.mk false (numP (r.take 8) 8) ⟨#[]⟩ [],r.drop 8,n+1)):=Lib.hid (by rw [dec,if_neg (by have:=HN1.out;omega)];show (if b.toNat=0 then _ else _)=_;rw [if_pos HB0.out,if_neg (by omega)])
     have HN4:=Lib.hid ((hk4'.block N4 (Array.getElem?_eq_some_iff.1 HN4.out).1 (fun e=>HRN.out e.symm)).trans HN4.out)
     have HKW:=Lib.hid (HKW.out.trans (hk4'.wider (fun _ _ e=>.inl e)))
     have HRD4:=Lib.hid hrd4
     clear hk4' hrd4 hx
     generalize numP (r.take 8) 8=z at HOK ⊢
     have e0:=(cellH HN4.out 0).trans rfl
     have e1:=(cellH HN4.out 1).trans rfl
     have e2:=(cellH HN4.out 2).trans rfl
     have e3:=(cellH HN4.out 3).trans rfl
     have g0:=frozenH HN4.out 0
     have g1:=frozenH HN4.out 1
     have g2:=frozenH HN4.out 2
     have g3:=frozenH HN4.out 3
     go_wp2_with fail
     have hp4:=put4 (.bool false) (.int .i64 z) (.string ⟨#[]⟩) (.slice none 0 0) HN4.out
     have hk4:=kput4 W4 N4 (.bool false) (.int .i64 z) (.string ⟨#[]⟩) (.slice none 0 0)
     have c0:=(cellH hp4 0).trans rfl
     have c1:=(cellH hp4 1).trans rfl
     have c2:=(cellH hp4 2).trans rfl
     have c3:=(cellH hp4 3).trans rfl
     exact bodyPost_ret (v:=.agg #[.bool false,.int .i64 z,.string ⟨#[]⟩,.slice none 0 0]) (by simp [results,Tryd.results72,go_sem,c0,c1,c2,c3]) rfl (by
      unfold OutP
      exact ⟨fin_kb HKW.out (Nat.le_of_eq HNE.out) hk4,.inr ⟨_,_,_,_,_,HOK.out,rfl,daE_row (RowW.nil _ _),HRD4.out.kb hk4 (fun _ _ e=>e ▸ HLN.out) HRN.out,by have:=HN1.out;omega⟩⟩)
   ·by_cases hb1:b.toNat=1
    ·have HB1:=Lib.hid hb1
     rw [hb1]
     clear hb0 hb1
     go_wp2_with fail
     try go_at_call 96
     refine (str_any k HC L R (n+1) dp r _ W3 HRD3.out (by have:=HDP.out;omega) (by have:=HN1.out;omega)).mono ?_
     rintro e W4 ⟨hk4',⟨hx,⟨cc,zz,ss,A2,m2,q2,rfl⟩,n4,hrf4⟩ | ⟨x,r4,n4,v,rv4,hx,rfl,hda,hrd4,hn4⟩⟩
     ·have HRF:=Lib.hid hrf4
      have HNO:Hid (dec (k+1) n (b :: r)=none):=Lib.hid (by rw [dec,if_neg (by have:=HN1.out;omega)];show (if b.toNat=0 then _ else _)=_;rw [if_neg (by have:=HB1.out;omega),if_pos HB1.out,hx])
      have HN4:=Lib.hid ((hk4'.block N4 (Array.getElem?_eq_some_iff.1 HN4.out).1 (fun e=>HRN.out e.symm)).trans HN4.out)
      have HKW:=Lib.hid (HKW.out.trans (hk4'.wider (fun _ _ e=>.inl e)))
      clear hk4' hrf4 hx
      have e0:=(cellH HN4.out 0).trans rfl
      have e1:=(cellH HN4.out 1).trans rfl
      have e2:=(cellH HN4.out 2).trans rfl
      have e3:=(cellH HN4.out 3).trans rfl
      have g0:=frozenH HN4.out 0
      have g1:=frozenH HN4.out 1
      have g2:=frozenH HN4.out 2
      have g3:=frozenH HN4.out 3
      go_wp2_with fail
      have hp4:=put4 (.bool cc) (.int .i64 zz) (.string ss) (.slice A2 m2 q2) HN4.out
      have hk4:=kput4 W4 N4 (.bool cc) (.int .i64 zz) (.string ss) (.slice A2 m2 q2)
      have c0:=(cellH hp4 0).trans rfl
      have c1:=(cellH hp4 1).trans rfl
      have c2:=(cellH hp4 2).trans rfl
      have c3:=(cellH hp4 3).trans rfl
      exact bodyPost_ret (v:=.agg #[.bool cc,.int .i64 zz,.string ss,.slice A2 m2 q2]) (by simp [results,Tryd.results72,go_sem,c0,c1,c2,c3]) rfl (by unfold OutP;exact ⟨fin_kb HKW.out (Nat.le_of_eq HNE.out) hk4,.inl ⟨HNO.out,⟨_,_,_,_,_,_,rfl⟩,_,refd_put HRF.out hk4 HLN.out HRN.out⟩⟩)
     ·have HOK:Hid (dec (k+1) n (b :: r)=some (x,r4,n4)):=Lib.hid (by rw [dec,if_neg (by have:=HN1.out;omega)];show (if b.toNat=0 then _ else _)=_;rw [if_neg (by have:=HB1.out;omega),if_pos HB1.out,hx])
      obtain ⟨A2,m2,q2,hve⟩:=hda.this
      have hlt3:N4 < W3.heap.size:=(Array.getElem?_eq_some_iff.1 HN4.out).1
      have HLT3:=Lib.hid hlt3
      have HN4:=Lib.hid ((hk4'.block N4 (Array.getElem?_eq_some_iff.1 HN4.out).1 (fun e=>HRN.out e.symm)).trans HN4.out)
      have HKW:=Lib.hid (HKW.out.trans (hk4'.wider (fun _ _ e=>.inl e)))
      have HRD4:=Lib.hid hrd4
      have HDA:=Lib.hid hda
      have HNN:=Lib.hid hn4
      obtain ⟨cc,hcc⟩:∃ cc,x.ctor=cc:=⟨_,rfl⟩
      obtain ⟨zz,hzz⟩:∃ zz,x.int=zz:=⟨_,rfl⟩
      obtain ⟨ss,hss⟩:∃ ss,x.name=ss:=⟨_,rfl⟩
      rw [hcc,hzz,hss] at hve
      subst hve
      clear hk4' hrd4 hx hda hn4 hcc hzz hss hlt3
      have e0:=(cellH HN4.out 0).trans rfl
      have e1:=(cellH HN4.out 1).trans rfl
      have e2:=(cellH HN4.out 2).trans rfl
      have e3:=(cellH HN4.out 3).trans rfl
      have g0:=frozenH HN4.out 0
      have g1:=frozenH HN4.out 1
      have g2:=frozenH HN4.out 2
      have g3:=frozenH HN4.out 3
      go_wp2_with fail
      have hp4:=put4 (.bool cc) (.int .i64 zz) (.string ss) (.slice A2 m2 q2) HN4.out
      have hk4:=kput4 W4 N4 (.bool cc) (.int .i64 zz) (.string ss) (.slice A2 m2 q2)
      have c0:=(cellH hp4 0).trans rfl
      have c1:=(cellH hp4 1).trans rfl
      have c2:=(cellH hp4 2).trans rfl
      have c3:=(cellH hp4 3).trans rfl
      exact bodyPost_ret (v:=.agg #[.bool cc,.int .i64 zz,.string ss,.slice A2 m2 q2]) (by simp [results,Tryd.results72,go_sem,c0,c1,c2,c3]) rfl (by
       unfold OutP
       exact ⟨fin_kb HKW.out (Nat.le_of_eq HNE.out) hk4,.inr ⟨_,_,_,_,_,HOK.out,rfl,DaE.step _ _ _ _ _ _ HDA.out (hk4.wider (fun j _ e=>by subst e;exact HLT3.out)) (fun j _ e=>by have:=HLT3.out;have:=HNE.out;show j < W3.heap.size;omega),HRD4.out.kb hk4 (fun _ _ e=>e ▸ HLN.out) HRN.out,HNN.out⟩⟩)
    ·have HNO:Hid (dec (k+1) n (b :: r)=none):=Lib.hid (by rw [dec,if_neg (by have:=HN1.out;omega)];show (if b.toNat=0 then _ else _)=_;rw [if_neg hb0,if_neg hb1])
     obtain ⟨q,hq⟩:∃ q:Nat,b.toNat=q:=⟨_,rfl⟩
     rw [hq] at hb0 hb1 ⊢
     have he0:((q:Int) == 0)=false:=by simp;omega
     have he1:((q:Int) == 1)=false:=by simp;omega
     have he2:(q == 0)=false:=by simp;omega
     have he3:(q == 1)=false:=by simp;omega
     clear hq
     go_wp2_with fail
     clear he0 he1 he2 he3
     have HRD:=HRD3
     try go_at_call 93
     refine (refuse_any L R _ _ _ _ _ HRD.out).mono ?_
     rintro e W5 ⟨rfl,hrd3,hk3⟩
     have HRF:Hid (Refd L R (n+1:Nat) W5):=Lib.hid ⟨_,hrd3⟩
     have HN4:=Lib.hid ((hk3.block N4 (Array.getElem?_eq_some_iff.1 HN4.out).1 (fun e=>HRN.out e.symm)).trans HN4.out)
     have HKW:=Lib.hid (HKW.out.trans (hk3.wider (fun _ _ e=>.inl e)))
     clear hrd3 hk3
     have e0:=(cellH HN4.out 0).trans rfl
     have e1:=(cellH HN4.out 1).trans rfl
     have e2:=(cellH HN4.out 2).trans rfl
     have e3:=(cellH HN4.out 3).trans rfl
     have g0:=frozenH HN4.out 0
     have g1:=frozenH HN4.out 1
     have g2:=frozenH HN4.out 2
     have g3:=frozenH HN4.out 3
     go_wp2_with fail
     have hp4:=put4 (.bool false) (.int .i64 0) (.string ⟨#[]⟩) (.slice none 0 0) HN4.out
     have hk4:=kput4 W5 N4 (.bool false) (.int .i64 0) (.string ⟨#[]⟩) (.slice none 0 0)
     have c0:=(cellH hp4 0).trans rfl
     have c1:=(cellH hp4 1).trans rfl
     have c2:=(cellH hp4 2).trans rfl
     have c3:=(cellH hp4 3).trans rfl
     exact bodyPost_ret (v:=.agg #[.bool false,.int .i64 0,.string ⟨#[]⟩,.slice none 0 0]) (by simp [results,Tryd.results72,go_sem,c0,c1,c2,c3]) rfl (by unfold OutP;exact ⟨fin_kb HKW.out (Nat.le_of_eq HNE.out) hk4,.inl ⟨HNO.out,⟨_,_,_,_,_,_,rfl⟩,_,refd_put HRF.out hk4 HLN.out HRN.out⟩⟩)
theorem data_any:∀ k,DecC k
 | 0=>data_zero
 | k+1=>data_step k (Lib.hid (data_any k))
end Lx
end Go.Proofs.YtnpacamcgifabaaDoor
