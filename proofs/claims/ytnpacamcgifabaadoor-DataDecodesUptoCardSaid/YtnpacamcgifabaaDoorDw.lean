/- The walk of the statement DataSlips: it returns true. Conditions: the error variables hold their errors; the data and the bytes are ones that memory holds, not too many bytes. -/
import Derived.Test.YtnpacamcgifabaaDoorDv
import Derived.LaidEql
namespace Go.Proofs.YtnpacamcgifabaaDoor
set_option linter.unusedSimpArgs false
set_option linter.unusedVariables false
namespace Lx
open Go Go.RowKit
theorem eqlE_same (a:Addr) (W:World):(binOp .eql 38 (.iface 163 (.pointer (some a))) (.iface 163 (.pointer (some a)))).run Tryd.prog W=.ok (.bool true) W:=by
 obtain ⟨i,hi,hc⟩:∃ i,Tryd.prog.info? 163=some i∧i.comparable=true:=by
  have h:(Tryd.prog.info? 163).map (·.comparable)=some true:=by kernel_rfl
  cases h2:Tryd.prog.info? 163 with
  | none=>rw [h2] at h;cases h
  | some i=>rw [h2] at h;exact ⟨i,rfl,by simpa using h⟩
 obtain ⟨j,hj⟩:∃ j,Tryd.prog.info? 178=some j:=by
  have h:(Tryd.prog.info? 178).isSome=true:=by kernel_rfl
  exact Option.isSome_iff_exists.1 h
 exact run_eql_iface_ptr_same W a Tryd.underlying38 Tryd.underlying163 hi hc hj
theorem eqlE_nil (a:Addr) (W:World):(binOp .eql 38 .nilIface (.iface 163 (.pointer (some a)))).run Tryd.prog W=.ok (.bool false) W:=by
 first | exact run_eql_iface_nil_left (P:=Tryd.prog) (w:=W) 163 _ Tryd.underlying38 | exact run_eql_iface_nil_left W 163 _ Tryd.underlying38 | exact run_eql_iface_nil_left 163 _ Tryd.underlying38
set_option maxRecDepth 100000 in
set_option maxHeartbeats 16000000 in
theorem lawSlips_any (f:Nat→Addr) (ad:Addr) (d:Nat) (x:DaT) (q:List UInt8) (u:Int) (vx vq:Value) (w:World) (hx:DaW d (fun _=>False) x vx w) (hq:RowW 1 ByH (fun _=>False) q vq w) (hq0:∀ n c,vq=.slice none n c→c=0) (hql:q.length≤10000000) (he:ErrD f w) (hy:ErrY ad w) :
  Calls Tryd.prog 11 #[vx,.int .i64 u,vq] w fun e w'=>e=.returned (.bool true)∧Below w.heap.size w w':=by
 obtain ⟨Ax,nx,cx,rfl⟩:=hx.this
 obtain ⟨Aq,cq,rfl⟩:=hq.slice
 have hb:=below_alloc w (.cells #[.bool x.ctor,.int .i64 x.int,.string x.name,.slice Ax nx cx] 68)
 have HB:=Lib.hid hb
 have HX:=Lib.hid (heap_alloc_new w (.cells #[.bool x.ctor,.int .i64 x.int,.string x.name,.slice Ax nx cx] 68))
 have HV:=Lib.hid ((DaW.step d).below hx hb)
 have HQ:=Lib.hid ((RowW.step ByH.step).below hq hb)
 have HQ0:=Lib.hid hq0
 have HQL:=Lib.hid hql
 have HE:=Lib.hid (he.stay hb)
 have HY:=Lib.hid (hy.stay hb)
 have HAL:=Lib.hid (dalive_any f _ (he.stay hb))
 clear hx hq hq0 he hy hb
 go_enter Tryd.func11,Tryd.ntmps11
 go_wp2_with fail
 generalize (w.alloc (.cells #[.bool x.ctor,.int .i64 x.int,.string x.name,.slice Ax nx cx] 68))=W at HB HX HV HQ HE HY HAL ⊢
 try go_at_call 36
 refine HAL.out.mono ?_
 rintro e w1 ⟨rfl,hb1⟩
 have HX1:=Lib.hid ((hb1.block w.heap.size (Array.getElem?_eq_some_iff.1 HX.out).1).trans HX.out)
 have HB1:=Lib.hid (HB.out.trans (hb1.mono HB.out.size))
 have hv1:DaW d (fun k=>w1.heap.size≤k) x (.agg #[.bool x.ctor,.int .i64 x.int,.string x.name,.slice Ax nx cx]) w1:=DaW.old ((DaW.step d).below HV.out hb1) (Nat.le_refl _)
 have HC:=Lib.hid (encode_any f d x _ w1 hv1 (HE.out.stay hb1))
 have HQ1:=Lib.hid ((RowW.step ByH.step).below HQ.out hb1)
 have HY1:=Lib.hid (HY.out.stay hb1)
 clear hb1 hv1 HAL
 have x0:=(cellH HX1.out 0).trans rfl
 have x1:=(cellH HX1.out 1).trans rfl
 have x2:=(cellH HX1.out 2).trans rfl
 have x3:=(cellH HX1.out 3).trans rfl
 go_wp2_with fail
 clear x0 x1 x2 x3
 try go_at_call 42
 refine HC.out.mono ?_
 rintro e w2 ⟨hb2,⟨hg,hf,A,m,c,rfl,ho⟩ | ⟨_,rfl⟩ | ⟨_,_,rfl⟩⟩
 ·obtain ⟨A',c',hs⟩:=ho.shape
  injection hs with hs1 hs2 hs3
  subst hs1
  subst hs3
  have HG:=Lib.hid hg
  have HF:=Lib.hid hf
  have HO:=Lib.hid ho
  have HB2:=Lib.hid (HB1.out.trans (hb2.mono HB1.out.size))
  have HQ2:=Lib.hid ((RowW.step ByH.step).below HQ1.out hb2)
  have HY2:=Lib.hid (HY1.out.stay hb2)
  obtain ⟨l,hl⟩:∃ l,encD x=l:=⟨_,rfl⟩
  have HL:=Lib.hid hl
  have hlen:=enc_len x hf
  have hpos:=enc_pos x
  have hsz:sizeD x≤4096:=by
   unfold goodD at hg
   simp only [Bool.and_eq_true,decide_eq_true_eq] at hg
   exact hg.1
  rw [hl] at hlen hpos HO hs2
  subst hs2
  obtain ⟨N,hN⟩:∃ N:Nat,l.length=N:=⟨_,rfl⟩
  have HN:=Lib.hid hN
  rw [hN] at hlen hpos HO ⊢
  have hcap:N≤c:=by
   rcases HO.out.2 with ⟨e,h0⟩ | ⟨g,cap,cur,e,_,_,h1,_⟩
   ·have:=HN.out;omega
   ·injection e with _ _ e3;have:=HN.out;omega
  clear hg hf ho hb2 hl hN
  obtain ⟨cN,hcN,hcut⟩:∃ cN:Nat,cN < N∧Int.tmod (Int.tmod u (N:Int)+(N:Int)) (N:Int)=(cN:Int):=by
   have hp:(0:Int) < (N:Int):=by omega
   have h1:0≤Int.tmod (Int.tmod u N+N) N:=Int.tmod_nonneg N (by have:=Int.lt_tmod_of_pos u hp;omega)
   have h2:Int.tmod (Int.tmod u N+N) N < N:=Int.tmod_lt_of_pos _ hp
   exact ⟨(Int.tmod (Int.tmod u N+N) N).toNat,by omega,by omega⟩
  have hp:(0:Int) < (N:Int):=by omega
  have hlo:=Int.lt_tmod_of_pos u hp
  have hhi:=Int.tmod_lt_of_pos u hp
  have hN0:¬ (N:Int)=0:=by omega
  have hN1:¬ N=0:=by omega
  have hN2:((N:Int) == 0)=false:=by simp;omega
  have hN3:(N == 0)=false:=by simp;omega
  have hNb:N≤200000:=by omega
  have hhead:=fun W=>run_head A N c cN W (by omega)
  have HCN:=Lib.hid hcN
  have HNB:=Lib.hid hNb
  have HD1:=Lib.hid (decode_any ad (fun _=>False) (l.take cN) (.slice A cN c) w2 (By.takeC (by have h:=HO.out.row;rw [← HN.out] at h;exact h) (by have:=HN.out;omega)) HY2.out)
  go_wp2_with fail
  clear hhead hcut hlo hhi hp hcap
  try go_at_call 38
  refine HD1.out.mono ?_
  rintro e w3 ⟨hb3,⟨y,m1,v1,hdec,_,_⟩ | ⟨_,rfl⟩⟩
  ·exact absurd (show ∃ y m,dec 200 0 (l.take cN)=some (y,[],m) from ⟨y,m1,hdec⟩) (by rw [← HL.out];exact dec_short HF.out HG.out (by rw [HL.out,HN.out];exact HCN.out))
  have hb4:=below_alloc w3 (.cells #[.bool false,.int .i64 0,.string ⟨#[]⟩,.slice none 0 0] 68)
  have HO4:=Lib.hid ((HO.out.below hb3).below hb4)
  have HB4:=Lib.hid ((HB2.out.trans (hb3.mono HB2.out.size)).trans (hb4.mono (HB2.out.trans (hb3.mono HB2.out.size)).size))
  have HQ4:=Lib.hid ((RowW.step ByH.step).below ((RowW.step ByH.step).below HQ2.out hb3) hb4)
  have HY4:=Lib.hid ((HY2.out.stay hb3).stay hb4)
  clear hb3 hb4 HD1 HO HQ2 HY2
  unfold zeroD errV
  go_upto_region 8 with fail
  generalize (w3.alloc (.cells #[.bool false,.int .i64 0,.string ⟨#[]⟩,.slice none 0 0] 68))=W4 at HO4 HB4 HQ4 HY4 ⊢
  have hb5:=below_alloc W4 (.cells #[] 5)
  have ho5:OwnB W4.heap.size [] (.slice (some ⟨W4.heap.size,0,none⟩) 0 0) (W4.alloc (.cells #[] 5)):=⟨rfl,.inr ⟨W4.heap.size,0,#[],rfl,Nat.le_refl _,heap_alloc_new _ _,Nat.le_refl _,Nat.zero_le _,rfl,rfl⟩⟩
  have HO5:=Lib.hid ho5
  have HBR5:=Lib.hid (HO4.out.below hb5).row
  have HQ5:=Lib.hid ((RowW.step ByH.step).below HQ4.out hb5)
  have HB5:=Lib.hid (HB4.out.trans (hb5.mono HB4.out.size))
  have HY5:=Lib.hid (HY4.out.stay hb5)
  have HS5:Hid (W4.heap.size≤(W4.alloc (.cells #[] 5)).heap.size):=Lib.hid hb5.size
  have HW4:=Lib.hid hb5
  have HO4N:Hid (∀ n' c',Value.slice A N c=.slice none n' c'→c'=0):=Lib.hid (fun n' c' e=>by
   rcases HO4.out.2 with ⟨e2,h0⟩ | ⟨g,cap,cur,e2,_⟩
   ·rw [e2] at e;injection e with _ _ e3;exact e3.symm
   ·rw [e2] at e;injection e with e3 _ _;cases e3)
  clear hb5 ho5
  have HLQ:Hid (l.length+q.length≤100000000):=Lib.hid (by have:=HN.out;have:=HNB.out;have:=HQL.out;omega)
  go_wp2_with (first
   | (at_builtin;refine append_row rfl (.tmp 40) (.tmp 41) rfl W4.heap.size [] _ rfl HO5.out (fun _=>False) l _ rfl HBR5.out HO4N.out (by have:=HLQ.out;simp only [List.length_nil];omega) HS5.out ?_;intro v6 w6 hown6 hg6;rw [List.nil_append] at hown6;have HO6:=Lib.hid hown6;have HKG6:=Lib.hid (kb_growB hg6 (fun k e=>(HO5.out.lt k e).1));clear hown6 hg6)
   | (at_builtin;refine append_row rfl (.tmp 42) (.tmp 43) rfl W4.heap.size l _ rfl HO6.out (fun _=>False) q _ rfl (by_old HQ5.out HKG6.out (by_low HQ4.out HW4.out)) HQ0.out (by have:=HLQ.out;omega) (Nat.le_trans HS5.out HKG6.out.size) ?_;intro v7 w7 hown7 hg7;have HO7:=Lib.hid hown7;have HKG7:=Lib.hid (kb_growB hg7 (fun k e=>(HO6.out.lt k e).1));clear hown7 hg7))
  have hwz:w.heap.size≤W4.heap.size:=HB4.out.size
  have hgl:2 < W4.heap.size:=World.block_lt_of_cell? _ _ HY4.out
  have HB7:=Lib.hid ((HB5.out.trans (HKG6.out.below HB5.out.size (fun k e=>Nat.le_trans hwz e))).trans (HKG7.out.below (Nat.le_trans HB5.out.size HKG6.out.size) (fun k e=>Nat.le_trans hwz e)))
  have HY7:=Lib.hid ((HY5.out.kb HKG6.out (by omega)).kb HKG7.out (by omega))
  obtain ⟨A7,c7,hs7⟩:=HO7.out.shape
  subst hs7
  try go_at_call 38
  refine (decode_any ad (fun _=>False) (l++q) _ w7 HO7.out.row HY7.out).mono ?_
  rintro e w8 ⟨hb8,⟨y,m8,v8,hdec,rfl,hda⟩ | ⟨hno,rfl⟩⟩
  ·have hq1:q=[]:=(dec_more HF.out HG.out).1 (by rw [HL.out];exact ⟨y,m8,hdec⟩)
   subst hq1
   obtain ⟨A2,m2,q2,hve⟩:=hda.this
   obtain ⟨cc,hcc⟩:∃ cc,y.ctor=cc:=⟨_,rfl⟩
   obtain ⟨zz,hzz⟩:∃ zz,y.int=zz:=⟨_,rfl⟩
   obtain ⟨ss,hss⟩:∃ ss,y.name=ss:=⟨_,rfl⟩
   rw [hcc,hzz,hss] at hve
   subst hve
   have hb9:=below_alloc w8 (.cells #[.bool cc,.int .i64 zz,.string ss,.slice A2 m2 q2] 68)
   have HB9:=Lib.hid ((HB7.out.trans (hb8.mono HB7.out.size)).trans (hb9.mono (HB7.out.trans (hb8.mono HB7.out.size)).size))
   have hy9:(w8.alloc (.cells #[.bool cc,.int .i64 zz,.string ss,.slice A2 m2 q2] 68)).cell? ⟨2,0,none⟩=some (.iface 163 (.pointer (some ad))):=(HY7.out.stay hb8).stay hb9
   have hy8:w8.cell? ⟨2,0,none⟩=some (.iface 163 (.pointer (some ad))):=HY7.out.stay hb8
   have heq:=eqlE_same ad
   have heqn:=eqlE_nil ad
   clear hb8 hb9 hda hdec hcc hzz hss
   go_wp2_with fail
   go_ret
   exact ⟨rfl,HB9.out⟩
  ·have hq1:¬ q.length=0:=fun e=>hno (by rw [← HL.out];exact (dec_more HF.out HG.out).2 (List.eq_nil_of_length_eq_zero e))
   have hb9:=below_alloc w8 (.cells #[.bool false,.int .i64 0,.string ⟨#[]⟩,.slice none 0 0] 68)
   have HB9:=Lib.hid ((HB7.out.trans (hb8.mono HB7.out.size)).trans (hb9.mono (HB7.out.trans (hb8.mono HB7.out.size)).size))
   have hy9:(w8.alloc (.cells #[.bool false,.int .i64 0,.string ⟨#[]⟩,.slice none 0 0] 68)).cell? ⟨2,0,none⟩=some (.iface 163 (.pointer (some ad))):=(HY7.out.stay hb8).stay hb9
   have hy8:w8.cell? ⟨2,0,none⟩=some (.iface 163 (.pointer (some ad))):=HY7.out.stay hb8
   have heq:=eqlE_same ad
   have hd1:decide (0 < q.length)=true:=by simp;omega
   have hd2:decide ((q.length:Int) > 0)=true:=by simp;omega
   unfold zeroD errV
   clear hb8 hb9 hno
   go_wp2_with fail
   go_ret
   exact ⟨rfl,HB9.out⟩
 ·unfold errV
  go_wp2_with fail
  go_ret
  exact ⟨rfl,HB1.out.trans (hb2.mono HB1.out.size)⟩
 ·unfold errV
  go_wp2_with fail
  go_ret
  exact ⟨rfl,HB1.out.trans (hb2.mono HB1.out.size)⟩
end Lx
end Go.Proofs.YtnpacamcgifabaaDoor
