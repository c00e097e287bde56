/- The contracts of the calls of package print's printer that put a term, a type, a constructor, a word, a way, a determinism. Conditions: the printer's block is its own; at most 2^40 bytes; the terms' numbers are a machine's. -/
import Derived.Test.YtajomoclbpobhaaGreatDoorPrRow
import Derived.Test.YtajomoclbpobhaaGreatDoorPrFL
namespace Go.Proofs.YtajomoclbpobhaaGreatDoor
set_option linter.unusedSimpArgs false
set_option linter.unusedVariables false
namespace Lx
open Go Go.RowKit
set_option maxRecDepth 100000 in
set_option maxHeartbeats 2000000 in
theorem pword_any:Puts 64 strH (fun _=>True) (fun s=>s):=by
 rintro B b l x v lo hi w h rfl _ hh hl
 have HP:=Lib.hid h
 have hl0:=h.lt
 clear h
 simp only at hl
 go_enter Tryz.func64,Tryz.ntmps64
 go_wp2_with fail
 go_at_call 62
 refine (put_one B b _ x _ rfl _ _ (by simp) HP.out (by (try simp only [List.length_append,List.length_cons,List.length_nil]);omega)).mono ?_
 rintro e w1 ⟨rfl,hp,hk⟩
 have HP1:=Lib.hid hp
 have HK1:=Lib.hid ((Kept.refl B b w).trans hk)
 clear hp hk
 go_wp2_with fail
 go_end0
 exact ⟨rfl,HP1.out,HK1.out⟩
set_option maxRecDepth 100000 in
set_option maxHeartbeats 2000000 in
theorem pway_any:Puts 69 boolV (fun _=>True) wayF:=by
 rintro B b l x v lo hi w h rfl _ hh hl
 have HP:=Lib.hid h
 have hl0:=h.lt
 clear h
 cases x with
 | true =>
  have hl1:l.length+([105,110]:List UInt8).length≤1099511627776:=hl
  simp only [List.length_cons,List.length_nil] at hl1
  go_enter Tryz.func69,Tryz.ntmps69
  go_wp2_with fail
  go_at_call 62
  refine (put_one B b _ [105,110] _ rfl _ _ (by simp) HP.out (by (try simp only [List.length_append,List.length_cons,List.length_nil]);omega)).mono ?_
  rintro e w1 ⟨rfl,hp,hk⟩
  have HP1:=Lib.hid hp
  have HK1:=Lib.hid ((Kept.refl B b w).trans hk)
  clear hp hk
  go_wp2_with fail
  go_end0
  exact ⟨rfl,HP1.out,HK1.out⟩
 | false =>
  have hl1:l.length+([111,117,116]:List UInt8).length≤1099511627776:=hl
  simp only [List.length_cons,List.length_nil] at hl1
  go_enter Tryz.func69,Tryz.ntmps69
  go_wp2_with fail
  go_at_call 62
  refine (put_one B b _ [111,117,116] _ rfl _ _ (by simp) HP.out (by (try simp only [List.length_append,List.length_cons,List.length_nil]);omega)).mono ?_
  rintro e w1 ⟨rfl,hp,hk⟩
  have HP1:=Lib.hid hp
  have HK1:=Lib.hid ((Kept.refl B b w).trans hk)
  clear hp hk
  go_wp2_with fail
  go_end0
  exact ⟨rfl,HP1.out,HK1.out⟩
set_option maxRecDepth 100000 in
set_option maxHeartbeats 2000000 in
theorem pterm_step (d:Nat) (HA:Hid (PutsA 72 40 28 4 (TermV d) termOk termF)):Puts 40 (TermV (d+1)) termOk termF:=by
 rintro B b l ⟨k,s,z,xs⟩ v lo hi w h ⟨va,rfl,ha⟩ hok hh hl
 rw [termOk,termsOk_iff] at hok
 have hfe:termF (.mk k s z xs)=(if k=2 then Lib.itoa z else s)++argsF (xs.map termF):=by rw [termF,termsF_map]
 rw [hfe] at hl
 have HFE:=Lib.hid hfe
 have hmf:∀ (fn:Fn) (first cap:Array Value) (w:World),(Instr.makeFunc fn first cap).run Tryz.prog w=.ok (.func fn first cap) w:=fun _ _ _ _=>rfl
 have HP:=Lib.hid h
 have HV:=Lib.hid ha
 have hl0:=h.lt
 obtain ⟨A,n,c,rfl⟩:=ha.slice
 clear ha h hfe
 by_cases h2:k=2
 ·subst h2
  have hw0:(w.alloc (.cells #[.int .i64 2,.string (bs s),.int .i64 z,.slice A n c] 28)).heap.size=w.heap.size+1:=by simp
  rw [if_pos rfl] at hl
  have HF2:Hid (termF (.mk 2 s z xs)=Lib.itoa z++argsF (xs.map termF)):=Lib.hid (by rw [HFE.out,if_pos rfl])
  simp only [List.length_append] at hl
  have HI:=Lib.hid (fun W hE=>itoa_any z hok.1.1 hok.1.2 W hE)
  clear HFE
  go_enter Tryz.func40,Tryz.ntmps40
  go_wp2_with fail
  go_at_call 77
  refine (HI.out _ (HP.out.alloc _).env).mono ?_
  rintro e w1 ⟨rfl,hb⟩
  have HP1:=Lib.hid ((HP.out.alloc _).move hb)
  have HK1:=Lib.hid (((Kept.refl B b w).alloc (by omega) _).move hb (by omega))
  have HB1:=Lib.hid ((hb.block w.heap.size (by omega)).trans (heap_alloc_new w _))
  clear hb
  go_wp2_with fail
  go_at_call 62
  refine (put_one B b _ (Lib.itoa z) _ rfl _ _ (by simp) HP1.out (by (try simp only [List.length_append,List.length_cons,List.length_nil]);omega)).mono ?_
  rintro e w2 ⟨rfl,hp,hk⟩
  have HP2:=Lib.hid hp
  have HK2:=Lib.hid (HK1.out.trans hk)
  have HB2:=Lib.hid (hk.cells HB1.out (by decide) (by omega))
  clear hp hk
  have c3:w2.cell? ⟨w.heap.size,3,none⟩=some (.slice A n c):=(Lib.cell_of_heap HB2.out 3).trans rfl
  go_wp2_with fail
  clear c3
  go_at_call 72
  refine (HA.out B b _ xs _ lo hi _ HP2.out (stays (ArgsV.stable _ _ (TermV.stable d)) HV.out HK2.out.below hh) hok.2 hh (by (try simp only [List.length_append,List.length_cons,List.length_nil]);omega)).mono ?_
  rintro e w3 ⟨rfl,hp,hk⟩
  have HP3:=Lib.hid hp
  have HK3:=Lib.hid (HK2.out.trans hk)
  have HB3:=Lib.hid (hk.cells HB2.out (by decide) (by omega))
  clear hp hk
  have c3:w3.cell? ⟨w.heap.size,3,none⟩=some (.slice A n c):=(Lib.cell_of_heap HB3.out 3).trans rfl
  go_wp2_with fail
  clear c3
  go_end0
  exact ⟨rfl,by rw [HF2.out];simpa only [List.append_assoc] using HP3.out,HK3.out⟩
 ·have hq:(k == 2)=false:=by simp [h2]
  rw [if_neg h2] at hl
  have HF2:Hid (termF (.mk k s z xs)=s++argsF (xs.map termF)):=Lib.hid (by rw [HFE.out,if_neg h2])
  simp only [List.length_append] at hl
  clear HFE
  go_enter Tryz.func40,Tryz.ntmps40
  go_wp2_with fail
  go_at_call 62
  refine (put_one B b _ s _ rfl _ _ (by simp) (HP.out.alloc _) (by (try simp only [List.length_append,List.length_cons,List.length_nil]);omega)).mono ?_
  rintro e w1 ⟨rfl,hp,hk⟩
  have HP1:=Lib.hid hp
  have HK1:=Lib.hid (((Kept.refl B b w).alloc (by omega) _).trans hk)
  have HB1:=Lib.hid (hk.cells (heap_alloc_new w _) (by decide) (by omega))
  clear hp hk
  have c3:w1.cell? ⟨w.heap.size,3,none⟩=some (.slice A n c):=(Lib.cell_of_heap HB1.out 3).trans rfl
  go_wp2_with fail
  clear c3
  go_at_call 72
  refine (HA.out B b _ xs _ lo hi _ HP1.out (stays (ArgsV.stable _ _ (TermV.stable d)) HV.out HK1.out.below hh) hok.2 hh (by (try simp only [List.length_append,List.length_cons,List.length_nil]);omega)).mono ?_
  rintro e w2 ⟨rfl,hp,hk⟩
  have HP2:=Lib.hid hp
  have HK2:=Lib.hid (HK1.out.trans hk)
  have HB2:=Lib.hid (hk.cells HB1.out (by decide) (by omega))
  clear hp hk
  have c3:w2.cell? ⟨w.heap.size,3,none⟩=some (.slice A n c):=(Lib.cell_of_heap HB2.out 3).trans rfl
  go_wp2_with fail
  clear c3
  go_end0
  exact ⟨rfl,by rw [HF2.out];simpa only [List.append_assoc] using HP2.out,HK2.out⟩
theorem TermV.thisTe (d:Nat):ThisTerm (TermV d):=fun _ _ _ _ _ h=>h.shape
theorem pterm_any:∀ d,Puts 40 (TermV d) termOk termF
 | 0=>fun _ _ _ _ _ _ _ _ _ h=>h.elim
 | d+1=>pterm_step d (Lib.hid (pargsTe _ (TermV.stable d) (TermV.thisTe d) _ _ (Lib.hid (pterm_any d))))
theorem ptermA_any (d:Nat):PutsA 72 40 28 4 (TermV d) termOk termF:=pargsTe _ (TermV.stable d) (TermV.thisTe d) _ _ (Lib.hid (pterm_any d))
set_option maxRecDepth 100000 in
set_option maxHeartbeats 2000000 in
theorem ptype_step (d:Nat) (HA:Hid (PutsA 67 42 35 3 (TypeV d) (fun _=>True) typeF)):Puts 42 (TypeV (d+1)) (fun _=>True) typeF:=by
 rintro B b l ⟨k,s,xs⟩ v lo hi w h ⟨va,rfl,ha⟩ _ hh hl
 have hfe:typeF (.mk k s xs)=s++argsF (xs.map typeF):=by rw [typeF,typesF_map]
 rw [hfe] at hl
 have HFE:=Lib.hid hfe
 have hmf:∀ (fn:Fn) (first cap:Array Value) (w:World),(Instr.makeFunc fn first cap).run Tryz.prog w=.ok (.func fn first cap) w:=fun _ _ _ _=>rfl
 have HP:=Lib.hid h
 have HV:=Lib.hid ha
 have hl0:=h.lt
 obtain ⟨A,n,c,rfl⟩:=ha.slice
 clear ha h hfe
 simp only [List.length_append] at hl
 go_enter Tryz.func42,Tryz.ntmps42
 go_wp2_with fail
 go_at_call 62
 refine (put_one B b _ s _ rfl _ _ (by simp) (HP.out.alloc _) (by (try simp only [List.length_append,List.length_cons,List.length_nil]);omega)).mono ?_
 rintro e w1 ⟨rfl,hp,hk⟩
 have HP1:=Lib.hid hp
 have HK1:=Lib.hid (((Kept.refl B b w).alloc (by omega) _).trans hk)
 have HB1:=Lib.hid (hk.cells (heap_alloc_new w _) (by decide) (by omega))
 clear hp hk
 have c2:w1.cell? ⟨w.heap.size,2,none⟩=some (.slice A n c):=(Lib.cell_of_heap HB1.out 2).trans rfl
 go_wp2_with fail
 clear c2
 go_at_call 67
 refine (HA.out B b _ xs _ lo hi _ HP1.out (stays (ArgsV.stable _ _ (TypeV.stable d)) HV.out HK1.out.below hh) (fun _ _=>trivial) hh (by (try simp only [List.length_append,List.length_cons,List.length_nil]);omega)).mono ?_
 rintro e w2 ⟨rfl,hp,hk⟩
 have HP2:=Lib.hid hp
 have HK2:=Lib.hid (HK1.out.trans hk)
 have HB2:=Lib.hid (hk.cells HB1.out (by decide) (by omega))
 clear hp hk
 have c2:w2.cell? ⟨w.heap.size,2,none⟩=some (.slice A n c):=(Lib.cell_of_heap HB2.out 2).trans rfl
 go_wp2_with fail
 clear c2
 go_end0
 exact ⟨rfl,by rw [HFE.out];simpa only [List.append_assoc] using HP2.out,HK2.out⟩
theorem TypeV.thisTy (d:Nat):ThisTy (TypeV d):=fun x v lo hi w h=>TypeV.this d x v lo hi w h
theorem ptype_any:∀ d,Puts 42 (TypeV d) (fun _=>True) typeF
 | 0=>fun _ _ _ _ _ _ _ _ _ h=>h.elim
 | d+1=>ptype_step d (Lib.hid (pargsTy _ (TypeV.stable d) (TypeV.thisTy d) _ _ (Lib.hid (ptype_any d))))
theorem ptypeA_any (d:Nat):PutsA 67 42 35 3 (TypeV d) (fun _=>True) typeF:=pargsTy _ (TypeV.stable d) (TypeV.thisTy d) _ _ (Lib.hid (ptype_any d))
set_option maxRecDepth 100000 in
set_option maxHeartbeats 2000000 in
theorem pctor_any:Puts 66 CtorV (fun _=>True) ctorF:=by
 rintro B b l ⟨s,xs⟩ v lo hi w h ⟨va,rfl,ha⟩ _ hh hl
 have HA:=Lib.hid (ptypeA_any 66)
 have hfe:ctorF (.mk s xs)=s++argsF (xs.map typeF):=by rw [ctorF,typesF_map]
 rw [hfe] at hl
 have HFE:=Lib.hid hfe
 have hmf:∀ (fn:Fn) (first cap:Array Value) (w:World),(Instr.makeFunc fn first cap).run Tryz.prog w=.ok (.func fn first cap) w:=fun _ _ _ _=>rfl
 have HP:=Lib.hid h
 have HV:=Lib.hid ha
 have hl0:=h.lt
 obtain ⟨A,n,c,rfl⟩:=ha.slice
 clear ha h hfe
 simp only [List.length_append] at hl
 go_enter Tryz.func66,Tryz.ntmps66
 go_wp2_with fail
 go_at_call 62
 refine (put_one B b _ s _ rfl _ _ (by simp) (HP.out.alloc _) (by (try simp only [List.length_append,List.length_cons,List.length_nil]);omega)).mono ?_
 rintro e w1 ⟨rfl,hp,hk⟩
 have HP1:=Lib.hid hp
 have HK1:=Lib.hid (((Kept.refl B b w).alloc (by omega) _).trans hk)
 have HB1:=Lib.hid (hk.cells (heap_alloc_new w _) (by decide) (by omega))
 clear hp hk
 have c1:w1.cell? ⟨w.heap.size,1,none⟩=some (.slice A n c):=(Lib.cell_of_heap HB1.out 1).trans rfl
 go_wp2_with fail
 clear c1
 go_at_call 67
 refine (HA.out B b _ xs _ lo hi _ HP1.out (stays (ArgsV.stable _ _ (TypeV.stable 66)) HV.out HK1.out.below hh) (fun _ _=>trivial) hh (by (try simp only [List.length_append,List.length_cons,List.length_nil]);omega)).mono ?_
 rintro e w2 ⟨rfl,hp,hk⟩
 have HP2:=Lib.hid hp
 have HK2:=Lib.hid (HK1.out.trans hk)
 have HB2:=Lib.hid (hk.cells HB1.out (by decide) (by omega))
 clear hp hk
 have c1:w2.cell? ⟨w.heap.size,1,none⟩=some (.slice A n c):=(Lib.cell_of_heap HB2.out 1).trans rfl
 go_wp2_with fail
 clear c1
 go_end0
 exact ⟨rfl,by rw [HFE.out];simpa only [List.append_assoc] using HP2.out,HK2.out⟩
set_option maxRecDepth 100000 in
set_option maxHeartbeats 2000000 in
theorem pdet_any (d:Int):∀ (B b:Nat) (l:List UInt8) (w:World),Pri B b l w→l.length+(detF d).length≤1099511627776 →
  Calls Tryz.prog 70 #[.pointer (some ⟨b,0,none⟩),.int .i64 d] w fun e w'=>PutR B b l (detF d) w e w':=by
 intro B b l w h hl
 have HP:=Lib.hid h
 have hl0:=h.lt
 have HD:=Lib.hid h.dets.2
 clear h
 by_cases h0:d=0
 ·subst h0
  have hd:detF 0=[]:=rfl
  rw [hd] at hl ⊢
  have t0:=HD.out 0 (by decide)
  simp only [List.length_cons,List.length_nil] at hl
  clear hd
  go_enter Tryz.func70,Tryz.ntmps70
  go_wp2_with fail
  go_at_call 62
  refine (put_one B b _ [] _ rfl _ _ (by simp) HP.out (by (try simp only [List.length_append,List.length_cons,List.length_nil]);omega)).mono ?_
  rintro e w1 ⟨rfl,hp,hk⟩
  have HP1:=Lib.hid hp
  have HK1:=Lib.hid ((Kept.refl B b w).trans hk)
  clear hp hk
  go_wp2_with fail
  go_end0
  exact ⟨rfl,HP1.out,HK1.out⟩
 by_cases h1:d=1
 ·subst h1
  have hd:detF 1=[100,101,116]:=rfl
  rw [hd] at hl ⊢
  have t0:=HD.out 1 (by decide)
  simp only [List.length_cons,List.length_nil] at hl
  clear hd
  go_enter Tryz.func70,Tryz.ntmps70
  go_wp2_with fail
  go_at_call 62
  refine (put_one B b _ [100,101,116] _ rfl _ _ (by simp) HP.out (by (try simp only [List.length_append,List.length_cons,List.length_nil]);omega)).mono ?_
  rintro e w1 ⟨rfl,hp,hk⟩
  have HP1:=Lib.hid hp
  have HK1:=Lib.hid ((Kept.refl B b w).trans hk)
  clear hp hk
  go_wp2_with fail
  go_end0
  exact ⟨rfl,HP1.out,HK1.out⟩
 by_cases h2:d=2
 ·subst h2
  have hd:detF 2=[115,101,109,105,100,101,116]:=rfl
  rw [hd] at hl ⊢
  have t0:=HD.out 2 (by decide)
  simp only [List.length_cons,List.length_nil] at hl
  clear hd
  go_enter Tryz.func70,Tryz.ntmps70
  go_wp2_with fail
  go_at_call 62
  refine (put_one B b _ [115,101,109,105,100,101,116] _ rfl _ _ (by simp) HP.out (by (try simp only [List.length_append,List.length_cons,List.length_nil]);omega)).mono ?_
  rintro e w1 ⟨rfl,hp,hk⟩
  have HP1:=Lib.hid hp
  have HK1:=Lib.hid ((Kept.refl B b w).trans hk)
  clear hp hk
  go_wp2_with fail
  go_end0
  exact ⟨rfl,HP1.out,HK1.out⟩
 by_cases h3:d=3
 ·subst h3
  have hd:detF 3=[109,117,108,116,105]:=rfl
  rw [hd] at hl ⊢
  have t0:=HD.out 3 (by decide)
  simp only [List.length_cons,List.length_nil] at hl
  clear hd
  go_enter Tryz.func70,Tryz.ntmps70
  go_wp2_with fail
  go_at_call 62
  refine (put_one B b _ [109,117,108,116,105] _ rfl _ _ (by simp) HP.out (by (try simp only [List.length_append,List.length_cons,List.length_nil]);omega)).mono ?_
  rintro e w1 ⟨rfl,hp,hk⟩
  have HP1:=Lib.hid hp
  have HK1:=Lib.hid ((Kept.refl B b w).trans hk)
  clear hp hk
  go_wp2_with fail
  go_end0
  exact ⟨rfl,HP1.out,HK1.out⟩
 by_cases h4:d=4
 ·subst h4
  have hd:detF 4=[110,111,110,100,101,116]:=rfl
  rw [hd] at hl ⊢
  have t0:=HD.out 4 (by decide)
  simp only [List.length_cons,List.length_nil] at hl
  clear hd
  go_enter Tryz.func70,Tryz.ntmps70
  go_wp2_with fail
  go_at_call 62
  refine (put_one B b _ [110,111,110,100,101,116] _ rfl _ _ (by simp) HP.out (by (try simp only [List.length_append,List.length_cons,List.length_nil]);omega)).mono ?_
  rintro e w1 ⟨rfl,hp,hk⟩
  have HP1:=Lib.hid hp
  have HK1:=Lib.hid ((Kept.refl B b w).trans hk)
  clear hp hk
  go_wp2_with fail
  go_end0
  exact ⟨rfl,HP1.out,HK1.out⟩
 have hd:detF d=[]:=by unfold detF;rw [if_neg h1,if_neg h2,if_neg h3,if_neg h4]
 rw [hd]
 by_cases hn:0≤d
 ·have hq:decide (d < 5)=false:=by simp;omega
  go_enter Tryz.func70,Tryz.ntmps70
  go_wp2_with fail
  go_end0
  exact ⟨rfl,by simpa using HP.out,Kept.refl _ _ _⟩
 ·have hq:decide (0≤d)=false:=by simpa using hn
  go_enter Tryz.func70,Tryz.ntmps70
  go_wp2_with fail
  go_end0
  exact ⟨rfl,by simpa using HP.out,Kept.refl _ _ _⟩
end Lx
end Go.Proofs.YtajomoclbpobhaaGreatDoor
