/- A printer of package print, where nothing is known of its tables of words; the contract of put. Conditions: the printer's block is its own; at most 2^40 bytes. -/
/- Package print at terms that memory holds in any shape: the row, the arguments, the term, and its text. Conditions: the printer's block is its own; at most 2^40 bytes; the terms' numbers are a machine's. -/
import Derived.Test.YtiljemkglhloeaaGreatDoorPrP
import Derived.Test.YtiljemkglhloeaaGreatDoorGa
import Derived.Test.YtiljemkglhloeaaGreatDoorPrRow
import Derived.Test.YtiljemkglhloeaaGreatDoorPrFL
namespace Go.Proofs.YtiljemkglhloeaaGreatDoor
set_option linter.unusedSimpArgs false
set_option linter.unusedVariables false
namespace Lx
open Go Go.RowKit
/-- The globals that printing reads lie below B. -/
def LowT (B:Nat):Prop:=21 < B∧22 < B∧18 < B
theorem Env.lowT {B:Nat} {w w':World} (h:Env w) (hb:Below B w w') (hl:LowT B):Env w':=by
 obtain ⟨l3,l4,l5⟩:=hl
 refine ⟨Nat.le_trans h.size hb.size,?_,?_,tab_low (g:=18) (by kernel_rfl) h.tab hb l5⟩
 ·obtain ⟨te,pe,h1⟩:=h.syn
  exact ⟨te,pe,(hb.cell (p:=⟨21,0,none⟩) l3).trans h1⟩
 ·obtain ⟨te,pe,h1⟩:=h.rng
  exact ⟨te,pe,(hb.cell (p:=⟨22,0,none⟩) l4).trans h1⟩
/-- A printer in a block of the call's own holds these bytes; the tables of words stand. -/
structure PriT (B b:Nat) (l:List UInt8) (w:World):Prop where
 isP:IsP B b (Lib.byteCells l) w
 env:Env w
 low:LowT B
theorem PriT.lt {B b:Nat} {l:List UInt8} {w:World} (h:PriT B b l w):B≤b∧b < w.heap.size:=h.isP.lt
theorem PriT.move {B b:Nat} {l:List UInt8} {w w':World} (h:PriT B b l w) (hb:Below w.heap.size w w'):PriT B b l w' :=
 ⟨isP_below h.isP hb,h.env.below hb,h.low⟩
theorem PriT.alloc {B b:Nat} {l:List UInt8} {w:World} (h:PriT B b l w) (o:Obj):PriT B b l (w.alloc o):=h.move ((Below.refl _ _).alloc (Nat.le_refl _) _)
theorem PriT.step {B b:Nat} {l l':List UInt8} {w w':World} (h:PriT B b l w) (hb:Below B w w') (hi:IsP B b (Lib.byteCells l') w'):PriT B b l' w' :=
 ⟨hi,h.env.lowT hb h.low,h.low⟩
theorem PriT.drewN {B b:Nat} {l:List UInt8} {w:World} (h:PriT B b l w) (n:Nat):PriT B b l (w.drewN n):=h.move ⟨rfl,rfl,rfl,Nat.le_refl _,fun _ _=>rfl⟩
theorem PriT.drew {B b:Nat} {l:List UInt8} {w:World} (h:PriT B b l w):PriT B b l w.drew:=h.move ⟨rfl,rfl,rfl,Nat.le_refl _,fun _ _=>rfl⟩
theorem pwriteT_any (B b:Nat) (l s:List UInt8) (w:World) (h:PriT B b l w) (hl:l.length+s.length≤1099511627776) :
  Calls Tryz.prog 97 #[.pointer (some ⟨b,0,none⟩),.string (bs s)] w fun e w'=>(∃ v,e=.returned v)∧PriT B b (l++s) w'∧Kept B b w w':=by
 have hlt:=h.lt
 refine (pwriteString_any B b (Lib.byteCells l) (bs s) w h.isP (by rw [Lib.byteCells_length,bs_size];omega) (by omega)).mono ?_
 rintro e w' ⟨rfl,h1,h2,h3⟩
 refine ⟨⟨_,rfl⟩,h.step h2 ?_,h2,h3⟩
 rw [byteCells_app']
 exact .inr h1
/-- What a call of the printer's does: it returns nothing; this text stands behind what stood. -/
def PutT (B b:Nat) (l s:List UInt8) (w:World) (e:Ending) (w':World):Prop:=e=.returned (.tuple #[])∧PriT B b (l++s) w'∧Kept B b w w'
set_option maxRecDepth 100000 in
set_option maxHeartbeats 2000000 in
theorem putT_any (B b:Nat) (l:List UInt8) (g:Nat) (ws:List (List UInt8)) (c:Nat) (T:TypeId) (hT:T ≠ 5) (w:World) (h:PriT B b l w) (hg:w.heap[g]?=some (.cells (ws.map fun s=>Value.string (bs s)).toArray T (0,0))) (hgb:g ≠ b) (hl:l.length+ws.flatten.length≤1099511627776) (hn:ws.length≤1048576) :
  Calls Tryz.prog 59 #[.pointer (some ⟨b,0,none⟩),.slice (some ⟨g,0,none⟩) ws.length c] w fun e w'=>PutT B b l ws.flatten w e w':=by
 have HP:=Lib.hid h
 have HG:=Lib.hid hg
 clear h hg
 go_enter Tryz.func59,Tryz.ntmps59
 go_wp2_with fail
 go_loopw [8] (fun i wr=>∃ k:Nat,k≤ws.length∧i=.int .i64 k∧Hid (PriT B b (l++(ws.take k).flatten) wr)∧Hid (Kept B b w wr)) (fun i _=>ws.length - (intOf i).toNat)
 case atStart=>exact ⟨0,Nat.zero_le _,rfl,Lib.hid (by simpa using HP.out),Lib.hid (Kept.refl _ _ _)⟩
 case round =>
  obtain ⟨k,hk,rfl,HI,HK⟩:=hrel
  by_cases hlt:k < ws.length
  ·have hgr:=HK.out.cells HG.out hT hgb
   have a0:wr.cell? ⟨g,k,none⟩=some (.string (bs ws[k])):=(Lib.cell_of_heap hgr k).trans (by simp [hlt])
   have hk0:(0:Int)≤(k:Int):=by omega
   have hk1:(k:Int) < (ws.length:Int):=by omega
   have hfl:(ws.take (k+1)).flatten=(ws.take k).flatten++ws[k]:=by rw [List.take_succ_eq_append_getElem hlt,List.flatten_append,List.flatten_cons,List.flatten_nil,List.append_nil]
   have hle:(ws.take k).flatten.length+ws[k].length≤ws.flatten.length:=by
    rw [← List.length_append,← hfl]
    have e:ws.flatten=(ws.take (k+1)).flatten++(ws.drop (k+1)).flatten:=by rw [← List.flatten_append,List.take_append_drop]
    rw [e,List.length_append]
    omega
   have HW:=Lib.hid (fun W (h:PriT B b (l++(ws.take k).flatten) W)=>pwriteT_any B b _ ws[k] W h (by rw [List.length_append];omega))
   have HF:=Lib.hid hfl
   clear hgr hfl hle
   go_wp2_with (go_at_call 97;refine (HW.out _ HI.out).mono ?_;rintro e w2 ⟨⟨v,rfl⟩,hp2,hk2⟩)
   have HI2:Hid (PriT B b (l++(ws.take (k+1)).flatten) w2):=Lib.hid (by rw [HF.out,← List.append_assoc];exact hp2)
   have HK2:=Lib.hid (HK.out.trans hk2)
   clear hp2 hk2
   go_roundw
   case rel=>exact ⟨k+1,by omega,by go_num,HI2,HK2⟩
   case measure=>simp [intOf];omega
  ·obtain rfl:k=ws.length:=by omega
   have hq:decide ((ws.length:Int) < (ws.length:Int))=false:=by simp
   go_wp2_with fail
   go_end0
   exact ⟨rfl,by have:=HI.out;rwa [List.take_length] at this,HK.out⟩
/-- put at one text, in a row made for it. -/
theorem putT_one (B b:Nat) (l:List UInt8) (s:List UInt8) (x:ByteArray) (hx:x=bs s) (w:World) (g:Nat) (hg:w.heap.size=g) (h:PriT B b l w) (hl:l.length+s.length≤1099511627776) :
  Calls Tryz.prog 59 #[.pointer (some ⟨b,0,none⟩),.slice (some ⟨g,0,none⟩) 1 1] (w.alloc (.cells #[.string x] 9)) fun e w'=>PutT B b l s w e w':=by
 subst hx hg
 have hlt:=h.lt
 refine (putT_any B b l w.heap.size [s] 1 9 (by decide) _ (h.alloc _) (heap_alloc_new w _) (by omega) (by simpa using hl) (by simp)).mono ?_
 rintro e w' ⟨h1,h2,h3⟩
 exact ⟨h1,by simpa using h2,((Kept.refl B b w).alloc (by omega) _).trans h3⟩
theorem lowT_of {w:World} (h:Env w):LowT w.heap.size:=by
 refine ⟨?_,?_,?_⟩
 ·obtain ⟨te,pe,h1⟩:=h.syn
  exact World.block_lt_of_cell? w _ h1
 ·obtain ⟨te,pe,h1⟩:=h.rng
  exact World.block_lt_of_cell? w _ h1
 ·have h1:=h.tab
  unfold Lib.TabIs World.var? at h1
  rw [show Tryz.prog.globalNamed "internal/strconv.uint64pow10" = some 18 by kernel_rfl] at h1
  simp only [Option.bind_some] at h1
  rcases Nat.lt_or_ge 18 w.heap.size with h2 | h2
  ·exact h2
  ·rw [Array.getElem?_eq_none h2] at h1
   simp at h1
theorem freshT {w W:World} (h:Env w) (hb:Below w.heap.size w W):PriT w.heap.size W.heap.size [] (W.alloc (.cells #[.pointer none,.slice none 0 0] 75)):=by
 have hb2:Below w.heap.size w (W.alloc (.cells #[.pointer none,.slice none 0 0] 75)):=hb.alloc hb.size _
 exact ⟨.inl ⟨hb.size,.slice none 0 0,heap_alloc_new W _,World.ownsRow_nil _ _ _ _,by simp [Value.ownBlock]⟩,h.below hb2,lowT_of h⟩
end Lx
end Go.Proofs.YtiljemkglhloeaaGreatDoor
namespace Go.Proofs.YtiljemkglhloeaaGreatDoor
set_option linter.unusedSimpArgs false
set_option linter.unusedVariables false
namespace Lx
open Go Go.RowKit
theorem Kept.kb {B b:Nat} {w w':World} (h:Kept B b w w'):Kb (fun k=>B≤k) w w':=⟨h.below.os,h.below.tape,h.below.output,h.below.size,fun k _ hn=>h.below.block k (by omega)⟩
/-- The printer's term at terms held so deep. -/
def PutsTm (d:Nat):Prop:=∀ (B b:Nat) (l:List UInt8) (x:TermT) (v:Value) (w:World),PriT B b l w→TmW d (fun k=>B≤k) x v w→termOk x→l.length+(termF x).length≤1099511627776 →
 Calls Tryz.prog 39 #[.pointer (some ⟨b,0,none⟩),v] w fun e w'=>PutT B b l (termF x) w e w'
set_option maxRecDepth 100000 in
set_option maxHeartbeats 2000000 in
theorem prowTm (d:Nat) (HF:Hid (PutsTm d)) (B b:Nat) (l:List UInt8) (xs:List TermT) (v:Value) (w:World) (m:List UInt8) (x:ByteArray) (hx:x=bs m) (h:PriT B b l w) (hv:RowW 4 (TmW d) (fun k=>B≤k) xs v w) (hok:∀ x ∈ xs,termOk x) (hl:l.length+(joinF m (xs.map termF)).length≤1099511627776) :
  Calls Tryz.prog 101 #[.pointer (some ⟨b,0,none⟩),.string x,v,.func (.func 39) #[.pointer (some ⟨b,0,none⟩)] #[]] w fun e w'=>PutT B b l (joinF m (xs.map termF)) w e w':=by
 subst hx
 have HP:=Lib.hid h
 have HV:=Lib.hid hv
 have HOK:=Lib.hid hok
 clear hok
 obtain ⟨A,c,rfl⟩:=hv.slice
 have hlen:=hv.few
 unfold maxLen at hlen
 have hl0:=h.lt
 clear hv h
 go_enter Tryz.func101,Tryz.ntmps101
 go_wp2_with fail
 go_loopw [12] (fun t wr=>∃ k:Nat,k≤xs.length∧t=.int .i64 k∧Hid (PriT B b (l++joinF m ((xs.map termF).take k)) wr)∧Hid (Kept B b w wr)) (fun t _=>xs.length - (intOf t).toNat)
 case atStart=>exact ⟨0,Nat.zero_le _,rfl,Lib.hid (by simpa [joinF] using HP.out),Lib.hid (Kept.refl _ _ _)⟩
 case round =>
  obtain ⟨k,hk,rfl,HI,HK⟩:=hrel
  by_cases hlt:k < xs.length
  ·obtain ⟨g1,o1,u1,rfl,_,_,hv1,cc1⟩:=RowW.at (RowW.step (TmW.step d) _ _ _ _ _ _ HV.out HK.out.kb (fun _ _ e=>e)) k hlt
   obtain ⟨z0,z1,z2,z3,z4,z5,rfl⟩:=hv1.shape
   have a0:=(cc1 0 (by decide)).trans rfl
   have a1:=(cc1 1 (by decide)).trans rfl
   have a2:=(cc1 2 (by decide)).trans rfl
   have a3:=(cc1 3 (by decide)).trans rfl
   simp only [cellsL,Value.cells,List.getElem?_cons_zero,List.getElem?_cons_succ,Nat.add_zero] at a0 a1 a2 a3
   have HV1:=Lib.hid hv1
   have hk0:(0:Int)≤(k:Int):=by omega
   have hk1:(k:Int) < (xs.length:Int):=by omega
   have hdc:decide (k < xs.length)=true:=by simpa using hlt
   have hpl:=HI.out.lt
   obtain ⟨hj,hjl⟩:=joinF_step m termF xs k hlt
   have HJ:=Lib.hid hj
   have hjl2:l.length+(joinF m ((xs.map termF).take (k+1))).length≤1099511627776:=by omega
   rw [hj] at hjl2
   clear cc1 hv1 hj hjl
   by_cases h0:k=0
   ·have hk3:decide (0 < k)=false:=by simp;omega
    have HE:l++joinF m ((xs.map termF).take k)=l:=by rw [h0];simp [joinF]
    rw [HE] at HI
    rw [if_pos h0] at hjl2
    have HJ0:Hid (joinF m ((xs.map termF).take (k+1))=termF xs[k]):=Lib.hid (by rw [HJ.out,if_pos h0])
    clear h0 HJ
    go_wp2_with fail
    clear a0 a1 a2 a3
    go_at_call 39
    refine (HF.out B b l _ _ _ (HI.out.alloc _) ((TmW.step d).below HV1.out (below_alloc _ _)) (HOK.out _ (List.getElem_mem hlt)) hjl2).mono ?_
    rintro e w3 ⟨rfl,hp3,hk3⟩
    have HP3:Hid (PriT B b (l++joinF m ((xs.map termF).take (k+1))) w3):=Lib.hid (by rw [HJ0.out];exact hp3)
    have HK3:=Lib.hid ((HK.out.alloc (by omega) _).trans hk3)
    clear hp3 hk3
    go_wp2_with fail
    go_roundw
    case rel=>exact ⟨k+1,by omega,by go_num,HP3,HK3⟩
    case measure=>simp [intOf];omega
   ·have hk3:decide (0 < k)=true:=by simp;omega
    rw [if_neg h0] at hjl2
    simp only [List.length_append] at hjl2
    have HJ0:Hid (l++joinF m ((xs.map termF).take (k+1))=((l++joinF m ((xs.map termF).take k))++m)++termF xs[k]):=Lib.hid (by rw [HJ.out,if_neg h0];simp [List.append_assoc])
    clear h0 HJ
    go_wp2_with fail
    clear a0 a1 a2 a3
    go_at_call 59
    refine (putT_one B b _ m _ rfl _ _ (by simp) (HI.out.alloc _) (by rw [List.length_append];omega)).mono ?_
    rintro e w2 ⟨rfl,hp2,hk2⟩
    have HP2:=Lib.hid hp2
    have HK2:=Lib.hid ((HK.out.alloc (by omega) _).trans hk2)
    have HV2:=Lib.hid (TmW.step d _ _ _ _ _ _ ((TmW.step d).below HV1.out (below_alloc _ _)) hk2.kb (fun _ _ e=>e))
    have hbx:=hk2.cells (heap_alloc_new wr (.cells #[.int .i64 z0,.string z1,.int .i64 z2,.slice z3 z4 z5] 28)) (by decide) (by omega)
    have d0:w2.cell? ⟨wr.heap.size,0,none⟩=some (.int .i64 z0):=(Lib.cell_of_heap hbx 0).trans rfl
    have d1:w2.cell? ⟨wr.heap.size,1,none⟩=some (.string z1):=(Lib.cell_of_heap hbx 1).trans rfl
    have d2:w2.cell? ⟨wr.heap.size,2,none⟩=some (.int .i64 z2):=(Lib.cell_of_heap hbx 2).trans rfl
    have d3:w2.cell? ⟨wr.heap.size,3,none⟩=some (.slice z3 z4 z5):=(Lib.cell_of_heap hbx 3).trans rfl
    clear hbx
    clear hp2 hk2
    go_wp2_with fail
    clear d0 d1 d2 d3
    go_at_call 39
    refine (HF.out B b _ _ _ _ HP2.out HV2.out (HOK.out _ (List.getElem_mem hlt)) (by rw [List.length_append,List.length_append];omega)).mono ?_
    rintro e w3 ⟨rfl,hp3,hk3⟩
    have HP3:Hid (PriT B b (l++joinF m ((xs.map termF).take (k+1))) w3):=Lib.hid (by rw [HJ0.out];exact hp3)
    have HK3:=Lib.hid (HK2.out.trans hk3)
    clear hp3 hk3
    go_wp2_with fail
    go_roundw
    case rel=>exact ⟨k+1,by omega,by go_num,HP3,HK3⟩
    case measure=>simp [intOf];omega
  ·obtain rfl:k=xs.length:=by omega
   have hdc:decide (xs.length < xs.length)=false:=by simp
   go_wp2_with fail
   go_end0
   exact ⟨rfl,by have:=HI.out;rwa [List.take_of_length_le (by simp)] at this,HK.out⟩
def ArgsTm (d:Nat):Prop:=∀ (B b:Nat) (l:List UInt8) (xs:List TermT) (v:Value) (w:World),PriT B b l w→RowW 4 (TmW d) (fun k=>B≤k) xs v w→(∀ x ∈ xs,termOk x)→l.length+(argsF (xs.map termF)).length≤1099511627776 →
 Calls Tryz.prog 69 #[.pointer (some ⟨b,0,none⟩),v,.func (.func 39) #[.pointer (some ⟨b,0,none⟩)] #[]] w fun e w'=>PutT B b l (argsF (xs.map termF)) w e w'
set_option maxRecDepth 100000 in
set_option maxHeartbeats 2000000 in
theorem pargsTm (d:Nat) (HF:Hid (PutsTm d)):ArgsTm d:=by
 intro B b l xs v w h hv hok hl
 have HP:=Lib.hid h
 have HV:=Lib.hid hv
 obtain ⟨A,c,rfl⟩:=hv.slice
 have hlen:=hv.few
 unfold maxLen at hlen
 have hl0:=h.lt
 clear hv h
 by_cases hx:xs=[]
 ·subst hx
  go_enter Tryz.func69,Tryz.ntmps69
  go_wp2_with fail
  go_end0
  exact ⟨rfl,by simpa [argsF] using HP.out,Kept.refl _ _ _⟩
 ·have hx0:xs.length ≠ 0:=fun e=>hx (List.eq_nil_of_length_eq_zero e)
  have hq:((xs.length:Int) == 0)=false:=by simpa using hx
  have hfa:argsF (xs.map termF)=[40]++(joinF [44,32] (xs.map termF)++[41]):=by unfold argsF;rw [if_neg (by simpa using hx)];rfl
  have HFA:=Lib.hid hfa
  rw [hfa] at hl
  simp only [List.length_append,List.length_cons,List.length_nil] at hl
  clear hx hx0 hfa
  go_enter Tryz.func69,Tryz.ntmps69
  go_wp2_with fail
  go_at_call 59
  refine (putT_one B b l [40] _ rfl _ _ (by simp) HP.out (by simp only [List.length_cons,List.length_nil];omega)).mono ?_
  rintro e w1 ⟨rfl,hp1,hk1⟩
  have HP1:=Lib.hid hp1
  have HK1:=Lib.hid hk1
  have HV1:=Lib.hid (RowW.step (TmW.step d) _ _ _ _ _ _ HV.out hk1.kb (fun _ _ e=>e))
  clear hp1 hk1
  go_wp2_with fail
  go_at_call 101
  refine (prowTm d HF B b _ xs _ _ [44,32] _ rfl HP1.out HV1.out hok (by simp only [List.length_append,List.length_cons,List.length_nil];omega)).mono ?_
  rintro e w2 ⟨rfl,hp2,hk2⟩
  have HP2:=Lib.hid hp2
  have HK2:=Lib.hid (HK1.out.trans hk2)
  clear hp2 hk2
  go_wp2_with fail
  go_at_call 59
  refine (putT_one B b _ [41] _ rfl _ _ (by simp) HP2.out (by simp only [List.length_append,List.length_cons,List.length_nil];omega)).mono ?_
  rintro e w3 ⟨rfl,hp3,hk3⟩
  go_wp2_with fail
  go_end0
  exact ⟨rfl,by rw [HFA.out,← List.append_assoc,← List.append_assoc];exact hp3,HK2.out.trans hk3⟩
set_option maxRecDepth 100000 in
set_option maxHeartbeats 2000000 in
theorem ptermTm_step (d:Nat) (HA:Hid (ArgsTm d)):PutsTm (d+1):=by
 rintro B b l ⟨k,s,z,xs⟩ v w h ⟨va,rfl,ha⟩ hok hl
 rw [termOk,termsOk_iff] at hok
 have hfe:termF (.mk k s z xs)=(if k=2 then Lib.itoa z else s)++argsF (xs.map termF):=by rw [termF,termsF_map]
 rw [hfe] at hl
 have HFE:=Lib.hid hfe
 have hmf:∀ (fn:Fn) (first cap:Array Value) (w:World),(Instr.makeFunc fn first cap).run Tryz.prog w=.ok (.func fn first cap) w:=fun _ _ _ _=>rfl
 have HP:=Lib.hid h
 have HV:=Lib.hid ha
 have hl0:=h.lt
 obtain ⟨A,c,rfl⟩:=ha.slice
 obtain ⟨n,hn⟩:∃ n,xs.length=n:=⟨_,rfl⟩
 rw [hn] at HV ⊢
 clear hn
 clear ha h hfe
 by_cases h2:k=2
 ·subst h2
  have hw0:(w.alloc (.cells #[.int .i64 2,.string (bs s),.int .i64 z,.slice A n c] 28)).heap.size=w.heap.size+1:=by simp
  rw [if_pos rfl] at hl
  have HF2:Hid (termF (.mk 2 s z xs)=Lib.itoa z++argsF (xs.map termF)):=Lib.hid (by rw [HFE.out,if_pos rfl])
  simp only [List.length_append] at hl
  have HI:=Lib.hid (fun W hE=>itoa_any z hok.1.1 hok.1.2 W hE)
  clear HFE
  go_enter Tryz.func39,Tryz.ntmps39
  go_wp2_with fail
  go_at_call 74
  refine (HI.out _ (HP.out.alloc _).env).mono ?_
  rintro e w1 ⟨rfl,hb⟩
  have HP1:=Lib.hid ((HP.out.alloc _).move hb)
  have HK1:=Lib.hid (((Kept.refl B b w).alloc (by omega) _).move hb (by omega))
  have HB1:=Lib.hid ((hb.block w.heap.size (by omega)).trans (heap_alloc_new w _))
  clear hb
  go_wp2_with fail
  go_at_call 59
  refine (putT_one B b _ (Lib.itoa z) _ rfl _ _ (by simp) HP1.out (by (try simp only [List.length_append,List.length_cons,List.length_nil]);omega)).mono ?_
  rintro e w2 ⟨rfl,hp,hk⟩
  have HP2:=Lib.hid hp
  have HK2:=Lib.hid (HK1.out.trans hk)
  have HB2:=Lib.hid (hk.cells HB1.out (by decide) (by omega))
  clear hp hk
  have c3:w2.cell? ⟨w.heap.size,3,none⟩=some (.slice A n c):=(Lib.cell_of_heap HB2.out 3).trans rfl
  go_wp2_with fail
  clear c3
  go_at_call 69
  refine (HA.out B b _ xs _ _ HP2.out (RowW.step (TmW.step d) _ _ _ _ _ _ HV.out HK2.out.kb (fun _ _ e=>e)) hok.2 (by (try simp only [List.length_append,List.length_cons,List.length_nil]);omega)).mono ?_
  rintro e w3 ⟨rfl,hp,hk⟩
  have HP3:=Lib.hid hp
  have HK3:=Lib.hid (HK2.out.trans hk)
  have HB3:=Lib.hid (hk.cells HB2.out (by decide) (by omega))
  clear hp hk
  have c3:w3.cell? ⟨w.heap.size,3,none⟩=some (.slice A n c):=(Lib.cell_of_heap HB3.out 3).trans rfl
  go_wp2_with fail
  clear c3
  go_end0
  exact ⟨rfl,by rw [HF2.out];simpa only [List.append_assoc] using HP3.out,HK3.out⟩
 ·have hq:(k == 2)=false:=by simp [h2]
  rw [if_neg h2] at hl
  have HF2:Hid (termF (.mk k s z xs)=s++argsF (xs.map termF)):=Lib.hid (by rw [HFE.out,if_neg h2])
  simp only [List.length_append] at hl
  clear HFE
  go_enter Tryz.func39,Tryz.ntmps39
  go_wp2_with fail
  go_at_call 59
  refine (putT_one B b _ s _ rfl _ _ (by simp) (HP.out.alloc _) (by (try simp only [List.length_append,List.length_cons,List.length_nil]);omega)).mono ?_
  rintro e w1 ⟨rfl,hp,hk⟩
  have HP1:=Lib.hid hp
  have HK1:=Lib.hid (((Kept.refl B b w).alloc (by omega) _).trans hk)
  have HB1:=Lib.hid (hk.cells (heap_alloc_new w _) (by decide) (by omega))
  clear hp hk
  have c3:w1.cell? ⟨w.heap.size,3,none⟩=some (.slice A n c):=(Lib.cell_of_heap HB1.out 3).trans rfl
  go_wp2_with fail
  clear c3
  go_at_call 69
  refine (HA.out B b _ xs _ _ HP1.out (RowW.step (TmW.step d) _ _ _ _ _ _ HV.out HK1.out.kb (fun _ _ e=>e)) hok.2 (by (try simp only [List.length_append,List.length_cons,List.length_nil]);omega)).mono ?_
  rintro e w2 ⟨rfl,hp,hk⟩
  have HP2:=Lib.hid hp
  have HK2:=Lib.hid (HK1.out.trans hk)
  have HB2:=Lib.hid (hk.cells HB1.out (by decide) (by omega))
  clear hp hk
  have c3:w2.cell? ⟨w.heap.size,3,none⟩=some (.slice A n c):=(Lib.cell_of_heap HB2.out 3).trans rfl
  go_wp2_with fail
  clear c3
  go_end0
  exact ⟨rfl,by rw [HF2.out];simpa only [List.append_assoc] using HP2.out,HK2.out⟩
theorem ptermTm_any:∀ d,PutsTm d
 | 0=>fun _ _ _ _ _ _ _ h _ _=>h.elim
 | d+1=>ptermTm_step d (Lib.hid (pargsTm d (Lib.hid (ptermTm_any d))))
set_option maxRecDepth 100000 in
set_option maxHeartbeats 2000000 in
theorem printTm_any (d:Nat) (x:TermT) (v:Value) (w:World) (h:Env w) (hv:TmW d (fun k=>w.heap.size≤k) x v w) (hok:termOk x) (hl:(termF x).length≤1099511627776) (hne:termF x ≠ []) :
  Calls Tryz.prog 11 #[v] w fun e w'=>e=.returned (.string (bs (termF x)))∧Below w.heap.size w w':=by
 have HW:=Lib.hid h
 have HVV:=Lib.hid hv
 obtain ⟨k,q,z,A,n,c,rfl⟩:=hv.shape
 have hw1:Below w.heap.size w (w.alloc (.cells #[.int .i64 k,.string q,.int .i64 z,.slice A n c] 28)):=(Below.refl _ _).alloc (Nat.le_refl _) _
 have hz1:(w.alloc (.cells #[.int .i64 k,.string q,.int .i64 z,.slice A n c] 28)).heap.size=w.heap.size+1:=by simp
 have hfr:=freshT h hw1
 rw [hz1] at hfr
 have HFR:=Lib.hid hfr
 have HVX:=Lib.hid ((TmW.step d).below HVV.out (hw1.alloc (by simp) (.cells #[.pointer none,.slice none 0 0] 75)))
 clear h hfr
 go_enter Tryz.func11,Tryz.ntmps11
 go_wp2_with fail
 go_at_call 39
 refine (ptermTm_any d w.heap.size _ [] _ _ _ HFR.out HVX.out hok (by simpa using hl)).mono ?_
 rintro e w1 ⟨rfl,hp,hk⟩
 rw [List.nil_append] at hp
 have HP1:=Lib.hid hp
 have HK1:=Lib.hid ((hw1.alloc (by simp) (.cells #[.pointer none,.slice none 0 0] 75)).trans hk.below)
 clear hp hk hw1 hz1
 go_wp2_with fail
 go_at_call 32
 refine (pString_some w.heap.size _ _ w1 HP1.out.isP hne).mono ?_
 rintro e w2 ⟨rfl,hb2⟩
 go_wp2_with fail
 go_ret
 exact ⟨rfl,HK1.out.trans hb2⟩
end Lx
end Go.Proofs.YtiljemkglhloeaaGreatDoor
