/- The contract of the reference printer's Decimal: a number's numeral, as strconv spells it. Conditions: the number is an int. -/
/- The reference printer's join and row: words with a mark between each two, in brackets if there are any. Conditions: the words stand in the row; at most 2^40 bytes. -/
/- The reference printer at rows of terms and types: their forms. Conditions: what gives a form gives it; at most 2^40 bytes. -/
/- The reference printer at terms and types: their forms. Conditions: the terms numbers are a machine s; at most 2^40 bytes. -/
import Derived.Test.YtajomoclbpobhaaGreatDoorLexA
import Derived.Test.YtajomoclbpobhaaGreatDoorPlainInts
import Derived.Deep.Cut
import Derived.Test.YtajomoclbpobhaaGreatDoorPrFL
import Derived.Test.YtajomoclbpobhaaGreatDoorPrP
import Derived.Test.YtajomoclbpobhaaGreatDoorRowB
import Derived.Test.YtajomoclbpobhaaGreatDoorPrRow
namespace Go.Proofs.YtajomoclbpobhaaGreatDoor
set_option linter.unusedSimpArgs false
set_option linter.unusedVariables false
namespace Lx
open Go Go.RowKit
/-- What the loop holds: the digits still to come, then those written. -/
def DecAt (n m:Int) (s:ByteArray):Prop:=Lib.decDigits n.natAbs=Lib.decDigits m.natAbs++s.data.toList
theorem dec_step (n m:Int) (s:ByteArray) (c:UInt8) (x y:Nat) (hd:DecAt n m s) (hx:m.natAbs % 10=x) (hy:m.natAbs / 10=y) (hc:48+(x:Int)=(c.toNat:Int)) :
  (y=0→(bs (Lib.decDigits n.natAbs)=⟨#[c]⟩++s))∧(y ≠ 0→∀ m':Int,m'.natAbs=y→DecAt n m' (⟨#[c]⟩++s)):=by
 have hcc:UInt8.ofNat (48+x)=c:=by
  apply UInt8.toNat_inj.1
  rw [UInt8.toNat_ofNat']
  omega
 unfold DecAt at hd
 constructor
 ·intro h0
  rw [hd,Lib.decDigits,dif_pos (by omega),show m.natAbs=x by omega,hcc]
  unfold bs
  apply ByteArray.ext
  apply Array.ext'
  simp
 ·intro h0 m' hm'
  unfold DecAt
  rw [hd,hm',Lib.decDigits,dif_neg (by omega),hx,hy,hcc]
  simp
theorem dec_size {n m:Int} {s:ByteArray} (hd:DecAt n m s) (hl:(Lib.decDigits n.natAbs).length≤20):s.size≤20:=by
 unfold DecAt at hd
 rw [hd,List.length_append] at hl
 have:s.data.toList.length=s.size:=by simp
 omega
theorem itoa_sign (n:Int):bs (Lib.itoa n)=if n < 0 then ⟨#[45]⟩++bs (Lib.decDigits n.natAbs) else bs (Lib.decDigits n.natAbs):=by
 by_cases h:n < 0
 ·rw [if_pos h]
  unfold Lib.itoa
  rw [if_pos h]
  apply ByteArray.ext
  apply Array.ext'
  simp [bs]
 ·rw [if_neg h]
  unfold Lib.itoa
  rw [if_neg h,show n.toNat=n.natAbs by omega]
theorem cells_new1 (w:World) (cs:Array Value) (e:TypeId):∀ j u,cs.toList[j]?=some u→(w.alloc (.cells cs e)).cell? ((⟨w.heap.size,0,none⟩:Addr).add j)=some u:=by
 intro j u h
 have h1:(w.alloc (.cells cs e)).heap[w.heap.size]?=some (.cells cs e (0,0)):=by
  show (w.heap.push _)[w.heap.size]?=_
  simp
 have h2:=cell_of_row (w.alloc (.cells cs e)) w.heap.size j cs e (0,0) h1
 have h3:((⟨w.heap.size,0,none⟩:Addr).add j)=⟨w.heap.size,j,none⟩:=by
  by_cases hj:j=0
  ·subst hj;rfl
  ·simp [Addr.add,hj]
 rw [h3,h2]
 simpa using h
theorem r3dec_any (n:Int) (h0:-9223372036854775808≤n) (h1:n≤9223372036854775807) (w:World) :
  Calls Tryz.prog 41 #[.int .i64 n] w fun e w'=>e=.returned (.string (bs (Lib.itoa n)))∧Below w.heap.size w w':=by
 have hlen:(Lib.decDigits n.natAbs).length≤20:=by
  rw [Lib.decDigits_length]
  exact Lib.nDigits_le20 _ (by omega)
 have HL:=Lib.hid hlen
 have HI:=Lib.hid (itoa_sign n)
 clear hlen
 go_enter Tryz.func41,Tryz.ntmps41
 go_wp2
 go_loopw [3,4] (fun sv mv wr=>∃ (s:ByteArray) (m:Int),sv=.string s∧mv=.int .i64 m∧Hid (DecAt n m s)∧Hid ((0≤n→0≤m∧m≤n)∧(n < 0→m≤0∧n≤m))∧Below w.heap.size w wr) (fun _ mv _=>(intOf mv).natAbs)
 case atStart=>exact ⟨_,n,rfl,rfl,Lib.hid (by simp [DecAt]),Lib.hid (by omega),Below.refl _ _⟩
 case round =>
  obtain ⟨s,m,rfl,rfl,hd,hm,hb⟩:=hrel
  obtain ⟨x,hx⟩:∃ x,m.natAbs % 10=x:=⟨_,rfl⟩
  obtain ⟨y,hy⟩:∃ y,m.natAbs / 10=y:=⟨_,rfl⟩
  obtain ⟨c,hc⟩:∃ c:UInt8,48+(x:Int)=(c.toNat:Int):=⟨UInt8.ofNat (48+x),by rw [UInt8.toNat_ofNat'];omega⟩
  have HS:=Lib.hid (dec_step n m s c x y hd.out hx hy hc)
  have hss:=dec_size hd.out HL.out
  have hcv:(convert 72 9 (.slice (some ⟨wr.heap.size,0,none⟩) 1 1)).run Tryz.prog (wr.alloc (.cells #[.int .u8 (c.toNat:Int)] 5))=.ok (.string ⟨#[c]⟩) (wr.alloc (.cells #[.int .u8 (c.toNat:Int)] 5)) :=
   run_convert_bytes_back _ 72 9 5 ⟨wr.heap.size,0,none⟩ 1 [c] Tryz.underlying72 Tryz.underlying5 Tryz.underlying9 (fun j hj=>by
    have:=cells_new1 wr #[.int .u8 (c.toNat:Int)] 5 j (.int .u8 (c.toNat:Int)) (by simp at hj;subst hj;rfl)
    simp at hj
    subst hj
    exact this)
  have r1:∀ W:World,(Op.stringOp .add ⟨#[c]⟩ s).run Tryz.prog W=.ok (.string (⟨#[c]⟩++s)) W:=fun W=>run_string_add_sum W _ _ (by show 1+s.size≤_;omega)
  have r2:∀ W:World,(Op.stringOp .add ⟨#[45]⟩ (⟨#[c]⟩++s)).run Tryz.prog W=.ok (.string (⟨#[45]⟩++(⟨#[c]⟩++s))) W:=fun W=>run_string_add_sum W _ _ (by rw [ByteArray.size_append];show 1+(1+s.size)≤_;omega)
  have hx9:x≤9:=by omega
  have hsgn:(0≤m∧m % 10=(x:Int)∧m / 10=(y:Int)) ∨ (m < 0∧m.tmod 10=-(x:Int)∧m.tdiv 10=-(y:Int)):=by
   rcases Int.lt_or_le m 0 with h | h
   ·right
    obtain ⟨u,rfl⟩:∃ u:Nat,m=-(u:Int):=⟨m.natAbs,by omega⟩
    refine ⟨h,?_,?_⟩
    ·rw [Int.neg_tmod,← hx]
     simp only [Int.natAbs_neg,Int.natAbs_natCast]
     rw [Int.tmod_eq_emod_of_nonneg (by omega)]
     omega
    ·rw [Int.neg_tdiv,← hy]
     simp only [Int.natAbs_neg,Int.natAbs_natCast]
     rw [Int.tdiv_eq_ediv_of_nonneg (by omega)]
     omega
   ·left
    omega
  have HM:=Lib.hid hm
  have HY:=Lib.hid hy
  clear hss hx hy
  by_cases hy0:y=0
  ·have hfin:=HS.out.1 hy0
   have hI:=HI.out
   rw [hfin] at hI
   by_cases hn:n < 0
   ·rw [if_pos hn] at hI
    have HF:=Lib.hid hI
    clear hfin hI hm hd
    rcases hsgn with ⟨g1,g2,g3⟩ | ⟨g1,g2,g3⟩
    ·rw [hy0] at g3
     have q3:decide ((x:Int) < 0)=false:=by simp
     go_wp2_with fail
     go_ret
     exact ⟨by rw [HF.out];rfl,hb.alloc hb.size _⟩
    ·replace g3:m.tdiv 10=0:=by rw [g3,hy0];rfl
     rcases Nat.eq_zero_or_pos x with hx0 | hxp
     ·replace g2:m.tmod 10=(x:Int):=by rw [g2,hx0];rfl
      clear hx0
      have q3:decide ((x:Int) < 0)=false:=by simp
      go_wp2_with fail
      go_ret
      exact ⟨by rw [HF.out];rfl,hb.alloc hb.size _⟩
     ·have q3:decide (-(x:Int) < 0)=true:=by simp;omega
      go_wp2_with fail
      go_ret
      exact ⟨by rw [HF.out];rfl,hb.alloc hb.size _⟩
   ·rw [if_neg hn] at hI
    have HF:=Lib.hid hI
    have hge:0≤n:=by omega
    clear hfin hI hm hd
    rcases hsgn with ⟨g1,g2,g3⟩ | ⟨g1,g2,g3⟩
    ·rw [hy0] at g3
     have q3:decide ((x:Int) < 0)=false:=by simp
     go_wp2_with fail
     go_ret
     exact ⟨by rw [HF.out];rfl,hb.alloc hb.size _⟩
    ·exact absurd (HM.out.1 hge).1 (by omega)
  ·have hgo:=HS.out.2 hy0
   rcases hsgn with ⟨g1,g2,g3⟩ | ⟨g1,g2,g3⟩
   ·have HG:=Lib.hid (hgo (y:Int) (by omega))
    have hN:=Lib.hid (show (0≤n→0≤(y:Int)∧(y:Int)≤n)∧(n < 0→(y:Int)≤0∧n≤(y:Int)) by have:=HM.out.out;have:=HY.out;omega)
    have hmeas:(y:Int).natAbs < m.natAbs:=by have:=HY.out;omega
    have hm1:m≤9223372036854775807:=by have:=HM.out.out;omega
    have hyp:0 < (y:Int):=by omega
    have hb0:0≤(y:Int):=by omega
    have hb1:(y:Int)≤9223372036854775807:=by have:=HM.out.out;have:=HY.out;omega
    generalize (y:Int)=Y at *
    subst g3
    have q4:((m / 10) == 0)=false:=beq_eq_false_iff_ne.2 (by omega)
    clear hgo hm hd hyp
    have q3:decide ((x:Int) < 0)=false:=by simp
    go_wp2_with fail
    go_roundw
    case rel=>exact ⟨_,_,rfl,rfl,HG,hN,hb.alloc hb.size _⟩
    case measure=>simp only [intOf];exact hmeas
   ·have HG:=Lib.hid (hgo (-(y:Int)) (by omega))
    have hN:=Lib.hid (show (0≤n→0≤-(y:Int)∧-(y:Int)≤n)∧(n < 0→-(y:Int)≤0∧n≤-(y:Int)) by have:=HM.out.out;have:=HY.out;omega)
    have hmeas:(-(y:Int)).natAbs < m.natAbs:=by have:=HY.out;omega
    have hyp:-(y:Int) < 0:=by omega
    have hb0:-(y:Int)≤0:=by omega
    have hb1:-9223372036854775808≤-(y:Int):=by have:=HM.out.out;have:=HY.out;omega
    generalize -(y:Int)=Y at *
    have q4:(Y == 0)=false:=beq_eq_false_iff_ne.2 (by omega)
    clear hgo hm hd hyp
    rcases Nat.eq_zero_or_pos x with hx0 | hxp
    ·replace g2:m.tmod 10=(x:Int):=by rw [g2,hx0];rfl
     clear hx0
     have q3:decide ((x:Int) < 0)=false:=by simp
     go_wp2_with fail
     go_roundw
     case rel=>exact ⟨_,Y,rfl,rfl,HG,hN,hb.alloc hb.size _⟩
     case measure=>simp only [intOf];exact hmeas
    ·have q3:decide (-(x:Int) < 0)=true:=by simp;omega
     go_wp2_with fail
     go_roundw
     case rel=>exact ⟨_,Y,rfl,rfl,HG,hN,hb.alloc hb.size _⟩
     case measure=>simp only [intOf];exact hmeas
end Lx
end Go.Proofs.YtajomoclbpobhaaGreatDoor
namespace Go.Proofs.YtajomoclbpobhaaGreatDoor
set_option linter.unusedSimpArgs false
set_option linter.unusedVariables false
namespace Lx
open Go Go.RowKit
/-- A row of words as a slice holds it. -/
def StrRow (l:List (List UInt8)) (v:Value) (w:World):Prop:=∃ A cap,v=.slice A l.length cap∧l.length≤1099511627777∧(l ≠ []→∃ b off,A=some ⟨b,off,none⟩∧b < w.heap.size∧∀ j (hj:j < l.length),w.cell? ⟨b,off+j,none⟩=some (.string (bs l[j])))
theorem StrRow.below {l:List (List UInt8)} {v:Value} {w w':World} (h:StrRow l v w) (hb:Below w.heap.size w w'):StrRow l v w':=by
 obtain ⟨A,cap,rfl,hl,h⟩:=h
 refine ⟨A,cap,rfl,hl,fun hn=>?_⟩
 obtain ⟨b,off,rfl,h1,h2⟩:=h hn
 exact ⟨b,off,rfl,Nat.lt_of_lt_of_le h1 hb.size,fun j hj=>(hb.cell (p:=⟨b,off+j,none⟩) h1).trans (h2 j hj)⟩
theorem r3add (x y:List UInt8) (h:x.length+y.length≤9000000000000000000):∀ W:World,(Op.stringOp .add (bs x) (bs y)).run Tryz.prog W=.ok (.string (bs (x++y))) W:=fun W=>by
 rw [run_string_add_sum W _ _ (by rw [bs_size,bs_size];omega)]
 congr 2
theorem joinF_many (m:List UInt8) (hm:m ≠ []):∀ ws:List (List UInt8),ws.length≤(joinF m ws).length+1
 | []=>Nat.zero_le _
 | [x]=>by simp [joinF]
 | x :: y :: l=>by
  have h:=joinF_many m hm (y :: l)
  have h1:0 < m.length:=List.length_pos_iff.2 hm
  simp only [joinF,List.length_append,List.length_cons] at h ⊢
  omega
theorem joinF_take_bound (m:List UInt8) (ws:List (List UInt8)) (k:Nat) (h:k≤ws.length):(joinF m (ws.take k)).length≤(joinF m ws).length:=joinF_take_le m ws (ws.length - k) k (by omega)
set_option maxRecDepth 100000 in
theorem r3join_any (m:List UInt8) (x:ByteArray) (hx:x=bs m) (ws:List (List UInt8)) (v:Value) (w:World) (hv:StrRow ws v w) (hl:(joinF m ws).length≤1099511627776) :
  Calls Tryz.prog 36 #[v,.string x] w fun e w'=>e=.returned (.string (bs (joinF m ws)))∧w'=w:=by
 subst hx
 obtain ⟨A,cap,rfl,hfew,hA⟩:=hv
 have HA:=Lib.hid hA
 clear hA
 go_enter Tryz.func36,Tryz.ntmps36
 go_wp2_with fail
 go_loopw [5,10] (fun s t wr=>∃ k:Nat,k≤ws.length∧t=.int .i64 k∧s=.string (bs (joinF m (ws.take k)))∧Hid (wr=w)) (fun _ t _=>ws.length - (intOf t).toNat)
 case atStart=>exact ⟨0,Nat.zero_le _,rfl,rfl,Lib.hid rfl⟩
 case round =>
  obtain ⟨k,hk,rfl,rfl,HW⟩:=hrel
  obtain rfl:=HW.out
  by_cases hlt:k < ws.length
  ·obtain ⟨b,off,rfl,hb,hc⟩:=HA.out (by intro e;rw [e] at hlt;simp at hlt)
   have hcz:=hc k hlt
   have hdc:decide (k < ws.length)=true:=by simpa using hlt
   have hk0:(0:Int)≤(k:Int):=by omega
   have hk1:(k:Int) < (ws.length:Int):=by omega
   have hj:=joinF_take m ws k hlt
   have hle:=joinF_take_bound m ws (k+1) hlt
   clear hc
   by_cases h0:k=0
   ·rw [if_pos h0] at hj
    have e0:joinF m (ws.take k)=[]:=by rw [h0];rfl
    have hq:decide (0 < k)=false:=by simp;omega
    rw [hj] at hle
    have r1:∀ W:World,(Op.stringOp .add ⟨#[]⟩ (bs ws[k])).run Tryz.prog W=.ok (.string (bs (joinF m (ws.take (k+1))))) W:=by
     rw [hj]
     exact r3add [] ws[k] (by simp;omega)
    have e1:bs []=⟨#[]⟩:=rfl
    rw [e0,e1]
    generalize bs ws[k]=y at *
    clear h0 e0 hj
    go_wp2_with fail
    go_roundw
    case rel=>exact ⟨k+1,by omega,by go_num,rfl,Lib.hid trivial⟩
    case measure=>simp [intOf];omega
   ·rw [if_neg h0] at hj
    have hq:decide (0 < k)=true:=by simp;omega
    rw [hj] at hle
    simp only [List.length_append] at hle
    have r1:=r3add (joinF m (ws.take k)) m (by omega)
    have r2:∀ W:World,(Op.stringOp .add (bs (joinF m (ws.take k)++m)) (bs ws[k])).run Tryz.prog W=.ok (.string (bs (joinF m (ws.take (k+1))))) W:=by
     rw [hj,← List.append_assoc]
     exact r3add (joinF m (ws.take k)++m) ws[k] (by simp only [List.length_append];omega)
    generalize bs ws[k]=y at *
    generalize bs (joinF m (ws.take k))=z at *
    generalize bs (joinF m (ws.take k)++m)=z2 at *
    clear h0 hj
    go_wp2_with fail
    go_roundw
    case rel=>exact ⟨k+1,by omega,by go_num,rfl,Lib.hid trivial⟩
    case measure=>simp [intOf];omega
  ·obtain rfl:k=ws.length:=by omega
   have hdc:decide (ws.length < ws.length)=false:=by simp
   go_wp2_with fail
   go_ret
   exact ⟨rfl,rfl⟩
set_option maxRecDepth 100000 in
theorem r3row_any (ws:List (List UInt8)) (v:Value) (w:World) (hv:StrRow ws v w) (hl:(argsF ws).length≤1099511627776) :
  Calls Tryz.prog 34 #[v] w fun e w'=>e=.returned (.string (bs (argsF ws)))∧w'=w:=by
 have HV:=Lib.hid hv
 obtain ⟨A,cap,rfl,hfew,hA⟩:=hv
 clear hA
 by_cases hw:ws=[]
 ·subst hw
  go_enter Tryz.func34,Tryz.ntmps34
  go_wp2_with fail
  go_ret
  exact ⟨rfl,rfl⟩
 ·have hq:((ws.length:Int) == 0)=false:=by
   have:ws.length ≠ 0:=fun e=>hw (List.eq_nil_of_length_eq_zero e)
   simp
   exact hw
  have hf:argsF ws=[40]++joinF [44,32] ws++[41]:=by unfold argsF;rw [if_neg hw];simp
  rw [hf] at hl
  simp only [List.length_append,List.length_cons,List.length_nil] at hl
  have r1:=r3add [40] (joinF [44,32] ws) (by simp;omega)
  have r2:=r3add ([40]++joinF [44,32] ws) [41] (by simp only [List.length_append,List.length_cons,List.length_nil];omega)
  rw [← hf] at r2
  have e1:bs [40]=⟨#[40]⟩:=rfl
  have e2:bs [41]=⟨#[41]⟩:=rfl
  rw [e1] at r1
  rw [e2] at r2
  generalize bs ([40]++joinF [44,32] ws)=z at r1 r2
  have HR1:=Lib.hid r1
  have HR2:=Lib.hid r2
  clear hw hf r1 r2
  go_enter Tryz.func34,Tryz.ntmps34
  go_wp2_with fail
  go_at_call 36
  refine (r3join_any [44,32] _ rfl ws _ w HV.out (by omega)).mono ?_
  rintro e w1 ⟨rfl,rfl⟩
  have r1:=HR1.out
  have r2:=HR2.out
  go_wp2_with fail
  go_ret
  exact ⟨rfl,rfl⟩
end Lx
end Go.Proofs.YtajomoclbpobhaaGreatDoor
namespace Go.Proofs.YtajomoclbpobhaaGreatDoor
set_option linter.unusedSimpArgs false
set_option linter.unusedVariables false
namespace Lx
open Go Go.RowKit
/-- A function that gives a thing's form. -/
def Says {α:Type} (F:FuncId) (V:Holds α) (ok:α→Prop) (f:α→List UInt8):Prop:=∀ (x:α) (v:Value) (lo hi:Nat) (w:World),V x v lo hi w→ok x→hi≤w.heap.size→(f x).length≤1099511627776→Calls Tryz.prog F #[v] w fun e w'=>e=.returned (.string (bs (f x)))∧Below w.heap.size w w'
theorem joinF_each (m:List UInt8):∀ (ws:List (List UInt8)) (x:List UInt8),x ∈ ws→x.length≤(joinF m ws).length
 | [],_,h=>by cases h
 | [y],x,h=>by simp at h;subst h;simp [joinF]
 | y :: z :: l,x,h=>by
  simp only [joinF,List.length_append]
  rcases List.mem_cons.1 h with rfl | h
  ·omega
  ·have:=joinF_each m (z :: l) x h
   omega
def strC (l:List UInt8):Value:=.string (bs l)
theorem own_below {x y:World} {base sz n:Nat} {e:TypeId} {v:Value} {xs:List Value} (h:x.ownsRow base e sz v n xs) (hb:Below x.heap.size x y):y.ownsRow base e sz v n xs :=
 h.kept (row:=none) ⟨hb.os,hb.tape,hb.output,hb.size,fun k hk _=>hb.block k hk⟩ (by
  cases hv:v.ownBlock with
  | none=>exact .inl rfl
  | some g=>exact .inr (by simp))
/-- The row of words as a loop makes it. -/
structure Wds (w0:World) (ws:List (List UInt8)) (k:Nat) (A:Option Addr) (cap:Nat) (wr:World):Prop where
 own:wr.ownsRow w0.heap.size 9 1 (.slice A k cap) k ((ws.take k).map strC)
 below:Below w0.heap.size w0 wr
theorem Wds.empty {w0 wr:World} (ws:List (List UInt8)) (h:Below w0.heap.size w0 wr) {cs:Array Value} (hs:cs.size=0):Wds w0 ws 0 (some ⟨wr.heap.size,0,none⟩) 0 (wr.alloc (.cells cs 9)) :=
 ⟨World.ownsRow_made wr cs 0 h.size (Nat.zero_le _) (by rw [hs]),h.alloc h.size _⟩
theorem Wds.bare {w0 wr:World} (ws:List (List UInt8)) (h:Below w0.heap.size w0 wr):Wds w0 ws 0 .none 0 wr:=⟨World.ownsRow_nil _ _ _ _,h⟩
theorem Wds.lt {w0 wr:World} {ws:List (List UInt8)} {k:Nat} {A:Option Addr} {cap:Nat} (h:Wds w0 ws k A cap wr):∀ g,(Value.slice A k cap).ownBlock=some g→w0.heap.size≤g:=fun g hg=>(h.own.lt g hg).1
theorem Wds.next {w0 wr w3 w6:World} {ws:List (List UInt8)} {k:Nat} {A:Option Addr} {cap g2 cap2:Nat} {o:Obj} (h:Wds w0 ws k A cap wr) (hk:k < ws.length) {x:List UInt8} (hx:ws[k]=x) (hb:Below wr.heap.size wr w3)
  (hown:w6.ownsRow w0.heap.size 9 1 (.slice (some ⟨g2,0,none⟩) (k+1) cap2) (k+1) ((ws.take k).map strC++[.string (bs x)])) (hg:(w3.alloc o).grownBy w6 (Value.slice A k cap).ownBlock):Wds w0 ws (k+1) (some ⟨g2,0,none⟩) cap2 w6:=by
 have hb3:Below w0.heap.size w0 (w3.alloc o):=(h.below.trans (hb.mono h.below.size)).alloc (Nat.le_trans h.below.size hb.size) _
 refine ⟨?_,hb3.grown hg hb3.size (fun g e=>h.lt g e)⟩
 subst hx
 rw [List.take_succ_eq_append_getElem hk,List.map_append]
 exact hown
theorem Wds.done {w0 wr:World} {ws:List (List UInt8)} {A:Option Addr} {cap:Nat} (h:Wds w0 ws ws.length A cap wr) (hl:ws.length≤1099511627777):StrRow ws (.slice A ws.length cap) wr:=by
 refine ⟨A,cap,rfl,hl,fun hn=>?_⟩
 have h0:0 < ws.length:=List.length_pos_iff.2 hn
 obtain ⟨g,c,e,h1,h2⟩:=h.own.form h0
 injection e with e1 _ e2
 subst e1 e2
 refine ⟨g,0,rfl,h2,fun j hj=>?_⟩
 rw [Nat.zero_add,h.own.cellAt j (by omega),List.take_of_length_le (Nat.le_refl _),List.getElem?_map,List.getElem?_eq_getElem hj]
 rfl
set_option maxRecDepth 100000 in
set_option maxHeartbeats 2000000 in
theorem r3terms (V:Holds TermT) (hV:Stable V) (hT:ThisTerm V) (ok:TermT→Prop) (f:TermT→List UInt8) (HF:Hid (Says 15 V ok f)) (xs:List TermT) (v:Value) (lo hi:Nat) (w:World) (hv:ArgsV 28 4 V xs v lo hi w) (hok:∀ x ∈ xs,ok x) (hh:hi≤w.heap.size) (hl:(joinF [44,32] (xs.map f)).length≤1099511627776) :
  Calls Tryz.prog 37 #[v] w fun e w'=>(∃ v',e=.returned v'∧StrRow (xs.map f) v' w')∧Below w.heap.size w w':=by
 have hce:∀ x v lo hi w,V x v lo hi w→(cellsL v).length=4:=fun x v lo hi w h=>by obtain ⟨z0,z1,z2,z3,z4,z5,rfl⟩:=hT _ _ _ _ _ h;rfl
 have HV:=Lib.hid hv
 have HOK:=Lib.hid hok
 have hmany:=joinF_many [44,32] (by simp) (xs.map f)
 rw [List.length_map] at hmany
 obtain ⟨A,c,rfl,_⟩:=hv.at hce (by decide)
 obtain ⟨i0,hi0,hz0,hz1,hz2⟩:=info_parts infoSt
 have HI0:=Lib.hid hi0
 have HI1:=Lib.hid hz0
 have HI2:=Lib.hid hz1
 have HI3:=Lib.hid hz2
 clear hi0 hz0 hz1 hz2 hv hok
 go_enter Tryz.func37,Tryz.ntmps37
 go_wp2_with fail
 have HST:=Lib.hid (Wds.empty (w0:=w) (xs.map f) (Below.refl _ _) (cs:=#[]) rfl)
 go_loopw [3,9] (fun s t wr=>∃ k A' cap',k≤xs.length∧t=.int .i64 (k:Nat)∧s=.slice A' k cap'∧Hid (Wds w (xs.map f) k A' cap' wr)) (fun _ t _=>xs.length - (intOf t).toNat)
 case atStart=>exact ⟨0,_,_,Nat.zero_le _,rfl,rfl,HST⟩
 case round =>
  obtain ⟨k,A',cap',hk,rfl,rfl,HI⟩:=hrel
  by_cases hlt:k < xs.length
  ·have r1:=stays (ArgsV.stable _ _ hV) HV.out HI.out.below hh
   obtain ⟨_,_,q1,r1⟩:=r1.at hce (by decide)
   injection q1 with q1 _ qc1
   subst q1
   clear qc1
   obtain ⟨g1,u1,p1,t1,rfl,_,m1,hv1,cc1⟩:=r1 k hlt
   obtain ⟨z0,z1,z2,z3,z4,z5,rfl⟩:=hT _ _ _ _ _ hv1
   have a0:=(cc1 0 (by decide)).trans rfl
   have a1:=(cc1 1 (by decide)).trans rfl
   have a2:=(cc1 2 (by decide)).trans rfl
   have a3:=(cc1 3 (by decide)).trans rfl
   simp only [cellsL,Value.cells,List.getElem?_cons_zero,List.getElem?_cons_succ,Nat.add_zero] at a0 a1 a2 a3
   have hsz:=HI.out.below.size
   have HV1:=Lib.hid (stays hV hv1 ((Below.refl wr.heap.size wr).alloc (Nat.le_refl _) (.cells #[.int .i64 z0,.string z1,.int .i64 z2,.slice z3 z4 z5] 28)) (by omega))
   have hk0:(0:Int)≤(k:Int):=by omega
   have hk1:(k:Int) < (xs.length:Int):=by omega
   have hdc:decide (k < xs.length)=true:=by simpa using hlt
   have hkm:k < (xs.map f).length:=by simpa using hlt
   have he:=joinF_each [44,32] (xs.map f) (f xs[k]) (List.mem_map.2 ⟨_,List.getElem_mem hlt,rfl⟩)
   have hz3:(wr.alloc (.cells #[.int .i64 z0,.string z1,.int .i64 z2,.slice z3 z4 z5] 28)).heap.size=wr.heap.size+1:=by simp
   have HB1:=Lib.hid ((Below.refl wr.heap.size wr).alloc (Nat.le_refl _) (.cells #[.int .i64 z0,.string z1,.int .i64 z2,.slice z3 z4 z5] 28))
   clear cc1 hv1 r1
   have e9:(xs.map f)[k]=f xs[k]:=by simp
   go_wp2_with (first | (go_at_call 15;refine (HF.out xs[k] _ p1 t1 _ HV1.out (HOK.out _ (List.getElem_mem hlt)) (by omega) (by omega)).mono ?_;rintro e w3 ⟨rfl,hb3⟩;have HB3:=Lib.hid (HB1.out.trans (hb3.mono HB1.out.size));have HO4:=Lib.hid (own_below HI.out.own HB3.out);have hs3:=HB3.out.size;clear hb3 HV1 hz3 HB1 a0 a1 a2 a3) | (at_builtin;refine wpList_append_lies _ rfl _ _ 22 rfl w.heap.size 9 i0 (.string ⟨#[]⟩) 1 16 Tryz.underlying22 HI0.out HI1.out HI2.out HI3.out rfl (by decide) _ _ _ rfl (own_below HO4.out ((Below.refl _ _).alloc (Nat.le_refl _) _)) ⟨w3.heap.size,0,none⟩ 1 1 [.string (bs (f xs[k]))] rfl rfl (cells_new _ #[.string (bs (f xs[k]))] _ _ rfl) (by simp [Value.oneCell']) (by decide) (by unfold maxLen;omega) (by omega) (by simp;omega) _ rfl ?_;intro g2 cap2 w6 hown6 hg6 _ _;have HNX:=Lib.hid (Wds.next HI.out hkm e9 HB3.out hown6 hg6);clear hown6 hg6))
   go_roundw
   case rel=>exact ⟨k+1,_,_,by omega,by go_num,rfl,HNX⟩
   case measure=>simp [intOf];omega
  ·obtain rfl:k=xs.length:=by omega
   have hdc:decide (xs.length < xs.length)=false:=by simp
   go_wp2_with fail
   go_ret
   have HD:=HI.out
   rw [show xs.length=(xs.map f).length by simp] at HD ⊢
   exact ⟨⟨_,rfl,HD.done (by rw [List.length_map];omega)⟩,HI.out.below⟩
set_option maxRecDepth 100000 in
set_option maxHeartbeats 2000000 in
theorem r3types (V:Holds TypeT) (hV:Stable V) (hT:ThisTy V) (ok:TypeT→Prop) (f:TypeT→List UInt8) (HF:Hid (Says 17 V ok f)) (xs:List TypeT) (v:Value) (lo hi:Nat) (w:World) (hv:ArgsV 35 3 V xs v lo hi w) (hok:∀ x ∈ xs,ok x) (hh:hi≤w.heap.size) (hl:(joinF [44,32] (xs.map f)).length≤1099511627776) :
  Calls Tryz.prog 35 #[v] w fun e w'=>(∃ v',e=.returned v'∧StrRow (xs.map f) v' w')∧Below w.heap.size w w':=by
 have hce:∀ x v lo hi w,V x v lo hi w→(cellsL v).length=3:=fun x v lo hi w h=>by obtain ⟨z0,z1,z2,z3,z4,rfl⟩:=hT _ _ _ _ _ h;rfl
 have HV:=Lib.hid hv
 have HOK:=Lib.hid hok
 have hmany:=joinF_many [44,32] (by simp) (xs.map f)
 rw [List.length_map] at hmany
 obtain ⟨A,c,rfl,_⟩:=hv.at hce (by decide)
 obtain ⟨i0,hi0,hz0,hz1,hz2⟩:=info_parts infoSt
 have HI0:=Lib.hid hi0
 have HI1:=Lib.hid hz0
 have HI2:=Lib.hid hz1
 have HI3:=Lib.hid hz2
 clear hi0 hz0 hz1 hz2 hv hok
 go_enter Tryz.func35,Tryz.ntmps35
 go_wp2_with fail
 have HST:=Lib.hid (Wds.empty (w0:=w) (xs.map f) (Below.refl _ _) (cs:=#[]) rfl)
 go_loopw [3,9] (fun s t wr=>∃ k A' cap',k≤xs.length∧t=.int .i64 (k:Nat)∧s=.slice A' k cap'∧Hid (Wds w (xs.map f) k A' cap' wr)) (fun _ t _=>xs.length - (intOf t).toNat)
 case atStart=>exact ⟨0,_,_,Nat.zero_le _,rfl,rfl,HST⟩
 case round =>
  obtain ⟨k,A',cap',hk,rfl,rfl,HI⟩:=hrel
  by_cases hlt:k < xs.length
  ·have r1:=stays (ArgsV.stable _ _ hV) HV.out HI.out.below hh
   obtain ⟨_,_,q1,r1⟩:=r1.at hce (by decide)
   injection q1 with q1 _ qc1
   subst q1
   clear qc1
   obtain ⟨g1,u1,p1,t1,rfl,_,m1,hv1,cc1⟩:=r1 k hlt
   obtain ⟨z0,z1,z2,z3,z4,rfl⟩:=hT _ _ _ _ _ hv1
   have a0:=(cc1 0 (by decide)).trans rfl
   have a1:=(cc1 1 (by decide)).trans rfl
   have a2:=(cc1 2 (by decide)).trans rfl
   simp only [cellsL,Value.cells,List.getElem?_cons_zero,List.getElem?_cons_succ,Nat.add_zero] at a0 a1 a2
   have hsz:=HI.out.below.size
   have HV1:=Lib.hid (stays hV hv1 ((Below.refl wr.heap.size wr).alloc (Nat.le_refl _) (.cells #[.bool z0,.string z1,.slice z2 z3 z4] 35)) (by omega))
   have hk0:(0:Int)≤(k:Int):=by omega
   have hk1:(k:Int) < (xs.length:Int):=by omega
   have hdc:decide (k < xs.length)=true:=by simpa using hlt
   have hkm:k < (xs.map f).length:=by simpa using hlt
   have he:=joinF_each [44,32] (xs.map f) (f xs[k]) (List.mem_map.2 ⟨_,List.getElem_mem hlt,rfl⟩)
   have hz3:(wr.alloc (.cells #[.bool z0,.string z1,.slice z2 z3 z4] 35)).heap.size=wr.heap.size+1:=by simp
   have HB1:=Lib.hid ((Below.refl wr.heap.size wr).alloc (Nat.le_refl _) (.cells #[.bool z0,.string z1,.slice z2 z3 z4] 35))
   clear cc1 hv1 r1
   have e9:(xs.map f)[k]=f xs[k]:=by simp
   go_wp2_with (first | (go_at_call 17;refine (HF.out xs[k] _ p1 t1 _ HV1.out (HOK.out _ (List.getElem_mem hlt)) (by omega) (by omega)).mono ?_;rintro e w3 ⟨rfl,hb3⟩;have HB3:=Lib.hid (HB1.out.trans (hb3.mono HB1.out.size));have HO4:=Lib.hid (own_below HI.out.own HB3.out);have hs3:=HB3.out.size;clear hb3 HV1 hz3 HB1 a0 a1 a2) | (at_builtin;refine wpList_append_lies _ rfl _ _ 22 rfl w.heap.size 9 i0 (.string ⟨#[]⟩) 1 16 Tryz.underlying22 HI0.out HI1.out HI2.out HI3.out rfl (by decide) _ _ _ rfl (own_below HO4.out ((Below.refl _ _).alloc (Nat.le_refl _) _)) ⟨w3.heap.size,0,none⟩ 1 1 [.string (bs (f xs[k]))] rfl rfl (cells_new _ #[.string (bs (f xs[k]))] _ _ rfl) (by simp [Value.oneCell']) (by decide) (by unfold maxLen;omega) (by omega) (by simp;omega) _ rfl ?_;intro g2 cap2 w6 hown6 hg6 _ _;have HNX:=Lib.hid (Wds.next HI.out hkm e9 HB3.out hown6 hg6);clear hown6 hg6))
   go_roundw
   case rel=>exact ⟨k+1,_,_,by omega,by go_num,rfl,HNX⟩
   case measure=>simp [intOf];omega
  ·obtain rfl:k=xs.length:=by omega
   have hdc:decide (xs.length < xs.length)=false:=by simp
   go_wp2_with fail
   go_ret
   have HD:=HI.out
   rw [show xs.length=(xs.map f).length by simp] at HD ⊢
   exact ⟨⟨_,rfl,HD.done (by rw [List.length_map];omega)⟩,HI.out.below⟩
end Lx
end Go.Proofs.YtajomoclbpobhaaGreatDoor
namespace Go.Proofs.YtajomoclbpobhaaGreatDoor
set_option linter.unusedSimpArgs false
set_option linter.unusedVariables false
namespace Lx
open Go Go.RowKit
set_option maxRecDepth 100000 in
set_option maxHeartbeats 2000000 in
theorem r3term_step (d:Nat) (IH:Hid (Says 15 (TermV d) termOk termF)):Says 15 (TermV (d+1)) termOk termF:=by
 rintro ⟨k,s,z,l⟩ v lo hi w hv hok hh hl
 obtain ⟨va,rfl,ha⟩:=hv
 rw [termOk] at hok
 obtain ⟨hz,hok⟩:=hok
 obtain ⟨q1,q2,q3,rfl⟩:=ha.slice
 have hF:termF (.mk k s z l)=(if k=2 then Lib.itoa z else s)++argsF (l.map termF):=by rw [termF,termsF_map]
 have hla:(if k=2 then Lib.itoa z else s).length+(argsF (l.map termF)).length≤1099511627776:=by
  have:=hl
  rw [hF,List.length_append] at this
  exact this
 have hlj:(joinF [44,32] (l.map termF)).length≤1099511627776:=by
  have:(joinF [44,32] (l.map termF)).length≤(argsF (l.map termF)).length:=by
   unfold argsF
   split
   ·rename_i e
    rw [e]
    simp [joinF]
   ·simp
    omega
  omega
 have HF:=Lib.hid hF
 have HZ:=Lib.hid hz
 have HOK:=Lib.hid ((termsOk_iff l).1 hok)
 have hbx:Below w.heap.size w (w.alloc (.cells #[.int .i64 k,.string (bs s),.int .i64 z,.slice q1 q2 q3] 28)):=(Below.refl _ _).alloc (Nat.le_refl _) _
 have HB1:=Lib.hid hbx
 have hz1:(w.alloc (.cells #[.int .i64 k,.string (bs s),.int .i64 z,.slice q1 q2 q3] 28)).heap.size=w.heap.size+1:=by simp
 have HA1:=Lib.hid (stays (ArgsV.stable _ _ (TermV.stable d)) ha hbx hh)
 clear hF hl hok hz ha hbx
 by_cases hk:k=2
 ·have hkq:(k == 2)=true:=by simpa using hk
  rw [if_pos hk] at hla HF
  subst hk
  go_enter Tryz.func15,Tryz.ntmps15
  go_wp2_with fail
  go_at_call 41
  refine (r3dec_any z HZ.out.1 HZ.out.2 _).mono ?_
  rintro e w2 ⟨rfl,hb2⟩
  have HB2:=Lib.hid (HB1.out.trans (hb2.mono HB1.out.size))
  have HA2:=Lib.hid (stays (ArgsV.stable _ _ (TermV.stable d)) HA1.out hb2 (by omega))
  have d3:w2.cell? ⟨w.heap.size,3,none⟩=some (.slice q1 q2 q3):=(hb2.cell (p:=⟨w.heap.size,3,none⟩) (by show w.heap.size < _;omega)).trans ((Lib.cell_of_heap (heap_alloc_new w _) 3).trans rfl)
  have hs2:=hb2.size
  clear hb2 HB1 HA1
  go_wp2_with fail
  go_at_call 37
  refine (r3terms _ (TermV.stable d) (TermV.this d) termOk termF IH l _ lo hi _ HA2.out HOK.out (by omega) hlj).mono ?_
  rintro e w3 ⟨⟨v3,rfl,hs⟩,hb3⟩
  have HB3:=Lib.hid (HB2.out.trans (hb3.mono HB2.out.size))
  have HS:=Lib.hid hs
  clear hs hb3 d3
  go_wp2_with fail
  go_at_call 34
  refine (r3row_any _ _ _ HS.out (by omega)).mono ?_
  rintro e w4 ⟨rfl,rfl⟩
  have r1:=r3add (Lib.itoa z) (argsF (l.map termF)) (by omega)
  rw [← HF.out] at r1
  go_wp2_with fail
  go_ret
  exact ⟨rfl,HB3.out⟩
 ·have hkq:(k == 2)=false:=by simpa using hk
  rw [if_neg hk] at hla HF
  go_enter Tryz.func15,Tryz.ntmps15
  go_wp2_with fail
  go_at_call 37
  refine (r3terms _ (TermV.stable d) (TermV.this d) termOk termF IH l _ lo hi _ HA1.out HOK.out (by omega) hlj).mono ?_
  rintro e w3 ⟨⟨v3,rfl,hs⟩,hb3⟩
  have HB3:=Lib.hid (HB1.out.trans (hb3.mono HB1.out.size))
  have HS:=Lib.hid hs
  clear hs hb3
  go_wp2_with fail
  go_at_call 34
  refine (r3row_any _ _ _ HS.out (by omega)).mono ?_
  rintro e w4 ⟨rfl,rfl⟩
  have r1:=r3add s (argsF (l.map termF)) (by omega)
  rw [← HF.out] at r1
  go_wp2_with fail
  go_ret
  exact ⟨rfl,HB3.out⟩
theorem r3term_any:∀ d,Says 15 (TermV d) termOk termF
 | 0=>fun _ _ _ _ _ h=>h.elim
 | d+1=>r3term_step d (Lib.hid (r3term_any d))
set_option maxRecDepth 100000 in
set_option maxHeartbeats 2000000 in
theorem r3type_step (d:Nat) (IH:Hid (Says 17 (TypeV d) (fun _=>True) typeF)):Says 17 (TypeV (d+1)) (fun _=>True) typeF:=by
 rintro ⟨k,s,l⟩ v lo hi w hv _ hh hl
 obtain ⟨va,rfl,ha⟩:=hv
 obtain ⟨q1,q2,q3,rfl⟩:=ha.slice
 have hF:typeF (.mk k s l)=s++argsF (l.map typeF):=by rw [typeF,typesF_map]
 have hla:s.length+(argsF (l.map typeF)).length≤1099511627776:=by
  have:=hl
  rw [hF,List.length_append] at this
  exact this
 have hlj:(joinF [44,32] (l.map typeF)).length≤1099511627776:=by
  have:(joinF [44,32] (l.map typeF)).length≤(argsF (l.map typeF)).length:=by
   unfold argsF
   split
   ·rename_i e
    rw [e]
    simp [joinF]
   ·simp
    omega
  omega
 have HF:=Lib.hid hF
 have hbx:Below w.heap.size w (w.alloc (.cells #[.bool k,.string (bs s),.slice q1 q2 q3] 35)).drew:=((Below.refl _ _).alloc (Nat.le_refl _) _).drew
 have HB1:=Lib.hid hbx
 have hz1:(w.alloc (.cells #[.bool k,.string (bs s),.slice q1 q2 q3] 35)).heap.size=w.heap.size+1:=by simp
 have HA1:=Lib.hid (stays (ArgsV.stable _ _ (TypeV.stable d)) ha hbx hh)
 clear hF hl ha hbx
 have HBX:=Lib.hid (show (w.alloc (.cells #[.bool k,.string (bs s),.slice q1 q2 q3] 35)).drew.heap[w.heap.size]?=_ from heap_alloc_new w _)
 have r1:=r3add s (argsF (l.map typeF)) (by omega)
 rw [← HF.out] at r1
 go_enter Tryz.func17,Tryz.ntmps17
 go_wp2_with fail
 go_region_law (first
  | (go_simp;go_at_call 35;refine (r3types _ (TypeV.stable d) (TypeV.this d) (fun _=>True) typeF IH l _ lo hi _ HA1.out (fun _ _=>trivial) (by simp;omega) hlj).mono ?_;rintro e w3 ⟨⟨v3,rfl,hs⟩,hb3⟩;have d1:w3.cell? ⟨w.heap.size,1,none⟩=some (.string (bs s)):=(Lib.cell_of_heap ((hb3.block w.heap.size (by simp)).trans HBX.out) 1).trans rfl)
  | (go_simp;go_at_call 34;refine (r3row_any _ _ _ hs (by omega)).mono ?_;rintro e w4 ⟨rfl,rfl⟩))
 all_goals
  have HB3:=Lib.hid (HB1.out.trans (hb3.mono HB1.out.size))
  clear hb3 hs
  go_wp2_with fail
  go_ret
  exact ⟨rfl,HB3.out⟩
theorem r3type_any:∀ d,Says 17 (TypeV d) (fun _=>True) typeF
 | 0=>fun _ _ _ _ _ h=>h.elim
 | d+1=>r3type_step d (Lib.hid (r3type_any d))
end Lx
end Go.Proofs.YtajomoclbpobhaaGreatDoor
