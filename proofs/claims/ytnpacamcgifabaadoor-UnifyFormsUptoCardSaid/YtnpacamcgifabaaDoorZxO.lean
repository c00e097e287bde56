/- The contract of the reference printer's Decimal: a number's numeral, as strconv spells it. Conditions: the number is an int. -/
/- The reference: Text of a type. Conditions: the text fits a string. -/
/- The program: appendArgs and appendText. Conditions: the text fits the memory. -/
/- The program: appendText. Conditions: the text fits the memory. -/
/- The program: Text of a type. Conditions: the text fits the memory; the table of powers of ten lies below the call. -/
import Derived.Test.YtnpacamcgifabaaDoorZxK
import Derived.Lib.ItoaLen
import Derived.Deep.Cut
import Derived.Test.YtnpacamcgifabaaDoorShelf
import Derived.Lib.AppendStr
import Derived.Lib.OwnKind
import Derived.Deep.RegionHeld3
import Derived.Lib.BufferRead
namespace Go.Proofs.YtnpacamcgifabaaDoor
set_option linter.unusedSimpArgs false
set_option linter.unusedVariables false
namespace Lx
open Go Go.RowKit
def bs (l:List UInt8):ByteArray:=⟨l.toArray⟩
theorem bs_app (a b:List UInt8):bs a++bs b=bs (a++b):=ByteArray.ext (by simp [bs])
theorem bs_len (a:List UInt8):(bs a).size=a.length:=by simp [bs,ByteArray.size]
/-- What the loop holds: the digits still to come, then those written. -/
def DecAt (n m:Int) (s:ByteArray):Prop:=Lib.decDigits n.natAbs=Lib.decDigits m.natAbs++s.data.toList
theorem dec_step (n m:Int) (s:ByteArray) (c:UInt8) (x y:Nat) (hd:DecAt n m s) (hx:m.natAbs % 10=x) (hy:m.natAbs / 10=y) (hc:48+(x:Int)=(c.toNat:Int)) :
  (y=0→(bs (Lib.decDigits n.natAbs)=⟨#[c]⟩++s))∧(y ≠ 0→∀ m':Int,m'.natAbs=y→DecAt n m' (⟨#[c]⟩++s)):=by
 have hcc:UInt8.ofNat (48+x)=c:=by
  apply UInt8.toNat_inj.1
  rw [UInt8.toNat_ofNat']
  omega
 unfold DecAt at hd
 constructor
 ·intro h0
  rw [hd,Lib.decDigits,dif_pos (by omega),show m.natAbs=x by omega,hcc]
  unfold bs
  apply ByteArray.ext
  apply Array.ext'
  simp
 ·intro h0 m' hm'
  unfold DecAt
  rw [hd,hm',Lib.decDigits,dif_neg (by omega),hx,hy,hcc]
  simp
theorem dec_size {n m:Int} {s:ByteArray} (hd:DecAt n m s) (hl:(Lib.decDigits n.natAbs).length≤20):s.size≤20:=by
 unfold DecAt at hd
 rw [hd,List.length_append] at hl
 have:s.data.toList.length=s.size:=by simp
 omega
theorem itoa_sign (n:Int):bs (Lib.itoa n)=if n < 0 then ⟨#[45]⟩++bs (Lib.decDigits n.natAbs) else bs (Lib.decDigits n.natAbs):=by
 by_cases h:n < 0
 ·rw [if_pos h]
  unfold Lib.itoa
  rw [if_pos h]
  apply ByteArray.ext
  apply Array.ext'
  simp [bs]
 ·rw [if_neg h]
  unfold Lib.itoa
  rw [if_neg h,show n.toNat=n.natAbs by omega]
theorem cells_new1 (w:World) (cs:Array Value) (e:TypeId):∀ j u,cs.toList[j]?=some u→(w.alloc (.cells cs e)).cell? ((⟨w.heap.size,0,none⟩:Addr).add j)=some u:=by
 intro j u h
 have h1:(w.alloc (.cells cs e)).heap[w.heap.size]?=some (.cells cs e (0,0)):=by
  show (w.heap.push _)[w.heap.size]?=_
  simp
 have h2:=cell_of_row (w.alloc (.cells cs e)) w.heap.size j cs e (0,0) h1
 have h3:((⟨w.heap.size,0,none⟩:Addr).add j)=⟨w.heap.size,j,none⟩:=by
  by_cases hj:j=0
  ·subst hj;rfl
  ·simp [Addr.add,hj]
 rw [h3,h2]
 simpa using h
theorem r3dec_any (n:Int) (h0:-9223372036854775808≤n) (h1:n≤9223372036854775807) (w:World) :
  Calls Tryd.prog 65 #[.int .i64 n] w fun e w'=>e=.returned (.string (bs (Lib.itoa n)))∧Below w.heap.size w w':=by
 have hlen:(Lib.decDigits n.natAbs).length≤20:=by
  rw [Lib.decDigits_length]
  exact Lib.nDigits_le20 _ (by omega)
 have HL:=Lib.hid hlen
 have HI:=Lib.hid (itoa_sign n)
 clear hlen
 go_enter Tryd.func65,Tryd.ntmps65
 go_wp2
 go_loopw [3,4] (fun sv mv wr=>∃ (s:ByteArray) (m:Int),sv=.string s∧mv=.int .i64 m∧Hid (DecAt n m s)∧Hid ((0≤n→0≤m∧m≤n)∧(n < 0→m≤0∧n≤m))∧Below w.heap.size w wr) (fun _ mv _=>(intOf mv).natAbs)
 case atStart=>exact ⟨_,n,rfl,rfl,Lib.hid (by simp [DecAt]),Lib.hid (by omega),Below.refl _ _⟩
 case round =>
  obtain ⟨s,m,rfl,rfl,hd,hm,hb⟩:=hrel
  obtain ⟨x,hx⟩:∃ x,m.natAbs % 10=x:=⟨_,rfl⟩
  obtain ⟨y,hy⟩:∃ y,m.natAbs / 10=y:=⟨_,rfl⟩
  obtain ⟨c,hc⟩:∃ c:UInt8,48+(x:Int)=(c.toNat:Int):=⟨UInt8.ofNat (48+x),by rw [UInt8.toNat_ofNat'];omega⟩
  have HS:=Lib.hid (dec_step n m s c x y hd.out hx hy hc)
  have hss:=dec_size hd.out HL.out
  have hcv:(convert 64 9 (.slice (some ⟨wr.heap.size,0,none⟩) 1 1)).run Tryd.prog (wr.alloc (.cells #[.int .u8 (c.toNat:Int)] 5))=.ok (.string ⟨#[c]⟩) (wr.alloc (.cells #[.int .u8 (c.toNat:Int)] 5)) :=
   run_convert_bytes_back _ 64 9 5 ⟨wr.heap.size,0,none⟩ 1 [c] Tryd.underlying64 Tryd.underlying5 Tryd.underlying9 (fun j hj=>by
    have:=cells_new1 wr #[.int .u8 (c.toNat:Int)] 5 j (.int .u8 (c.toNat:Int)) (by simp at hj;subst hj;rfl)
    simp at hj
    subst hj
    exact this)
  have r1:∀ W:World,(Op.stringOp .add ⟨#[c]⟩ s).run Tryd.prog W=.ok (.string (⟨#[c]⟩++s)) W:=fun W=>run_string_add_sum W _ _ (by show 1+s.size≤_;omega)
  have r2:∀ W:World,(Op.stringOp .add ⟨#[45]⟩ (⟨#[c]⟩++s)).run Tryd.prog W=.ok (.string (⟨#[45]⟩++(⟨#[c]⟩++s))) W:=fun W=>run_string_add_sum W _ _ (by rw [ByteArray.size_append];show 1+(1+s.size)≤_;omega)
  have hx9:x≤9:=by omega
  have hsgn:(0≤m∧m % 10=(x:Int)∧m / 10=(y:Int)) ∨ (m < 0∧m.tmod 10=-(x:Int)∧m.tdiv 10=-(y:Int)):=by
   rcases Int.lt_or_le m 0 with h | h
   ·right
    obtain ⟨u,rfl⟩:∃ u:Nat,m=-(u:Int):=⟨m.natAbs,by omega⟩
    refine ⟨h,?_,?_⟩
    ·rw [Int.neg_tmod,← hx]
     simp only [Int.natAbs_neg,Int.natAbs_natCast]
     rw [Int.tmod_eq_emod_of_nonneg (by omega)]
     omega
    ·rw [Int.neg_tdiv,← hy]
     simp only [Int.natAbs_neg,Int.natAbs_natCast]
     rw [Int.tdiv_eq_ediv_of_nonneg (by omega)]
     omega
   ·left
    omega
  have HM:=Lib.hid hm
  have HY:=Lib.hid hy
  clear hss hx hy
  by_cases hy0:y=0
  ·have hfin:=HS.out.1 hy0
   have hI:=HI.out
   rw [hfin] at hI
   by_cases hn:n < 0
   ·rw [if_pos hn] at hI
    have HF:=Lib.hid hI
    clear hfin hI hm hd
    rcases hsgn with ⟨g1,g2,g3⟩ | ⟨g1,g2,g3⟩
    ·rw [hy0] at g3
     have q3:decide ((x:Int) < 0)=false:=by simp
     go_wp2_with fail
     go_ret
     exact ⟨by rw [HF.out];rfl,hb.alloc hb.size _⟩
    ·replace g3:m.tdiv 10=0:=by rw [g3,hy0];rfl
     rcases Nat.eq_zero_or_pos x with hx0 | hxp
     ·replace g2:m.tmod 10=(x:Int):=by rw [g2,hx0];rfl
      clear hx0
      have q3:decide ((x:Int) < 0)=false:=by simp
      go_wp2_with fail
      go_ret
      exact ⟨by rw [HF.out];rfl,hb.alloc hb.size _⟩
     ·have q3:decide (-(x:Int) < 0)=true:=by simp;omega
      go_wp2_with fail
      go_ret
      exact ⟨by rw [HF.out];rfl,hb.alloc hb.size _⟩
   ·rw [if_neg hn] at hI
    have HF:=Lib.hid hI
    have hge:0≤n:=by omega
    clear hfin hI hm hd
    rcases hsgn with ⟨g1,g2,g3⟩ | ⟨g1,g2,g3⟩
    ·rw [hy0] at g3
     have q3:decide ((x:Int) < 0)=false:=by simp
     go_wp2_with fail
     go_ret
     exact ⟨by rw [HF.out];rfl,hb.alloc hb.size _⟩
    ·exact absurd (HM.out.1 hge).1 (by omega)
  ·have hgo:=HS.out.2 hy0
   rcases hsgn with ⟨g1,g2,g3⟩ | ⟨g1,g2,g3⟩
   ·have HG:=Lib.hid (hgo (y:Int) (by omega))
    have hN:=Lib.hid (show (0≤n→0≤(y:Int)∧(y:Int)≤n)∧(n < 0→(y:Int)≤0∧n≤(y:Int)) by have:=HM.out.out;have:=HY.out;omega)
    have hmeas:(y:Int).natAbs < m.natAbs:=by have:=HY.out;omega
    have hm1:m≤9223372036854775807:=by have:=HM.out.out;omega
    have hyp:0 < (y:Int):=by omega
    have hb0:0≤(y:Int):=by omega
    have hb1:(y:Int)≤9223372036854775807:=by have:=HM.out.out;have:=HY.out;omega
    generalize (y:Int)=Y at *
    subst g3
    have q4:((m / 10) == 0)=false:=beq_eq_false_iff_ne.2 (by omega)
    clear hgo hm hd hyp
    have q3:decide ((x:Int) < 0)=false:=by simp
    go_wp2_with fail
    go_roundw
    case rel=>exact ⟨_,_,rfl,rfl,HG,hN,hb.alloc hb.size _⟩
    case measure=>simp only [intOf];exact hmeas
   ·have HG:=Lib.hid (hgo (-(y:Int)) (by omega))
    have hN:=Lib.hid (show (0≤n→0≤-(y:Int)∧-(y:Int)≤n)∧(n < 0→-(y:Int)≤0∧n≤-(y:Int)) by have:=HM.out.out;have:=HY.out;omega)
    have hmeas:(-(y:Int)).natAbs < m.natAbs:=by have:=HY.out;omega
    have hyp:-(y:Int) < 0:=by omega
    have hb0:-(y:Int)≤0:=by omega
    have hb1:-9223372036854775808≤-(y:Int):=by have:=HM.out.out;have:=HY.out;omega
    generalize -(y:Int)=Y at *
    have q4:(Y == 0)=false:=beq_eq_false_iff_ne.2 (by omega)
    clear hgo hm hd hyp
    rcases Nat.eq_zero_or_pos x with hx0 | hxp
    ·replace g2:m.tmod 10=(x:Int):=by rw [g2,hx0];rfl
     clear hx0
     have q3:decide ((x:Int) < 0)=false:=by simp
     go_wp2_with fail
     go_roundw
     case rel=>exact ⟨_,Y,rfl,rfl,HG,hN,hb.alloc hb.size _⟩
     case measure=>simp only [intOf];exact hmeas
    ·have q3:decide (-(x:Int) < 0)=true:=by simp;omega
     go_wp2_with fail
     go_roundw
     case rel=>exact ⟨_,Y,rfl,rfl,HG,hN,hb.alloc hb.size _⟩
     case measure=>simp only [intOf];exact hmeas
end Lx
end Go.Proofs.YtnpacamcgifabaaDoor
namespace Go.Proofs.YtnpacamcgifabaaDoor
set_option linter.unusedSimpArgs false
set_option linter.unusedVariables false
namespace Lx
open Go Go.RowKit
mutual
def txT:TyT→List UInt8
 | .mk k s n l=>if k=1 then [105,110,116] else if k=3 then s.data.toList else if k=4 then 63 :: Lib.itoa n else if k=2 then s.data.toList++(txs true l++if l.length=0 then [] else [41]) else []
def txs:Bool→List TyT→List UInt8
 | _,[]=>[]
 | b,x :: l=>(if b=true then [40] else [44,32])++(txT x++txs false l)
end
theorem txs_snoc:∀ (a:List TyT) (b:Bool) (x:TyT),txs b (a++[x])=txs b a++((if b=true∧a.length=0 then [40] else [44,32])++txT x)
 | [],b,x=>by cases b <;> simp [txs]
 | y :: a,b,x=>by
  rw [List.cons_append,txs,txs,txs_snoc a false x]
  simp
theorem txs_take {l:List TyT} {k:Nat} (h:k < l.length):txs true (l.take (k+1))=txs true (l.take k)++((if k=0 then [40] else [44,32])++txT l[k]):=by
 rw [List.take_succ_eq_append_getElem h,txs_snoc]
 have:(l.take k).length=k:=by rw [List.length_take];omega
 rw [this]
 simp
theorem txs_part (l:List TyT) (k:Nat):(txs true (l.take k)).length≤(txs true l).length:=by
 induction h:l.length - k generalizing k with
 | zero=>rw [List.take_of_length_le (by omega)];exact Nat.le_refl _
 | succ n ih =>
  have h1:=ih (k+1) (by omega)
  rw [txs_take (by omega:k < l.length),List.length_append] at h1
  omega
theorem bs_back (s:ByteArray):bs s.data.toList=s:=ByteArray.ext (by simp [bs])
theorem str_add (a b:List UInt8) (h:a.length+b.length≤9000000000000000000):∀ W:World,(Op.stringOp .add (bs a) (bs b)).run Tryd.prog W=.ok (.string (bs (a++b))) W:=fun W=>by
 rw [run_string_add_sum (P:=Tryd.prog) W (bs a) (bs b) (by rw [bs_len,bs_len];omega),bs_app]
def RTextC (d:Nat):Prop:=∀ (Vol:Nat→Prop) (x:TyT) (v:Value) (w:World),TyW d Vol x v w→wfT x→(txT x).length≤4000000000000000000 →
 Calls Tryd.prog 29 #[v] w fun e w'=>e=.returned (.string (bs (txT x)))∧Below w.heap.size w w'
set_option maxRecDepth 100000 in
set_option maxHeartbeats 4000000 in
theorem rtext_step (d:Nat) (HC:Hid (RTextC d)):RTextC (d+1):=by
 rintro Vol ⟨k,s,n,l⟩ v w ⟨va,rfl,hr⟩ hw hlen
 obtain ⟨A1,c1,rfl⟩:=hr.slice
 have HB0:=Lib.hid (below_alloc w (.cells #[.int .i64 k,.string s,.int .i64 n,.slice A1 l.length c1] 32))
 by_cases k1:k=1
 ·subst k1
  clear hr hw hlen
  go_enter Tryd.func29,Tryd.ntmps29
  go_wp2_with fail
  go_ret
  exact ⟨by rw [txT,if_pos rfl];rfl,HB0.out⟩
 ·by_cases k3:k=3
  ·subst k3
   clear hr hw hlen
   go_enter Tryd.func29,Tryd.ntmps29
   go_wp2_with fail
   go_ret
   exact ⟨by rw [txT,if_neg (by decide),if_pos rfl,bs_back];rfl,HB0.out⟩
  ·by_cases k4:k=4
   ·subst k4
    have hn:wfI n:=wfT_var (t:=.mk 4 s n l) hw
    have hrange:-9223372036854775808≤n∧n≤9223372036854775807:=by
     have h:=hn
     unfold wfI at h
     simp [Lit.wf] at h
     have h1:IntKind.i64.min=-9223372036854775808:=by decide
     have h2:IntKind.i64.max=9223372036854775807:=by decide
     omega
    have HD:=Lib.hid (fun W=>r3dec_any n hrange.1 hrange.2 W)
    have hil:(Lib.itoa n).length≤4000000000000000000:=by
     rw [txT,if_neg (by decide),if_neg (by decide),if_pos rfl,List.length_cons] at hlen
     omega
    have HADD:=Lib.hid (str_add [63] (Lib.itoa n) (by simp;omega))
    have HEQ:=Lib.hid (show txT (.mk 4 s n l)=[63]++Lib.itoa n by rw [txT,if_neg (by decide),if_neg (by decide),if_pos rfl];rfl)
    clear hr hw hlen hn hrange hil
    go_enter Tryd.func29,Tryd.ntmps29
    go_upto_region 7 with fail
    have a2:=(cellH (heap_alloc_new w (.cells #[.int .i64 4,.string s,.int .i64 n,.slice A1 l.length c1] 32)) 2).trans rfl
    generalize (w.alloc (.cells #[.int .i64 4,.string s,.int .i64 n,.slice A1 l.length c1] 32))=W at HB0 a2 ⊢
    go_wp2_with (go_at_call 65;refine (HD.out _).mono ?_;rintro e w3 ⟨rfl,hb3⟩;have HB3:=Lib.hid (HB0.out.trans (hb3.mono HB0.out.size));clear hb3;have hadd:∀ W:World,(Op.stringOp .add ⟨#[63]⟩ (bs (Lib.itoa n))).run Tryd.prog W=.ok (.string (bs ([63]++Lib.itoa n))) W:=HADD.out)
    go_ret
    exact ⟨by rw [HEQ.out];rfl,HB3.out⟩
   ·by_cases k2:k=2
    ·subst k2
     have HW:=Lib.hid (show wfTs l from wfT_args (t:=.mk 2 s n l) hw)
     have HEQ:=Lib.hid (show txT (.mk 2 s n l)=s.data.toList++(txs true l++if l.length=0 then [] else [41]) by rw [txT,if_neg (by decide),if_neg (by decide),if_neg (by decide),if_pos rfl])
     rw [HEQ.out] at hlen
     have hl2:s.data.toList.length+((txs true l).length+(if l.length=0 then ([]:List UInt8) else [41]).length)≤4000000000000000000:=by rw [← List.length_append,← List.length_append];exact hlen
     have HLN:=Lib.hid (show s.data.toList.length+(txs true l).length+1≤4000000000000000001 by omega)
     have HV:=Lib.hid hr
     have hfew:=hr.few
     unfold maxLen at hfew
     have HSB:=Lib.hid (bs_back s)
     clear hr hw hlen hl2
     go_enter Tryd.func29,Tryd.ntmps29
     go_upto_region 9 with fail
     have HX0:=Lib.hid (heap_alloc_new w (.cells #[.int .i64 2,.string s,.int .i64 n,.slice A1 l.length c1] 32))
     have HV1:=Lib.hid ((RowW.step (TyW.step d)).below HV.out HB0.out)
     generalize (w.alloc (.cells #[.int .i64 2,.string s,.int .i64 n,.slice A1 l.length c1] 32))=W at HB0 HX0 HV1 ⊢
     have a1:=(cellH HX0.out 1).trans rfl
     have a3:=(cellH HX0.out 3).trans rfl
     go_wp2_with fail
     clear a1 a3
     go_loopw [3,27] (fun u t wr=>∃ k:Nat,k≤l.length∧u=.string (bs (s.data.toList++txs true (l.take k)))∧t=.int .i64 k∧Hid (Below W.heap.size W wr)) (fun _ t _=>l.length - (intOf t).toNat)
     case atStart=>exact ⟨0,Nat.zero_le _,by rw [List.take_zero,txs,List.append_nil,HSB.out],rfl,Lib.hid (Below.refl _ _)⟩
     case round =>
      obtain ⟨k,hk,rfl,rfl,HB⟩:=hrel
      by_cases hlt:k < l.length
      ·obtain ⟨gg,o,vi,rfl,hg,_,hvi,hc⟩:=RowW.at ((RowW.step (TyW.step d)).below HV1.out HB.out) k hlt
       obtain ⟨B1,n1,c2,rfl⟩:=hvi.this
       have a0:=(hc 0 (by decide)).trans rfl
       have a1:=(hc 1 (by decide)).trans rfl
       have a2:=(hc 2 (by decide)).trans rfl
       have a3:=(hc 3 (by decide)).trans rfl
       simp only [cellsL,Value.cells,List.getElem?_cons_zero,List.getElem?_cons_succ,Nat.add_zero] at a0 a1 a2 a3
       have hk0:(0:Int)≤(k:Int):=by omega
       have hk1:(k:Int) < (l.length:Int):=by omega
       have hdc:decide (k < l.length)=true:=by simpa using hlt
       have htk:=txs_take hlt
       have hpt:=txs_part l (k+1)
       rw [htk] at hpt
       simp only [List.length_append] at hpt
       have hbz:=below_alloc wr (.cells #[.int .i64 l[k].kind,.string l[k].name,.int .i64 l[k].var,.slice B1 n1 c2] 32)
       have HX:=Lib.hid (HC.out Vol l[k] _ _ ((TyW.step d).below hvi hbz) (wfTs_mem HW.out hlt) (by have:=HLN.out;omega))
       have HBZ:=Lib.hid (HB.out.trans (hbz.mono HB.out.size))
       have HTK:=Lib.hid htk
       have HLT:=Lib.hid hlt
       generalize hsep:(if k=0 then ([40]:List UInt8) else [44,32])=sep at hpt HTK
       have HXB:=Lib.hid (heap_alloc_new wr (.cells #[.int .i64 l[k].kind,.string l[k].name,.int .i64 l[k].var,.slice B1 n1 c2] 32))
       have hla:(s.data.toList++txs true (l.take k)).length+sep.length+(txT l[k]).length≤4000000000000000001:=by
        have:=HLN.out
        rw [List.length_append]
        omega
       have hnext:s.data.toList++txs true (l.take (k+1))=((s.data.toList++txs true (l.take k))++sep)++txT l[k]:=by rw [HTK.out,List.append_assoc,List.append_assoc];rfl
       have HNEXT:=Lib.hid hnext
       clear hc hvi hbz hpt htk hnext
       generalize hacc:s.data.toList++txs true (l.take k)=acc at hla HNEXT ⊢
       generalize hxx:l[k]=x at hla HNEXT HX HBZ HXB a0 a1 a2 ⊢
       have HA1:=Lib.hid (str_add acc sep (by omega))
       have HA2:=Lib.hid (str_add (acc++sep) (txT x) (by rw [List.length_append];omega))
       clear hacc hxx hla
       by_cases h0:k=0
       ·have he0:((k:Int) == 0)=true:=by simp [h0]
        rw [if_pos h0] at hsep
        subst hsep
        have ha1:∀ W:World,(Op.stringOp .add (bs acc) ⟨#[40]⟩).run Tryd.prog W=.ok (.string (bs (acc++[40]))) W:=HA1.out
        clear h0
        go_wp2_with (go_at_call 29;have hxq:=HX.out;with_reducible refine hxq.mono ?_;clear hxq;rintro e w5 ⟨rfl,hb5⟩;have HB5:=Lib.hid (HBZ.out.trans (hb5.mono HBZ.out.size));have ha2:=HA2.out;clear hb5)
        go_roundw
        case rel=>exact ⟨k+1,by have:=HLT.out;omega,by rw [HNEXT.out];simp,by go_num,HB5⟩
        case measure=>have:=HLT.out;simp [intOf];omega
       ·have he0:((k:Int) == 0)=false:=beq_eq_false_iff_ne.2 (by omega)
        rw [if_neg h0] at hsep
        subst hsep
        have ha1:∀ W:World,(Op.stringOp .add (bs acc) ⟨#[44,32]⟩).run Tryd.prog W=.ok (.string (bs (acc++[44,32]))) W:=HA1.out
        clear h0
        go_wp2_with (go_at_call 29;have hxq:=HX.out;with_reducible refine hxq.mono ?_;clear hxq;rintro e w5 ⟨rfl,hb5⟩;have HB5:=Lib.hid (HBZ.out.trans (hb5.mono HBZ.out.size));have ha2:=HA2.out;clear hb5)
        go_roundw
        case rel=>exact ⟨k+1,by have:=HLT.out;omega,by rw [HNEXT.out];simp,by go_num,HB5⟩
        case measure=>have:=HLT.out;simp [intOf];omega
      ·obtain rfl:k=l.length:=by omega
       have hdc:decide (l.length < l.length)=false:=by simp
       rw [List.take_length]
       have hx0:=(HB.out.block _ (Array.getElem?_eq_some_iff.1 HX0.out).1).trans HX0.out
       have a3:=(cellH hx0 3).trans rfl
       have HBE:=Lib.hid (HB0.out.trans (HB.out.mono HB0.out.size))
       by_cases h0:l.length=0
       ·rw [if_pos h0,List.append_nil] at HEQ
        have hdl:decide (0 < l.length)=false:=by simp [h0]
        clear hx0 h0
        go_wp2_with fail
        go_ret
        exact ⟨by rw [HEQ.out];rfl,HBE.out⟩
       ·rw [if_neg h0] at HEQ
        have hdl:decide (0 < l.length)=true:=by simp only [decide_eq_true_eq];omega
        have HA1:=Lib.hid (str_add (s.data.toList++txs true l) [41] (by have:=HLN.out;simp only [List.length_append,List.length_cons,List.length_nil];omega))
        have ha1:∀ W:World,(Op.stringOp .add (bs (s.data.toList++txs true l)) ⟨#[41]⟩).run Tryd.prog W=.ok (.string (bs ((s.data.toList++txs true l)++[41]))) W:=HA1.out
        generalize hacc:s.data.toList++txs true l=acc at ha1 ⊢
        clear hx0 h0
        go_wp2_with fail
        go_ret
        exact ⟨by rw [HEQ.out,← List.append_assoc,hacc];rfl,HBE.out⟩
    ·have e1:(k == 1)=false:=by simpa using k1
     have e2:(k == 2)=false:=by simpa using k2
     have e3:(k == 3)=false:=by simpa using k3
     have e4:(k == 4)=false:=by simpa using k4
     clear hr hw hlen
     go_enter Tryd.func29,Tryd.ntmps29
     go_wp2_with fail
     go_ret
     exact ⟨by rw [txT,if_neg k1,if_neg k3,if_neg k4,if_neg k2];rfl,HB0.out⟩
theorem rtext_any:∀ d,RTextC d
 | 0=>fun _ _ _ _ h=>h.elim
 | d+1=>rtext_step d (Lib.hid (rtext_any d))
end Lx
end Go.Proofs.YtnpacamcgifabaaDoor
namespace Go.Proofs.YtnpacamcgifabaaDoor
set_option linter.unusedSimpArgs false
set_option linter.unusedVariables false
namespace Lx
open Go Go.RowKit
theorem infoB:(Tryd.prog.info? 5).map (fun i=>(i.zero,i.size,i.bytes))=some (some (.int .u8 0),1,1):=by kernel_rfl
/-- A row of bytes of one's own. -/
def OwnB (B:Nat) (l:List UInt8) (v:Value) (w:World):Prop:=w.ownsRow B 5 1 v l.length (Lib.byteCells l)
section
variable {B:Nat} {l:List UInt8} {v:Value} {w w':World}
theorem OwnB.shapeN (h:OwnB B l v w):∃ A n c,v=.slice A n c:=by
 rcases h.2 with ⟨rfl,h0⟩ | ⟨g,cap,cur,rfl,_⟩
 ·exact ⟨none,0,0,rfl⟩
 ·exact ⟨_,_,cap,rfl⟩
theorem OwnB.shape (h:OwnB B l v w):∃ A c,v=.slice A l.length c:=by
 rcases h.2 with ⟨rfl,h0⟩ | ⟨g,cap,cur,rfl,_⟩
 ·exact ⟨none,0,by rw [h0]⟩
 ·exact ⟨_,cap,rfl⟩
theorem OwnB.below (h:OwnB B l v w) (hb:Below w.heap.size w w'):OwnB B l v w':=own_belowN h hb
theorem byteCells_app (a b:List UInt8):Lib.byteCells (a++b)=Lib.byteCells a++Lib.byteCells b:=by simp [Lib.byteCells]
end
/-- 'append(own, b)'. -/
theorem append_byte {w:World} {ops:Array Oper} {rest:List Oper} {o:Oper} {a:Act} {Q:Exit→Act→World→Prop} (hgd:o.guard=none) (s x:Operand)
  (ho:o.op=.call { callee:=.builtin .append,args:=#[s,x],argTypes:=#[64,64] })
  (B:Nat) (l:List UInt8) (v:Value) (hs:a.eval s=v) (hown:OwnB B l v w) (N:Nat) (b:UInt8) (hx:a.eval x=.slice (some ⟨N,0,none⟩) 1 1) (hN:w.heap[N]?=some (.cells #[.int .u8 b.toNat] 5 (0,0))) (hl:l.length≤100000000000000) (hbase:B≤w.heap.size)
  (h:∀ A n c w',OwnB B (l++[b]) (.slice A n c) w'→w.grownBy w' v.ownBlock→wpList Tryd.prog ops Q rest (a.put o.dst (.slice A n c)) w'):wpList Tryd.prog ops Q (o :: rest) a w:=by
 obtain ⟨i0,hi,hz0,hz1,hz2⟩:=info_parts infoB
 refine wpList_append_lies w hgd s x 64 ho B 5 i0 _ 1 1 Tryd.underlying64 hi hz0 hz1 hz2 rfl (by decide) v l.length (Lib.byteCells l) hs hown ⟨N,0,none⟩ 1 1 [.int .u8 b.toNat] hx rfl (World.news_of_block (cs:=#[.int .u8 b.toNat]) hN) (by simp [Value.oneCell']) (by decide) (by unfold maxLen;omega) (by omega) hbase _ rfl ?_
 intro g cap w' h2 h3 _ _
 exact h _ _ cap w' (by unfold OwnB;rw [byteCells_app,List.length_append];exact h2) h3
/-- 'append(own, s...)'. -/
theorem append_text {w:World} {ops:Array Oper} {rest:List Oper} {o:Oper} {a:Act} {Q:Exit→Act→World→Prop} (hgd:o.guard=none) (s x:Operand)
  (ho:o.op=.call { callee:=.builtin .append,args:=#[s,x],argTypes:=#[64,9] })
  (B:Nat) (l:List UInt8) (v:Value) (hs:a.eval s=v) (hown:OwnB B l v w) (t:List UInt8) (hx:a.eval x=.string (bs t)) (hl:l.length+t.length≤100000000000000) (hbase:B≤w.heap.size)
  (h:∀ A n c w',OwnB B (l++t) (.slice A n c) w'→w.grownBy w' v.ownBlock→wpList Tryd.prog ops Q rest (a.put o.dst (.slice A n c)) w'):wpList Tryd.prog ops Q (o :: rest) a w:=by
 obtain ⟨i0,hi,hz0,hz1,hz2⟩:=info_parts infoB
 have hbl:=bs_len t
 refine Lib.wpList_append_own_string w hgd s x 64 9 ho B 5 i0 Tryd.underlying64 Tryd.underlying9 hi hz0 hz1 hz2 v l.length (Lib.byteCells l) hs hown (bs t) hx (by unfold maxLen;omega) (by omega) hbase ?_
 intro v' w' h2 h3 _
 have h4:OwnB B (l++t) v' w':=by
  unfold OwnB
  rw [byteCells_app,List.length_append,← hbl]
  exact h2
 obtain ⟨A,c,rfl⟩:=h4.shape
 exact h A _ c w' h4 h3
def AppT (d : Nat) : Prop := ∀ (B : Nat) (acc : List UInt8) (sv : Value) (x : TyT) (v : Value) (w : World), OwnB B acc sv w → TyW d (fun k => B ≤ k) x v w → wfT x → acc.length + (txT x).length ≤ 10000000000000 → B ≤ w.heap.size → Lib.TabBelow Tryd.prog B w "internal/strconv.uint64pow10" .u64 Lib.pow10Tab →
 Calls Tryd.prog 64 #[sv,v] w fun e w'=>∃ v',e=.returned v'∧OwnB B (acc++txT x) v' w'∧Below B w w'∧Lib.OthersKept 5 none w w'
def argsT (l:List TyT):List UInt8:=txs true l++if l.length=0 then [] else [41]
def preT (l:List TyT) (k:Nat):List UInt8:=if k=0 then [40] else txs true (l.take k)
theorem preT_next {l:List TyT} {k:Nat} (h:k < l.length):preT l (k+1)=(preT l k++if k=0 then [] else [44,32])++txT l[k]:=by
 have h1:preT l (k+1)=txs true (l.take (k+1)):=if_neg (by omega)
 rw [h1,txs_take h]
 by_cases h0:k=0
 ·subst h0
  simp [preT,txs]
 ·rw [if_neg h0,if_neg h0]
  have h2:preT l k=txs true (l.take k):=if_neg h0
  rw [h2,List.append_assoc]
theorem preT_few {l:List TyT} (h:¬ l.length=0) (k:Nat):(preT l k).length≤(txs true l).length:=by
 by_cases h0:k=0
 ·have h1:preT l k=[40]:=if_pos h0
  rw [h1]
  match l,h with
  | x :: l',_=>rw [txs];simp
 ·have h1:preT l k=txs true (l.take k):=if_neg h0
  rw [h1]
  exact txs_part l k
set_option maxRecDepth 100000 in
set_option maxHeartbeats 4000000 in
theorem args_step (d : Nat) (HC : Hid (AppT d)) (B : Nat) (acc : List UInt8) (sv : Value) (l : List TyT) (v : Value) (w : World) (ho : OwnB B acc sv w) (hv : RowW 4 (TyW d) (fun k => B ≤ k) l v w) (hw : wfTs l) (hlen : acc.length + (argsT l).length ≤ 10000000000000) (hB : B ≤ w.heap.size) (ht : Lib.TabBelow Tryd.prog B w "internal/strconv.uint64pow10" .u64 Lib.pow10Tab) :
  Calls Tryd.prog 90 #[sv,v] w fun e w'=>∃ v',e=.returned v'∧OwnB B (acc++argsT l) v' w'∧Below B w w'∧Lib.OthersKept 5 none w w':=by
 obtain ⟨A,c,rfl⟩:=hv.slice
 obtain ⟨A0,n0,c0,rfl⟩:=ho.shapeN
 by_cases h0:l.length=0
 ·have he:((l.length:Int) == 0)=true:=by rw [h0];rfl
  have hl:l=[]:=List.eq_nil_of_length_eq_zero h0
  have HO:=Lib.hid ho
  have HEQ:=Lib.hid (show acc++argsT l=acc by rw [hl];simp [argsT,txs])
  clear hv hw hlen ht h0 hl ho
  go_enter Tryd.func90,Tryd.ntmps90
  go_wp2_with fail
  go_ret
  exact ⟨_,rfl,by rw [HEQ.out];exact HO.out,Below.refl _ _,Lib.OthersKept.refl _ _ _⟩
 ·have he:((l.length:Int) == 0)=false:=beq_eq_false_iff_ne.2 (by omega)
  have hfew:=hv.few
  unfold maxLen at hfew
  have hsum:acc.length+(txs true l).length+1≤10000000000000:=by
   rw [argsT,if_neg h0,List.length_append] at hlen
   simp only [List.length_cons,List.length_nil] at hlen
   omega
  have HEQ:=Lib.hid (show acc++argsT l=(acc++txs true l)++[41] by rw [argsT,if_neg h0,List.append_assoc])
  have HV:=Lib.hid hv
  have HO:=Lib.hid ho
  have HW:=Lib.hid hw
  have HT:=Lib.hid ht
  have HS:=Lib.hid hsum
  have HNE:=Lib.hid h0
  clear hv ho hw ht hlen h0
  go_enter Tryd.func90,Tryd.ntmps90
  go_upto_region 3 with fail
  have HB2:=Lib.hid (below_alloc w (.cells #[.int .u8 40] 5))
  go_wp2_with (at_builtin;refine append_byte rfl _ _ rfl B acc _ rfl (HO.out.below HB2.out) w.heap.size 40 rfl (heap_alloc_new _ _) (by omega) (by have:=HB2.out.size;omega) ?_;intro A6 n6 c6 w6 hown6 hg6;have HO6:=Lib.hid hown6;have HB6:=Lib.hid (below_grown (HB2.out.mono hB) hg6 (fun k e=>(HO.out.lt k e).1) (by have:=HB2.out.size;omega));have HK6:=Lib.hid (((Lib.OthersKept.refl 5 none w).alloc (.cells #[.int .u8 40] 5)).grown hg6 (Lib.ownsRow_kind (HO.out.below HB2.out)));clear hown6 hg6)
  go_loopw [0,16] (fun u t wr=>∃ (k:Nat) (A7:Option Addr) (n7 c7:Nat),k≤l.length∧u=.slice A7 n7 c7∧t=.int .i64 k∧Hid (OwnB B (acc++preT l k) u wr)∧Hid (Below B w wr)∧Hid (Lib.OthersKept 5 none w wr)) (fun _ t _=>l.length - (intOf t).toNat)
  case atStart=>exact ⟨0,A6,n6,c6,Nat.zero_le _,rfl,rfl,HO6,HB6,HK6⟩
  case round =>
   obtain ⟨k,A7,n7,c7,hk,rfl,rfl,HO7,HB7,HK7⟩:=hrel
   by_cases hlt:k < l.length
   ·obtain ⟨gg,o,vi,rfl,hg,_,hvi,hc⟩:=RowW.at (RowW.step (TyW.step d) _ (fun k=>B≤k) _ _ _ _ HV.out (kbN HB7.out) (fun _ _ e=>e)) k hlt
    obtain ⟨B1,n1,c2,rfl⟩:=hvi.this
    have a0:=(hc 0 (by decide)).trans rfl
    have a1:=(hc 1 (by decide)).trans rfl
    have a2:=(hc 2 (by decide)).trans rfl
    have a3:=(hc 3 (by decide)).trans rfl
    simp only [cellsL,Value.cells,List.getElem?_cons_zero,List.getElem?_cons_succ,Nat.add_zero] at a0 a1 a2 a3
    have hk0:(0:Int)≤(k:Int):=by omega
    have hk1:(k:Int) < (l.length:Int):=by omega
    have hdc:decide (k < l.length)=true:=by simpa using hlt
    have hnx:=preT_next hlt
    have hfw:=preT_few HNE.out (k+1)
    have hfk:=preT_few HNE.out k
    rw [hnx] at hfw
    simp only [List.length_append] at hfw
    have hbz:=below_alloc wr (.cells #[.int .i64 l[k].kind,.string l[k].name,.int .i64 l[k].var,.slice B1 n1 c2] 32)
    have HBR:=Lib.hid (show B≤wr.heap.size from Nat.le_trans hB HB7.out.size)
    have HBZ:=Lib.hid (HB7.out.trans (hbz.mono HBR.out))
    have HOZ:=Lib.hid (HO7.out.below hbz)
    have HKZ:=Lib.hid (HK7.out.alloc (.cells #[.int .i64 l[k].kind,.string l[k].name,.int .i64 l[k].var,.slice B1 n1 c2] 32))
    have HVI:=Lib.hid ((TyW.step d).below hvi hbz)
    have HWK:=Lib.hid (wfTs_mem HW.out hlt)
    have HXB:=Lib.hid (heap_alloc_new wr (.cells #[.int .i64 l[k].kind,.string l[k].name,.int .i64 l[k].var,.slice B1 n1 c2] 32))
    have HLT:=Lib.hid hlt
    have HNX:=Lib.hid hnx
    have hsz:acc.length+(preT l k).length≤10000000000000:=by have:=HS.out;omega
    have hbw:=hbz.size
    clear hc hvi hbz hnx hfk
    generalize hxx:l[k]=x at HBZ HOZ HKZ HVI HWK HXB HNX hfw hbw a0 a1 a2 ⊢
    generalize hpp:preT l k=p at HOZ HNX hfw hsz ⊢
    by_cases h0:k=0
    ·have hd0:decide (0 < k)=false:=by simp [h0]
     rw [if_pos h0] at HNX hfw
     rw [List.append_nil] at HNX
     have HX:=Lib.hid (HC.out B (acc++p) _ x _ _ HOZ.out HVI.out HWK.out (by rw [List.length_append];have:=HS.out;simp at hfw;omega) (by have:=HBR.out;omega) (HT.out.on HBZ.out))
     clear hxx hpp hfw h0
     go_upto_region 7 with fail
     clear a0 a1 a2 a3
     generalize (wr.alloc (.cells #[.int .i64 x.kind,.string x.name,.int .i64 x.var,.slice B1 n1 c2] 32))=W at HX HBZ HOZ HKZ HXB ⊢
     have x0:=(cellH HXB.out 0).trans rfl
     have x1:=(cellH HXB.out 1).trans rfl
     have x2:=(cellH HXB.out 2).trans rfl
     have x3:=(cellH HXB.out 3).trans rfl
     go_wp2_with (go_loud (go_at_call 64;have hxq:=HX.out;with_reducible refine hxq.mono ?_;clear hxq;rintro e w5 ⟨v5,rfl,hv5,hb5,hk5⟩;obtain ⟨A5,n5,c5,hs5⟩:=hv5.shapeN;subst hs5;have HV5:=Lib.hid hv5;have HB5:=Lib.hid hb5;have HK5:=Lib.hid hk5;clear hv5 hb5 hk5))
     go_roundw
     case rel=>exact ⟨k+1,A5,n5,c5,by have:=HLT.out;omega,rfl,by go_num,by rw [HNX.out,← List.append_assoc];exact HV5,Lib.hid (HBZ.out.trans HB5.out),Lib.hid (HKZ.out.trans HK5.out)⟩
     case measure=>have:=HLT.out;simp [intOf];omega
    ·have hd0:decide (0 < k)=true:=by simp only [decide_eq_true_eq];omega
     rw [if_neg h0] at HNX hfw
     have HLEN:Hid (((acc++p)++[44,32]).length+(txT x).length≤10000000000000):=Lib.hid (by simp only [List.length_append];have:=HS.out;omega)
     have HLE2:Hid ((acc++p).length+([44,32]:List UInt8).length≤100000000000000):=Lib.hid (by simp only [List.length_append,List.length_cons,List.length_nil];have:=HS.out;omega)
     have HLTO:Hid (∀ j,(Value.slice A7 n7 c7).ownBlock=some j→B≤j∧j < wr.heap.size):=Lib.hid (fun j e=>HO7.out.lt j e)
     clear hxx hpp hfw h0
     go_upto_region 8 with fail
     clear a0 a1 a2 a3
     generalize (wr.alloc (.cells #[.int .i64 x.kind,.string x.name,.int .i64 x.var,.slice B1 n1 c2] 32))=W at HBZ HOZ HKZ HXB HVI hbw ⊢
     go_wp2_with (first
      | (at_builtin;refine append_text rfl _ _ rfl B (acc++p) _ rfl HOZ.out [44,32] rfl HLE2.out (by have:=HBR.out;omega) ?_;intro A8 n8 c8 w8 hown8 hg8;have hg8:W.grownBy w8 (Value.slice A7 n7 c7).ownBlock:=hg8;have HO8:=Lib.hid hown8;have HB8:Hid (Below B W w8):=Lib.hid (below_grown (Below.refl _ _) hg8 (fun k e=>(HLTO.out k e).1) (by have:=HBR.out;omega));have HK8:=Lib.hid (HKZ.out.grown hg8 (Lib.ownsRow_kind HOZ.out));have hx8:=(hg8.block wr.heap.size (Array.getElem?_eq_some_iff.1 HXB.out).1 (fun e=>by have:=(HLTO.out _ e.symm).2;omega)).trans HXB.out;have x0:=(cellH hx8 0).trans rfl;have x1:=(cellH hx8 1).trans rfl;have x2:=(cellH hx8 2).trans rfl;have x3:=(cellH hx8 3).trans rfl;have HX:=Lib.hid (HC.out B ((acc++p)++[44,32]) _ x _ w8 HO8.out (TyW.step d _ (fun k=>B≤k) _ _ _ _ HVI.out (kbN HB8.out) (fun _ _ e=>e)) HWK.out HLEN.out (by have:=HBR.out;have:=HB8.out.size;omega) (HT.out.on (HBZ.out.trans HB8.out)));clear hown8 hg8 hx8)
      | (go_at_call 64;have hxq:=HX.out;with_reducible refine hxq.mono ?_;clear hxq;rintro e w5 ⟨v5,rfl,hv5,hb5,hk5⟩;obtain ⟨A5,n5,c5,hs5⟩:=hv5.shapeN;subst hs5;have HV5:=Lib.hid hv5;have HB5:=Lib.hid hb5;have HK5:=Lib.hid hk5;clear hv5 hb5 hk5))
     go_roundw
     case rel=>exact ⟨k+1,A5,n5,c5,by have:=HLT.out;omega,rfl,by go_num,by rw [HNX.out,← List.append_assoc,← List.append_assoc];exact HV5,Lib.hid (HBZ.out.trans (HB8.out.trans HB5.out)),Lib.hid (HK8.out.trans HK5.out)⟩
     case measure=>have:=HLT.out;simp [intOf];omega
   ·obtain rfl:k=l.length:=by omega
    have hdc:decide (l.length < l.length)=false:=by simp
    have hpl:preT l l.length=txs true l:=by rw [preT,if_neg HNE.out,List.take_length]
    rw [hpl] at HO7
    have hbz:=below_alloc wr (.cells #[.int .u8 41] 5)
    have HBR:=Lib.hid (show B≤wr.heap.size from Nat.le_trans hB HB7.out.size)
    have HBW:=Lib.hid hbz
    clear hbz
    go_wp2_with (at_builtin;refine append_byte rfl _ _ rfl B (acc++txs true l) _ rfl (HO7.out.below HBW.out) wr.heap.size 41 rfl (heap_alloc_new _ _) (by rw [List.length_append];omega) (by have:=HBW.out.size;have:=HBR.out;omega) ?_;intro A8 n8 c8 w8 hown8 hg8;have HO8:=Lib.hid hown8;have HB8:=Lib.hid (below_grown (HBW.out.mono HBR.out) hg8 (fun k e=>(HO7.out.lt k e).1) (by have:=HBW.out.size;have:=HBR.out;omega));have HK8:=Lib.hid ((HK7.out.alloc (.cells #[.int .u8 41] 5)).grown hg8 (Lib.ownsRow_kind (HO7.out.below HBW.out)));clear hown8 hg8)
    go_ret
    exact ⟨_,rfl,by rw [HEQ.out];exact HO8.out,HB7.out.trans HB8.out,HK8.out⟩
end Lx
end Go.Proofs.YtnpacamcgifabaaDoor
namespace Go.Proofs.YtnpacamcgifabaaDoor
set_option linter.unusedSimpArgs false
set_option linter.unusedVariables false
namespace Lx
open Go Go.RowKit
theorem OwnB.raw {B:Nat} {l:List UInt8} {v:Value} {w:World} (h:OwnB B l v w):w.ownsRow B 5 1 v l.length (Lib.byteCells l):=h
theorem step_byte {ops:Array Oper} {o:Oper} {a:Act} {W:World} {K:Act→World→Prop} {Q:Exit→Act→World→Prop} {E:Prop} (hgd:o.guard=none) (s x:Operand)
  (ho:o.op=.call { callee:=.builtin .append,args:=#[s,x],argTypes:=#[64,64] })
  (B:Nat) (l:List UInt8) (v:Value) (hs:a.eval s=v) (hown:OwnB B l v W) (N:Nat) (b:UInt8) (hx:a.eval x=.slice (some ⟨N,0,none⟩) 1 1) (hN:W.heap[N]?=some (.cells #[.int .u8 b.toNat] 5 (0,0))) (hl:l.length≤100000000000000) (hbase:B≤W.heap.size)
  (h:∀ A n c w',OwnB B (l++[b]) (.slice A n c) w'→W.grownBy w' v.ownBlock→K (a.put o.dst (.slice A n c)) w') :
  if Region.wanted o (yielded ops a.tmps)=true then Oper.wp Tryd.prog o a W K Q else E:=by
 obtain ⟨i0,hi,hz0,hz1,hz2⟩:=info_parts infoB
 refine step_append_lies W hgd s x 64 ho B 5 i0 _ 1 1 Tryd.underlying64 hi hz0 hz1 hz2 rfl (by decide) v l.length (Lib.byteCells l) hs hown ⟨N,0,none⟩ 1 1 [.int .u8 b.toNat] hx rfl (World.news_of_block (cs:=#[.int .u8 b.toNat]) hN) (by simp [Value.oneCell']) (by decide) (by unfold maxLen;omega) (by omega) hbase _ rfl ?_
 intro g cap w' h2 h3 _ _
 exact h _ _ cap w' (by unfold OwnB;rw [byteCells_app,List.length_append];exact h2) h3
theorem step_text {ops:Array Oper} {o:Oper} {a:Act} {W:World} {K:Act→World→Prop} {Q:Exit→Act→World→Prop} {E:Prop} (hgd:o.guard=none) (s x:Operand)
  (ho:o.op=.call { callee:=.builtin .append,args:=#[s,x],argTypes:=#[64,9] })
  (B:Nat) (l:List UInt8) (v:Value) (hs:a.eval s=v) (hown:OwnB B l v W) (t:List UInt8) (hx:a.eval x=.string (bs t)) (hl:l.length+t.length≤100000000000000) (hbase:B≤W.heap.size)
  (h:∀ A n c w',OwnB B (l++t) (.slice A n c) w'→W.grownBy w' v.ownBlock→K (a.put o.dst (.slice A n c)) w') :
  if Region.wanted o (yielded ops a.tmps)=true then Oper.wp Tryd.prog o a W K Q else E:=by
 have hw:Region.wanted o (yielded ops a.tmps)=true:=by simp [Region.wanted,hgd]
 rw [if_pos hw]
 obtain ⟨i0,hi,hz0,hz1,hz2⟩:=info_parts infoB
 have hbl:=bs_len t
 obtain ⟨v',w',hr,h2,h3,h4⟩:=Lib.run_append_own_string (P:=Tryd.prog) W B 64 9 o.type 5 i0 Tryd.underlying64 Tryd.underlying9 hi hz0 hz1 hz2 v l.length (Lib.byteCells l) hown (bs t) (by unfold maxLen;omega) (by omega) hbase
 unfold Oper.wp execOp
 simp only [ho,resolve,invoke,builtin,Sem.run_bind,Sem.run_pure,Result.andThen_ok,List.map_toArray,List.map_cons,List.map_nil,hs,hx,hr]
 have h5:OwnB B (l++t) v' w':=by
  unfold OwnB
  rw [byteCells_app,List.length_append,← hbl]
  exact h2
 obtain ⟨A,c,rfl⟩:=h5.shape
 exact h A _ c w' h5 h3
set_option maxRecDepth 100000 in
set_option maxHeartbeats 4000000 in
theorem app_step (d:Nat) (HC:Hid (AppT d)):AppT (d+1):=by
 rintro B acc sv ⟨k,s,n,l⟩ v w ho ⟨va,rfl,hr⟩ hw hlen hB ht
 obtain ⟨A1,c1,rfl⟩:=hr.slice
 obtain ⟨A0,n0,c0,rfl⟩:=ho.shapeN
 have HB0:=Lib.hid (below_alloc w (.cells #[.int .i64 k,.string s,.int .i64 n,.slice A1 l.length c1] 32))
 have HX0:=Lib.hid (heap_alloc_new w (.cells #[.int .i64 k,.string s,.int .i64 n,.slice A1 l.length c1] 32))
 have HO:=Lib.hid (ho.below HB0.out)
 have HBS:=Lib.hid (show B≤(w.alloc (.cells #[.int .i64 k,.string s,.int .i64 n,.slice A1 l.length c1] 32)).heap.size from Nat.le_trans hB HB0.out.size)
 have HBW:=Lib.hid (show Below B w (w.alloc (.cells #[.int .i64 k,.string s,.int .i64 n,.slice A1 l.length c1] 32)) from HB0.out.mono hB)
 have HLT:Hid (∀ j,(Value.slice A0 n0 c0).ownBlock=some j→B≤j∧j < w.heap.size):=Lib.hid (fun j e=>ho.lt j e)
 have HK0:=Lib.hid ((Lib.OthersKept.refl 5 none w).alloc (.cells #[.int .i64 k,.string s,.int .i64 n,.slice A1 l.length c1] 32))
 have hsb:=bs_back s
 by_cases k1:k=1
 ·subst k1
  have HEQ:=Lib.hid (show txT (.mk 1 s n l)=[105,110,116] by rw [txT,if_pos rfl])
  rw [HEQ.out] at hlen
  simp only [List.length_cons,List.length_nil] at hlen
  clear hr hw ht ho
  go_enter Tryd.func64,Tryd.ntmps64
  go_upto_region 3 with fail
  go_wp2_with (at_builtin;refine append_text rfl _ _ rfl B acc _ rfl HO.out [105,110,116] rfl (by simp only [List.length_cons,List.length_nil];omega) HBS.out ?_;intro A8 n8 c8 w8 hown8 hg8;have HO8:=Lib.hid hown8;have HB8:=Lib.hid (below_grown HBW.out hg8 (fun k e=>(HLT.out k e).1) HBS.out);have HK8:=Lib.hid (HK0.out.grown hg8 (Lib.ownsRow_kind HO.out));clear hown8 hg8)
  go_ret
  exact ⟨_,rfl,by rw [HEQ.out];exact HO8.out,HB8.out,HK8.out⟩
 ·by_cases k3:k=3
  ·subst k3
   have HEQ:=Lib.hid (show txT (.mk 3 s n l)=s.data.toList by rw [txT,if_neg (by decide),if_pos rfl])
   rw [HEQ.out] at hlen
   have a1:=(cellH HX0.out 1).trans rfl
   clear hr hw ht ho
   go_enter Tryd.func64,Tryd.ntmps64
   go_upto_region 5 with fail
   go_wp2_with (at_builtin;refine append_text rfl _ _ rfl B acc _ rfl HO.out s.data.toList (by rw [hsb];rfl) (by omega) HBS.out ?_;intro A8 n8 c8 w8 hown8 hg8;have HO8:=Lib.hid hown8;have HB8:=Lib.hid (below_grown HBW.out hg8 (fun k e=>(HLT.out k e).1) HBS.out);have HK8:=Lib.hid (HK0.out.grown hg8 (Lib.ownsRow_kind HO.out));clear hown8 hg8)
   go_ret
   exact ⟨_,rfl,by rw [HEQ.out];exact HO8.out,HB8.out,HK8.out⟩
  ·by_cases k4:k=4
   ·subst k4
    have HEQ:=Lib.hid (show txT (.mk 4 s n l)=[63]++Lib.itoa n by rw [txT,if_neg (by decide),if_neg (by decide),if_pos rfl];rfl)
    rw [HEQ.out,List.length_append] at hlen
    simp only [List.length_cons,List.length_nil] at hlen
    have hn:wfI n:=wfT_var (t:=.mk 4 s n l) hw
    have hrange:-9223372036854775808≤n∧n≤9223372036854775807:=by
     have h:=hn
     unfold wfI at h
     simp [Lit.wf] at h
     have h1:IntKind.i64.min=-9223372036854775808:=by decide
     have h2:IntKind.i64.max=9223372036854775807:=by decide
     omega
    have HRG:=Lib.hid hrange
    have HT:=Lib.hid ht
    clear hr hw ht ho hsb hn hrange
    go_enter Tryd.func64,Tryd.ntmps64
    go_upto_region 7 with fail
    generalize (w.alloc (.cells #[.int .i64 4,.string s,.int .i64 n,.slice A1 l.length c1] 32))=Y at HB0 HX0 HO HBS HBW HK0 ⊢
    have HBD:Hid (Below Y.heap.size Y Y.drew):=Lib.hid (below_drw (Below.refl _ _))
    have HBA:Hid (Below Y.heap.size Y (Y.drew.alloc (.cells #[.int .u8 63] 5))):=Lib.hid (HBD.out.alloc HBD.out.size _)
    have HXA:=Lib.hid ((HBA.out.block _ (Array.getElem?_eq_some_iff.1 HX0.out).1).trans HX0.out)
    refine wp_region_held_drew (S:=fun W=>W.cell? ⟨w.heap.size,0,none⟩=some (.int .i64 4)∧W.cell? ⟨w.heap.size,1,none⟩=some (.string s)∧W.cell? ⟨w.heap.size,2,none⟩=some (.int .i64 n)∧W.cell? ⟨w.heap.size,3,none⟩=some (.slice A1 l.length c1)) (by kernel_rfl) ⟨(cellH HX0.out 0).trans rfl,(cellH HX0.out 1).trans rfl,(cellH HX0.out 2).trans rfl,(cellH HX0.out 3).trans rfl⟩ (fun hHeld=>?_)
    (refine wpAnyH_take (i:=0) (oi:=_) (v:=?_) rfl (by kernel_rfl) (by kernel_rfl) (by kernel_rfl) (fun _ _ _ h=>h) (Or.inl ⟨by rfl,?_⟩) (by assumption) ?_;rotate_left;(focus (intro w hSw;(try dsimp only at hSw);go_simp;(try with_reducible rfl);done));(try simp only [Act.put,List.setIfInBounds_toArray,List.set_cons_zero,List.set_cons_succ]))
    (refine wpAnyH_take (i:=3) (oi:=_) (v:=?_) rfl (by kernel_rfl) (by kernel_rfl) (by kernel_rfl) (fun _ _ _ h=>h) (Or.inl ⟨by rfl,?_⟩) (by assumption) ?_;rotate_left;(focus (intro w hSw;(try dsimp only at hSw);go_simp;(try with_reducible rfl);done));(try simp only [Act.put,List.setIfInBounds_toArray,List.set_cons_zero,List.set_cons_succ]))
    (refine wpAnyH_take (i:=4) (oi:=_) (v:=?_) rfl (by kernel_rfl) (by kernel_rfl) (by kernel_rfl) (fun _ _ _ h=>h) (Or.inl ⟨by rfl,?_⟩) (by assumption) ?_;rotate_left;(focus (intro w hSw;(try dsimp only at hSw);go_simp;(try with_reducible rfl);done));(try simp only [Act.put,List.setIfInBounds_toArray,List.set_cons_zero,List.set_cons_succ]))
    refine wpAnyH_ready (rs:=[1]) (by kernel_rfl) (by simp) ?_
    refine AllReadyH.cons (o:=_) rfl (fun K hK=>?_) AllReadyH.nil
    go_simp
    refine hK.out _ _ ⟨(cellH HXA.out 0).trans rfl,(cellH HXA.out 1).trans rfl,(cellH HXA.out 2).trans rfl,(cellH HXA.out 3).trans rfl⟩ (fun hHeld=>?_)
    clear hK K
    try simp only [Act.put,List.setIfInBounds_toArray,List.set_cons_zero,List.set_cons_succ]
    refine wpAnyH_ready (rs:=[2]) (by kernel_rfl) (by simp) ?_
    refine AllReadyH.cons (o:=_) rfl (fun K hK=>?_) AllReadyH.nil
    refine step_byte rfl (.tmp 19) (.tmp 20) rfl B acc _ (by kernel_rfl) (HO.out.below HBA.out) Y.drew.heap.size 63 (by kernel_rfl) (heap_alloc_new _ _) (by omega) (Nat.le_trans HBS.out HBA.out.size) ?_
    intro A8 n8 c8 w8 hown8 hg8
    have HO8:=Lib.hid hown8
    have HB8:Hid (Below B Y w8):=Lib.hid (below_grown (HBA.out.mono HBS.out) hg8 (fun k e=>(HLT.out k e).1) (Nat.le_trans HBS.out HBA.out.size))
    have hx8:w8.heap[w.heap.size]?=some (.cells #[.int .i64 4,.string s,.int .i64 n,.slice A1 l.length c1] 32):=(hg8.block w.heap.size (Nat.lt_of_lt_of_le (Array.getElem?_eq_some_iff.1 HX0.out).1 HBA.out.size) (fun e=>by have:=(HLT.out _ e.symm).2;omega)).trans HXA.out
    have HX8:=Lib.hid hx8
    have HK8:=Lib.hid ((HK0.out.drew.alloc (.cells #[.int .u8 63] 5)).grown hg8 (Lib.ownsRow_kind (HO.out.below HBA.out)))
    clear hown8 hg8 hx8
    refine hK.out _ _ ⟨(cellH HX8.out 0).trans rfl,(cellH HX8.out 1).trans rfl,(cellH HX8.out 2).trans rfl,(cellH HX8.out 3).trans rfl⟩ (fun hHeld=>?_)
    clear hK K
    try simp only [Act.put,List.setIfInBounds_toArray,List.set_cons_zero,List.set_cons_succ]
    refine wpAnyH_ready (rs:=[5]) (by kernel_rfl) (by simp) ?_
    refine AllReadyH.cons (o:=_) rfl (fun K hK=>?_) AllReadyH.nil
    go_simp
    refine (Tryd.strconv_AppendInt_10 B (acc++[63]).length n HRG.out.1 HRG.out.2 (.slice A8 n8 c8) (Lib.byteCells (acc++[63])) w8 HO8.out.raw (by have:=HBS.out;have:=HB8.out.size;omega) (by rw [List.length_append];simp only [List.length_cons,List.length_nil];omega) (HT.out.on (HBW.out.trans HB8.out))).mono ?_
    rintro e w5 ⟨v5,rfl,hv5,hb5,hk5⟩
    have hv6:OwnB B ((acc++[63])++Lib.itoa n) v5 w5:=by
     unfold OwnB
     rw [byteCells_app,List.length_append]
     exact hv5
    obtain ⟨A5,n5,c5,hs5⟩:=hv6.shapeN
    subst hs5
    have HV5:=Lib.hid hv6
    have HB5:=Lib.hid hb5
    have HK5:=Lib.hid hk5
    have HX5:=Lib.hid (hk5 w.heap.size _ HX8.out (by simp) (fun c fz e=>by injection e with _ h _;exact absurd h (by decide)))
    clear hv5 hv6 hb5 hk5
    refine hK.out _ _ ⟨(cellH HX5.out 0).trans rfl,(cellH HX5.out 1).trans rfl,(cellH HX5.out 2).trans rfl,(cellH HX5.out 3).trans rfl⟩ (fun hHeld=>?_)
    clear hK K
    try simp only [Act.put,List.setIfInBounds_toArray,List.set_cons_zero,List.set_cons_succ]
    refine wpAnyH_ready (rs:=[6]) (by kernel_rfl) (by simp) ?_
    refine AllReadyH.cons (o:=_) rfl (fun K hK=>?_) AllReadyH.nil
    go_simp
    refine hK.out _ _ ⟨(cellH HX5.out 0).trans rfl,(cellH HX5.out 1).trans rfl,(cellH HX5.out 2).trans rfl,(cellH HX5.out 3).trans rfl⟩ (fun hHeld=>?_)
    clear hK K
    try simp only [Act.put,List.setIfInBounds_toArray,List.set_cons_zero,List.set_cons_succ]
    refine wpAnyH_done (by kernel_rfl) ?_ _
    go_wp2_with fail
    go_ret
    exact ⟨_,rfl,by rw [HEQ.out,← List.append_assoc];exact HV5.out,HBW.out.trans (HB8.out.trans HB5.out),HK8.out.trans HK5.out⟩
   ·by_cases k2:k=2
    ·subst k2
     have HEQ:=Lib.hid (show txT (.mk 2 s n l)=s.data.toList++argsT l by rw [txT,if_neg (by decide),if_neg (by decide),if_neg (by decide),if_pos rfl];rfl)
     rw [HEQ.out,List.length_append] at hlen
     have HW:=Lib.hid (show wfTs l from wfT_args (t:=.mk 2 s n l) hw)
     have HT:=Lib.hid ht
     have HR:=Lib.hid ((RowW.step (TyW.step d)).below hr HB0.out)
     have HSB:=Lib.hid hsb
     clear hr hw ht ho hsb
     go_enter Tryd.func64,Tryd.ntmps64
     go_upto_region 9 with fail
     generalize (w.alloc (.cells #[.int .i64 2,.string s,.int .i64 n,.slice A1 l.length c1] 32))=Y at HB0 HX0 HO HBS HBW HR HK0 ⊢
     have HBD:Hid (Below Y.heap.size Y Y.drew):=Lib.hid (below_drw (Below.refl _ _))
     refine wp_region_held_drew (S:=fun W=>W.cell? ⟨w.heap.size,0,none⟩=some (.int .i64 2)∧W.cell? ⟨w.heap.size,1,none⟩=some (.string s)∧W.cell? ⟨w.heap.size,2,none⟩=some (.int .i64 n)∧W.cell? ⟨w.heap.size,3,none⟩=some (.slice A1 l.length c1)) (by kernel_rfl) ⟨(cellH HX0.out 0).trans rfl,(cellH HX0.out 1).trans rfl,(cellH HX0.out 2).trans rfl,(cellH HX0.out 3).trans rfl⟩ (fun hHeld=>?_)
     (refine wpAnyH_take (i:=0) (oi:=_) (v:=?_) rfl (by kernel_rfl) (by kernel_rfl) (by kernel_rfl) (fun _ _ _ h=>h) (Or.inl ⟨by rfl,?_⟩) (by assumption) ?_;rotate_left;(focus (intro w hSw;(try dsimp only at hSw);go_simp;(try with_reducible rfl);done));(try simp only [Act.put,List.setIfInBounds_toArray,List.set_cons_zero,List.set_cons_succ]))
     (refine wpAnyH_take (i:=1) (oi:=_) (v:=?_) rfl (by kernel_rfl) (by kernel_rfl) (by kernel_rfl) (fun _ _ _ h=>h) (Or.inl ⟨by rfl,?_⟩) (by assumption) ?_;rotate_left;(focus (intro w hSw;(try dsimp only at hSw);go_simp;(try with_reducible rfl);done));(try simp only [Act.put,List.setIfInBounds_toArray,List.set_cons_zero,List.set_cons_succ]))
     (refine wpAnyH_take (i:=2) (oi:=_) (v:=?_) rfl (by kernel_rfl) (by kernel_rfl) (by kernel_rfl) (fun _ _ _ h=>h) (Or.inl ⟨by rfl,?_⟩) (by assumption) ?_;rotate_left;(focus (intro w hSw;(try dsimp only at hSw);go_simp;(try with_reducible rfl);done));(try simp only [Act.put,List.setIfInBounds_toArray,List.set_cons_zero,List.set_cons_succ]))
     (refine wpAnyH_take (i:=4) (oi:=_) (v:=?_) rfl (by kernel_rfl) (by kernel_rfl) (by kernel_rfl) (fun _ _ _ h=>h) (Or.inl ⟨by rfl,?_⟩) (by assumption) ?_;rotate_left;(focus (intro w hSw;(try dsimp only at hSw);go_simp;(try with_reducible rfl);done));(try simp only [Act.put,List.setIfInBounds_toArray,List.set_cons_zero,List.set_cons_succ]))
     (refine wpAnyH_take (i:=5) (oi:=_) (v:=?_) rfl (by kernel_rfl) (by kernel_rfl) (by kernel_rfl) (fun _ _ _ h=>h) (Or.inl ⟨by rfl,?_⟩) (by assumption) ?_;rotate_left;(focus (intro w hSw;(try dsimp only at hSw);go_simp;(try with_reducible rfl);done));(try simp only [Act.put,List.setIfInBounds_toArray,List.set_cons_zero,List.set_cons_succ]))
     refine wpAnyH_ready (rs:=[3]) (by kernel_rfl) (by simp) ?_
     refine AllReadyH.cons (o:=_) rfl (fun K hK=>?_) AllReadyH.nil
     refine step_text rfl (.tmp 27) (.tmp 29) rfl B acc _ (by kernel_rfl) (HO.out.below HBD.out) s.data.toList (by rw [HSB.out];kernel_rfl) (by omega) (Nat.le_trans HBS.out HBD.out.size) ?_
     intro A8 n8 c8 w8 hown8 hg8
     have HO8:=Lib.hid hown8
     have HB8:Hid (Below B Y w8):=Lib.hid (below_grown (HBD.out.mono HBS.out) hg8 (fun k e=>(HLT.out k e).1) (Nat.le_trans HBS.out HBD.out.size))
     have hx8:w8.heap[w.heap.size]?=some (.cells #[.int .i64 2,.string s,.int .i64 n,.slice A1 l.length c1] 32):=((hg8.block w.heap.size (Nat.lt_of_lt_of_le (Array.getElem?_eq_some_iff.1 HX0.out).1 HBD.out.size) (fun e=>by have:=(HLT.out _ e.symm).2;omega)).trans (HBD.out.block _ (Array.getElem?_eq_some_iff.1 HX0.out).1)).trans HX0.out
     have HX8:=Lib.hid hx8
     have HK8:=Lib.hid (HK0.out.drew.grown hg8 (Lib.ownsRow_kind (HO.out.below HBD.out)))
     clear hown8 hg8 hx8
     refine hK.out _ _ ⟨(cellH HX8.out 0).trans rfl,(cellH HX8.out 1).trans rfl,(cellH HX8.out 2).trans rfl,(cellH HX8.out 3).trans rfl⟩ (fun hHeld=>?_)
     clear hK K
     try simp only [Act.put,List.setIfInBounds_toArray,List.set_cons_zero,List.set_cons_succ]
     refine wpAnyH_ready (rs:=[6]) (by kernel_rfl) (by simp) ?_
     refine AllReadyH.cons (o:=_) rfl (fun K hK=>?_) AllReadyH.nil
     go_simp
     refine (args_step d HC B (acc++s.data.toList) _ l _ w8 HO8.out (RowW.step (TyW.step d) _ (fun k=>B≤k) _ _ _ _ HR.out (kbN HB8.out) (fun _ _ e=>e)) HW.out (by rw [List.length_append];omega) (by have:=HBS.out;have:=HB8.out.size;omega) (HT.out.on (HBW.out.trans HB8.out))).mono ?_
     rintro e w5 ⟨v5,rfl,hv5,hb5,hk5⟩
     obtain ⟨A5,n5,c5,hs5⟩:=hv5.shapeN
     subst hs5
     have HV5:=Lib.hid hv5
     have HB5:=Lib.hid hb5
     have HK5:=Lib.hid hk5
     have HX5:=Lib.hid (hk5 w.heap.size _ HX8.out (by simp) (fun c fz e=>by injection e with _ h _;exact absurd h (by decide)))
     clear hv5 hb5 hk5
     refine hK.out _ _ ⟨(cellH HX5.out 0).trans rfl,(cellH HX5.out 1).trans rfl,(cellH HX5.out 2).trans rfl,(cellH HX5.out 3).trans rfl⟩ (fun hHeld=>?_)
     clear hK K
     try simp only [Act.put,List.setIfInBounds_toArray,List.set_cons_zero,List.set_cons_succ]
     refine wpAnyH_ready (rs:=[7]) (by kernel_rfl) (by simp) ?_
     refine AllReadyH.cons (o:=_) rfl (fun K hK=>?_) AllReadyH.nil
     go_simp
     refine hK.out _ _ ⟨(cellH HX5.out 0).trans rfl,(cellH HX5.out 1).trans rfl,(cellH HX5.out 2).trans rfl,(cellH HX5.out 3).trans rfl⟩ (fun hHeld=>?_)
     clear hK K
     try simp only [Act.put,List.setIfInBounds_toArray,List.set_cons_zero,List.set_cons_succ]
     refine wpAnyH_done (by kernel_rfl) ?_ _
     go_wp2_with fail
     go_ret
     exact ⟨_,rfl,by rw [HEQ.out,← List.append_assoc];exact HV5.out,HBW.out.trans (HB8.out.trans HB5.out),HK8.out.trans HK5.out⟩
    ·have e1:(k == 1)=false:=by simpa using k1
     have e2:(k == 2)=false:=by simpa using k2
     have e3:(k == 3)=false:=by simpa using k3
     have e4:(k == 4)=false:=by simpa using k4
     have HEQ:=Lib.hid (show acc++txT (.mk k s n l)=acc by rw [txT,if_neg k1,if_neg k3,if_neg k4,if_neg k2,List.append_nil])
     clear hr hw ht ho hlen
     go_enter Tryd.func64,Tryd.ntmps64
     go_wp2_with fail
     go_ret
     exact ⟨_,rfl,by rw [HEQ.out];exact HO.out,HBW.out,HK0.out⟩
theorem app_any:∀ d,AppT d
 | 0=>fun _ _ _ _ _ _ _ h=>h.elim
 | d+1=>app_step d (Lib.hid (app_any d))
end Lx
end Go.Proofs.YtnpacamcgifabaaDoor
namespace Go.Proofs.YtnpacamcgifabaaDoor
set_option linter.unusedSimpArgs false
set_option linter.unusedVariables false
namespace Lx
open Go Go.RowKit
theorem own_text {B:Nat} {l:List UInt8} {v:Value} {w:World} (h:OwnB B l v w):(convert 64 9 v).run Tryd.prog w=.ok (.string (bs l)) w:=by
 rcases h.2 with ⟨rfl,h0⟩ | ⟨g,cap,cur,rfl,hg,hb,_⟩
 ·have hl:l=[]:=List.eq_nil_of_length_eq_zero h0
  subst hl
  exact Lib.run_convert_nil_bytes w 64 9 5 0 Tryd.underlying64 Tryd.underlying5 Tryd.underlying9
 ·refine run_convert_bytes_back w 64 9 5 ⟨g,0,none⟩ cap l Tryd.underlying64 Tryd.underlying5 Tryd.underlying9 (fun j hj=>?_)
  have e:((⟨g,0,none⟩:Addr).add j)=⟨g,j,none⟩:=by
   by_cases h0:j=0
   ·subst h0;rfl
   ·simp [Addr.add,h0]
  have h3:w.cell? ⟨g,j,none⟩=(Lib.byteCells l)[j]?:=h.raw.cellAt j (by omega)
  rw [e,h3,Lib.byteCells,List.getElem?_map,List.getElem?_eq_getElem hj]
  rfl
set_option maxRecDepth 100000 in
set_option maxHeartbeats 4000000 in
/-- The program's Text. -/
theorem text_any (d : Nat) (Vol : Nat → Prop) (x : TyT) (v : Value) (w : World) (hv : TyW d Vol x v w) (hw : wfT x) (hlen : (txT x).length ≤ 10000000000000) (ht : Lib.TabBelow Tryd.prog w.heap.size w "internal/strconv.uint64pow10" .u64 Lib.pow10Tab) :
  Calls Tryd.prog 28 #[v] w fun e w'=>e=.returned (.string (bs (txT x)))∧Below w.heap.size w w':=by
 obtain ⟨A,l,c,rfl⟩:=hv.this
 have hb:=below_alloc w (.cells #[.int .i64 x.kind,.string x.name,.int .i64 x.var,.slice A l c] 32)
 have HX:=Lib.hid (app_any d w.heap.size [] (.slice none 0 0) x _ _ (World.ownsRow_nil _ _ _ _) (TyW.step d Vol (fun k=>w.heap.size≤k) _ _ _ _ hv (Kb.of_below hb) (fun k hk e=>by omega)) hw (by simpa using hlen) hb.size (ht.on hb))
 have HB:=Lib.hid hb
 have HX0:=Lib.hid (heap_alloc_new w (.cells #[.int .i64 x.kind,.string x.name,.int .i64 x.var,.slice A l c] 32))
 clear hv hw hlen ht hb
 go_enter Tryd.func28,Tryd.ntmps28
 go_upto_region 1 with fail
 generalize (w.alloc (.cells #[.int .i64 x.kind,.string x.name,.int .i64 x.var,.slice A l c] 32))=W at HX HB HX0 ⊢
 have x0:=(cellH HX0.out 0).trans rfl
 have x1:=(cellH HX0.out 1).trans rfl
 have x2:=(cellH HX0.out 2).trans rfl
 have x3:=(cellH HX0.out 3).trans rfl
 go_wp2_with (go_at_call 64;have hxq:=HX.out;with_reducible refine hxq.mono ?_;clear hxq;rintro e w5 ⟨v5,rfl,hv5,hb5,_⟩;have hcv:=own_text hv5;rw [List.nil_append] at hcv;have HB5:=Lib.hid (HB.out.trans hb5);clear hv5 hb5)
 go_ret
 exact ⟨rfl,HB5.out⟩
end Lx
end Go.Proofs.YtnpacamcgifabaaDoor
