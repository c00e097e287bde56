/- The contract of the reference printer's Decimal: a number's numeral, as strconv spells it. Conditions: the number is an int. -/
import Derived.Test.YtiljemkglhloeaaGreatDoorLexA
import Derived.Test.YtiljemkglhloeaaGreatDoorPlainInts
import Derived.Deep.Cut
namespace Go.Proofs.YtiljemkglhloeaaGreatDoor
set_option linter.unusedSimpArgs false
set_option linter.unusedVariables false
namespace Lx
open Go Go.RowKit
/-- What the loop holds: the digits still to come, then those written. -/
def DecAt (n m:Int) (s:ByteArray):Prop:=Lib.decDigits n.natAbs=Lib.decDigits m.natAbs++s.data.toList
theorem dec_step (n m:Int) (s:ByteArray) (c:UInt8) (x y:Nat) (hd:DecAt n m s) (hx:m.natAbs % 10=x) (hy:m.natAbs / 10=y) (hc:48+(x:Int)=(c.toNat:Int)) :
  (y=0→(bs (Lib.decDigits n.natAbs)=⟨#[c]⟩++s))∧(y ≠ 0→∀ m':Int,m'.natAbs=y→DecAt n m' (⟨#[c]⟩++s)):=by
 have hcc:UInt8.ofNat (48+x)=c:=by
  apply UInt8.toNat_inj.1
  rw [UInt8.toNat_ofNat']
  omega
 unfold DecAt at hd
 constructor
 ·intro h0
  rw [hd,Lib.decDigits,dif_pos (by omega),show m.natAbs=x by omega,hcc]
  unfold bs
  apply ByteArray.ext
  apply Array.ext'
  simp
 ·intro h0 m' hm'
  unfold DecAt
  rw [hd,hm',Lib.decDigits,dif_neg (by omega),hx,hy,hcc]
  simp
theorem dec_size {n m:Int} {s:ByteArray} (hd:DecAt n m s) (hl:(Lib.decDigits n.natAbs).length≤20):s.size≤20:=by
 unfold DecAt at hd
 rw [hd,List.length_append] at hl
 have:s.data.toList.length=s.size:=by simp
 omega
theorem itoa_sign (n:Int):bs (Lib.itoa n)=if n < 0 then ⟨#[45]⟩++bs (Lib.decDigits n.natAbs) else bs (Lib.decDigits n.natAbs):=by
 by_cases h:n < 0
 ·rw [if_pos h]
  unfold Lib.itoa
  rw [if_pos h]
  apply ByteArray.ext
  apply Array.ext'
  simp [bs]
 ·rw [if_neg h]
  unfold Lib.itoa
  rw [if_neg h,show n.toNat=n.natAbs by omega]
theorem cells_new1 (w:World) (cs:Array Value) (e:TypeId):∀ j u,cs.toList[j]?=some u→(w.alloc (.cells cs e)).cell? ((⟨w.heap.size,0,none⟩:Addr).add j)=some u:=by
 intro j u h
 have h1:(w.alloc (.cells cs e)).heap[w.heap.size]?=some (.cells cs e (0,0)):=by
  show (w.heap.push _)[w.heap.size]?=_
  simp
 have h2:=cell_of_row (w.alloc (.cells cs e)) w.heap.size j cs e (0,0) h1
 have h3:((⟨w.heap.size,0,none⟩:Addr).add j)=⟨w.heap.size,j,none⟩:=by
  by_cases hj:j=0
  ·subst hj;rfl
  ·simp [Addr.add,hj]
 rw [h3,h2]
 simpa using h
theorem r3dec_any (n:Int) (h0:-9223372036854775808≤n) (h1:n≤9223372036854775807) (w:World) :
  Calls Tryz.prog 40 #[.int .i64 n] w fun e w'=>e=.returned (.string (bs (Lib.itoa n)))∧Below w.heap.size w w':=by
 have hlen:(Lib.decDigits n.natAbs).length≤20:=by
  rw [Lib.decDigits_length]
  exact Lib.nDigits_le20 _ (by omega)
 have HL:=Lib.hid hlen
 have HI:=Lib.hid (itoa_sign n)
 clear hlen
 go_enter Tryz.func40,Tryz.ntmps40
 go_wp2
 go_loopw [3,4] (fun sv mv wr=>∃ (s:ByteArray) (m:Int),sv=.string s∧mv=.int .i64 m∧Hid (DecAt n m s)∧Hid ((0≤n→0≤m∧m≤n)∧(n < 0→m≤0∧n≤m))∧Below w.heap.size w wr) (fun _ mv _=>(intOf mv).natAbs)
 case atStart=>exact ⟨_,n,rfl,rfl,Lib.hid (by simp [DecAt]),Lib.hid (by omega),Below.refl _ _⟩
 case round =>
  obtain ⟨s,m,rfl,rfl,hd,hm,hb⟩:=hrel
  obtain ⟨x,hx⟩:∃ x,m.natAbs % 10=x:=⟨_,rfl⟩
  obtain ⟨y,hy⟩:∃ y,m.natAbs / 10=y:=⟨_,rfl⟩
  obtain ⟨c,hc⟩:∃ c:UInt8,48+(x:Int)=(c.toNat:Int):=⟨UInt8.ofNat (48+x),by rw [UInt8.toNat_ofNat'];omega⟩
  have HS:=Lib.hid (dec_step n m s c x y hd.out hx hy hc)
  have hss:=dec_size hd.out HL.out
  have hcv:(convert 47 9 (.slice (some ⟨wr.heap.size,0,none⟩) 1 1)).run Tryz.prog (wr.alloc (.cells #[.int .u8 (c.toNat:Int)] 5))=.ok (.string ⟨#[c]⟩) (wr.alloc (.cells #[.int .u8 (c.toNat:Int)] 5)) :=
   run_convert_bytes_back _ 47 9 5 ⟨wr.heap.size,0,none⟩ 1 [c] Tryz.underlying47 Tryz.underlying5 Tryz.underlying9 (fun j hj=>by
    have:=cells_new1 wr #[.int .u8 (c.toNat:Int)] 5 j (.int .u8 (c.toNat:Int)) (by simp at hj;subst hj;rfl)
    simp at hj
    subst hj
    exact this)
  have r1:∀ W:World,(Op.stringOp .add ⟨#[c]⟩ s).run Tryz.prog W=.ok (.string (⟨#[c]⟩++s)) W:=fun W=>run_string_add_sum W _ _ (by show 1+s.size≤_;omega)
  have r2:∀ W:World,(Op.stringOp .add ⟨#[45]⟩ (⟨#[c]⟩++s)).run Tryz.prog W=.ok (.string (⟨#[45]⟩++(⟨#[c]⟩++s))) W:=fun W=>run_string_add_sum W _ _ (by rw [ByteArray.size_append];show 1+(1+s.size)≤_;omega)
  have hx9:x≤9:=by omega
  have hsgn:(0≤m∧m % 10=(x:Int)∧m / 10=(y:Int)) ∨ (m < 0∧m.tmod 10=-(x:Int)∧m.tdiv 10=-(y:Int)):=by
   rcases Int.lt_or_le m 0 with h | h
   ·right
    obtain ⟨u,rfl⟩:∃ u:Nat,m=-(u:Int):=⟨m.natAbs,by omega⟩
    refine ⟨h,?_,?_⟩
    ·rw [Int.neg_tmod,← hx]
     simp only [Int.natAbs_neg,Int.natAbs_natCast]
     rw [Int.tmod_eq_emod_of_nonneg (by omega)]
     omega
    ·rw [Int.neg_tdiv,← hy]
     simp only [Int.natAbs_neg,Int.natAbs_natCast]
     rw [Int.tdiv_eq_ediv_of_nonneg (by omega)]
     omega
   ·left
    omega
  have HM:=Lib.hid hm
  have HY:=Lib.hid hy
  clear hss hx hy
  by_cases hy0:y=0
  ·have hfin:=HS.out.1 hy0
   have hI:=HI.out
   rw [hfin] at hI
   by_cases hn:n < 0
   ·rw [if_pos hn] at hI
    have HF:=Lib.hid hI
    clear hfin hI hm hd
    rcases hsgn with ⟨g1,g2,g3⟩ | ⟨g1,g2,g3⟩
    ·rw [hy0] at g3
     have q3:decide ((x:Int) < 0)=false:=by simp
     go_wp2_with fail
     go_ret
     exact ⟨by rw [HF.out];rfl,hb.alloc hb.size _⟩
    ·replace g3:m.tdiv 10=0:=by rw [g3,hy0];rfl
     rcases Nat.eq_zero_or_pos x with hx0 | hxp
     ·replace g2:m.tmod 10=(x:Int):=by rw [g2,hx0];rfl
      clear hx0
      have q3:decide ((x:Int) < 0)=false:=by simp
      go_wp2_with fail
      go_ret
      exact ⟨by rw [HF.out];rfl,hb.alloc hb.size _⟩
     ·have q3:decide (-(x:Int) < 0)=true:=by simp;omega
      go_wp2_with fail
      go_ret
      exact ⟨by rw [HF.out];rfl,hb.alloc hb.size _⟩
   ·rw [if_neg hn] at hI
    have HF:=Lib.hid hI
    have hge:0≤n:=by omega
    clear hfin hI hm hd
    rcases hsgn with ⟨g1,g2,g3⟩ | ⟨g1,g2,g3⟩
    ·rw [hy0] at g3
     have q3:decide ((x:Int) < 0)=false:=by simp
     go_wp2_with fail
     go_ret
     exact ⟨by rw [HF.out];rfl,hb.alloc hb.size _⟩
    ·exact absurd (HM.out.1 hge).1 (by omega)
  ·have hgo:=HS.out.2 hy0
   rcases hsgn with ⟨g1,g2,g3⟩ | ⟨g1,g2,g3⟩
   ·have HG:=Lib.hid (hgo (y:Int) (by omega))
    have hN:=Lib.hid (show (0≤n→0≤(y:Int)∧(y:Int)≤n)∧(n < 0→(y:Int)≤0∧n≤(y:Int)) by have:=HM.out.out;have:=HY.out;omega)
    have hmeas:(y:Int).natAbs < m.natAbs:=by have:=HY.out;omega
    have hm1:m≤9223372036854775807:=by have:=HM.out.out;omega
    have hyp:0 < (y:Int):=by omega
    have hb0:0≤(y:Int):=by omega
    have hb1:(y:Int)≤9223372036854775807:=by have:=HM.out.out;have:=HY.out;omega
    generalize (y:Int)=Y at *
    subst g3
    have q4:((m / 10) == 0)=false:=beq_eq_false_iff_ne.2 (by omega)
    clear hgo hm hd hyp
    have q3:decide ((x:Int) < 0)=false:=by simp
    go_wp2_with fail
    go_roundw
    case rel=>exact ⟨_,_,rfl,rfl,HG,hN,hb.alloc hb.size _⟩
    case measure=>simp only [intOf];exact hmeas
   ·have HG:=Lib.hid (hgo (-(y:Int)) (by omega))
    have hN:=Lib.hid (show (0≤n→0≤-(y:Int)∧-(y:Int)≤n)∧(n < 0→-(y:Int)≤0∧n≤-(y:Int)) by have:=HM.out.out;have:=HY.out;omega)
    have hmeas:(-(y:Int)).natAbs < m.natAbs:=by have:=HY.out;omega
    have hyp:-(y:Int) < 0:=by omega
    have hb0:-(y:Int)≤0:=by omega
    have hb1:-9223372036854775808≤-(y:Int):=by have:=HM.out.out;have:=HY.out;omega
    generalize -(y:Int)=Y at *
    have q4:(Y == 0)=false:=beq_eq_false_iff_ne.2 (by omega)
    clear hgo hm hd hyp
    rcases Nat.eq_zero_or_pos x with hx0 | hxp
    ·replace g2:m.tmod 10=(x:Int):=by rw [g2,hx0];rfl
     clear hx0
     have q3:decide ((x:Int) < 0)=false:=by simp
     go_wp2_with fail
     go_roundw
     case rel=>exact ⟨_,Y,rfl,rfl,HG,hN,hb.alloc hb.size _⟩
     case measure=>simp only [intOf];exact hmeas
    ·have q3:decide (-(x:Int) < 0)=true:=by simp;omega
     go_wp2_with fail
     go_roundw
     case rel=>exact ⟨_,Y,rfl,rfl,HG,hN,hb.alloc hb.size _⟩
     case measure=>simp only [intOf];exact hmeas
end Lx
end Go.Proofs.YtiljemkglhloeaaGreatDoor
