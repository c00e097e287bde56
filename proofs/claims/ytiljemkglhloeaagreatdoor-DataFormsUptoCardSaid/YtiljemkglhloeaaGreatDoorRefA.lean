/- Plain facts: the reference's reading of an int's text (sign, digits, the negative number grown digit by digit) gives the same as the code's (strconv's number, spelt as strconv spells it). No program stands in this text; no conditions. -/
/- The contracts of the reference's letter, digit and Int. Conditions: Int is asked of a text that is not empty: an optional sign and digits. -/
/- The contract of the reference's Word: the token that begins at a place, or none. Conditions: the place lies in the text; the text has at most 2^47 bytes. -/
/- The contract of the reference's Word at an int. Conditions: the place lies in the text; the text has at most 2^47 bytes; Int's answer at the digits. -/
/- The contract of the reference's Word at what is no letter, digit or '-'. Conditions: the place lies in the text; the text has at most 2^47 bytes. -/
/- The contract of the reference's Word: the token that the plain functions find. Conditions: the place lies in the text; the text has at most 2^47 bytes. -/
import Derived.Test.YtiljemkglhloeaaGreatDoorPlainA
import Derived.Lib.ItoaMem
import Derived.Test.YtiljemkglhloeaaGreatDoorRunA
import Derived.Deep.Cut
import Derived.Test.YtiljemkglhloeaaGreatDoorLexA
import Derived.StillTailTactics
import Derived.Deep.RegionHeld3
import Derived.Lib.SlBytesConst
namespace Go.Proofs.YtiljemkglhloeaaGreatDoor
set_option linter.unusedSimpArgs false
set_option linter.unusedVariables false
namespace Lx
open Go
/-- The reference's loop: the number below 0 that the digits spell; none: no digit, or too great. -/
def accN:List UInt8→Int→Option Int
 | [],n=>some n
 | c :: r,n=>if ((c.toNat:Int) < 48 || (57:Int) < (c.toNat:Int) || decide (n < (-9223372036854775808+((c.toNat:Int) - 48)).tdiv 10))=true then none else accN r (10 * n - ((c.toNat:Int) - 48))
/-- What stands behind the sign. -/
def unsign (l:List UInt8):List UInt8:=match l with
 | c :: r=>if ((c.toNat:Int) == 45)=true then r else l
 | []=>[]
def isNeg (l:List UInt8):Bool:=match l with
 | c :: _=>(c.toNat:Int) == 45
 | []=>false
/-- The reference's test ahead of the loop. -/
def refBad (l:List UInt8):Bool:=match unsign l with
 | []=>true
 | c :: r=>decide (19 < (c :: r).length) || ((c.toNat:Int) == 48 && decide (1 < l.length))
def refInt (l:List UInt8):Option Int :=
 if refBad l=true then none else
  match accN (unsign l) 0 with
  | none=>none
  | some n=>if isNeg l=true then some n else if (n == -9223372036854775808)=true then none else some (-n)
/-- The number that digits spell, behind a. -/
def valN:List UInt8→Nat→Nat
 | [],a=>a
 | c :: r,a=>valN r (10 * a+(c.toNat - 48))
theorem valN_cons (c:UInt8) (r:List UInt8) (a:Nat):valN (c :: r) a=valN r (10 * a+(c.toNat - 48)):=rfl
def allDig (l:List UInt8):Prop:=∀ c ∈ l,48≤c.toNat∧c.toNat≤57
theorem valN_ge:∀ (l:List UInt8) (a:Nat),a≤valN l a
 | [],a=>Nat.le_refl _
 | c :: r,a=>Nat.le_trans (by omega) (valN_ge r (10 * a+(c.toNat - 48)))
theorem accN_val:∀ (l:List UInt8) (a:Nat),allDig l→a≤9223372036854775808→accN l (-(a:Int))=if valN l a≤9223372036854775808 then some (-(valN l a:Int)) else none
 | [],a,_,ha=>by simp [accN,valN,ha]
 | c :: r,a,hd,ha=>by
  obtain ⟨h1,h2⟩:=hd c (by simp)
  have hx:((c.toNat:Int) - 48)=((c.toNat - 48:Nat):Int):=by omega
  have hx9:c.toNat - 48≤9:=by omega
  rw [valN_cons]
  simp only [accN]
  rw [hx]
  generalize c.toNat - 48=x at *
  have hn1:decide ((c.toNat:Int) < 48)=false:=by simp;omega
  have hn2:decide ((57:Int) < (c.toNat:Int))=false:=by simp;omega
  have ht:(-9223372036854775808+(x:Int)).tdiv 10=-(((9223372036854775808 - x) / 10:Nat):Int):=by
   rw [show (-9223372036854775808+(x:Int))=-((9223372036854775808 - x:Nat):Int) by omega,Int.neg_tdiv,Int.ofNat_tdiv]
   rfl
  rw [hn1,hn2,ht,Bool.false_or,Bool.false_or]
  by_cases hb:10 * a+x≤9223372036854775808
  ·have hlt:¬ (-(a:Int) < -(((9223372036854775808 - x) / 10:Nat):Int)):=by omega
   rw [if_neg (by simpa using hlt),show 10 * -(a:Int) - (x:Int)=-((10 * a+x:Nat):Int) by omega]
   exact accN_val r (10 * a+x) (fun c hc=>hd c (by simp [hc])) hb
  ·have hlt:-(a:Int) < -(((9223372036854775808 - x) / 10:Nat):Int):=by omega
   rw [if_pos (by simpa using hlt)]
   have:=valN_ge r (10 * a+x)
   rw [if_neg (by omega)]
theorem parse_val:∀ (l:List UInt8) (a:Nat),allDig l→a < 18446744073709551616→Lib.parseUint10 a l=if valN l a < 18446744073709551616 then .ok (valN l a) else .range
 | [],a,_,ha=>by simp [Lib.parseUint10,valN,ha]
 | c :: r,a,hd,ha=>by
  obtain ⟨h1,h2⟩:=hd c (by simp)
  have hg:=valN_ge r (10 * a+(c.toNat - 48))
  rw [valN_cons]
  simp only [Lib.parseUint10]
  rw [if_pos ⟨h1,h2⟩]
  by_cases hb:1844674407370955162≤a
  ·rw [if_pos hb,if_neg (by omega)]
  ·rw [if_neg hb,show a * 10+(c.toNat - 48)=10 * a+(c.toNat - 48) by omega]
   by_cases hc:18446744073709551616≤10 * a+(c.toNat - 48)
   ·rw [if_pos hc,if_neg (by omega)]
   ·rw [if_neg hc]
    exact parse_val r _ (fun c hc=>hd c (by simp [hc])) (by omega)
theorem valN_snoc (l:List UInt8) (c:UInt8) (a:Nat):valN (l++[c]) a=10 * valN l a+(c.toNat - 48):=by
 induction l generalizing a with
 | nil=>rfl
 | cons b r ih=>exact ih _
theorem valN_lower:∀ (l:List UInt8) (a:Nat),a * 10 ^ l.length≤valN l a
 | [],a=>by simp [valN]
 | c :: r,a=>by
  have h:=valN_lower r (10 * a+(c.toNat - 48))
  refine Nat.le_trans ?_ h
  rw [List.length_cons,Nat.pow_succ]
  have:a * (10 ^ r.length * 10)=(10 * a) * 10 ^ r.length:=by rw [← Nat.mul_assoc,Nat.mul_comm,Nat.mul_assoc]
  rw [this]
  exact Nat.mul_le_mul_right _ (by omega)
/-- Digits without a nought ahead are what strconv spells. -/
theorem spell (n:Nat):∀ (l:List UInt8),l.length=n+1→allDig l→(∀ c r,l=c :: r→c.toNat ≠ 48 ∨ r=[])→Lib.decDigits (valN l 0)=l:=by
 induction n with
 | zero =>
  intro l hl hd _
  match l,hl with
  | [c],_ =>
   obtain ⟨h1,h2⟩:=hd c (by simp)
   show Lib.decDigits (10 * 0+(c.toNat - 48))=[c]
   rw [Lib.decDigits,dif_pos (by omega)]
   congr 1
   apply UInt8.toNat_inj.1
   rw [UInt8.toNat_ofNat']
   omega
 | succ n ih =>
  intro l hl hd hz
  obtain ⟨r,c,rfl⟩:∃ r c,l=r++[c]:=⟨l.dropLast,l.getLast (by intro e;subst e;simp at hl),(List.dropLast_concat_getLast _).symm⟩
  have hlr:r.length=n+1:=by simpa using hl
  obtain ⟨h1,h2⟩:=hd c (by simp)
  have hdr:allDig r:=fun x hx=>hd x (by simp [hx])
  have hzr:∀ b q,r=b :: q→b.toNat ≠ 48:=by
   intro b q e
   subst e
   rcases hz b (q++[c]) rfl with h | h
   ·exact h
   ·simp at h
  have e:=ih r hlr hdr (fun b q e=>.inl (hzr b q e))
  have hpos:1≤valN r 0:=by
   match r,hlr with
   | b :: q,_ =>
    have:=(hdr b (by simp)).1
    have h3:=hzr b q rfl
    have h4:=valN_ge q (10 * 0+(b.toNat - 48))
    show 1≤valN q (10 * 0+(b.toNat - 48))
    omega
  rw [valN_snoc,Lib.decDigits,dif_neg (by omega),show (10 * valN r 0+(c.toNat - 48)) / 10=valN r 0 by omega,show (10 * valN r 0+(c.toNat - 48)) % 10=c.toNat - 48 by omega,e]
  congr 2
  apply UInt8.toNat_inj.1
  rw [UInt8.toNat_ofNat']
  omega
/-- What strconv spells has no nought ahead, but for 0 itself. -/
theorem spelt_head (u:Nat):∀ c r,Lib.decDigits u=c :: r→c.toNat ≠ 48 ∨ (u=0∧r=[]):=by
 induction u using Nat.strongRecOn with
 | _ u ih =>
  intro c r h
  rw [Lib.decDigits] at h
  split at h
  ·injection h with h1 h2
   subst h1 h2
   by_cases h0:u=0
   ·exact .inr ⟨h0,rfl⟩
   ·left
    rw [UInt8.toNat_ofNat']
    omega
  ·rename_i hu
   left
   cases hq:Lib.decDigits (u / 10) with
   | nil =>
    have:=Lib.decDigits_length (u / 10)
    have:=Lib.nDigits_pos (u / 10)
    rw [hq] at *
    simp at *
    omega
   | cons b q =>
    rw [hq,List.cons_append] at h
    injection h with h1 _
    subst h1
    rcases ih (u / 10) (by omega) b q hq with h | ⟨h,_⟩
    ·exact h
    ·omega
theorem itoa_of_neg (u:Nat) (d:List UInt8) (h:Lib.itoa (-(u:Int))=45 :: d):1≤u∧Lib.decDigits u=d:=by
 rcases Nat.eq_zero_or_pos u with rfl | hp
 ·exfalso
  have e:Lib.itoa (-((0:Nat):Int))=Lib.itoa ((0:Nat):Int):=rfl
  rw [e,Lib.itoa_nonneg,Lib.decDigits_one (by omega)] at h
  injection h with h _
  exact absurd h (by decide)
 ·rw [Lib.itoa_neg u hp] at h
  injection h with _ h
  exact ⟨hp,h⟩
theorem val_great {c:UInt8} {r:List UInt8} (h48:1≤c.toNat - 48) (hl:19 < (c :: r).length):9223372036854775808 < valN (c :: r) 0:=by
 have h1:=valN_lower r (10 * 0+(c.toNat - 48))
 rw [valN_cons]
 rw [List.length_cons] at hl
 have h2:10 ^ 19≤10 ^ r.length:=Nat.pow_le_pow_right (by omega) (by omega)
 have h3:1 * 10 ^ r.length≤(10 * 0+(c.toNat - 48)) * 10 ^ r.length:=Nat.mul_le_mul_right _ (by omega)
 have h4:(10:Nat) ^ 19=10000000000000000000:=by decide
 omega
theorem refInt_neg (d:List UInt8) (hd:allDig d):refInt (45 :: d)=numOf (45 :: d):=by
 have hu:unsign (45 :: d)=d:=rfl
 have hn:isNeg (45 :: d)=true:=rfl
 cases d with
 | nil=>rfl
 | cons c r =>
  obtain ⟨h1,h2⟩:=hd c (by simp)
  have hp:=parse_val (c :: r) 0 hd (by omega)
  have ha:Lib.atoiAll (45 :: c :: r)=if valN (c :: r) 0≤9223372036854775808 then .ok (-(valN (c :: r) 0:Int)) else .range:=by
   rw [Lib.atoiAll_minus]
   unfold Lib.parseMag
   rw [if_neg (by simp),hp]
   by_cases h3:valN (c :: r) 0 < 18446744073709551616
   ·rw [if_pos h3]
    simp only [Lib.signed]
    by_cases h4:valN (c :: r) 0≤9223372036854775808
    ·rw [if_pos h4,if_neg (by omega)]
    ·rw [if_neg h4,if_pos (by omega)]
   ·rw [if_neg h3,if_neg (by omega)]
    rfl
  have hnum:numOf (45 :: c :: r)=if valN (c :: r) 0≤9223372036854775808∧Lib.itoa (-(valN (c :: r) 0:Int))=45 :: c :: r then some (-(valN (c :: r) 0:Int)) else none:=by
   unfold numOf
   rw [ha]
   by_cases h4:valN (c :: r) 0≤9223372036854775808
   ·rw [if_pos h4]
    by_cases h5:Lib.itoa (-(valN (c :: r) 0:Int))=45 :: c :: r
    ·rw [if_pos ⟨h4,h5⟩]
     simp only [if_pos h5]
    ·simp only [if_neg h5,if_neg (fun h:_∧_=>h5 h.2)]
   ·rw [if_neg h4,if_neg (fun h=>h4 h.1)]
  rw [hnum]
  have hacc:=accN_val (c :: r) 0 hd (by omega)
  have hb:refBad (45 :: c :: r)=(decide (19 < (c :: r).length) || ((c.toNat:Int) == 48)):=by
   unfold refBad
   rw [hu]
   simp
  unfold refInt
  rw [hb,hu,hn]
  by_cases h48:c.toNat=48
  ·rw [if_pos (by simp [h48]),if_neg]
   rintro ⟨_,h⟩
   obtain ⟨hp1,hp2⟩:=itoa_of_neg _ _ h
   rcases spelt_head _ c r hp2 with h | ⟨h,_⟩
   ·exact h h48
   ·omega
  ·by_cases hl:19 < (c :: r).length
   ·have:=val_great (c:=c) (r:=r) (by omega) hl
    rw [if_pos (by rw [decide_eq_true hl];rfl),if_neg (fun h=>by omega)]
   ·rw [if_neg (by simp at hl ⊢;omega)]
    rw [show (-((0:Nat):Int))=0 from rfl] at hacc
    rw [hacc]
    by_cases h4:valN (c :: r) 0≤9223372036854775808
    ·have h5:1≤valN (c :: r) 0:=by
      have:=valN_ge r (10 * 0+(c.toNat - 48))
      rw [valN_cons];omega
     have h6:Lib.itoa (-(valN (c :: r) 0:Int))=45 :: c :: r:=by
      rw [Lib.itoa_neg _ h5,spell r.length (c :: r) (by simp) hd (fun b q e=>.inl (by injection e with e _;subst e;exact h48))]
     rw [if_pos h4,if_pos ⟨h4,h6⟩]
     rfl
    ·rw [if_neg h4,if_neg (fun h=>h4 h.1)]
theorem refInt_pos (c:UInt8) (r:List UInt8) (hd:allDig (c :: r)):refInt (c :: r)=numOf (c :: r):=by
 obtain ⟨h1,h2⟩:=hd c (by simp)
 have h45:((c.toNat:Int) == 45)=false:=by simp;omega
 have hu:unsign (c :: r)=c :: r:=by simp only [unsign,h45,Bool.false_eq_true,if_false]
 have hn:isNeg (c :: r)=false:=h45
 have hp:=parse_val (c :: r) 0 hd (by omega)
 have ha:Lib.atoiAll (c :: r)=if valN (c :: r) 0 < 9223372036854775808 then .ok (valN (c :: r) 0:Int) else .range:=by
  rw [Lib.atoiAll_plain c r (by omega) (by omega)]
  unfold Lib.parseMag
  rw [if_neg (by simp),hp]
  by_cases h3:valN (c :: r) 0 < 18446744073709551616
  ·rw [if_pos h3]
   simp only [Lib.signless]
   by_cases h4:valN (c :: r) 0 < 9223372036854775808
   ·rw [if_pos h4,if_neg (by omega)]
   ·rw [if_neg h4,if_pos (by omega)]
  ·rw [if_neg h3,if_neg (by omega)]
   rfl
 have hnum:numOf (c :: r)=if valN (c :: r) 0 < 9223372036854775808∧Lib.decDigits (valN (c :: r) 0)=c :: r then some (valN (c :: r) 0:Int) else none:=by
  unfold numOf
  rw [ha]
  by_cases h4:valN (c :: r) 0 < 9223372036854775808
  ·rw [if_pos h4]
   simp only [Lib.itoa_nonneg]
   by_cases h5:Lib.decDigits (valN (c :: r) 0)=c :: r
   ·simp only [if_pos h5,if_pos (And.intro h4 h5)]
   ·simp only [if_neg h5,if_neg (fun h:_∧_=>h5 h.2)]
  ·rw [if_neg h4,if_neg (fun h=>h4 h.1)]
 rw [hnum]
 have hacc:=accN_val (c :: r) 0 hd (by omega)
 rw [show (-((0:Nat):Int))=0 from rfl] at hacc
 have hb:refBad (c :: r)=(decide (19 < (c :: r).length) || ((c.toNat:Int) == 48 && decide (1 < (c :: r).length))):=by
  unfold refBad
  rw [hu]
 unfold refInt
 rw [hb,hu,hn]
 by_cases h48:c.toNat=48∧1 < (c :: r).length
 ·rw [if_pos (by rw [decide_eq_true h48.2];simp [h48.1]),if_neg]
  rintro ⟨_,h⟩
  rcases spelt_head _ c r h with h | ⟨_,h⟩
  ·exact h h48.1
  ·rw [h] at h48;simp at h48
 ·by_cases hl:19 < (c :: r).length
  ·have:=val_great (c:=c) (r:=r) (by omega) hl
   rw [if_pos (by rw [decide_eq_true hl];rfl),if_neg (fun h=>by omega)]
  ·have hbb:(decide (19 < (c :: r).length) || ((c.toNat:Int) == 48 && decide (1 < (c :: r).length)))=false:=by
    rw [decide_eq_false hl,Bool.false_or,Bool.and_eq_false_iff]
    by_cases h:c.toNat=48
    ·right
     exact decide_eq_false (fun h'=>h48 ⟨h,h'⟩)
    ·left
     simp;omega
   rw [hbb,hacc]
   simp only [Bool.false_eq_true,if_false]
   by_cases h4:valN (c :: r) 0 < 9223372036854775808
   ·have h6:=spell r.length (c :: r) (by simp) hd (fun b q e=>by
     injection e with e1 e2
     subst e1 e2
     by_cases h:c.toNat=48
     ·right
      cases r with
      | nil=>rfl
      | cons b q=>exact absurd ⟨h,by simp⟩ h48
     ·exact .inl h)
    rw [if_pos (show valN (c :: r) 0≤9223372036854775808 by omega),if_pos ⟨h4,h6⟩]
    simp only
    rw [if_neg (by simp;omega)]
    simp
   ·rw [if_neg (show ¬ (valN (c :: r) 0 < 9223372036854775808∧Lib.decDigits (valN (c :: r) 0)=c :: r) from fun h=>h4 h.1)]
    by_cases h5:valN (c :: r) 0≤9223372036854775808
    ·have h7:valN (c :: r) 0=9223372036854775808:=by omega
     rw [if_pos h5,h7]
     rfl
    ·rw [if_neg h5]
end Lx
end Go.Proofs.YtiljemkglhloeaaGreatDoor
namespace Go.Proofs.YtiljemkglhloeaaGreatDoor
set_option linter.unusedSimpArgs false
set_option linter.unusedVariables false
namespace Lx
open Go Go.RowKit
theorem digit_any (x:Int) (w:World) :
  Calls Tryz.prog 177 #[.int .u8 x] w fun e w'=>e=.returned (.bool (digI x))∧w=w':=by
 go_enter Tryz.func177,Tryz.ntmps177
 go_wp2
 all_goals go_ret
 all_goals (refine ⟨ret_bool ?_,rfl⟩;unfold digI;simp;try omega)
theorem letter_any (x:Int) (w:World) :
  Calls Tryz.prog 176 #[.int .u8 x] w fun e w'=>e=.returned (.bool (alfI x))∧w=w':=by
 go_enter Tryz.func176,Tryz.ntmps176
 go_wp2
 all_goals go_ret
 all_goals (refine ⟨ret_bool ?_,rfl⟩;rw [Bool.eq_iff_iff];simp [alfI,lowI,upI];try omega)
def RefIntEnd (l:List UInt8) (e:Ending):Prop:=e=.returned (.tuple #[.int .i64 ((refInt l).getD 0),.bool (refInt l).isSome])
theorem refIntEnd_none {l:List UInt8} (h:refInt l=none):RefIntEnd l (.returned (.tuple #[.int .i64 0,.bool false])):=by unfold RefIntEnd;rw [h];rfl
theorem refIntEnd_some {l:List UInt8} {v:Int} (h:refInt l=some v):RefIntEnd l (.returned (.tuple #[.int .i64 v,.bool true])):=by unfold RefIntEnd;rw [h];rfl
def tooGreat (n x:Int):Bool:=decide (n < (-9223372036854775808+(x - 48)).tdiv 10)
theorem acc_step (d:ByteArray) (k:Nat) (hk:k < d.size) (hd:allDig d.data.toList) (n:Int) (_h1:-9223372036854775808≤n) (_h2:n≤0) :
  (48:Int)≤((d[k]).toNat:Int)∧((d[k]).toNat:Int)≤57∧(tooGreat n ((d[k]).toNat:Int)=true→accN (d.data.toList.drop k) n=none) ∧
  (tooGreat n ((d[k]).toNat:Int)=false→accN (d.data.toList.drop k) n=accN (d.data.toList.drop (k+1)) (10 * n - (((d[k]).toNat:Int) - 48))∧-9223372036854775808≤10 * n - (((d[k]).toNat:Int) - 48)):=by
 have hl:k < d.data.toList.length:=by simpa using hk
 have hc:=hd d.data.toList[k] (List.getElem_mem hl)
 have e:d.data.toList[k]=d[k]:=Array.getElem_toList _
 rw [e] at hc
 have h3:accN (d.data.toList.drop k) n=accN (d[k] :: d.data.toList.drop (k+1)) n:=by rw [List.drop_eq_getElem_cons hl,e]
 have n1:decide (((d[k]).toNat:Int) < 48)=false:=by simp;omega
 have n2:decide ((57:Int) < ((d[k]).toNat:Int))=false:=by simp;omega
 rw [h3]
 simp only [accN]
 rw [n1,n2,Bool.false_or,Bool.false_or]
 refine ⟨by omega,by omega,fun h=>?_,fun h=>?_⟩
 ·unfold tooGreat at h
  rw [if_pos h]
 ·refine ⟨by rw [if_neg];unfold tooGreat at h;rw [h];exact Bool.false_ne_true,?_⟩
  have h4:¬ (n < (-9223372036854775808+(((d[k]).toNat:Int) - 48)).tdiv 10):=by
   unfold tooGreat at h
   exact of_decide_eq_false h
  have h5:(-9223372036854775808+(((d[k]).toNat:Int) - 48)).tdiv 10=-((9223372036854775808 - (((d[k]).toNat:Int) - 48)) / 10):=by
   rw [show (-9223372036854775808+(((d[k]).toNat:Int) - 48))=-(9223372036854775808 - (((d[k]).toNat:Int) - 48)) by omega,Int.neg_tdiv,Int.tdiv_eq_ediv_of_nonneg (by omega)]
  rw [h5] at h4
  omega
theorem head_list (s:ByteArray) (h0:0 < s.size):s.data.toList=s[0] :: s.data.toList.drop 1:=by
 have:=List.drop_eq_getElem_cons (l:=s.data.toList) (i:=0) (by simpa using h0)
 simp only [List.drop_zero,Array.getElem_toList] at this
 exact this
set_option maxHeartbeats 1000000 in
theorem refInt_p (s:ByteArray) (hs:s.size≤140737488355328) (h0:0 < s.size) (hd:allDig s.data.toList) (w:World) :
  Calls Tryz.prog 178 #[.string s] w fun e w'=>RefIntEnd s.data.toList e∧w=w':=by
 have hl:=head_list s h0
 have h48:=hd s[0] (by rw [hl];simp)
 have hne:(((s[0]).toNat:Int) == 45)=false:=by simp;omega
 have hu:unsign s.data.toList=s.data.toList:=by rw [hl];simp only [unsign,hne,Bool.false_eq_true,if_false]
 have hn:isNeg s.data.toList=false:=by rw [hl];exact hne
 have hlen:s.data.toList.length=s.size:=by simp
 have hb:refBad s.data.toList=(decide (19 < s.size) || (((s[0]).toNat:Int) == 48 && decide (1 < s.size))):=by
  rw [← hlen]
  unfold refBad
  rw [hu]
  conv=>lhs;rw [hl]
  simp only [← hl]
 have q0:((s.size:Int) == 0)=false:=beq_eq_false_iff_ne.2 (by omega)
 by_cases hbad:refBad s.data.toList=true
 ·have hr:refInt s.data.toList=none:=by unfold refInt;rw [if_pos hbad]
  have HR:=Lib.hid (refIntEnd_none hr)
  rw [hb] at hbad
  clear hr hl hu hn hlen hb hd
  by_cases h19:19 < s.size
  ·clear hbad
   have q19:decide ((19:Int) < (s.size:Int))=true:=by simp;omega
   go_enter Tryz.func178,Tryz.ntmps178
   go_wp2
   go_ret2
   exact ⟨HR.out,rfl⟩
  ·rw [decide_eq_false h19,Bool.false_or,Bool.and_eq_true] at hbad
   obtain ⟨hz,h1⟩:=hbad
   have h1':1 < s.size:=of_decide_eq_true h1
   clear h1
   have q19:decide ((19:Int) < (s.size:Int))=false:=by simp;omega
   have q1:decide ((1:Int) < (s.size:Int))=true:=by simp;omega
   go_enter Tryz.func178,Tryz.ntmps178
   go_wp2
   go_ret2
   exact ⟨HR.out,rfl⟩
 ·have hbad':refBad s.data.toList=false:=by simpa using hbad
  have hr:refInt s.data.toList=(match accN s.data.toList 0 with
   | none=>none
   | some n=>if (n == -9223372036854775808)=true then none else some (-n)):=by
   unfold refInt
   rw [hbad',hu,hn]
   rfl
  have HR:=Lib.hid hr
  rw [hb] at hbad'
  rw [Bool.or_eq_false_iff] at hbad'
  obtain ⟨h19,hz⟩:=hbad'
  have h19':¬ 19 < s.size:=of_decide_eq_false h19
  have HS:=Lib.hid (fun k hk n h1 h2=>acc_step s k hk hd n h1 h2)
  have HL:=Lib.hid hlen
  clear hr hl hu hn hlen hb hd hbad h19
  rw [Bool.and_eq_false_iff] at hz
  have hz2:(((s[0]).toNat:Int) == 48)=false ∨ ((((s[0]).toNat:Int) == 48)=true∧¬ 1 < s.size):=by
   rcases hz with h | h
   ·exact .inl h
   ·by_cases hh:(((s[0]).toNat:Int) == 48)=true
    ·exact .inr ⟨hh,of_decide_eq_false h⟩
    ·exact .inl (by simpa using hh)
  clear hz
  have q19:decide ((19:Int) < (s.size:Int))=false:=by simp;omega
  rcases hz2 with hz | ⟨hz,hz1⟩
  all_goals
   first | (have q1:decide ((1:Int) < (s.size:Int))=false:=by simp;omega) | skip
   go_enter Tryz.func178,Tryz.ntmps178
   go_wp2
   go_loop [5,6] (fun n i=>∃ (k:Nat) (nn:Int),k≤s.size∧i=.int .i64 k∧n=.int .i64 nn∧Hid (accN (s.data.toList.drop k) nn=accN s.data.toList 0)∧-9223372036854775808≤nn∧nn≤0) (fun _ i=>s.size - (intOf i).toNat)
   case atStart=>exact ⟨0,0,Nat.zero_le _,rfl,rfl,Lib.hid rfl,by omega,by omega⟩
   case round =>
    obtain ⟨k,nn,hk,rfl,rfl,ha,hn1,hn2⟩:=hrel
    by_cases hlt:k < s.size
    ·obtain ⟨c48,c57,hg,hng⟩:=HS.out k hlt nn hn1 hn2
     by_cases hT:tooGreat nn ((s[k]).toNat:Int)=true
     ·have hT':nn < (-9223372036854775808+(((s[k]).toNat:Int) - 48)).tdiv 10:=of_decide_eq_true hT
      have hnone:refInt s.data.toList=none:=by rw [HR.out,← ha.out,hg hT]
      have HQ:=Lib.hid (refIntEnd_none hnone)
      clear hg hng hT hnone
      go_wp2_with fail
      go_ret2
      exact ⟨HQ.out,rfl⟩
     ·have hT1:tooGreat nn ((s[k]).toNat:Int)=false:=by simpa using hT
      have hT':(-9223372036854775808+(((s[k]).toNat:Int) - 48)).tdiv 10≤nn:=by have:=of_decide_eq_false hT1;omega
      obtain ⟨hg1,hg2⟩:=hng hT1
      have HG:=Lib.hid hg1
      have r0:-9223372036854775808≤10 * nn:=by omega
      clear hg hng hT hT1 hg1
      go_wp2_with fail
      go_round
      case rel=>exact ⟨k+1,_,by omega,by go_num,rfl,Lib.hid (HG.out.symm.trans ha.out),hg2,by omega⟩
      case measure=>simp [intOf];omega
    ·have hke:k=s.size:=by omega
     have hend:accN s.data.toList 0=some nn:=by
      rw [← ha.out,List.drop_eq_nil_of_le (by have:=HL.out;omega)]
      rfl
     have hr:=HR.out
     rw [hend] at hr
     simp only at hr
     by_cases hm:(nn == -9223372036854775808)=true
     ·rw [if_pos hm] at hr
      have HQ:=Lib.hid (refIntEnd_none hr)
      clear hend hr
      go_wp2_with fail
      go_ret2
      exact ⟨HQ.out,rfl⟩
     ·rw [if_neg hm] at hr
      have HQ:=Lib.hid (refIntEnd_some hr)
      have hm':(nn == -9223372036854775808)=false:=by simpa using hm
      have hm2:-9223372036854775807≤nn:=by
       have:=beq_eq_false_iff_ne.1 hm'
       omega
      clear hend hr hm
      go_wp2_with fail
      go_ret2
      exact ⟨HQ.out,rfl⟩
set_option maxHeartbeats 1000000 in
theorem refInt_n (s:ByteArray) (hs:s.size≤140737488355328) (h0:0 < s.size) (h45:(((s[0]).toNat:Int) == 45)=true) (hd0:allDig (s.data.toList.drop 1)) (w:World) :
  Calls Tryz.prog 178 #[.string s] w fun e w'=>RefIntEnd s.data.toList e∧w=w':=by
 have hl:=head_list s h0
 obtain ⟨d,hdd⟩:∃ d,s.extract 1 s.size=d:=⟨_,rfl⟩
 have hdl:s.data.toList.drop 1=d.data.toList:=by rw [← hdd,ext_list]
 have hds:d.size+1=s.size:=by
  have:=congrArg ByteArray.size hdd
  simp only [ByteArray.size_extract] at this
  omega
 have hd:allDig d.data.toList:=by rw [← hdl];exact hd0
 have hu:unsign s.data.toList=d.data.toList:=by rw [hl,← hdl];simp only [unsign,h45,if_true]
 have hn:isNeg s.data.toList=true:=by rw [hl];exact h45
 have hlen:d.data.toList.length=d.size:=by simp
 have hsl:s.data.toList.length=s.size:=by simp
 have HD:=Lib.hid hdd
 rcases Nat.eq_zero_or_pos d.size with hz0 | hpos
 ·have hr:refInt s.data.toList=none:=by
   have:d.data.toList=[]:=List.eq_nil_of_length_eq_zero (by omega)
   unfold refInt refBad
   rw [hu,this]
   rfl
  have HR:=Lib.hid (refIntEnd_none hr)
  have q0:((d.size:Int) == 0)=true:=beq_iff_eq.2 (by omega)
  clear hr hl hu hn hlen hsl hd hdl hdd hd0
  go_enter Tryz.func178,Tryz.ntmps178
  go_upto_region 4 with (fail)
  rw [HD.out]
  go_wp2
  go_ret2
  exact ⟨HR.out,rfl⟩
 have hlh:=head_list d hpos
 have h48:=hd d[0] (by rw [hlh];simp)
 have hb:refBad s.data.toList=(decide (19 < d.size) || ((d[0]).toNat:Int) == 48):=by
  have e:decide (1 < s.data.toList.length)=true:=decide_eq_true (by omega)
  rw [← hlen]
  unfold refBad
  rw [hu,e]
  conv=>lhs;rw [hlh]
  simp only [← hlh,Bool.and_true]
 have q0:((d.size:Int) == 0)=false:=beq_eq_false_iff_ne.2 (by omega)
 have qs:decide ((1:Int) < (s.size:Int))=true:=by simp;omega
 by_cases hbad:refBad s.data.toList=true
 ·have hr:refInt s.data.toList=none:=by unfold refInt;rw [if_pos hbad]
  have HR:=Lib.hid (refIntEnd_none hr)
  rw [hb] at hbad
  clear hr hl hu hn hlen hb hd hsl hdl hdd hd0 hlh
  by_cases h19:19 < d.size
  ·clear hbad
   have q19:decide ((19:Int) < (d.size:Int))=true:=by simp;omega
   go_enter Tryz.func178,Tryz.ntmps178
   go_upto_region 4 with (fail)
   rw [HD.out]
   go_wp2
   go_ret2
   exact ⟨HR.out,rfl⟩
  ·rw [decide_eq_false h19,Bool.false_or] at hbad
   have q19:decide ((19:Int) < (d.size:Int))=false:=by simp;omega
   go_enter Tryz.func178,Tryz.ntmps178
   go_upto_region 4 with (fail)
   rw [HD.out]
   go_wp2
   go_ret2
   exact ⟨HR.out,rfl⟩
 ·have hbad':refBad s.data.toList=false:=by simpa using hbad
  have hr:refInt s.data.toList=(match accN d.data.toList 0 with
   | none=>none
   | some n=>some n):=by
   unfold refInt
   rw [hbad',hu,hn]
   rfl
  have HR:=Lib.hid hr
  rw [hb] at hbad'
  rw [Bool.or_eq_false_iff] at hbad'
  obtain ⟨h19,hz⟩:=hbad'
  have h19':¬ 19 < d.size:=of_decide_eq_false h19
  have HS:=Lib.hid (fun k hk n h1 h2=>acc_step d k hk hd n h1 h2)
  have HL:=Lib.hid hlen
  clear hr hl hu hn hlen hb hd hbad h19 hsl hdl hdd hd0 hlh
  have q19:decide ((19:Int) < (d.size:Int))=false:=by simp;omega
  go_enter Tryz.func178,Tryz.ntmps178
  go_upto_region 4 with (fail)
  rw [HD.out]
  go_wp2
  go_loop [5,6] (fun n i=>∃ (k:Nat) (nn:Int),k≤d.size∧i=.int .i64 k∧n=.int .i64 nn∧Hid (accN (d.data.toList.drop k) nn=accN d.data.toList 0)∧-9223372036854775808≤nn∧nn≤0) (fun _ i=>d.size - (intOf i).toNat)
  case atStart=>exact ⟨0,0,Nat.zero_le _,rfl,rfl,Lib.hid rfl,by omega,by omega⟩
  case round =>
   obtain ⟨k,nn,hk,rfl,rfl,ha,hn1,hn2⟩:=hrel
   by_cases hlt:k < d.size
   ·obtain ⟨c48,c57,hg,hng⟩:=HS.out k hlt nn hn1 hn2
    by_cases hT:tooGreat nn ((d[k]).toNat:Int)=true
    ·have hT':nn < (-9223372036854775808+(((d[k]).toNat:Int) - 48)).tdiv 10:=of_decide_eq_true hT
     have hnone:refInt s.data.toList=none:=by rw [HR.out,← ha.out,hg hT]
     have HQ:=Lib.hid (refIntEnd_none hnone)
     clear hg hng hT hnone
     go_wp2_with fail
     go_ret2
     exact ⟨HQ.out,rfl⟩
    ·have hT1:tooGreat nn ((d[k]).toNat:Int)=false:=by simpa using hT
     have hT':(-9223372036854775808+(((d[k]).toNat:Int) - 48)).tdiv 10≤nn:=by have:=of_decide_eq_false hT1;omega
     obtain ⟨hg1,hg2⟩:=hng hT1
     have HG:=Lib.hid hg1
     have r0:-9223372036854775808≤10 * nn:=by omega
     clear hg hng hT hT1 hg1
     go_wp2_with fail
     go_round
     case rel=>exact ⟨k+1,_,by omega,by go_num,rfl,Lib.hid (HG.out.symm.trans ha.out),hg2,by omega⟩
     case measure=>simp [intOf];omega
   ·have hke:k=d.size:=by omega
    have hend:accN d.data.toList 0=some nn:=by
     rw [← ha.out,List.drop_eq_nil_of_le (by have:=HL.out;omega)]
     rfl
    have hr:=HR.out
    rw [hend] at hr
    have HQ:=Lib.hid (refIntEnd_some hr)
    clear hend hr
    go_wp2_with fail
    go_ret2
    exact ⟨HQ.out,rfl⟩
end Lx
end Go.Proofs.YtiljemkglhloeaaGreatDoor
namespace Go.Proofs.YtiljemkglhloeaaGreatDoor
set_option linter.unusedSimpArgs false
set_option linter.unusedVariables false
namespace Lx
open Go Go.RowKit
def WordEnd (o:Option Tok) (w:World) (e:Ending) (w':World):Prop :=
 (∃ k x n b,e=.returned (.tuple #[.agg #[.int .i64 k,.string x,.int .i64 n],.bool b])∧b=o.isSome∧∀ t,o=some t→k=t.kind∧x=bs t.text∧n=t.num)∧Below w.heap.size w w'
def kindL (b:Bool):Int:=match b with
 | true=>1
 | false=>2
theorem word_alf (x:Int):wordI x=(alfI x || digI x):=by
 unfold wordI alfI
 cases lowI x <;> cases upI x <;> cases digI x <;> simp
theorem ext_bs (s:ByteArray) (p n:Nat):s.extract p n=bs ((s.data.toList.drop p).take (n - p)):=by
 unfold bs
 apply ByteArray.ext
 apply Array.ext'
 simp [List.extract_eq_take_drop]
theorem drop_cons (s:ByteArray) (p:Nat) (hp:p < s.size):s.data.toList.drop p=s[p] :: s.data.toList.drop (p+1):=by
 have:=List.drop_eq_getElem_cons (l:=s.data.toList) (i:=p) (by simpa using hp)
 rw [Array.getElem_toList] at this
 exact this
/-! ### names and variables -/
set_option maxRecDepth 100000 in
set_option maxHeartbeats 1000000 in
theorem refWord_alf (s:ByteArray) (hs:s.size≤140737488355328) (p:Nat) (hp:p < s.size) (ha:alfI ((s[p]).toNat:Int)=true) (low:Bool) (hlow:lowI ((s[p]).toNat:Int)=low) (w:World) :
  Calls Tryz.prog 155 #[.string s,.int .i64 p] w fun e w' =>
   e=.returned (.tuple #[.agg #[.int .i64 (kindL low),.string (s.extract p (p+runL wordI (s.data.toList.drop p))),.int .i64 0],.bool (decide ((runL wordI (s.data.toList.drop p):Int)≤32))])∧Below w.heap.size w w':=by
 have hle:=runL_le wordI (s.data.toList.drop p)
 rw [List.length_drop] at hle
 have hsl:s.data.toList.length=s.size:=by simp
 rw [hsl] at hle
 have HA:=Lib.hid letter_any
 have HD:=Lib.hid digit_any
 have HAL:=Lib.hid ha
 have HS:=Lib.hid (fun k hk=>runB_step wordI s k hk)
 have HE:=Lib.hid (fun k hk=>runB_end wordI s k hk)
 have HO:=Lib.hid (fun k hk=>runB_over wordI s k hk)
 have HP:Hid (∀ q,p+runL wordI (s.data.toList.drop p)=q→(∀ (e:Ending) (w':World),(e=.returned (.tuple #[.agg #[.int .i64 (kindL low),.string (s.extract p q),.int .i64 0],.bool (decide ((q:Int) - (p:Int)≤32))])∧Below w.heap.size w w')→e=.returned (.tuple #[.agg #[.int .i64 (kindL low),.string (s.extract p (p+runL wordI (s.data.toList.drop p))),.int .i64 0],.bool (decide ((runL wordI (s.data.toList.drop p):Int)≤32))])∧Below w.heap.size w w')):=by
  rintro q rfl e w' ⟨rfl,hb⟩
  refine ⟨?_,hb⟩
  rw [show (((p+runL wordI (s.data.toList.drop p):Nat):Int) - (p:Int))=(runL wordI (s.data.toList.drop p):Int) by omega]
 have hq:∃ q,p+runL wordI (s.data.toList.drop p)=q:=⟨_,rfl⟩
 obtain ⟨q,hq⟩:=hq
 refine Calls.mono ?_ (HP.out q hq)
 have HQ:=Lib.hid hq
 have hqs:q≤s.size:=by omega
 have hpq:p≤q:=by omega
 clear HP hq hle hsl ha
 have hlow2:(low=true∧97≤((s[p]).toNat:Int)∧((s[p]).toNat:Int)≤122) ∨ (low=false∧((s[p]).toNat:Int) < 97) ∨ (low=false∧97≤((s[p]).toNat:Int)∧122 < ((s[p]).toNat:Int)):=by
  subst hlow
  unfold lowI
  simp only [Bool.and_eq_true,decide_eq_true_eq,Bool.and_eq_false_iff,decide_eq_false_iff_not]
  omega
 clear hlow
 rcases hlow2 with ⟨rfl,hl1,hl2⟩ | ⟨rfl,hl1⟩ | ⟨rfl,hl1,hl2⟩
 all_goals
  go_enter Tryz.func155,Tryz.ntmps155
  go_wp2_with (go_at_call 176;refine (HA.out _ _).mono ?_;rw [HAL.out];rintro e w' ⟨rfl,rfl⟩)
  go_loop [7] (fun i=>∃ k:Nat,k≤s.size∧i=.int .i64 k∧Hid (q=k+runL wordI (s.data.toList.drop k))) (fun i=>s.size - (intOf i).toNat)
  case atStart=>exact ⟨p,by omega,rfl,Lib.hid HQ.out.symm⟩
  case round =>
   obtain ⟨k,hk,rfl,hr⟩:=hrel
   by_cases hlt:k < s.size
   ·have hwd:=word_alf ((s[k]).toNat:Int)
    have HS1:=HS.out k hlt
    have HE1:=HE.out k hlt
    have h1:=HA.out ((s[k]).toNat:Int)
    have h2:=HD.out ((s[k]).toNat:Int)
    cases hal:alfI ((s[k]).toNat:Int) with
    | true =>
     have HS2:=Lib.hid (HS1 (by rw [hwd,hal];rfl))
     rw [hal] at h1
     have H1:=Lib.hid h1
     clear h1 h2 hal hwd HS1 HE1
     go_wp2_with (go_at_call 176;refine (H1.out _).mono ?_;rintro e w' ⟨rfl,rfl⟩)
     go_round
     case rel=>exact ⟨k+1,by omega,by go_num,Lib.hid (by have:=hr.out;have:=HS2.out;omega)⟩
     case measure=>simp [intOf];omega
    | false =>
     cases hdg:digI ((s[k]).toNat:Int) with
     | true =>
      have HS2:=Lib.hid (HS1 (by rw [hwd,hal,hdg];rfl))
      rw [hal] at h1
      rw [hdg] at h2
      have H1:=Lib.hid h1
      have H2:=Lib.hid h2
      clear h1 h2 hal hwd hdg HS1 HE1
      go_wp2_with (first | (go_at_call 176;refine (H1.out _).mono ?_;rintro e w' ⟨rfl,rfl⟩) | (go_at_call 177;refine (H2.out _).mono ?_;rintro e w' ⟨rfl,rfl⟩))
      go_round
      case rel=>exact ⟨k+1,by omega,by go_num,Lib.hid (by have:=hr.out;have:=HS2.out;omega)⟩
      case measure=>simp [intOf];omega
     | false =>
      have HE2:=Lib.hid (HE1 (by rw [hwd,hal,hdg];rfl))
      rw [hal] at h1
      rw [hdg] at h2
      have H1:=Lib.hid h1
      have H2:=Lib.hid h2
      have hkq:k=q:=by have:=hr.out;have:=HE2.out;omega
      clear h1 h2 hal hwd hdg HS1 HE1
      subst hkq
      go_wp2_with (first | (go_at_call 176;refine (H1.out _).mono ?_;rintro e w' ⟨rfl,rfl⟩) | (go_at_call 177;refine (H2.out _).mono ?_;rintro e w' ⟨rfl,rfl⟩))
      first
       | exact bodyPost_ret (v:=.tuple #[.agg #[.int .i64 1,.string (s.extract p k),.int .i64 0],.bool (decide ((k:Int) - (p:Int)≤32))]) (by simp [results,Tryz.results155,go_sem]) rfl ⟨rfl,(Below.refl _ _).alloc (Nat.le_refl _) _⟩
       | exact bodyPost_ret (v:=.tuple #[.agg #[.int .i64 2,.string (s.extract p k),.int .i64 0],.bool (decide ((k:Int) - (p:Int)≤32))]) (by simp [results,Tryz.results155,go_sem]) rfl ⟨rfl,(Below.refl _ _).alloc (Nat.le_refl _) _⟩
   ·have hkq:k=q:=by have:=hr.out;have:=HO.out k (by omega);omega
    subst hkq
    go_wp2_with fail
    first
     | exact bodyPost_ret (v:=.tuple #[.agg #[.int .i64 1,.string (s.extract p k),.int .i64 0],.bool (decide ((k:Int) - (p:Int)≤32))]) (by simp [results,Tryz.results155,go_sem]) rfl ⟨rfl,(Below.refl _ _).alloc (Nat.le_refl _) _⟩
     | exact bodyPost_ret (v:=.tuple #[.agg #[.int .i64 2,.string (s.extract p k),.int .i64 0],.bool (decide ((k:Int) - (p:Int)≤32))]) (by simp [results,Tryz.results155,go_sem]) rfl ⟨rfl,(Below.refl _ _).alloc (Nat.le_refl _) _⟩
end Lx
end Go.Proofs.YtiljemkglhloeaaGreatDoor
namespace Go.Proofs.YtiljemkglhloeaaGreatDoor
set_option linter.unusedSimpArgs false
set_option linter.unusedVariables false
namespace Lx
open Go Go.RowKit
set_option maxRecDepth 100000 in
set_option maxHeartbeats 20000000 in
theorem refWord_num (s:ByteArray) (hs:s.size≤140737488355328) (p:Nat) (hp:p < s.size) (hna:alfI ((s[p]).toNat:Int)=false) (dg:Bool) (hdg:digI ((s[p]).toNat:Int)=dg) (hdm:dg=true ∨ ((s[p]).toNat:Int) == 45)
  (q:Nat) (hq:p+1+runL digI (s.data.toList.drop (p+1))=q) (v:Int) (ok b:Bool)
  (hI:∀ w,Calls Tryz.prog 178 #[.string (s.extract p q)] w fun e w'=>e=.returned (.tuple #[.int .i64 v,.bool ok])∧w=w')
  (hok:(ok=false∧b=false) ∨ (ok=true∧q=s.size∧b=true) ∨ (ok=true∧∃ h:q < s.size,alfI ((s[q]).toNat:Int)=!b)) (w:World) :
  Calls Tryz.prog 155 #[.string s,.int .i64 p] w fun e w'=>e=.returned (.tuple #[.agg #[.int .i64 3,.string (s.extract p q),.int .i64 v],.bool b])∧Below w.heap.size w w':=by
 have hle:=runL_le digI (s.data.toList.drop (p+1))
 rw [List.length_drop] at hle
 have hsl:s.data.toList.length=s.size:=by simp
 rw [hsl] at hle
 have h1:=letter_any ((s[p]).toNat:Int)
 rw [hna] at h1
 have H1:=Lib.hid h1
 have h2:=digit_any ((s[p]).toNat:Int)
 rw [hdg] at h2
 have H2:=Lib.hid h2
 have HD:=Lib.hid digit_any
 have HL:=Lib.hid letter_any
 have HI:=Lib.hid hI
 have HK:=Lib.hid hok
 have HS:=Lib.hid (fun k hk=>runB_step digI s k hk)
 have HE:=Lib.hid (fun k hk=>runB_end digI s k hk)
 have HO:=Lib.hid (fun k hk=>runB_over digI s k hk)
 have HQ:=Lib.hid hq
 have hqs:q≤s.size:=by omega
 have hpq:p+1≤q:=by omega
 clear hq hle hsl hna h1 h2 hdg hI hok
 replace hdm:dg=true ∨ (dg=false∧(((s[p]).toNat:Int) == 45)=true):=by
  cases dg
  ·exact .inr ⟨rfl,by simpa using hdm⟩
  ·exact .inl rfl
 rcases hdm with rfl | ⟨rfl,h45⟩
 all_goals
  go_enter Tryz.func155,Tryz.ntmps155
  go_wp2_with (first | (go_at_call 176;refine (H1.out _).mono ?_;rintro e w' ⟨rfl,rfl⟩) | (go_at_call 177;refine (H2.out _).mono ?_;rintro e w' ⟨rfl,rfl⟩))
  go_loop [7] (fun i=>∃ k:Nat,k≤s.size∧i=.int .i64 k∧Hid (q=k+runL digI (s.data.toList.drop k))) (fun i=>s.size - (intOf i).toNat)
  case atStart=>exact ⟨p+1,by omega,by go_num,Lib.hid HQ.out.symm⟩
  case round =>
   obtain ⟨k,hk,rfl,hr⟩:=hrel
   by_cases hlt:k < s.size
   ·have HS1:=HS.out k hlt
    have HE1:=HE.out k hlt
    have h2:=HD.out ((s[k]).toNat:Int)
    cases hdg:digI ((s[k]).toNat:Int) with
    | true =>
     have HS2:=Lib.hid (HS1 hdg)
     rw [hdg] at h2
     have H3:=Lib.hid h2
     clear h2 hdg HS1 HE1
     go_wp2_with (go_at_call 177;refine (H3.out _).mono ?_;rintro e w' ⟨rfl,rfl⟩)
     go_round
     case rel=>exact ⟨k+1,by omega,by go_num,Lib.hid (by have:=hr.out;have:=HS2.out;omega)⟩
     case measure=>simp [intOf];omega
    | false =>
     have HE2:=Lib.hid (HE1 hdg)
     rw [hdg] at h2
     have H3:=Lib.hid h2
     have hkq:k=q:=by have:=hr.out;have:=HE2.out;omega
     clear h2 hdg HS1 HE1
     subst hkq
     have t2:(0:Int)≤(p:Int):=by omega
     have t3:(k:Int) < (s.size:Int):=by omega
     have t4:(p:Int)≤(k:Int):=by omega
     have t5:(k:Int)≤(s.size:Int):=by omega
     have t6:(0:Int)≤(k:Int):=by omega
     rcases HK.out with ⟨rfl,rfl⟩ | ⟨_,h,_⟩ | ⟨rfl,_,hal⟩
     all_goals clear HK
     ·go_wp2_with (first | (go_at_call 177;refine (H3.out _).mono ?_;rintro e w' ⟨rfl,rfl⟩) | (go_at_call 178;refine (HI.out _).mono ?_;rintro e w' ⟨rfl,rfl⟩))
      go_region
      go_wp2
      exact bodyPost_ret (v:=.tuple #[.agg #[.int .i64 3,.string (s.extract p k),.int .i64 v],.bool false]) (by simp [results,Tryz.results155,go_sem]) rfl ⟨rfl,((Below.refl _ _).alloc (Nat.le_refl _) _).drew⟩
     ·omega
     ·have h4:=HL.out ((s[k]).toNat:Int)
      rw [hal] at h4
      have H4:=Lib.hid h4
      have t1:((k:Int) == (s.size:Int))=false:=beq_eq_false_iff_ne.2 (by omega)
      clear h4 hal
      go_wp2_with (first | (go_at_call 177;refine (H3.out _).mono ?_;rintro e w' ⟨rfl,rfl⟩) | (go_at_call 178;refine (HI.out _).mono ?_;rintro e w' ⟨rfl,rfl⟩))
      go_region_held3 (fun _=>True) (trivial) ((go_at_call 176;refine (H4.out _).mono ?_;rintro e w' ⟨rfl,rfl⟩))
      go_wp2
      exact bodyPost_ret (v:=.tuple #[.agg #[.int .i64 3,.string (s.extract p k),.int .i64 v],.bool b]) (by simp [results,Tryz.results155,go_sem]) rfl ⟨rfl,((Below.refl _ _).alloc (Nat.le_refl _) _).drew⟩
   ·have hkq:k=q:=by have:=hr.out;have:=HO.out k (by omega);omega
    subst hkq
    obtain rfl:k=s.size:=by omega
    have t2:(0:Int)≤(p:Int):=by omega
    have t4:(p:Int)≤(s.size:Int):=by omega
    have t5:(0:Int)≤(s.size:Int):=by omega
    rcases HK.out with ⟨rfl,rfl⟩ | ⟨rfl,_,rfl⟩ | ⟨_,h,_⟩
    all_goals clear HK
    ·go_wp2_with (first | (go_at_call 177;refine (H3.out _).mono ?_;rintro e w' ⟨rfl,rfl⟩) | (go_at_call 178;refine (HI.out _).mono ?_;rintro e w' ⟨rfl,rfl⟩))
     go_region
     go_wp2
     exact bodyPost_ret (v:=.tuple #[.agg #[.int .i64 3,.string (s.extract p s.size),.int .i64 v],.bool false]) (by simp [results,Tryz.results155,go_sem]) rfl ⟨rfl,((Below.refl _ _).alloc (Nat.le_refl _) _).drew⟩
    ·go_wp2_with (first | (go_at_call 177;refine (H3.out _).mono ?_;rintro e w' ⟨rfl,rfl⟩) | (go_at_call 178;refine (HI.out _).mono ?_;rintro e w' ⟨rfl,rfl⟩))
     go_region
     go_wp2
     exact bodyPost_ret (v:=.tuple #[.agg #[.int .i64 3,.string (s.extract p s.size),.int .i64 v],.bool true]) (by simp [results,Tryz.results155,go_sem]) rfl ⟨rfl,((Below.refl _ _).alloc (Nat.le_refl _) _).drew⟩
    ·omega
end Lx
end Go.Proofs.YtiljemkglhloeaaGreatDoor
namespace Go.Proofs.YtiljemkglhloeaaGreatDoor
set_option linter.unusedSimpArgs false
set_option linter.unusedVariables false
namespace Lx
open Go Go.RowKit
def marks:List Int:=[40,41,44,46,59,124,61]
def MarkEnd (s:ByteArray) (p:Nat) (x:Int) (e:Ending):Prop :=
 (markI x=true∧e=.returned (.tuple #[.agg #[.int .i64 4,.string (s.extract p (p+1)),.int .i64 0],.bool true])) ∨
 (markI x=false∧e=.returned (.tuple #[.agg #[.int .i64 0,.string ⟨#[]⟩,.int .i64 0],.bool false]))
theorem marks_none {x:Int} (h:∀ m ∈ marks,m ≠ x):markI x=false:=by
 unfold markI
 simp only [marks,List.mem_cons,List.not_mem_nil,or_false,forall_eq_or_imp,forall_eq] at h
 obtain ⟨h1,h2,h3,h4,h5,h6,h7⟩:=h
 simp [Ne.symm h1,Ne.symm h2,Ne.symm h3,Ne.symm h4,Ne.symm h5,Ne.symm h6,Ne.symm h7]
theorem mark_some {x m:Int} (h:m ∈ marks) (hx:m=x):markI x=true:=by
 subst hx
 simp only [marks,List.mem_cons,List.not_mem_nil,or_false] at h
 rcases h with rfl | rfl | rfl | rfl | rfl | rfl | rfl <;> rfl
theorem mark_cell (w:World) (j:Nat) (v:Value) (h:#[Value.int .u8 40,.int .u8 41,.int .u8 44,.int .u8 46,.int .u8 59,.int .u8 124,.int .u8 61][j]?=some v) :
  ((w.alloc (.cells #[.int .i64 0,.string ⟨#[]⟩,.int .i64 0] 162)).alloc (.cells #[.int .u8 40,.int .u8 41,.int .u8 44,.int .u8 46,.int .u8 59,.int .u8 124,.int .u8 61] 5 (7,8))).cell? ⟨w.heap.size+1,j,none⟩=some v:=by
 rw [cell_of_row _ (w.heap.size+1) j #[Value.int .u8 40,.int .u8 41,.int .u8 44,.int .u8 46,.int .u8 59,.int .u8 124,.int .u8 61] 5 (7,8) ?_]
 ·exact h
 ·have h2:∀ (W:World) (o:Obj),(W.alloc o).heap[W.heap.size]?=some o:=fun W o=>by
   show (W.heap.push o)[W.heap.size]?=_
   simp
  have h3:=h2 (w.alloc (.cells #[.int .i64 0,.string ⟨#[]⟩,.int .i64 0] 162)) (.cells #[.int .u8 40,.int .u8 41,.int .u8 44,.int .u8 46,.int .u8 59,.int .u8 124,.int .u8 61] 5 (7,8))
  rw [show (w.alloc (.cells #[.int .i64 0,.string ⟨#[]⟩,.int .i64 0] 162)).heap.size=w.heap.size+1 by simp] at h3
  exact h3
theorem marks_step (k:Nat) (m x:Int) (h:∀ y ∈ marks.take k,y ≠ x) (hk:marks[k]?=some m) (hm:(m == x)=false):∀ y ∈ marks.take (k+1),y ≠ x:=by
 intro y hy
 rw [List.take_add_one,hk] at hy
 rcases List.mem_append.1 hy with hy | hy
 ·exact h y hy
 ·simp only [Option.toList_some,List.mem_cons,List.not_mem_nil,or_false] at hy
  subst hy
  exact beq_eq_false_iff_ne.1 hm
set_option maxRecDepth 100000 in
set_option maxHeartbeats 20000000 in
theorem refWord_mark (s:ByteArray) (hs:s.size≤140737488355328) (p:Nat) (hp:p < s.size) (hna:alfI ((s[p]).toNat:Int)=false) (hnd:digI ((s[p]).toNat:Int)=false) (h45:(((s[p]).toNat:Int) == 45)=false)
  (har:(((s[p]).toNat:Int) == 58)=false ∨ ((((s[p]).toNat:Int) == 58)=true∧s.size≤p+1) ∨ ((((s[p]).toNat:Int) == 58)=true∧∃ h:p+1 < s.size,(((s[p+1]).toNat:Int) == 45)=false)) (w:World) :
  Calls Tryz.prog 155 #[.string s,.int .i64 p] w fun e w'=>MarkEnd s p ((s[p]).toNat:Int) e∧Below w.heap.size w w':=by
 have h1:=letter_any ((s[p]).toNat:Int)
 rw [hna] at h1
 have H1:=Lib.hid h1
 have h2:=digit_any ((s[p]).toNat:Int)
 rw [hnd] at h2
 have H2:=Lib.hid h2
 clear h1 h2 hna hnd
 have hc0:(convert 47 47 (.slice (some ⟨w.heap.size+1,0,none⟩) 7 7)).run Tryz.prog ((w.alloc (.cells #[.int .i64 0,.string ⟨#[]⟩,.int .i64 0] 162)).alloc (.cells #[.int .u8 40,.int .u8 41,.int .u8 44,.int .u8 46,.int .u8 59,.int .u8 124,.int .u8 61] 5))=.ok (.slice (some ⟨w.heap.size+1,0,none⟩) 7 7) ((w.alloc (.cells #[.int .i64 0,.string ⟨#[]⟩,.int .i64 0] 162)).alloc (.cells #[.int .u8 40,.int .u8 41,.int .u8 44,.int .u8 46,.int .u8 59,.int .u8 124,.int .u8 61] 5 (7,8))):=by
  have h:=Lib.run_convert_bytes_const (P:=Tryz.prog) (w.alloc (.cells #[.int .i64 0,.string ⟨#[]⟩,.int .i64 0] 162)) 47 5 #[.int .u8 40,.int .u8 41,.int .u8 44,.int .u8 46,.int .u8 59,.int .u8 124,.int .u8 61] 7 7 Tryz.underlying47 Tryz.underlying5
  rw [show (w.alloc (.cells #[.int .i64 0,.string ⟨#[]⟩,.int .i64 0] 162)).heap.size=w.heap.size+1 by simp] at h
  exact h
 have q0:(0:Int)≤(p:Int):=by omega
 have q1:(p:Int) < (s.size:Int):=by omega
 rcases har with har | ⟨har,hz⟩ | ⟨har,hz,hn⟩
 ·skip
  go_enter Tryz.func155,Tryz.ntmps155
  go_wp2_with (first | (go_at_call 176;refine (H1.out _).mono ?_;rintro e w' ⟨rfl,rfl⟩) | (go_at_call 177;refine (H2.out _).mono ?_;rintro e w' ⟨rfl,rfl⟩))
  go_loop [121] (fun i=>∃ k:Nat,k≤7∧i=.int .i64 k∧Hid (∀ m ∈ marks.take k,m ≠ ((s[p]).toNat:Int))) (fun i=>7 - (intOf i).toNat)
  case atStart=>exact ⟨0,by omega,rfl,Lib.hid (by simp)⟩
  case round =>
   obtain ⟨k,hk,rfl,hr⟩:=hrel
   have hcs:k=0 ∨ k=1 ∨ k=2 ∨ k=3 ∨ k=4 ∨ k=5 ∨ k=6 ∨ k=7:=by omega
   clear hk
   rcases hcs with rfl | rfl | rfl | rfl | rfl | rfl | rfl | rfl
   ·have c0:=mark_cell w 0 _ rfl
    cases hm:((40:Int) == ((s[p]).toNat:Int)) with
    | true =>
     go_wp2
     exact bodyPost_ret (v:=.tuple #[.agg #[.int .i64 4,.string (s.extract p (p+1)),.int .i64 0],.bool true]) (by simp [results,Tryz.results155,go_sem]) rfl ⟨.inl ⟨mark_some (m:=40) (by decide) (eq_of_beq hm),rfl⟩,((Below.refl _ _).alloc (Nat.le_refl _) _).alloc (by simp) _⟩
    | false =>
     have hm2:=Lib.hid (marks_step 0 40 _ hr.out rfl hm)
     go_wp2
     go_round
     case rel=>exact ⟨1,by omega,by go_num,hm2⟩
     case measure=>simp [intOf]
   ·have c0:=mark_cell w 1 _ rfl
    cases hm:((41:Int) == ((s[p]).toNat:Int)) with
    | true =>
     go_wp2
     exact bodyPost_ret (v:=.tuple #[.agg #[.int .i64 4,.string (s.extract p (p+1)),.int .i64 0],.bool true]) (by simp [results,Tryz.results155,go_sem]) rfl ⟨.inl ⟨mark_some (m:=41) (by decide) (eq_of_beq hm),rfl⟩,((Below.refl _ _).alloc (Nat.le_refl _) _).alloc (by simp) _⟩
    | false =>
     have hm2:=Lib.hid (marks_step 1 41 _ hr.out rfl hm)
     go_wp2
     go_round
     case rel=>exact ⟨2,by omega,by go_num,hm2⟩
     case measure=>simp [intOf]
   ·have c0:=mark_cell w 2 _ rfl
    cases hm:((44:Int) == ((s[p]).toNat:Int)) with
    | true =>
     go_wp2
     exact bodyPost_ret (v:=.tuple #[.agg #[.int .i64 4,.string (s.extract p (p+1)),.int .i64 0],.bool true]) (by simp [results,Tryz.results155,go_sem]) rfl ⟨.inl ⟨mark_some (m:=44) (by decide) (eq_of_beq hm),rfl⟩,((Below.refl _ _).alloc (Nat.le_refl _) _).alloc (by simp) _⟩
    | false =>
     have hm2:=Lib.hid (marks_step 2 44 _ hr.out rfl hm)
     go_wp2
     go_round
     case rel=>exact ⟨3,by omega,by go_num,hm2⟩
     case measure=>simp [intOf]
   ·have c0:=mark_cell w 3 _ rfl
    cases hm:((46:Int) == ((s[p]).toNat:Int)) with
    | true =>
     go_wp2
     exact bodyPost_ret (v:=.tuple #[.agg #[.int .i64 4,.string (s.extract p (p+1)),.int .i64 0],.bool true]) (by simp [results,Tryz.results155,go_sem]) rfl ⟨.inl ⟨mark_some (m:=46) (by decide) (eq_of_beq hm),rfl⟩,((Below.refl _ _).alloc (Nat.le_refl _) _).alloc (by simp) _⟩
    | false =>
     have hm2:=Lib.hid (marks_step 3 46 _ hr.out rfl hm)
     go_wp2
     go_round
     case rel=>exact ⟨4,by omega,by go_num,hm2⟩
     case measure=>simp [intOf]
   ·have c0:=mark_cell w 4 _ rfl
    cases hm:((59:Int) == ((s[p]).toNat:Int)) with
    | true =>
     go_wp2
     exact bodyPost_ret (v:=.tuple #[.agg #[.int .i64 4,.string (s.extract p (p+1)),.int .i64 0],.bool true]) (by simp [results,Tryz.results155,go_sem]) rfl ⟨.inl ⟨mark_some (m:=59) (by decide) (eq_of_beq hm),rfl⟩,((Below.refl _ _).alloc (Nat.le_refl _) _).alloc (by simp) _⟩
    | false =>
     have hm2:=Lib.hid (marks_step 4 59 _ hr.out rfl hm)
     go_wp2
     go_round
     case rel=>exact ⟨5,by omega,by go_num,hm2⟩
     case measure=>simp [intOf]
   ·have c0:=mark_cell w 5 _ rfl
    cases hm:((124:Int) == ((s[p]).toNat:Int)) with
    | true =>
     go_wp2
     exact bodyPost_ret (v:=.tuple #[.agg #[.int .i64 4,.string (s.extract p (p+1)),.int .i64 0],.bool true]) (by simp [results,Tryz.results155,go_sem]) rfl ⟨.inl ⟨mark_some (m:=124) (by decide) (eq_of_beq hm),rfl⟩,((Below.refl _ _).alloc (Nat.le_refl _) _).alloc (by simp) _⟩
    | false =>
     have hm2:=Lib.hid (marks_step 5 124 _ hr.out rfl hm)
     go_wp2
     go_round
     case rel=>exact ⟨6,by omega,by go_num,hm2⟩
     case measure=>simp [intOf]
   ·have c0:=mark_cell w 6 _ rfl
    cases hm:((61:Int) == ((s[p]).toNat:Int)) with
    | true =>
     go_wp2
     exact bodyPost_ret (v:=.tuple #[.agg #[.int .i64 4,.string (s.extract p (p+1)),.int .i64 0],.bool true]) (by simp [results,Tryz.results155,go_sem]) rfl ⟨.inl ⟨mark_some (m:=61) (by decide) (eq_of_beq hm),rfl⟩,((Below.refl _ _).alloc (Nat.le_refl _) _).alloc (by simp) _⟩
    | false =>
     have hm2:=Lib.hid (marks_step 6 61 _ hr.out rfl hm)
     go_wp2
     go_round
     case rel=>exact ⟨7,by omega,by go_num,hm2⟩
     case measure=>simp [intOf]
   ·go_wp2
    exact bodyPost_ret (v:=.tuple #[.agg #[.int .i64 0,.string ⟨#[]⟩,.int .i64 0],.bool false]) (by simp [results,Tryz.results155,go_sem]) rfl ⟨.inr ⟨marks_none hr.out,rfl⟩,((Below.refl _ _).alloc (Nat.le_refl _) _).alloc (by simp) _⟩
 ·have q2:decide ((p:Int) < (s.size:Int) - 1)=false:=by simp;omega
  go_enter Tryz.func155,Tryz.ntmps155
  go_wp2_with (first | (go_at_call 176;refine (H1.out _).mono ?_;rintro e w' ⟨rfl,rfl⟩) | (go_at_call 177;refine (H2.out _).mono ?_;rintro e w' ⟨rfl,rfl⟩))
  go_loop [121] (fun i=>∃ k:Nat,k≤7∧i=.int .i64 k∧Hid (∀ m ∈ marks.take k,m ≠ ((s[p]).toNat:Int))) (fun i=>7 - (intOf i).toNat)
  case atStart=>exact ⟨0,by omega,rfl,Lib.hid (by simp)⟩
  case round =>
   obtain ⟨k,hk,rfl,hr⟩:=hrel
   have hcs:k=0 ∨ k=1 ∨ k=2 ∨ k=3 ∨ k=4 ∨ k=5 ∨ k=6 ∨ k=7:=by omega
   clear hk
   rcases hcs with rfl | rfl | rfl | rfl | rfl | rfl | rfl | rfl
   ·have c0:=mark_cell w 0 _ rfl
    cases hm:((40:Int) == ((s[p]).toNat:Int)) with
    | true =>
     go_wp2
     exact bodyPost_ret (v:=.tuple #[.agg #[.int .i64 4,.string (s.extract p (p+1)),.int .i64 0],.bool true]) (by simp [results,Tryz.results155,go_sem]) rfl ⟨.inl ⟨mark_some (m:=40) (by decide) (eq_of_beq hm),rfl⟩,((Below.refl _ _).alloc (Nat.le_refl _) _).alloc (by simp) _⟩
    | false =>
     have hm2:=Lib.hid (marks_step 0 40 _ hr.out rfl hm)
     go_wp2
     go_round
     case rel=>exact ⟨1,by omega,by go_num,hm2⟩
     case measure=>simp [intOf]
   ·have c0:=mark_cell w 1 _ rfl
    cases hm:((41:Int) == ((s[p]).toNat:Int)) with
    | true =>
     go_wp2
     exact bodyPost_ret (v:=.tuple #[.agg #[.int .i64 4,.string (s.extract p (p+1)),.int .i64 0],.bool true]) (by simp [results,Tryz.results155,go_sem]) rfl ⟨.inl ⟨mark_some (m:=41) (by decide) (eq_of_beq hm),rfl⟩,((Below.refl _ _).alloc (Nat.le_refl _) _).alloc (by simp) _⟩
    | false =>
     have hm2:=Lib.hid (marks_step 1 41 _ hr.out rfl hm)
     go_wp2
     go_round
     case rel=>exact ⟨2,by omega,by go_num,hm2⟩
     case measure=>simp [intOf]
   ·have c0:=mark_cell w 2 _ rfl
    cases hm:((44:Int) == ((s[p]).toNat:Int)) with
    | true =>
     go_wp2
     exact bodyPost_ret (v:=.tuple #[.agg #[.int .i64 4,.string (s.extract p (p+1)),.int .i64 0],.bool true]) (by simp [results,Tryz.results155,go_sem]) rfl ⟨.inl ⟨mark_some (m:=44) (by decide) (eq_of_beq hm),rfl⟩,((Below.refl _ _).alloc (Nat.le_refl _) _).alloc (by simp) _⟩
    | false =>
     have hm2:=Lib.hid (marks_step 2 44 _ hr.out rfl hm)
     go_wp2
     go_round
     case rel=>exact ⟨3,by omega,by go_num,hm2⟩
     case measure=>simp [intOf]
   ·have c0:=mark_cell w 3 _ rfl
    cases hm:((46:Int) == ((s[p]).toNat:Int)) with
    | true =>
     go_wp2
     exact bodyPost_ret (v:=.tuple #[.agg #[.int .i64 4,.string (s.extract p (p+1)),.int .i64 0],.bool true]) (by simp [results,Tryz.results155,go_sem]) rfl ⟨.inl ⟨mark_some (m:=46) (by decide) (eq_of_beq hm),rfl⟩,((Below.refl _ _).alloc (Nat.le_refl _) _).alloc (by simp) _⟩
    | false =>
     have hm2:=Lib.hid (marks_step 3 46 _ hr.out rfl hm)
     go_wp2
     go_round
     case rel=>exact ⟨4,by omega,by go_num,hm2⟩
     case measure=>simp [intOf]
   ·have c0:=mark_cell w 4 _ rfl
    cases hm:((59:Int) == ((s[p]).toNat:Int)) with
    | true =>
     go_wp2
     exact bodyPost_ret (v:=.tuple #[.agg #[.int .i64 4,.string (s.extract p (p+1)),.int .i64 0],.bool true]) (by simp [results,Tryz.results155,go_sem]) rfl ⟨.inl ⟨mark_some (m:=59) (by decide) (eq_of_beq hm),rfl⟩,((Below.refl _ _).alloc (Nat.le_refl _) _).alloc (by simp) _⟩
    | false =>
     have hm2:=Lib.hid (marks_step 4 59 _ hr.out rfl hm)
     go_wp2
     go_round
     case rel=>exact ⟨5,by omega,by go_num,hm2⟩
     case measure=>simp [intOf]
   ·have c0:=mark_cell w 5 _ rfl
    cases hm:((124:Int) == ((s[p]).toNat:Int)) with
    | true =>
     go_wp2
     exact bodyPost_ret (v:=.tuple #[.agg #[.int .i64 4,.string (s.extract p (p+1)),.int .i64 0],.bool true]) (by simp [results,Tryz.results155,go_sem]) rfl ⟨.inl ⟨mark_some (m:=124) (by decide) (eq_of_beq hm),rfl⟩,((Below.refl _ _).alloc (Nat.le_refl _) _).alloc (by simp) _⟩
    | false =>
     have hm2:=Lib.hid (marks_step 5 124 _ hr.out rfl hm)
     go_wp2
     go_round
     case rel=>exact ⟨6,by omega,by go_num,hm2⟩
     case measure=>simp [intOf]
   ·have c0:=mark_cell w 6 _ rfl
    cases hm:((61:Int) == ((s[p]).toNat:Int)) with
    | true =>
     go_wp2
     exact bodyPost_ret (v:=.tuple #[.agg #[.int .i64 4,.string (s.extract p (p+1)),.int .i64 0],.bool true]) (by simp [results,Tryz.results155,go_sem]) rfl ⟨.inl ⟨mark_some (m:=61) (by decide) (eq_of_beq hm),rfl⟩,((Below.refl _ _).alloc (Nat.le_refl _) _).alloc (by simp) _⟩
    | false =>
     have hm2:=Lib.hid (marks_step 6 61 _ hr.out rfl hm)
     go_wp2
     go_round
     case rel=>exact ⟨7,by omega,by go_num,hm2⟩
     case measure=>simp [intOf]
   ·go_wp2
    exact bodyPost_ret (v:=.tuple #[.agg #[.int .i64 0,.string ⟨#[]⟩,.int .i64 0],.bool false]) (by simp [results,Tryz.results155,go_sem]) rfl ⟨.inr ⟨marks_none hr.out,rfl⟩,((Below.refl _ _).alloc (Nat.le_refl _) _).alloc (by simp) _⟩
 ·have q2:(p:Int) < (s.size:Int) - 1:=by omega
  have q3:(p:Int)+1 < (s.size:Int):=by omega
  go_enter Tryz.func155,Tryz.ntmps155
  go_wp2_with (first | (go_at_call 176;refine (H1.out _).mono ?_;rintro e w' ⟨rfl,rfl⟩) | (go_at_call 177;refine (H2.out _).mono ?_;rintro e w' ⟨rfl,rfl⟩))
  go_loop [121] (fun i=>∃ k:Nat,k≤7∧i=.int .i64 k∧Hid (∀ m ∈ marks.take k,m ≠ ((s[p]).toNat:Int))) (fun i=>7 - (intOf i).toNat)
  case atStart=>exact ⟨0,by omega,rfl,Lib.hid (by simp)⟩
  case round =>
   obtain ⟨k,hk,rfl,hr⟩:=hrel
   have hcs:k=0 ∨ k=1 ∨ k=2 ∨ k=3 ∨ k=4 ∨ k=5 ∨ k=6 ∨ k=7:=by omega
   clear hk
   rcases hcs with rfl | rfl | rfl | rfl | rfl | rfl | rfl | rfl
   ·have c0:=mark_cell w 0 _ rfl
    cases hm:((40:Int) == ((s[p]).toNat:Int)) with
    | true =>
     go_wp2
     exact bodyPost_ret (v:=.tuple #[.agg #[.int .i64 4,.string (s.extract p (p+1)),.int .i64 0],.bool true]) (by simp [results,Tryz.results155,go_sem]) rfl ⟨.inl ⟨mark_some (m:=40) (by decide) (eq_of_beq hm),rfl⟩,((Below.refl _ _).alloc (Nat.le_refl _) _).alloc (by simp) _⟩
    | false =>
     have hm2:=Lib.hid (marks_step 0 40 _ hr.out rfl hm)
     go_wp2
     go_round
     case rel=>exact ⟨1,by omega,by go_num,hm2⟩
     case measure=>simp [intOf]
   ·have c0:=mark_cell w 1 _ rfl
    cases hm:((41:Int) == ((s[p]).toNat:Int)) with
    | true =>
     go_wp2
     exact bodyPost_ret (v:=.tuple #[.agg #[.int .i64 4,.string (s.extract p (p+1)),.int .i64 0],.bool true]) (by simp [results,Tryz.results155,go_sem]) rfl ⟨.inl ⟨mark_some (m:=41) (by decide) (eq_of_beq hm),rfl⟩,((Below.refl _ _).alloc (Nat.le_refl _) _).alloc (by simp) _⟩
    | false =>
     have hm2:=Lib.hid (marks_step 1 41 _ hr.out rfl hm)
     go_wp2
     go_round
     case rel=>exact ⟨2,by omega,by go_num,hm2⟩
     case measure=>simp [intOf]
   ·have c0:=mark_cell w 2 _ rfl
    cases hm:((44:Int) == ((s[p]).toNat:Int)) with
    | true =>
     go_wp2
     exact bodyPost_ret (v:=.tuple #[.agg #[.int .i64 4,.string (s.extract p (p+1)),.int .i64 0],.bool true]) (by simp [results,Tryz.results155,go_sem]) rfl ⟨.inl ⟨mark_some (m:=44) (by decide) (eq_of_beq hm),rfl⟩,((Below.refl _ _).alloc (Nat.le_refl _) _).alloc (by simp) _⟩
    | false =>
     have hm2:=Lib.hid (marks_step 2 44 _ hr.out rfl hm)
     go_wp2
     go_round
     case rel=>exact ⟨3,by omega,by go_num,hm2⟩
     case measure=>simp [intOf]
   ·have c0:=mark_cell w 3 _ rfl
    cases hm:((46:Int) == ((s[p]).toNat:Int)) with
    | true =>
     go_wp2
     exact bodyPost_ret (v:=.tuple #[.agg #[.int .i64 4,.string (s.extract p (p+1)),.int .i64 0],.bool true]) (by simp [results,Tryz.results155,go_sem]) rfl ⟨.inl ⟨mark_some (m:=46) (by decide) (eq_of_beq hm),rfl⟩,((Below.refl _ _).alloc (Nat.le_refl _) _).alloc (by simp) _⟩
    | false =>
     have hm2:=Lib.hid (marks_step 3 46 _ hr.out rfl hm)
     go_wp2
     go_round
     case rel=>exact ⟨4,by omega,by go_num,hm2⟩
     case measure=>simp [intOf]
   ·have c0:=mark_cell w 4 _ rfl
    cases hm:((59:Int) == ((s[p]).toNat:Int)) with
    | true =>
     go_wp2
     exact bodyPost_ret (v:=.tuple #[.agg #[.int .i64 4,.string (s.extract p (p+1)),.int .i64 0],.bool true]) (by simp [results,Tryz.results155,go_sem]) rfl ⟨.inl ⟨mark_some (m:=59) (by decide) (eq_of_beq hm),rfl⟩,((Below.refl _ _).alloc (Nat.le_refl _) _).alloc (by simp) _⟩
    | false =>
     have hm2:=Lib.hid (marks_step 4 59 _ hr.out rfl hm)
     go_wp2
     go_round
     case rel=>exact ⟨5,by omega,by go_num,hm2⟩
     case measure=>simp [intOf]
   ·have c0:=mark_cell w 5 _ rfl
    cases hm:((124:Int) == ((s[p]).toNat:Int)) with
    | true =>
     go_wp2
     exact bodyPost_ret (v:=.tuple #[.agg #[.int .i64 4,.string (s.extract p (p+1)),.int .i64 0],.bool true]) (by simp [results,Tryz.results155,go_sem]) rfl ⟨.inl ⟨mark_some (m:=124) (by decide) (eq_of_beq hm),rfl⟩,((Below.refl _ _).alloc (Nat.le_refl _) _).alloc (by simp) _⟩
    | false =>
     have hm2:=Lib.hid (marks_step 5 124 _ hr.out rfl hm)
     go_wp2
     go_round
     case rel=>exact ⟨6,by omega,by go_num,hm2⟩
     case measure=>simp [intOf]
   ·have c0:=mark_cell w 6 _ rfl
    cases hm:((61:Int) == ((s[p]).toNat:Int)) with
    | true =>
     go_wp2
     exact bodyPost_ret (v:=.tuple #[.agg #[.int .i64 4,.string (s.extract p (p+1)),.int .i64 0],.bool true]) (by simp [results,Tryz.results155,go_sem]) rfl ⟨.inl ⟨mark_some (m:=61) (by decide) (eq_of_beq hm),rfl⟩,((Below.refl _ _).alloc (Nat.le_refl _) _).alloc (by simp) _⟩
    | false =>
     have hm2:=Lib.hid (marks_step 6 61 _ hr.out rfl hm)
     go_wp2
     go_round
     case rel=>exact ⟨7,by omega,by go_num,hm2⟩
     case measure=>simp [intOf]
   ·go_wp2
    exact bodyPost_ret (v:=.tuple #[.agg #[.int .i64 0,.string ⟨#[]⟩,.int .i64 0],.bool false]) (by simp [results,Tryz.results155,go_sem]) rfl ⟨.inr ⟨marks_none hr.out,rfl⟩,((Below.refl _ _).alloc (Nat.le_refl _) _).alloc (by simp) _⟩
set_option maxRecDepth 100000 in
theorem refWord_arrow (s:ByteArray) (hs:s.size≤140737488355328) (p:Nat) (hp:p+1 < s.size) (h58:(((s[p]).toNat:Int) == 58)=true) (h45:(((s[p+1]).toNat:Int) == 45)=true) (w:World) :
  Calls Tryz.prog 155 #[.string s,.int .i64 p] w fun e w'=>e=.returned (.tuple #[.agg #[.int .i64 4,.string ⟨#[58,45]⟩,.int .i64 0],.bool true])∧Below w.heap.size w w':=by
 have hx:=eq_of_beq h58
 have h1:=letter_any ((s[p]).toNat:Int)
 have h2:=digit_any ((s[p]).toNat:Int)
 rw [show alfI ((s[p]).toNat:Int)=false by rw [hx];rfl] at h1
 rw [show digI ((s[p]).toNat:Int)=false by rw [hx];rfl] at h2
 have h3:(((s[p]).toNat:Int) == 45)=false:=by rw [hx];rfl
 have H1:=Lib.hid h1
 have H2:=Lib.hid h2
 clear h1 h2 hx
 have q0:(0:Int)≤(p:Int):=by omega
 have q2:(p:Int) < (s.size:Int) - 1:=by omega
 have q3:(p:Int)+1 < (s.size:Int):=by omega
 go_enter Tryz.func155,Tryz.ntmps155
 go_wp2_with (first | (go_at_call 176;refine (H1.out _).mono ?_;rintro e w' ⟨rfl,rfl⟩) | (go_at_call 177;refine (H2.out _).mono ?_;rintro e w' ⟨rfl,rfl⟩))
 exact bodyPost_ret (v:=.tuple #[.agg #[.int .i64 4,.string ⟨#[58,45]⟩,.int .i64 0],.bool true]) (by simp [results,Tryz.results155,go_sem]) rfl ⟨rfl,(Below.refl _ _).alloc (Nat.le_refl _) _⟩
end Lx
end Go.Proofs.YtiljemkglhloeaaGreatDoor
namespace Go.Proofs.YtiljemkglhloeaaGreatDoor
set_option linter.unusedSimpArgs false
set_option linter.unusedVariables false
namespace Lx
open Go Go.RowKit
theorem bytes_len (s:ByteArray):s.data.toList.length=s.size:=by simp
theorem tok_alf (c:UInt8) (r:List UInt8) (ha:alfI (c.toNat:Int)=true) :
  tokAt (c :: r)=if runL wordI (c :: r)≤32 then some ⟨kindL (lowI (c.toNat:Int)),(c :: r).take (runL wordI (c :: r)),0⟩ else none:=by
 have hw:wordI (c.toNat:Int)=true:=by rw [word_alf,ha];rfl
 have e:runL wordI (c :: r)=1+runL wordI r:=by simp only [runL,if_pos hw];omega
 rw [e]
 unfold tokAt
 cases hl:lowI (c.toNat:Int) with
 | true =>
  simp only [hl,if_true,wordTok,List.tail_cons,kindL]
  rfl
 | false =>
  have hu:(upI (c.toNat:Int) || (c.toNat:Int) == 95)=true:=by
   unfold alfI at ha
   rw [hl] at ha
   simpa using ha
  simp only [hl,Bool.false_eq_true,if_false,hu,if_true,wordTok,List.tail_cons,kindL]
  rfl
theorem not_alf {c:UInt8} (ha:alfI (c.toNat:Int)=false):lowI (c.toNat:Int)=false∧(upI (c.toNat:Int) || (c.toNat:Int) == 95)=false:=by
 unfold alfI at ha
 rw [Bool.or_assoc,Bool.or_eq_false_iff] at ha
 exact ha
theorem tok_num (c:UInt8) (r:List UInt8) (ha:alfI (c.toNat:Int)=false) (hk:(digI (c.toNat:Int) || (c.toNat:Int) == 45)=true):tokAt (c :: r)=numTok (c :: r):=by
 obtain ⟨h1,h2⟩:=not_alf ha
 simp only [tokAt,h1,h2,hk,Bool.false_eq_true,if_false,if_true]
theorem tok_mark (c:UInt8) (r:List UInt8) (ha:alfI (c.toNat:Int)=false) (hk:(digI (c.toNat:Int) || (c.toNat:Int) == 45)=false):tokAt (c :: r)=markTok (c :: r):=by
 obtain ⟨h1,h2⟩:=not_alf ha
 simp only [tokAt,h1,h2,hk,Bool.false_eq_true,if_false]
theorem word_alf_any (s:ByteArray) (hs:s.size≤140737488355328) (p:Nat) (hp:p < s.size) (ha:alfI ((s[p]).toNat:Int)=true) (w:World) :
  Calls Tryz.prog 155 #[.string s,.int .i64 p] w fun e w'=>WordEnd (tokAt (s.data.toList.drop p)) w e w':=by
 refine (refWord_alf s hs p hp ha _ rfl w).mono ?_
 rintro e w' ⟨rfl,hb⟩
 have ht:=tok_alf s[p] (s.data.toList.drop (p+1)) ha
 rw [← drop_cons s p hp] at ht
 refine ⟨⟨_,_,_,_,rfl,?_,?_⟩,hb⟩
 ·rw [ht]
  by_cases h:runL wordI (s.data.toList.drop p)≤32
  ·rw [if_pos h,decide_eq_true (by omega)];rfl
  ·rw [if_neg h,decide_eq_false (by omega)];rfl
 ·intro t h
  rw [ht] at h
  split at h
  ·cases h
   refine ⟨rfl,?_,rfl⟩
   rw [ext_bs,show p+runL wordI (s.data.toList.drop p) - p=runL wordI (s.data.toList.drop p) by omega]
  ·cases h
theorem word_mark_any (s:ByteArray) (hs:s.size≤140737488355328) (p:Nat) (hp:p < s.size) (ha:alfI ((s[p]).toNat:Int)=false) (hd:digI ((s[p]).toNat:Int)=false) (h45:(((s[p]).toNat:Int) == 45)=false) (w:World) :
  Calls Tryz.prog 155 #[.string s,.int .i64 p] w fun e w'=>WordEnd (tokAt (s.data.toList.drop p)) w e w':=by
 have ht:=tok_mark s[p] (s.data.toList.drop (p+1)) ha (by rw [hd,h45];rfl)
 have hc:((((s[p]).toNat:Int) == 58)=false ∨ ((((s[p]).toNat:Int) == 58)=true∧s.size≤p+1) ∨ ((((s[p]).toNat:Int) == 58)=true∧∃ h:p+1 < s.size,(((s[p+1]).toNat:Int) == 45)=false))∧arrow (s[p] :: s.data.toList.drop (p+1))=false ∨
   ((((s[p]).toNat:Int) == 58)=true∧(∃ h:p+1 < s.size,(((s[p+1]).toNat:Int) == 45)=true))∧arrow (s[p] :: s.data.toList.drop (p+1))=true:=by
  rcases Nat.lt_or_ge (p+1) s.size with h | h
  ·rw [drop_cons s (p+1) h,show ∀ (a b:UInt8) (l:List UInt8),arrow (a :: b :: l)=((a.toNat:Int) == 58 && (b.toNat:Int) == 45) from fun _ _ _=>rfl]
   cases h1:((s[p]).toNat:Int) == 58
   ·exact .inl ⟨.inl rfl,rfl⟩
   ·cases h2:((s[p+1]).toNat:Int) == 45
    ·exact .inl ⟨.inr (.inr ⟨rfl,h,h2⟩),rfl⟩
    ·exact .inr ⟨⟨rfl,h,h2⟩,rfl⟩
  ·have e:s.data.toList.drop (p+1)=[]:=List.drop_eq_nil_of_le (by simpa using h)
   rw [e]
   cases h1:((s[p]).toNat:Int) == 58
   ·exact .inl ⟨.inl rfl,rfl⟩
   ·exact .inl ⟨.inr (.inl ⟨rfl,h⟩),rfl⟩
 rcases hc with ⟨har,hf⟩ | ⟨⟨h58,h,h45'⟩,hf⟩
 ·refine (refWord_mark s hs p hp ha hd h45 har w).mono ?_
  unfold markTok at ht
  rw [hf] at ht
  simp only [Bool.false_eq_true,if_false] at ht
  rw [← drop_cons s p hp] at ht
  rintro e w' ⟨⟨hm,rfl⟩ | ⟨hm,rfl⟩,hb⟩
  ·rw [if_pos hm] at ht
   refine ⟨⟨_,_,_,_,rfl,?_,?_⟩,hb⟩
   ·rw [ht];rfl
   ·intro t h
    rw [ht] at h
    cases h
    refine ⟨rfl,?_,rfl⟩
    rw [ext_bs,drop_cons s p hp,show p+1 - p=1 by omega]
    rfl
  ·rw [if_neg (by rw [hm];exact Bool.false_ne_true)] at ht
   refine ⟨⟨_,_,_,_,rfl,?_,?_⟩,hb⟩
   ·rw [ht];rfl
   ·intro t h
    rw [ht] at h
    cases h
 ·refine (refWord_arrow s hs p h h58 h45' w).mono ?_
  unfold markTok at ht
  rw [hf,if_pos rfl,← drop_cons s p hp] at ht
  rintro e w' ⟨rfl,hb⟩
  refine ⟨⟨_,_,_,_,rfl,?_,?_⟩,hb⟩
  ·rw [ht];rfl
  ·intro t h
   rw [ht] at h
   cases h
   exact ⟨rfl,rfl,rfl⟩
theorem word_num_any (s:ByteArray) (hs:s.size≤140737488355328) (p:Nat) (hp:p < s.size) (ha:alfI ((s[p]).toNat:Int)=false) (hk:(digI ((s[p]).toNat:Int) || ((s[p]).toNat:Int) == 45)=true) (w:World) :
  Calls Tryz.prog 155 #[.string s,.int .i64 p] w fun e w'=>WordEnd (tokAt (s.data.toList.drop p)) w e w':=by
 have hdc:=drop_cons s p hp
 have hgo:=refWord_num s hs p hp ha _ rfl (by
  cases h:digI ((s[p]).toNat:Int)
  ·rw [h] at hk;exact .inr (by simpa using hk)
  ·exact .inl rfl)
 obtain ⟨c,hc⟩:∃ c,s[p]=c:=⟨_,rfl⟩
 obtain ⟨r,hr⟩:∃ r,s.data.toList.drop (p+1)=r:=⟨_,rfl⟩
 rw [hc] at ha hk hdc
 rw [hr] at hdc hgo
 have ht:=tok_num c r ha hk
 obtain ⟨n,hn⟩:∃ n,runL digI r=n:=⟨_,rfl⟩
 have hlen:numLen (c :: r)=1+n:=by unfold numLen;rw [List.tail_cons,hn]
 have hle:=runL_le digI r
 rw [hn] at hle hgo
 have hrl:r.length=s.size - (p+1):=by rw [← hr];simp
 have hL:(s.extract p (p+1+n)).data.toList=c :: r.take n:=by
  rw [ext_bs,hdc,show p+1+n - p=n+1 by omega]
  rfl
 have hsz:(s.extract p (p+1+n)).size=1+n:=by
  have h:=congrArg List.length hL
  rw [List.length_cons,List.length_take] at h
  have h2:=bytes_len (s.extract p (p+1+n))
  omega
 have had:allDig (r.take n):=by
  intro x hx
  have h:=runL_all digI r x (by rw [hn];exact hx)
  unfold digI at h
  simp only [Bool.and_eq_true,decide_eq_true_eq] at h
  omega
 have hbe:(digI (c.toNat:Int)=true∧allDig (c :: r.take n)) ∨ c=45:=by
  rcases Bool.or_eq_true_iff.1 hk with h | h
  ·refine .inl ⟨h,fun x hx=>?_⟩
   rcases List.mem_cons.1 hx with rfl | hx
   ·unfold digI at h
    simp only [Bool.and_eq_true,decide_eq_true_eq] at h
    omega
   ·exact had x hx
  ·have h2:=eq_of_beq h
   exact .inr (UInt8.toNat_inj.1 (by show c.toNat=45;omega))
 have hE:refInt (c :: r.take n)=numOf (c :: r.take n):=by
  rcases hbe with ⟨_,h⟩ | rfl
  ·exact refInt_pos c _ h
  ·exact refInt_neg _ had
 have hI:∀ w,Calls Tryz.prog 178 #[.string (s.extract p (p+1+n))] w fun e w'=>e=.returned (.tuple #[.int .i64 ((refInt (c :: r.take n)).getD 0),.bool (refInt (c :: r.take n)).isSome])∧w=w':=by
  intro w
  rcases hbe with ⟨_,h⟩ | h
  ·have h3:=refInt_p (s.extract p (p+1+n)) (by omega) (by omega) (by rw [hL];exact h) w
   rw [hL] at h3
   exact h3
  ·have h4:=head_list (s.extract p (p+1+n)) (by omega)
   rw [hL] at h4
   have h5:=(List.cons.inj h4).1
   have h3:=refInt_n (s.extract p (p+1+n)) (by omega) (by omega) (by rw [← h5,h];rfl) (by rw [hL];exact had) w
   rw [hL] at h3
   exact h3
 have hT:tokAt (c :: r)=if wordAt (c :: r) (1+n)=true then none else match refInt (c :: r.take n) with
   | some v=>some ⟨3,c :: r.take n,v⟩
   | none=>none:=by
  rw [ht]
  unfold numTok
  rw [hlen,hE,Nat.add_comm 1 n,List.take_succ_cons]
  rfl
 have hW:(p+1+n=s.size∧wordAt (c :: r) (1+n)=false) ∨ ∃ h:p+1+n < s.size,wordAt (c :: r) (1+n)=alfI ((s[p+1+n]).toNat:Int):=by
  rcases Nat.lt_or_ge (p+1+n) s.size with h | h
  ·refine .inr ⟨h,?_⟩
   have h6:r[n]?=some s[p+1+n]:=by
    rw [← hr,List.getElem?_drop]
    simp [h]
    rfl
   have h7:=runL_stop digI r s[p+1+n] (by rw [hn];exact h6)
   unfold wordAt
   rw [Nat.add_comm 1 n,List.getElem?_cons_succ,h6]
   show wordI _=_
   rw [word_alf,h7,Bool.or_false]
  ·refine .inl ⟨by omega,?_⟩
   unfold wordAt
   rw [Nat.add_comm 1 n,List.getElem?_cons_succ,List.getElem?_eq_none (by omega)]
 rw [hdc]
 refine (hgo (p+1+n) rfl ((refInt (c :: r.take n)).getD 0) (refInt (c :: r.take n)).isSome (tokAt (c :: r)).isSome hI ?_ w).mono ?_
 ·rw [hT]
  cases refInt (c :: r.take n) with
  | none=>exact .inl ⟨rfl,by split <;> rfl⟩
  | some v =>
   rcases hW with ⟨h,h2⟩ | ⟨h,h2⟩
   ·exact .inr (.inl ⟨rfl,h,by rw [h2];rfl⟩)
   ·refine .inr (.inr ⟨rfl,h,?_⟩)
    rw [h2]
    cases alfI ((s[p+1+n]).toNat:Int) <;> rfl
 ·rintro e w' ⟨rfl,hb⟩
  refine ⟨⟨_,_,_,_,rfl,rfl,?_⟩,hb⟩
  intro t h
  rw [hT] at h
  split at h
  ·cases h
  ·cases hv:refInt (c :: r.take n) with
   | none=>rw [hv] at h;cases h
   | some v =>
    rw [hv] at h
    cases h
    refine ⟨rfl,?_,rfl⟩
    rw [ext_bs,hdc,show p+1+n - p=n+1 by omega]
    rfl
theorem refWord_any (s:ByteArray) (hs:s.size≤140737488355328) (p:Nat) (hp:p < s.size) (w:World) :
  Calls Tryz.prog 155 #[.string s,.int .i64 p] w fun e w'=>WordEnd (tokAt (s.data.toList.drop p)) w e w':=by
 cases ha:alfI ((s[p]).toNat:Int) with
 | true=>exact word_alf_any s hs p hp ha w
 | false =>
  cases hk:(digI ((s[p]).toNat:Int) || ((s[p]).toNat:Int) == 45) with
  | true=>exact word_num_any s hs p hp ha hk w
  | false =>
   rw [Bool.or_eq_false_iff] at hk
   exact word_mark_any s hs p hp ha hk.1 hk.2 w
end Lx
end Go.Proofs.YtiljemkglhloeaaGreatDoor
