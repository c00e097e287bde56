/- Plain facts: the reference's reading of an int's text (sign, digits, the negative number grown digit by digit) gives the same as the code's (strconv's number, spelt as strconv spells it). No program stands in this text; no conditions. -/
import Derived.Test.YtajomoclbpobhaaGreatDoorPlainA
import Derived.Lib.ItoaMem
namespace Go.Proofs.YtajomoclbpobhaaGreatDoor
set_option linter.unusedSimpArgs false
set_option linter.unusedVariables false
namespace Lx
open Go
/-- The reference's loop: the number below 0 that the digits spell; none: no digit, or too great. -/
def accN:List UInt8→Int→Option Int
 | [],n=>some n
 | c :: r,n=>if ((c.toNat:Int) < 48 || (57:Int) < (c.toNat:Int) || decide (n < (-9223372036854775808+((c.toNat:Int) - 48)).tdiv 10))=true then none else accN r (10 * n - ((c.toNat:Int) - 48))
/-- What stands behind the sign. -/
def unsign (l:List UInt8):List UInt8:=match l with
 | c :: r=>if ((c.toNat:Int) == 45)=true then r else l
 | []=>[]
def isNeg (l:List UInt8):Bool:=match l with
 | c :: _=>(c.toNat:Int) == 45
 | []=>false
/-- The reference's test ahead of the loop. -/
def refBad (l:List UInt8):Bool:=match unsign l with
 | []=>true
 | c :: r=>decide (19 < (c :: r).length) || ((c.toNat:Int) == 48 && decide (1 < l.length))
def refInt (l:List UInt8):Option Int :=
 if refBad l=true then none else
  match accN (unsign l) 0 with
  | none=>none
  | some n=>if isNeg l=true then some n else if (n == -9223372036854775808)=true then none else some (-n)
/-- The number that digits spell, behind a. -/
def valN:List UInt8→Nat→Nat
 | [],a=>a
 | c :: r,a=>valN r (10 * a+(c.toNat - 48))
theorem valN_cons (c:UInt8) (r:List UInt8) (a:Nat):valN (c :: r) a=valN r (10 * a+(c.toNat - 48)):=rfl
def allDig (l:List UInt8):Prop:=∀ c ∈ l,48≤c.toNat∧c.toNat≤57
theorem valN_ge:∀ (l:List UInt8) (a:Nat),a≤valN l a
 | [],a=>Nat.le_refl _
 | c :: r,a=>Nat.le_trans (by omega) (valN_ge r (10 * a+(c.toNat - 48)))
theorem accN_val:∀ (l:List UInt8) (a:Nat),allDig l→a≤9223372036854775808→accN l (-(a:Int))=if valN l a≤9223372036854775808 then some (-(valN l a:Int)) else none
 | [],a,_,ha=>by simp [accN,valN,ha]
 | c :: r,a,hd,ha=>by
  obtain ⟨h1,h2⟩:=hd c (by simp)
  have hx:((c.toNat:Int) - 48)=((c.toNat - 48:Nat):Int):=by omega
  have hx9:c.toNat - 48≤9:=by omega
  rw [valN_cons]
  simp only [accN]
  rw [hx]
  generalize c.toNat - 48=x at *
  have hn1:decide ((c.toNat:Int) < 48)=false:=by simp;omega
  have hn2:decide ((57:Int) < (c.toNat:Int))=false:=by simp;omega
  have ht:(-9223372036854775808+(x:Int)).tdiv 10=-(((9223372036854775808 - x) / 10:Nat):Int):=by
   rw [show (-9223372036854775808+(x:Int))=-((9223372036854775808 - x:Nat):Int) by omega,Int.neg_tdiv,Int.ofNat_tdiv]
   rfl
  rw [hn1,hn2,ht,Bool.false_or,Bool.false_or]
  by_cases hb:10 * a+x≤9223372036854775808
  ·have hlt:¬ (-(a:Int) < -(((9223372036854775808 - x) / 10:Nat):Int)):=by omega
   rw [if_neg (by simpa using hlt),show 10 * -(a:Int) - (x:Int)=-((10 * a+x:Nat):Int) by omega]
   exact accN_val r (10 * a+x) (fun c hc=>hd c (by simp [hc])) hb
  ·have hlt:-(a:Int) < -(((9223372036854775808 - x) / 10:Nat):Int):=by omega
   rw [if_pos (by simpa using hlt)]
   have:=valN_ge r (10 * a+x)
   rw [if_neg (by omega)]
theorem parse_val:∀ (l:List UInt8) (a:Nat),allDig l→a < 18446744073709551616→Lib.parseUint10 a l=if valN l a < 18446744073709551616 then .ok (valN l a) else .range
 | [],a,_,ha=>by simp [Lib.parseUint10,valN,ha]
 | c :: r,a,hd,ha=>by
  obtain ⟨h1,h2⟩:=hd c (by simp)
  have hg:=valN_ge r (10 * a+(c.toNat - 48))
  rw [valN_cons]
  simp only [Lib.parseUint10]
  rw [if_pos ⟨h1,h2⟩]
  by_cases hb:1844674407370955162≤a
  ·rw [if_pos hb,if_neg (by omega)]
  ·rw [if_neg hb,show a * 10+(c.toNat - 48)=10 * a+(c.toNat - 48) by omega]
   by_cases hc:18446744073709551616≤10 * a+(c.toNat - 48)
   ·rw [if_pos hc,if_neg (by omega)]
   ·rw [if_neg hc]
    exact parse_val r _ (fun c hc=>hd c (by simp [hc])) (by omega)
theorem valN_snoc (l:List UInt8) (c:UInt8) (a:Nat):valN (l++[c]) a=10 * valN l a+(c.toNat - 48):=by
 induction l generalizing a with
 | nil=>rfl
 | cons b r ih=>exact ih _
theorem valN_lower:∀ (l:List UInt8) (a:Nat),a * 10 ^ l.length≤valN l a
 | [],a=>by simp [valN]
 | c :: r,a=>by
  have h:=valN_lower r (10 * a+(c.toNat - 48))
  refine Nat.le_trans ?_ h
  rw [List.length_cons,Nat.pow_succ]
  have:a * (10 ^ r.length * 10)=(10 * a) * 10 ^ r.length:=by rw [← Nat.mul_assoc,Nat.mul_comm,Nat.mul_assoc]
  rw [this]
  exact Nat.mul_le_mul_right _ (by omega)
theorem valN_upper:∀ (l:List UInt8) (a:Nat),allDig l→valN l a < (a+1) * 10 ^ l.length
 | [],a,_=>by simp [valN]
 | c :: r,a,hd=>by
  obtain ⟨h1,h2⟩:=hd c (by simp)
  have h:=valN_upper r (10 * a+(c.toNat - 48)) (fun c hc=>hd c (by simp [hc]))
  refine Nat.lt_of_lt_of_le h ?_
  rw [List.length_cons,Nat.pow_succ]
  have:(a+1) * (10 ^ r.length * 10)=(10 * (a+1)) * 10 ^ r.length:=by rw [← Nat.mul_assoc,Nat.mul_comm,Nat.mul_assoc]
  rw [this]
  exact Nat.mul_le_mul_right _ (by omega)
/-- Digits without a nought ahead are what strconv spells. -/
theorem spell (n:Nat):∀ (l:List UInt8),l.length=n+1→allDig l→(∀ c r,l=c :: r→c.toNat ≠ 48 ∨ r=[])→Lib.decDigits (valN l 0)=l:=by
 induction n with
 | zero =>
  intro l hl hd _
  match l,hl with
  | [c],_ =>
   obtain ⟨h1,h2⟩:=hd c (by simp)
   show Lib.decDigits (10 * 0+(c.toNat - 48))=[c]
   rw [Lib.decDigits,dif_pos (by omega)]
   congr 1
   apply UInt8.toNat_inj.1
   rw [UInt8.toNat_ofNat']
   omega
 | succ n ih =>
  intro l hl hd hz
  obtain ⟨r,c,rfl⟩:∃ r c,l=r++[c]:=⟨l.dropLast,l.getLast (by intro e;subst e;simp at hl),(List.dropLast_concat_getLast _).symm⟩
  have hlr:r.length=n+1:=by simpa using hl
  obtain ⟨h1,h2⟩:=hd c (by simp)
  have hdr:allDig r:=fun x hx=>hd x (by simp [hx])
  have hzr:∀ b q,r=b :: q→b.toNat ≠ 48:=by
   intro b q e
   subst e
   rcases hz b (q++[c]) rfl with h | h
   ·exact h
   ·simp at h
  have e:=ih r hlr hdr (fun b q e=>.inl (hzr b q e))
  have hpos:1≤valN r 0:=by
   match r,hlr with
   | b :: q,_ =>
    have:=(hdr b (by simp)).1
    have h3:=hzr b q rfl
    have h4:=valN_ge q (10 * 0+(b.toNat - 48))
    show 1≤valN q (10 * 0+(b.toNat - 48))
    omega
  rw [valN_snoc,Lib.decDigits,dif_neg (by omega),show (10 * valN r 0+(c.toNat - 48)) / 10=valN r 0 by omega,show (10 * valN r 0+(c.toNat - 48)) % 10=c.toNat - 48 by omega,e]
  congr 2
  apply UInt8.toNat_inj.1
  rw [UInt8.toNat_ofNat']
  omega
/-- What strconv spells has no nought ahead, but for 0 itself. -/
theorem spelt_head (u:Nat):∀ c r,Lib.decDigits u=c :: r→c.toNat ≠ 48 ∨ (u=0∧r=[]):=by
 induction u using Nat.strongRecOn with
 | _ u ih =>
  intro c r h
  rw [Lib.decDigits] at h
  split at h
  ·injection h with h1 h2
   subst h1 h2
   by_cases h0:u=0
   ·exact .inr ⟨h0,rfl⟩
   ·left
    rw [UInt8.toNat_ofNat']
    omega
  ·rename_i hu
   left
   cases hq:Lib.decDigits (u / 10) with
   | nil =>
    have:=Lib.decDigits_length (u / 10)
    have:=Lib.nDigits_pos (u / 10)
    rw [hq] at *
    simp at *
    omega
   | cons b q =>
    rw [hq,List.cons_append] at h
    injection h with h1 _
    subst h1
    rcases ih (u / 10) (by omega) b q hq with h | ⟨h,_⟩
    ·exact h
    ·omega
theorem itoa_of_neg (u:Nat) (d:List UInt8) (h:Lib.itoa (-(u:Int))=45 :: d):1≤u∧Lib.decDigits u=d:=by
 rcases Nat.eq_zero_or_pos u with rfl | hp
 ·exfalso
  have e:Lib.itoa (-((0:Nat):Int))=Lib.itoa ((0:Nat):Int):=rfl
  rw [e,Lib.itoa_nonneg,Lib.decDigits_one (by omega)] at h
  injection h with h _
  exact absurd h (by decide)
 ·rw [Lib.itoa_neg u hp] at h
  injection h with _ h
  exact ⟨hp,h⟩
theorem val_great {c:UInt8} {r:List UInt8} (h48:1≤c.toNat - 48) (hl:19 < (c :: r).length):9223372036854775808 < valN (c :: r) 0:=by
 have h1:=valN_lower r (10 * 0+(c.toNat - 48))
 rw [valN_cons]
 rw [List.length_cons] at hl
 have h2:10 ^ 19≤10 ^ r.length:=Nat.pow_le_pow_right (by omega) (by omega)
 have h3:1 * 10 ^ r.length≤(10 * 0+(c.toNat - 48)) * 10 ^ r.length:=Nat.mul_le_mul_right _ (by omega)
 have h4:(10:Nat) ^ 19=10000000000000000000:=by decide
 omega
theorem refInt_neg (d:List UInt8) (hd:allDig d):refInt (45 :: d)=numOf (45 :: d):=by
 have hu:unsign (45 :: d)=d:=rfl
 have hn:isNeg (45 :: d)=true:=rfl
 cases d with
 | nil=>rfl
 | cons c r =>
  obtain ⟨h1,h2⟩:=hd c (by simp)
  have hp:=parse_val (c :: r) 0 hd (by omega)
  have ha:Lib.atoiAll (45 :: c :: r)=if valN (c :: r) 0≤9223372036854775808 then .ok (-(valN (c :: r) 0:Int)) else .range:=by
   rw [Lib.atoiAll_minus]
   unfold Lib.parseMag
   rw [if_neg (by simp),hp]
   by_cases h3:valN (c :: r) 0 < 18446744073709551616
   ·rw [if_pos h3]
    simp only [Lib.signed]
    by_cases h4:valN (c :: r) 0≤9223372036854775808
    ·rw [if_pos h4,if_neg (by omega)]
    ·rw [if_neg h4,if_pos (by omega)]
   ·rw [if_neg h3,if_neg (by omega)]
    rfl
  have hnum:numOf (45 :: c :: r)=if valN (c :: r) 0≤9223372036854775808∧Lib.itoa (-(valN (c :: r) 0:Int))=45 :: c :: r then some (-(valN (c :: r) 0:Int)) else none:=by
   unfold numOf
   rw [ha]
   by_cases h4:valN (c :: r) 0≤9223372036854775808
   ·rw [if_pos h4]
    by_cases h5:Lib.itoa (-(valN (c :: r) 0:Int))=45 :: c :: r
    ·rw [if_pos ⟨h4,h5⟩]
     simp only [if_pos h5]
    ·simp only [if_neg h5,if_neg (fun h:_∧_=>h5 h.2)]
   ·rw [if_neg h4,if_neg (fun h=>h4 h.1)]
  rw [hnum]
  have hacc:=accN_val (c :: r) 0 hd (by omega)
  have hb:refBad (45 :: c :: r)=(decide (19 < (c :: r).length) || ((c.toNat:Int) == 48)):=by
   unfold refBad
   rw [hu]
   simp
  unfold refInt
  rw [hb,hu,hn]
  by_cases h48:c.toNat=48
  ·rw [if_pos (by simp [h48]),if_neg]
   rintro ⟨_,h⟩
   obtain ⟨hp1,hp2⟩:=itoa_of_neg _ _ h
   rcases spelt_head _ c r hp2 with h | ⟨h,_⟩
   ·exact h h48
   ·omega
  ·by_cases hl:19 < (c :: r).length
   ·have:=val_great (c:=c) (r:=r) (by omega) hl
    rw [if_pos (by rw [decide_eq_true hl];rfl),if_neg (fun h=>by omega)]
   ·rw [if_neg (by simp at hl ⊢;omega)]
    rw [show (-((0:Nat):Int))=0 from rfl] at hacc
    rw [hacc]
    by_cases h4:valN (c :: r) 0≤9223372036854775808
    ·have h5:1≤valN (c :: r) 0:=by
      have:=valN_ge r (10 * 0+(c.toNat - 48))
      rw [valN_cons];omega
     have h6:Lib.itoa (-(valN (c :: r) 0:Int))=45 :: c :: r:=by
      rw [Lib.itoa_neg _ h5,spell r.length (c :: r) (by simp) hd (fun b q e=>.inl (by injection e with e _;subst e;exact h48))]
     rw [if_pos h4,if_pos ⟨h4,h6⟩]
     rfl
    ·rw [if_neg h4,if_neg (fun h=>h4 h.1)]
theorem refInt_pos (c:UInt8) (r:List UInt8) (hd:allDig (c :: r)):refInt (c :: r)=numOf (c :: r):=by
 obtain ⟨h1,h2⟩:=hd c (by simp)
 have h45:((c.toNat:Int) == 45)=false:=by simp;omega
 have hu:unsign (c :: r)=c :: r:=by simp only [unsign,h45,Bool.false_eq_true,if_false]
 have hn:isNeg (c :: r)=false:=h45
 have hp:=parse_val (c :: r) 0 hd (by omega)
 have ha:Lib.atoiAll (c :: r)=if valN (c :: r) 0 < 9223372036854775808 then .ok (valN (c :: r) 0:Int) else .range:=by
  rw [Lib.atoiAll_plain c r (by omega) (by omega)]
  unfold Lib.parseMag
  rw [if_neg (by simp),hp]
  by_cases h3:valN (c :: r) 0 < 18446744073709551616
  ·rw [if_pos h3]
   simp only [Lib.signless]
   by_cases h4:valN (c :: r) 0 < 9223372036854775808
   ·rw [if_pos h4,if_neg (by omega)]
   ·rw [if_neg h4,if_pos (by omega)]
  ·rw [if_neg h3,if_neg (by omega)]
   rfl
 have hnum:numOf (c :: r)=if valN (c :: r) 0 < 9223372036854775808∧Lib.decDigits (valN (c :: r) 0)=c :: r then some (valN (c :: r) 0:Int) else none:=by
  unfold numOf
  rw [ha]
  by_cases h4:valN (c :: r) 0 < 9223372036854775808
  ·rw [if_pos h4]
   simp only [Lib.itoa_nonneg]
   by_cases h5:Lib.decDigits (valN (c :: r) 0)=c :: r
   ·simp only [if_pos h5,if_pos (And.intro h4 h5)]
   ·simp only [if_neg h5,if_neg (fun h:_∧_=>h5 h.2)]
  ·rw [if_neg h4,if_neg (fun h=>h4 h.1)]
 rw [hnum]
 have hacc:=accN_val (c :: r) 0 hd (by omega)
 rw [show (-((0:Nat):Int))=0 from rfl] at hacc
 have hb:refBad (c :: r)=(decide (19 < (c :: r).length) || ((c.toNat:Int) == 48 && decide (1 < (c :: r).length))):=by
  unfold refBad
  rw [hu]
 unfold refInt
 rw [hb,hu,hn]
 by_cases h48:c.toNat=48∧1 < (c :: r).length
 ·rw [if_pos (by rw [decide_eq_true h48.2];simp [h48.1]),if_neg]
  rintro ⟨_,h⟩
  rcases spelt_head _ c r h with h | ⟨_,h⟩
  ·exact h h48.1
  ·rw [h] at h48;simp at h48
 ·by_cases hl:19 < (c :: r).length
  ·have:=val_great (c:=c) (r:=r) (by omega) hl
   rw [if_pos (by rw [decide_eq_true hl];rfl),if_neg (fun h=>by omega)]
  ·have hbb:(decide (19 < (c :: r).length) || ((c.toNat:Int) == 48 && decide (1 < (c :: r).length)))=false:=by
    rw [decide_eq_false hl,Bool.false_or,Bool.and_eq_false_iff]
    by_cases h:c.toNat=48
    ·right
     exact decide_eq_false (fun h'=>h48 ⟨h,h'⟩)
    ·left
     simp;omega
   rw [hbb,hacc]
   simp only [Bool.false_eq_true,if_false]
   by_cases h4:valN (c :: r) 0 < 9223372036854775808
   ·have h6:=spell r.length (c :: r) (by simp) hd (fun b q e=>by
     injection e with e1 e2
     subst e1 e2
     by_cases h:c.toNat=48
     ·right
      cases r with
      | nil=>rfl
      | cons b q=>exact absurd ⟨h,by simp⟩ h48
     ·exact .inl h)
    rw [if_pos (show valN (c :: r) 0≤9223372036854775808 by omega),if_pos ⟨h4,h6⟩]
    simp only
    rw [if_neg (by simp;omega)]
    simp
   ·rw [if_neg (show ¬ (valN (c :: r) 0 < 9223372036854775808∧Lib.decDigits (valN (c :: r) 0)=c :: r) from fun h=>h4 h.1)]
    by_cases h5:valN (c :: r) 0≤9223372036854775808
    ·have h7:valN (c :: r) 0=9223372036854775808:=by omega
     rw [if_pos h5,h7]
     rfl
    ·rw [if_neg h5]
end Lx
end Go.Proofs.YtajomoclbpobhaaGreatDoor
