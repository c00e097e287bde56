/- The contract of the reference's Same at two rows that hold the same tokens: true. Conditions: both slices hold them. -/
import Derived.Test.YtajomoclbpobhaaGreatDoorLexA
namespace Go.Proofs.YtajomoclbpobhaaGreatDoor
set_option linter.unusedSimpArgs false
set_option linter.unusedVariables false
namespace Lx
open Go Go.RowKit
/-- A slice's cells hold the tokens ts. -/
def RowT (w:World) (A:Option Addr) (ts:List Tok):Prop:=ts ≠ []→∃ g,A=some ⟨g,0,none⟩∧∀ j,j < 3 * ts.length→w.cell? ⟨g,j,none⟩=(cellsT ts)[j]?
theorem RowT.drewN {w:World} {A:Option Addr} {ts:List Tok} (h:RowT w A ts) (n:Nat):RowT (w.drewN n) A ts:=h
theorem RowT.of_own {w:World} {base:Nat} {A:Option Addr} {n c:Nat} {ts:List Tok} (h:w.ownsRow base 67 3 (.slice A n c) n (cellsT ts)) (hn:n=ts.length):RowT w A ts:=by
 intro hne
 subst hn
 obtain ⟨k,hk⟩:∃ k,ts.length=k+1:=⟨ts.length - 1,by have:=List.length_pos_iff.2 hne;omega⟩
 rw [hk] at h
 obtain ⟨g,cap,hv⟩:=ownsRow_succ h
 injection hv with hA _ hcap
 subst hA
 refine ⟨g,rfl,fun j hj=>h.cellAt j (by omega)⟩
theorem cellsT_length (ts:List Tok):(cellsT ts).length=3 * ts.length:=by
 induction ts with
 | nil=>rfl
 | cons t ts ih =>
  have:cellsT (t :: ts)=[.int .i64 t.kind,.string (bs t.text),.int .i64 t.num]++cellsT ts:=rfl
  rw [this,List.length_append,ih]
  simp
  omega
theorem cellsT_at:∀ (ts:List Tok) (k:Nat) (h:k < ts.length),(cellsT ts)[3 * k]?=some (.int .i64 (ts[k]).kind)∧(cellsT ts)[3 * k+1]?=some (.string (bs (ts[k]).text))∧(cellsT ts)[3 * k+2]?=some (.int .i64 (ts[k]).num)
 | t :: ts,0,_=>⟨rfl,rfl,rfl⟩
 | t :: ts,k+1,h=>by
  have ih:=cellsT_at ts k (by simpa using h)
  have e:∀ j,(cellsT (t :: ts))[3 * (k+1)+j]?=(cellsT ts)[3 * k+j]?:=by
   intro j
   show ([Value.int .i64 t.kind,.string (bs t.text),.int .i64 t.num]++cellsT ts)[3 * (k+1)+j]?=_
   rw [List.getElem?_append_right (by simp;omega)]
   congr 1
   simp
   omega
  exact ⟨(e 0).trans ih.1,(e 1).trans ih.2.1,(e 2).trans ih.2.2⟩
theorem RowT.at_ {w:World} {A:Option Addr} {ts:List Tok} (h:RowT w A ts) (k:Nat) (hk:k < ts.length) :
  ∃ g,A=some ⟨g,0,none⟩∧w.cell? ⟨g,k * 3,none⟩=some (.int .i64 (ts[k]).kind)∧w.cell? ⟨g,k * 3+1,none⟩=some (.string (bs (ts[k]).text))∧w.cell? ⟨g,k * 3+2,none⟩=some (.int .i64 (ts[k]).num):=by
 obtain ⟨g,rfl,hc⟩:=h (by intro e;subst e;simp at hk)
 have h1:=cellsT_at ts k hk
 rw [Nat.mul_comm 3 k] at h1
 exact ⟨g,rfl,(hc _ (by omega)).trans h1.1,(hc _ (by omega)).trans h1.2.1,(hc _ (by omega)).trans h1.2.2⟩
theorem same_true (w:World) (ts:List Tok) (A B:Option Addr) (c d:Nat) (hA:RowT w A ts) (hB:RowT w B ts) (hn:ts.length≤20000) :
  Calls Tryz.prog 31 #[.slice A ts.length c,.slice B ts.length d] w fun e w'=>e=.returned (.bool true)∧∃ n,w'=w.drewN n:=by
 have HA:=Lib.hid hA
 have HB:=Lib.hid hB
 have hn':(ts.length:Int)≤9223372036854775807:=by omega
 clear hA hB
 go_enter Tryz.func31,Tryz.ntmps31
 go_wp2
 go_loopw [13] (fun i wr=>∃ k q,k≤ts.length∧i=.int .i64 k∧wr=w.drewN q) (fun i _=>ts.length - (intOf i).toNat)
 case atStart=>exact ⟨0,0,Nat.zero_le _,rfl,rfl⟩
 case round =>
  obtain ⟨k,q,hk,rfl,rfl⟩:=hrel
  by_cases hlt:k < ts.length
  ·obtain ⟨g,rfl,a0,a1,a2⟩:=HA.out.at_ k hlt
   obtain ⟨g',rfl,b0,b1,b2⟩:=HB.out.at_ k hlt
   generalize ts[k].kind=x at *
   generalize bs ts[k].text=y at *
   generalize ts[k].num=z at *
   have hk2:(k:Int) < (ts.length:Int):=by omega
   have hk3:(0:Int)≤(k:Int):=by omega
   go_wp2_with fail
   go_quiet (fail)
   go_wp2
   go_roundw
   case rel=>exact ⟨k+1,q+nq,by omega,by go_num,by simp⟩
   case measure=>simp [intOf];omega
  ·go_wp2
   go_ret
   exact ⟨rfl,q,rfl⟩
end Lx
end Go.Proofs.YtajomoclbpobhaaGreatDoor
