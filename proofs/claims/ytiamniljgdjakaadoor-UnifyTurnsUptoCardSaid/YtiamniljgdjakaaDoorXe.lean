/- Two rows of types beside one another that both grow in one statement. No program is walked in this text; conditions: as each states. -/
import Derived.Test.YtiamniljgdjakaaDoorXc
namespace Go.Proofs.YtiamniljgdjakaaDoor
set_option linter.unusedSimpArgs false
set_option linter.unusedVariables false
namespace Lx
open Go Go.RowKit
/-- 'append(x, s)' at a step of a region that draws its order. -/
theorem step_ty {ops:Array Oper} {o:Oper} {a:Act} {W:World} {K:Act→World→Prop} {Q:Exit→Act→World→Prop} {E:Prop} (hgd:o.guard=none) (s x:Operand)
  (ho:o.op=.call { callee:=.builtin .append,args:=#[s,x],argTypes:=#[27,27] })
  (base:Nat) (v:Value) (n:Nat) (xs:List Value) (hs:a.eval s=v) (hown:W.ownsRow base 32 4 v n xs) (B:Nat) (k z:Int) (y:ByteArray) (A:Option Addr) (l c:Nat) (hx:a.eval x=.slice (some ⟨B,0,none⟩) 1 1) (hB:W.heap[B]?=some (.cells #[.int .i64 k,.string y,.int .i64 z,.slice A l c] 32 (0,0))) (hn:n≤2000000) (hbase:base≤W.heap.size)
  (h:∀ g c' w',w'.ownsRow base 32 4 (.slice (some ⟨g,0,none⟩) (n+1) c') (n+1) (xs++[.int .i64 k,.string y,.int .i64 z,.slice A l c])→W.grownBy w' v.ownBlock→(v.ownBlock=some g ∨ g=W.heap.size)→K (a.put o.dst (.slice (some ⟨g,0,none⟩) (n+1) c')) w') :
  if Region.wanted o (yielded ops a.tmps)=true then Oper.wp Tryd.prog o a W K Q else E:=by
 obtain ⟨i0,hi,hz0,hz1,hz2⟩:=info_parts infoTy
 exact step_append_lies W hgd s x _ ho base _ i0 _ 4 56 Tryd.underlying27 hi hz0 hz1 hz2 rfl (by decide) v n xs hs hown ⟨B,0,none⟩ 1 1 [.int .i64 k,.string y,.int .i64 z,.slice A l c] hx rfl (World.news_of_block (cs:=#[.int .i64 k,.string y,.int .i64 z,.slice A l c]) hB) (by simp [Value.oneCell'])
  (by omega) (by unfold maxLen;omega) (by omega) hbase _ rfl (fun g cap w' h2 h3 h4 _=>h g cap w' h2 h3 h4)
theorem heap_newD {w:World} {b:Nat} {c:Obj} (h:b=w.heap.size):(w.alloc c).drew.heap[b]?=some c:=by
 subst h
 exact heap_alloc_new w c
theorem heap_newA {w:World} {b:Nat} {c:Obj} (h:b=w.heap.size):(w.alloc c).heap[b]?=some c:=by
 subst h
 exact heap_alloc_new w c
theorem heap_pastD {w:World} {b:Nat} {c:Obj} (h:w.heap[b]?=some c) (o:Obj):(w.alloc o).drew.heap[b]?=some c:=(Below.heap_alloc w o b (Array.getElem?_eq_some_iff.1 h).1).trans h
theorem LS.plus {b g m cap S:Nat} {W0 W W':World} {r:Rho} {Vol:Nat→Prop} (h:LS b g m cap W0 W r Vol) (hb:Below W.heap.size W W') (h1:W.heap.size≤S) (h2:S < W'.heap.size):LS b g m cap W0 W' r (fun k=>Vol k ∨ k=S):=by
 have hnew:∀ k,k < W.heap.size→(Vol k ∨ k=S)→Vol k:=fun k hk e=>e.elim id (fun e=>by omega)
 exact h.go (h.1.wide hb hnew (fun _ e=>.inl e)) h.2.1 (Kb.of_below hb) hnew (fun k e=>e.elim (fun e=>Nat.lt_of_lt_of_le (h.2.2.1 k e).2 hb.size) (fun e=>e ▸ h2))
/-- Both rows: each with its table, beside the other one's row. -/
def TwoT (V1 V2:Nat→Prop) (b1 g1 c1 b2 g2 c2 m:Nat) (W0 w1 w2:World) (r1 r2:Rho) (S1 S2 k1 k2:Nat) (l1 l2:List TyT) (W:World):Prop :=
 (∃ vs,WasT (fun k=>V1 k ∨ k=S2) b1 g1 m c1 W0 w1 W r1 S1 k1 l1 vs)∧(∃ vs,WasT (fun k=>V2 k ∨ k=S1) b2 g2 m c2 W0 w2 W r2 S2 k2 l2 vs)
section
variable {V1 V2:Nat→Prop} {b1 g1 c1 b2 g2 c2 m S1 S2 k1 k2:Nat} {W0 w1 w2 W W':World} {r1 r2:Rho} {l1 l2:List TyT}
theorem TwoT.below (h:TwoT V1 V2 b1 g1 c1 b2 g2 c2 m W0 w1 w2 r1 r2 S1 S2 k1 k2 l1 l2 W) (hb:Below W.heap.size W W'):TwoT V1 V2 b1 g1 c1 b2 g2 c2 m W0 w1 w2 r1 r2 S1 S2 k1 k2 l1 l2 W':=by
 obtain ⟨⟨vs,h1⟩,vs2,h2⟩:=h
 exact ⟨⟨vs,h1.below hb⟩,vs2,h2.below hb⟩
theorem TwoT.ls1 (h:TwoT V1 V2 b1 g1 c1 b2 g2 c2 m W0 w1 w2 r1 r2 S1 S2 k1 k2 l1 l2 W):LS b1 g1 m c1 W0 W r1 (fun k=>(V1 k ∨ k=S2) ∨ k=S1):=by
 obtain ⟨⟨vs,h1⟩,vs2,h2⟩:=h
 exact h1.ls
theorem TwoT.ls2 (h:TwoT V1 V2 b1 g1 c1 b2 g2 c2 m W0 w1 w2 r1 r2 S1 S2 k1 k2 l1 l2 W):LS b2 g2 m c2 W0 W r2 (fun k=>(V2 k ∨ k=S1) ∨ k=S2):=by
 obtain ⟨⟨vs,h1⟩,vs2,h2⟩:=h
 exact h2.ls
theorem TwoT.lt (h:TwoT V1 V2 b1 g1 c1 b2 g2 c2 m W0 w1 w2 r1 r2 S1 S2 k1 k2 l1 l2 W):S1 < W.heap.size∧S2 < W.heap.size:=⟨(h.ls1.2.2.1 S1 (.inr rfl)).2,(h.ls2.2.2.1 S2 (.inr rfl)).2⟩
/-- The first table is asked. -/
theorem TwoT.one (h:TwoT V1 V2 b1 g1 c1 b2 g2 c2 m W0 w1 w2 r1 r2 S1 S2 k1 k2 l1 l2 W) (hL:LS b1 g1 m c1 W0 W' r1 (fun k=>(V1 k ∨ k=S2) ∨ k=S1)) (hk:Kb (fun k=>k=g1) W W') (hV:V2 g1) (hne:g1=g2→m=0):TwoT V1 V2 b1 g1 c1 b2 g2 c2 m W0 w1 w2 r1 r2 S1 S2 k1 k2 l1 l2 W':=by
 obtain ⟨⟨vs,h1⟩,vs2,h2⟩:=h
 exact ⟨⟨vs,h1.later hL hk⟩,vs2,h2.aside (h2.ls.other hk (.inl (.inl hV)) h1.ls.grow hL.grow hne) hk (.inl hV)⟩
/-- The second table is asked. -/
theorem TwoT.two (h:TwoT V1 V2 b1 g1 c1 b2 g2 c2 m W0 w1 w2 r1 r2 S1 S2 k1 k2 l1 l2 W) (hL:LS b2 g2 m c2 W0 W' r2 (fun k=>(V2 k ∨ k=S1) ∨ k=S2)) (hk:Kb (fun k=>k=g2) W W') (hV:V1 g2) (hne:g2=g1→m=0):TwoT V1 V2 b1 g1 c1 b2 g2 c2 m W0 w1 w2 r1 r2 S1 S2 k1 k2 l1 l2 W':=by
 obtain ⟨⟨vs,h1⟩,vs2,h2⟩:=h
 exact ⟨⟨vs,h1.aside (h1.ls.other hk (.inl (.inl hV)) h2.ls.grow hL.grow hne) hk (.inl hV)⟩,vs2,h2.later hL hk⟩
/-- The first row grows. -/
theorem TwoT.add1 {x2:TyT} {v2:Value} {S cap2:Nat} {vs:List Value} {w6:World} (h1:WasT (fun k=>V1 k ∨ k=S2) b1 g1 m c1 W0 w1 W r1 S1 k1 l1 vs) (h2:∃ vs,WasT (fun k=>V2 k ∨ k=S1) b2 g2 m c2 W0 w2 W r2 S2 k2 l2 vs) (hv2:TyE (fun k=>(V1 k ∨ k=S2) ∨ k=S1) x2 v2 W)
  (hown:w6.ownsRow w1.heap.size 32 4 (.slice (some ⟨S,0,none⟩) (l1.length+1) cap2) (l1.length+1) (vs.flatMap cellsL++cellsL v2)) (hg:W.grownBy w6 (some S1)) (hat:some S1=some S ∨ S=W.heap.size):TwoT V1 V2 b1 g1 c1 b2 g2 c2 m W0 w1 w2 r1 r2 S S2 cap2 k2 (l1++[x2]) l2 w6:=by
 obtain ⟨vs2,h2⟩:=h2
 obtain ⟨cur,hb,_⟩:=h1.blk
 exact ⟨⟨_,h1.snoc hv2 hown hg hat⟩,vs2,h2.moved hb hg hat (hown.lt S rfl).2⟩
/-- The second row grows. -/
theorem TwoT.add2 {x2:TyT} {v2:Value} {S cap2:Nat} {vs:List Value} {w6:World} (h1:∃ vs,WasT (fun k=>V1 k ∨ k=S2) b1 g1 m c1 W0 w1 W r1 S1 k1 l1 vs) (h2:WasT (fun k=>V2 k ∨ k=S1) b2 g2 m c2 W0 w2 W r2 S2 k2 l2 vs) (hv2:TyE (fun k=>(V2 k ∨ k=S1) ∨ k=S2) x2 v2 W)
  (hown:w6.ownsRow w2.heap.size 32 4 (.slice (some ⟨S,0,none⟩) (l2.length+1) cap2) (l2.length+1) (vs.flatMap cellsL++cellsL v2)) (hg:W.grownBy w6 (some S2)) (hat:some S2=some S ∨ S=W.heap.size):TwoT V1 V2 b1 g1 c1 b2 g2 c2 m W0 w1 w2 r1 r2 S1 S k1 cap2 l1 (l2++[x2]) w6:=by
 obtain ⟨vs1,h1⟩:=h1
 obtain ⟨cur,hb,_⟩:=h2.blk
 exact ⟨⟨vs1,h1.moved hb hg hat (hown.lt S rfl).2⟩,_,h2.snoc hv2 hown hg hat⟩
end
/-- A type that avoids the other row, where that has grown. -/
theorem vb_after {V:Nat→Prop} {S1 S2 S:Nat} {z:TyT} {v:Value} {Y W w6:World} (h:TyE (fun k=>(V k ∨ k=S1) ∨ k=S2) z v Y) (hb:Below Y.heap.size Y W) (hg:W.grownBy w6 (some S1)) (hat:some S1=some S ∨ S=W.heap.size):TyE (fun k=>(V k ∨ k=S) ∨ k=S2) z v w6:=by
 have k6:Kb (fun k=>k=S1) W w6:=⟨hg.os,hg.tape,hg.output,hg.size,fun k hk hn=>hg.block k hk (fun e=>hn (by injection e))⟩
 refine TyE.step _ _ _ _ _ _ (TyE.step.below h hb) (k6.wider (fun k _ e=>.inl (.inr e))) (fun k hk e=>?_)
 rcases e with (e | e) | e
 ·exact .inl (.inl e)
 ·rcases hat with e3 | e3
  ·injection e3 with e3;exact .inl (.inr (e.trans e3.symm))
  ·omega
 ·exact .inr e
theorem sizes_map {m:Nat} {r:Rho} (hf:∀ x,x < m→sizeT (r x)≤200):∀ l:List Nat,(∀ x ∈ l,x < m)→sizeTs (l.map r)≤l.length * 200
 | [],_=>by simp [sizeTs]
 | x :: l,h=>by
  have h1:=hf x (h x (List.mem_cons_self ..))
  have h2:=sizes_map hf l (fun y hy=>h y (List.mem_cons_of_mem _ hy))
  rw [List.map_cons,sizeTs,List.length_cons]
  omega
theorem good_map {m:Nat} {r:Rho} (hR:Res m r):∀ l:List Nat,(∀ x ∈ l,x < m)→goodTs m (l.map r)
 | [],_=>trivial
 | x :: l,h=>⟨hR.good x (h x (List.mem_cons_self ..)),good_map hR l (fun y hy=>h y (List.mem_cons_of_mem _ hy))⟩
/-- Plain of a row that a statement's walk has made. -/
theorem plain_was {Vol:Nat→Prop} {b g m cap S c:Nat} {W0 w1 wr:World} {r:Rho} {vs:List Value} (h:WasT Vol b g m cap W0 w1 wr r S c ((List.range m).map r) vs) (hm:m≤1000) :
  Calls Tryd.prog 28 #[.slice (some ⟨S,0,none⟩) ((List.range m).map r).length c] wr fun e w'=>∃ v',e=.returned v'∧RowW 4 TyE Vol (pls [] ((List.range m).map r)).2 v' w'∧Below wr.heap.size wr w':=by
 obtain ⟨hrow,hls⟩:=h.fin
 obtain ⟨D,hD⟩:=rowE hrow
 refine plain_any (by omega) D Vol _ _ wr hD (good_map hls.1.res _ (fun x hx=>List.mem_range.1 hx)) (fun k e=>(hls.2.2.1 k e).2) ?_
 have:=sizes_map hls.2.1 (List.range m) (fun x hx=>List.mem_range.1 hx)
 rw [List.length_range] at this
 omega
theorem same_rows {Vol Vol2:Nat→Prop} {l:List TyT} {v1 v2:Value} {w:World} (h1:RowW 4 TyE Vol l v1 w) (h2:RowW 4 TyE Vol2 l v2 w):Calls Tryd.prog 27 #[v1,v2] w fun e w'=>e=.returned (.bool true)∧Below w.heap.size w w':=by
 obtain ⟨D1,h1⟩:=rowE h1
 obtain ⟨D2,h2⟩:=rowE h2
 have q1:RowW 4 (TyW (max D1 D2)) Vol l v1 w:=RowW.imp (fun x v h=>TyW.ups (Nat.le_max_left _ _) h) h1
 have q2:RowW 4 (TyW (max D1 D2)) Vol2 l v2 w:=RowW.imp (fun x v h=>TyW.ups (Nat.le_max_right _ _) h) h2
 have h:=sameTypes_of (max D1 D2) (Lib.hid (same_any _)) Vol Vol2 l l v1 v2 w q1 q2
 rw [(eqTs_iff l l).2 rfl] at h
 exact h
end Lx
end Go.Proofs.YtiamniljgdjakaaDoor
