/- What a parser reads where the grammar has a prim, in plain words: by the nests left; each reading goes forward. No program stands in this text but the tokens' form; no conditions. -/
/- The contract of package parse's prim, guarded and unifyOrCall: what a goal is where the grammar has a prim, held in cells; or the panic. Conditions: the parser's block is its own; at most 16384 tokens. -/
/- The contract of package parse's guarded: what follows "try". Conditions: the parser's block is its own; at most 16384 tokens. -/
/- The contract of package parse's unifyOrCall: a unification or a call. Conditions: the parser's block is its own; at most 16384 tokens. -/
import Derived.Test.YtiljemkglhloeaaGreatDoorRowA
import Derived.Defers
import Derived.Deep.RegionHeld3
namespace Go.Proofs.YtiljemkglhloeaaGreatDoor
set_option linter.unusedSimpArgs false
set_option linter.unusedVariables false
namespace Lx
open Go Go.RowKit
def TermT.kind:TermT→Int
 | .mk k _ _ _=>k
def TermT.name:TermT→List UInt8
 | .mk _ s _ _=>s
def TermT.args:TermT→List TermT
 | .mk _ _ _ l=>l
/-- What follows "try". -/
def guardO (rd:Nat→Out GoalT) (ts:List Tok) (k:Nat):Out GoalT :=
 match rd k with
 | .no i=>.no i
 | .ok g k1=>match expO ts k1 [99,97,116,99,104] with
  | .no i=>.no i
  | .ok _ k2=>match varO ts k2 with
   | .no i=>.no i
   | .ok s k3=>match expO ts k3 [116,104,101,110] with
    | .no i=>.no i
    | .ok _ k4=>match rd k4 with
     | .no i=>.no i
     | .ok g2 k5=>.ok (.mk 9 zeroT zeroT s [] [g,g2]) k5
/-- A unification or a call. -/
def uocO (rdT:Nat→Out TermT) (ts:List Tok) (k:Nat):Out GoalT :=
 match rdT k with
 | .no i=>.no i
 | .ok t k1 =>
  if hasT ts k1 [61]=true then match rdT (k1+1) with
   | .no i=>.no i
   | .ok u k2=>.ok (.mk 3 t u [] [] []) k2
  else if t.kind=3 then .ok (.mk 4 zeroT zeroT t.name t.args []) k1
  else .no 2
def goalO (rd:Nat→Out GoalT) (ts:List Tok) (k:Nat):Out GoalT:=joinO (joinO rd ts [44] 5) ts [59] 6 k
def primO (ts:List Tok):Nat→Int→Nat→Out GoalT
 | 0,_,_=>.no 2
 | m+1,ne,k =>
  match enterO ts k ne with
  | .no i=>.no i
  | .ok _ _ =>
   if hasT ts k [116,114,117,101]=true then .ok (.mk 1 zeroT zeroT [] [] []) (k+1)
   else if hasT ts k [102,97,105,108]=true then .ok (.mk 2 zeroT zeroT [] [] []) (k+1)
   else if hasT ts k [110,111,116]=true then
    match primO ts m (ne+1) (k+1) with
    | .no i=>.no i
    | .ok g k'=>.ok (.mk 7 zeroT zeroT [] [] [g]) k'
   else if hasT ts k [116,104,114,111,119]=true then
    match termO ts 66 (ne+1) (k+1) with
    | .no i=>.no i
    | .ok t k'=>.ok (.mk 8 t zeroT [] [] []) k'
   else if hasT ts k [116,114,121]=true then guardO (primO ts m (ne+1)) ts (k+1)
   else if hasT ts k [40]=true then
    match goalO (primO ts m (ne+1)) ts (k+1) with
    | .no i=>.no i
    | .ok g k'=>match expO ts k' [41] with
     | .no i=>.no i
     | .ok _ k2=>.ok g k2
   else uocO (termO ts 66 (ne+1)) ts k
theorem varO_fwd (ts:List Tok):Fwd ts (varO ts):=by
 intro k x k' h
 unfold varO at h
 split at h
 ·rename_i hc
  injection h with h1 h2
  subst h2
  have:=peek_kind (ts:=ts) (k:=k) (by rw [hc];decide)
  omega
 ·cases h
theorem guardO_fwd {rd:Nat→Out GoalT} {ts:List Tok} (hr:Fwd ts rd):Fwd ts (guardO rd ts):=by
 intro k x k' h
 unfold guardO at h
 split at h
 ·cases h
 ·rename_i g k1 e1
  have h1:=hr _ _ _ e1
  split at h
  ·cases h
  ·rename_i u k2 e2
   have h2:=expO_fwd (ts:=ts) (s:=[99,97,116,99,104]) (by decide) _ _ _ e2
   split at h
   ·cases h
   ·rename_i s k3 e3
    have h3:=varO_fwd ts _ _ _ e3
    split at h
    ·cases h
    ·rename_i u k4 e4
     have h4:=expO_fwd (ts:=ts) (s:=[116,104,101,110]) (by decide) _ _ _ e4
     split at h
     ·cases h
     ·rename_i g2 k5 e5
      have h5:=hr _ _ _ e5
      injection h with _ h6
      omega
theorem uocO_fwd {rdT:Nat→Out TermT} {ts:List Tok} (hr:Fwd ts rdT):Fwd ts (uocO rdT ts):=by
 intro k x k' h
 unfold uocO at h
 split at h
 ·cases h
 ·rename_i t k1 e1
  have h1:=hr _ _ _ e1
  split at h
  ·split at h
   ·cases h
   ·rename_i u k2 e2
    have h2:=hr _ _ _ e2
    injection h with _ h6
    omega
  ·split at h
   ·injection h with _ h6
    omega
   ·cases h
theorem primO_fwd (ts:List Tok):∀ (m:Nat) (ne:Int),Fwd ts (primO ts m ne)
 | 0,_,_,_,_,h=>by simp [primO] at h
 | m+1,ne,k,x,k',h=>by
  rw [primO] at h
  split at h
  ·cases h
  ·split at h
   ·rename_i hc
    injection h with _ h2
    have:=hasT_in hc (by decide)
    omega
   ·split at h
    ·rename_i hc
     injection h with _ h2
     have:=hasT_in hc (by decide)
     omega
    ·split at h
     ·split at h
      ·cases h
      ·rename_i g k1 e1
       have h1:=primO_fwd ts m (ne+1) _ _ _ e1
       injection h with _ h2
       omega
     ·split at h
      ·split at h
       ·cases h
       ·rename_i g k1 e1
        have h1:=termO_fwd ts 66 (ne+1) _ _ _ e1
        injection h with _ h2
        omega
      ·split at h
       ·have h1:=guardO_fwd (primO_fwd ts m (ne+1)) _ _ _ h
        omega
       ·split at h
        ·split at h
         ·cases h
         ·rename_i g k1 e1
          have h1:=joinO_fwd (joinO_fwd (primO_fwd ts m (ne+1)) [44] 5) [59] 6 _ _ _ e1
          split at h
          ·cases h
          ·rename_i u k2 e2
           have h2:=expO_fwd (ts:=ts) (s:=[41]) (by decide) _ _ _ e2
           injection h with _ h3
           omega
        ·exact uocO_fwd (termO_fwd ts 66 (ne+1)) _ _ _ h
end Lx
end Go.Proofs.YtiljemkglhloeaaGreatDoor
namespace Go.Proofs.YtiljemkglhloeaaGreatDoor
set_option linter.unusedSimpArgs false
set_option linter.unusedVariables false
namespace Lx
open Go Go.RowKit
/-- The variable of a goal's result, behind the readings. -/
theorem boxG {w w':World} {o:Obj} {b:Nat} {cs:Array Value} (hf:PFr b (w.alloc o) w') (hb:b < w.heap.size) (h:(w.alloc o).heap[w.heap.size]?=some (.cells cs 31 (0,0))):w'.heap[w.heap.size]?=some (.cells cs 31 (0,0)) :=
 (hf.block w.heap.size (by simp) (Nat.ne_of_gt hb)).trans h
theorem put12 {w w3:World} {o:Obj} {b:Nat} {A:Option Addr} {c:Nat} {ts:List Tok} {k k':Nat} {ne ne':Int} {y0 y1 y2 y3 y4 y5 y6 y7 y8 y9 y10 y11:Value} (h:Par w b A c ts k ne) (hf:PFr b (w.alloc o) w3) (hp:Par w3 b A c ts k' ne')
  (hb:w3.heap[w.heap.size]?=some (.cells #[y0,y1,y2,y3,y4,y5,y6,y7,y8,y9,y10,y11] 31 (0,0))) (x0 x1 x2 x3 x4 x5 x6 x7 x8 x9 x10 x11:Value) :
  (((((((((((((w3.setCell ⟨w.heap.size,0,none⟩ x0).setCell ⟨w.heap.size,1,none⟩ x1).setCell ⟨w.heap.size,2,none⟩ x2).setCell ⟨w.heap.size,3,none⟩ x3).setCell ⟨w.heap.size,4,none⟩ x4).setCell ⟨w.heap.size,5,none⟩ x5).setCell ⟨w.heap.size,6,none⟩ x6).setCell ⟨w.heap.size,7,none⟩ x7).setCell ⟨w.heap.size,8,none⟩ x8).setCell ⟨w.heap.size,9,none⟩ x9).setCell ⟨w.heap.size,10,none⟩ x10).setCell ⟨w.heap.size,11,none⟩ x11)).heap[w.heap.size]?=some (.cells #[x0,x1,x2,x3,x4,x5,x6,x7,x8,x9,x10,x11] 31 (0,0)) ∧
  Par (((((((((((((w3.setCell ⟨w.heap.size,0,none⟩ x0).setCell ⟨w.heap.size,1,none⟩ x1).setCell ⟨w.heap.size,2,none⟩ x2).setCell ⟨w.heap.size,3,none⟩ x3).setCell ⟨w.heap.size,4,none⟩ x4).setCell ⟨w.heap.size,5,none⟩ x5).setCell ⟨w.heap.size,6,none⟩ x6).setCell ⟨w.heap.size,7,none⟩ x7).setCell ⟨w.heap.size,8,none⟩ x8).setCell ⟨w.heap.size,9,none⟩ x9).setCell ⟨w.heap.size,10,none⟩ x10).setCell ⟨w.heap.size,11,none⟩ x11)) b A c ts k' ne' ∧
  PFr b w (((((((((((((w3.setCell ⟨w.heap.size,0,none⟩ x0).setCell ⟨w.heap.size,1,none⟩ x1).setCell ⟨w.heap.size,2,none⟩ x2).setCell ⟨w.heap.size,3,none⟩ x3).setCell ⟨w.heap.size,4,none⟩ x4).setCell ⟨w.heap.size,5,none⟩ x5).setCell ⟨w.heap.size,6,none⟩ x6).setCell ⟨w.heap.size,7,none⟩ x7).setCell ⟨w.heap.size,8,none⟩ x8).setCell ⟨w.heap.size,9,none⟩ x9).setCell ⟨w.heap.size,10,none⟩ x10).setCell ⟨w.heap.size,11,none⟩ x11))∧(∀ j,j ≠ w.heap.size→(((((((((((((w3.setCell ⟨w.heap.size,0,none⟩ x0).setCell ⟨w.heap.size,1,none⟩ x1).setCell ⟨w.heap.size,2,none⟩ x2).setCell ⟨w.heap.size,3,none⟩ x3).setCell ⟨w.heap.size,4,none⟩ x4).setCell ⟨w.heap.size,5,none⟩ x5).setCell ⟨w.heap.size,6,none⟩ x6).setCell ⟨w.heap.size,7,none⟩ x7).setCell ⟨w.heap.size,8,none⟩ x8).setCell ⟨w.heap.size,9,none⟩ x9).setCell ⟨w.heap.size,10,none⟩ x10).setCell ⟨w.heap.size,11,none⟩ x11)).heap[j]?=w3.heap[j]?)∧(((((((((((((w3.setCell ⟨w.heap.size,0,none⟩ x0).setCell ⟨w.heap.size,1,none⟩ x1).setCell ⟨w.heap.size,2,none⟩ x2).setCell ⟨w.heap.size,3,none⟩ x3).setCell ⟨w.heap.size,4,none⟩ x4).setCell ⟨w.heap.size,5,none⟩ x5).setCell ⟨w.heap.size,6,none⟩ x6).setCell ⟨w.heap.size,7,none⟩ x7).setCell ⟨w.heap.size,8,none⟩ x8).setCell ⟨w.heap.size,9,none⟩ x9).setCell ⟨w.heap.size,10,none⟩ x10).setCell ⟨w.heap.size,11,none⟩ x11)).heap.size=w3.heap.size:=by
 have hfr:=(((((((((((((((PFr.refl b w).alloc o).trans hf).putNew (Nat.le_refl _) 0 x0).putNew (Nat.le_refl _) 1 x1).putNew (Nat.le_refl _) 2 x2).putNew (Nat.le_refl _) 3 x3).putNew (Nat.le_refl _) 4 x4).putNew (Nat.le_refl _) 5 x5).putNew (Nat.le_refl _) 6 x6).putNew (Nat.le_refl _) 7 x7).putNew (Nat.le_refl _) 8 x8).putNew (Nat.le_refl _) 9 x9).putNew (Nat.le_refl _) 10 x10).putNew (Nat.le_refl _) 11 x11)
 have hn:b ≠ w.heap.size:=Nat.ne_of_lt h.lt
 have hall:∀ j,j ≠ w.heap.size→(((((((((((((w3.setCell ⟨w.heap.size,0,none⟩ x0).setCell ⟨w.heap.size,1,none⟩ x1).setCell ⟨w.heap.size,2,none⟩ x2).setCell ⟨w.heap.size,3,none⟩ x3).setCell ⟨w.heap.size,4,none⟩ x4).setCell ⟨w.heap.size,5,none⟩ x5).setCell ⟨w.heap.size,6,none⟩ x6).setCell ⟨w.heap.size,7,none⟩ x7).setCell ⟨w.heap.size,8,none⟩ x8).setCell ⟨w.heap.size,9,none⟩ x9).setCell ⟨w.heap.size,10,none⟩ x10).setCell ⟨w.heap.size,11,none⟩ x11)).heap[j]?=w3.heap[j]?:=fun j hj=>by
  rw [Below.heap_setCell _ _ _ j hj,Below.heap_setCell _ _ _ j hj,Below.heap_setCell _ _ _ j hj,Below.heap_setCell _ _ _ j hj,Below.heap_setCell _ _ _ j hj,Below.heap_setCell _ _ _ j hj,Below.heap_setCell _ _ _ j hj,Below.heap_setCell _ _ _ j hj,Below.heap_setCell _ _ _ j hj,Below.heap_setCell _ _ _ j hj,Below.heap_setCell _ _ _ j hj,Below.heap_setCell _ _ _ j hj]
 refine ⟨(blk_put _ _ 11 x11 (blk_put _ _ 10 x10 (blk_put _ _ 9 x9 (blk_put _ _ 8 x8 (blk_put _ _ 7 x7 (blk_put _ _ 6 x6 (blk_put _ _ 5 x5 (blk_put _ _ 4 x4 (blk_put _ _ 3 x3 (blk_put _ _ 2 x2 (blk_put _ _ 1 x1 (blk_put _ _ 0 x0 hb (by show 0 < 12;decide)) (by show 1 < 12;decide)) (by show 2 < 12;decide)) (by show 3 < 12;decide)) (by show 4 < 12;decide)) (by show 5 < 12;decide)) (by show 6 < 12;decide)) (by show 7 < 12;decide)) (by show 8 < 12;decide)) (by show 9 < 12;decide)) (by show 10 < 12;decide)) (by show 11 < 12;decide)),h.move hfr ?_ hp.near hp.nest0 hp.nest1,hfr,hall,by simp [World.setCell]⟩
 rw [hall b hn]
 exact hp.blk
/-- The end of a prim's reading: the deferred leave, then the result. -/
theorem prim_door {b:Nat} {A:Option Addr} {c:Nat} {ts:List Tok} {ne:Int} {f:Nat→Addr} {d:Nat} {w X:World} {k':Nat} {x:GoalT} {x0 x1 x2 x3 x4 x5 x6 x7 x8 x9 x10 x11:Value} {tmps:Array Value} (h0:0≤ne) (hb:b < w.heap.size)
  (ht:tmps[2]?.getD undef=.pointer (some ⟨w.heap.size,0,none⟩)) (hX:X.heap[w.heap.size]?=some (.cells #[x0,x1,x2,x3,x4,x5,x6,x7,x8,x9,x10,x11] 31 (0,0))) (hp:Par X b A c ts k' (ne+1)) (hf:PFr b w X) (hV:GoalV d x (.agg #[x0,x1,x2,x3,x4,x5,x6,x7,x8,x9,x10,x11]) w.heap.size X.heap.size X) :
  bodyPostD Tryz.prog Tryz.f184 (fun e w'=>EndsV b A c ts ne f (GoalV d) w (.ok x k') e w') Exit.ret { tmps:=tmps,defers:=[{ target:=Target.fn (Fn.func 110) #[],args:=#[.pointer (some ⟨b,0,none⟩)] }] } X:=by
 refine leaves_cons (f:=110) (args:=#[.pointer (some ⟨b,0,none⟩)]) (by simp) (by simp [go_sem]) ?_
 refine (leave_any X b A c ts k' (ne+1) hp .returning (by omega)).mono ?_
 rintro e u' w' ⟨rfl,rfl,hp',hf'⟩
 have hbx:=(hf'.block w.heap.size (Array.getElem?_eq_some_iff.1 hX).1 (Nat.ne_of_gt hb)).trans hX
 have d0:=(Lib.cell_of_heap hbx 0).trans rfl
 have d1:=(Lib.cell_of_heap hbx 1).trans rfl
 have d2:=(Lib.cell_of_heap hbx 2).trans rfl
 have d3:=(Lib.cell_of_heap hbx 3).trans rfl
 have d4:=(Lib.cell_of_heap hbx 4).trans rfl
 have d5:=(Lib.cell_of_heap hbx 5).trans rfl
 have d6:=(Lib.cell_of_heap hbx 6).trans rfl
 have d7:=(Lib.cell_of_heap hbx 7).trans rfl
 have d8:=(Lib.cell_of_heap hbx 8).trans rfl
 have d9:=(Lib.cell_of_heap hbx 9).trans rfl
 have d10:=(Lib.cell_of_heap hbx 10).trans rfl
 have d11:=(Lib.cell_of_heap hbx 11).trans rfl
 have e1:ne+1 - 1=ne:=by omega
 rw [e1] at hp'
 refine ⟨.agg #[x0,x1,x2,x3,x4,x5,x6,x7,x8,x9,x10,x11],by simp [results,Tryz.results184,go_sem,ht,d0,d1,d2,d3,d4,d5,d6,d7,d8,d9,d10,d11],_,rfl,?_,hp',hf.trans hf'⟩
 exact GoalV.wide _ _ _ _ _ _ _ _ (GoalV.stable _ _ _ _ _ _ w' hV (fun j j1 j2=>hf'.block j j2 (by omega))) (Nat.le_refl _) hf'.size
theorem prim_fall {b:Nat} {A:Option Addr} {c:Nat} {ts:List Tok} {ne:Int} {f:Nat→Addr} {d i:Nat} {w X:World} {tmps:Array Value} (h0:0≤ne) (hp:∃ k' ne',Par X b A c ts k' ne'∧ne+1≤ne') (hf:PFr b w X) :
  bodyPostD Tryz.prog Tryz.f184 (fun e w'=>EndsV b A c ts ne f (GoalV d) w (.no i) e w') (Exit.panic [{ v:=.iface 151 (.agg #[errP (f i)]),recovered:=false }]) { tmps:=tmps,defers:=[{ target:=Target.fn (Fn.func 110) #[],args:=#[.pointer (some ⟨b,0,none⟩)] }] } X:=by
 obtain ⟨k',ne',hp,hn⟩:=hp
 refine leaves_cons (f:=110) (args:=#[.pointer (some ⟨b,0,none⟩)]) (by simp) (by simp [go_sem]) ?_
 refine (leave_any X b A c ts k' ne' hp (.panicking _) (by omega)).mono ?_
 rintro e u' w' ⟨rfl,rfl,hp',hf'⟩
 exact ⟨rfl,⟨_,_,hp',by omega⟩,hf.trans hf'⟩
/-- A slice made of so many values: the row of the things that they hold. -/
theorem rowLit {α:Type} {V:Holds α} {t:TypeId} {sz:Nat} {X:World} {n0:Nat} (hn:X.heap.size=n0) {cs:Array Value} {l:List α} {vs:List Value} {lo:Nat} (hlo:lo≤n0) (hsz:cs.size=l.length * sz) (hcs:vs.flatMap cellsL=cs.toList) (hmax:l.length≤maxLen)
  (hit:Items V lo n0 n0 (X.alloc (.cells cs t)) l vs):RowV t sz V l (.slice (some ⟨n0,0,none⟩) l.length l.length) lo (n0+1) (X.alloc (.cells cs t)):=by
 subst hn
 exact ⟨X.heap.size,_,vs,rfl,Nat.lt_succ_self _,by rw [hcs];exact World.ownsRow_lit X cs _ hlo hmax hsz,hit.wide (Nat.le_refl _) (Nat.le_succ _)⟩
theorem far12 {w:World} {N a o:Nat} {x0 x1 x2 x3 x4 x5 x6 x7 x8 x9 x10 x11:Value} (h:¬ a=N):(((((((((((((w.setCell ⟨N,0,none⟩ x0).setCell ⟨N,1,none⟩ x1).setCell ⟨N,2,none⟩ x2).setCell ⟨N,3,none⟩ x3).setCell ⟨N,4,none⟩ x4).setCell ⟨N,5,none⟩ x5).setCell ⟨N,6,none⟩ x6).setCell ⟨N,7,none⟩ x7).setCell ⟨N,8,none⟩ x8).setCell ⟨N,9,none⟩ x9).setCell ⟨N,10,none⟩ x10).setCell ⟨N,11,none⟩ x11)).cell? ⟨a,o,none⟩=w.cell? ⟨a,o,none⟩:=by
 refine World.cell?_of_block ?_
 show (((((((((((((w.setCell ⟨N,0,none⟩ x0).setCell ⟨N,1,none⟩ x1).setCell ⟨N,2,none⟩ x2).setCell ⟨N,3,none⟩ x3).setCell ⟨N,4,none⟩ x4).setCell ⟨N,5,none⟩ x5).setCell ⟨N,6,none⟩ x6).setCell ⟨N,7,none⟩ x7).setCell ⟨N,8,none⟩ x8).setCell ⟨N,9,none⟩ x9).setCell ⟨N,10,none⟩ x10).setCell ⟨N,11,none⟩ x11)).heap[a]?=w.heap[a]?
 rw [Below.heap_setCell _ _ _ a h,Below.heap_setCell _ _ _ a h,Below.heap_setCell _ _ _ a h,Below.heap_setCell _ _ _ a h,Below.heap_setCell _ _ _ a h,Below.heap_setCell _ _ _ a h,Below.heap_setCell _ _ _ a h,Below.heap_setCell _ _ _ a h,Below.heap_setCell _ _ _ a h,Below.heap_setCell _ _ _ a h,Below.heap_setCell _ _ _ a h,Below.heap_setCell _ _ _ a h]
theorem farA12 {w:World} {N a o:Nat} {ob:Obj} {x0 x1 x2 x3 x4 x5 x6 x7 x8 x9 x10 x11:Value} (h:¬ a=N) (hl:a < w.heap.size):(((((((((((((w.setCell ⟨N,0,none⟩ x0).setCell ⟨N,1,none⟩ x1).setCell ⟨N,2,none⟩ x2).setCell ⟨N,3,none⟩ x3).setCell ⟨N,4,none⟩ x4).setCell ⟨N,5,none⟩ x5).setCell ⟨N,6,none⟩ x6).setCell ⟨N,7,none⟩ x7).setCell ⟨N,8,none⟩ x8).setCell ⟨N,9,none⟩ x9).setCell ⟨N,10,none⟩ x10).setCell ⟨N,11,none⟩ x11).alloc ob).cell? ⟨a,o,none⟩=w.cell? ⟨a,o,none⟩ :=
 (World.cell?_alloc_lt _ _ _ (by simpa [World.setCell] using hl)).trans (far12 h)
/-- A post, but R at a panic. -/
def ViaP (R:List PanicEntry→World→Prop) (Q:Exit→Act→World→Prop):Exit→Act→World→Prop
 | .panic c,a,w=>a.defers=[]∧R c w
 | e,a,w=>Q e a w
theorem ViaP.normal {R:List PanicEntry→World→Prop} {Q:Exit→Act→World→Prop} {a:Act} {w:World} (h:Q .normal a w):ViaP R Q .normal a w:=h
theorem wp_region_via {P:Program} {id:Nat} {ops:Array Oper} {s:Bool} {Q:Exit→Act→World→Prop} {a:Act} {w:World} (R:List PanicEntry→World→Prop) (hR:∀ c a w,a.defers=[]→R c w→Q (.panic c) a w) (h:(Code.region id ops s).wp P (ViaP R Q) a w):(Code.region id ops s).wp P Q a w :=
 Code.wp_mono (fun e a w h=>by cases e <;> first | exact hR _ _ _ h.1 h.2 | exact h) h
theorem TermV.succ:∀ (d:Nat) (x:TermT) (v:Value) (lo hi:Nat) (w:World),TermV d x v lo hi w→TermV (d+1) x v lo hi w
 | 0,_,_,_,_,_,h=>h.elim
 | d+1,⟨_,_,_,_⟩,_,_,_,_,⟨va,hv,h1⟩=>⟨va,hv,h1.imp (TermV.succ d)⟩
theorem TermV.kind3 {d:Nat} {x:TermT} (hx:x.kind=3) {v:Value} {lo hi:Nat} {w:World} (h:TermV d x v lo hi w):∃ z2 z3 z4 z5 z6,v=.agg #[.int .i64 3,.string z2,.int .i64 z3,.slice z4 z5 z6]:=by
 match d,x,h with
 | d+1,.mk k s z l,⟨va,hv,ha⟩ =>
  obtain ⟨s1,s2,s3,rfl⟩:=ha.slice
  have hk:k=3:=hx
  subst hk
  exact ⟨_,_,_,_,_,hv⟩
theorem TermV.kindn {d:Nat} {x:TermT} (hx:¬ x.kind=3) {v:Value} {lo hi:Nat} {w:World} (h:TermV d x v lo hi w):∃ z1 z2 z3 z4 z5 z6,(z1 != 3)=true∧v=.agg #[.int .i64 z1,.string z2,.int .i64 z3,.slice z4 z5 z6]:=by
 match d,x,h with
 | d+1,.mk k s z l,⟨va,hv,ha⟩ =>
  obtain ⟨s1,s2,s3,rfl⟩:=ha.slice
  have hk:¬ k=3:=hx
  exact ⟨_,_,_,_,_,_,by simpa using hk,hv⟩
theorem TermV.parts {d:Nat} {x:TermT} {a0 a2 va:Value} {z:ByteArray} {lo hi:Nat} {w:World} (h:TermV (d+1) x (.agg #[a0,.string z,a2,va]) lo hi w):z=bs x.name∧ArgsV 28 4 (TermV d) x.args va lo hi w:=by
 match x,h with
 | .mk k s z2 l,⟨va2,hv,ha⟩ =>
  simp only [Value.agg.injEq,Array.mk.injEq,List.cons.injEq,and_true,Value.string.injEq] at hv
  obtain ⟨_,rfl,_,rfl⟩:=hv
  exact ⟨rfl,ha⟩
theorem GoalV.up {d d':Nat} (h:d≤d') {x:GoalT} {v:Value} {lo hi:Nat} {w:World} (hv:GoalV d x v lo hi w):GoalV d' x v lo hi w:=by
 induction h with
 | refl=>exact hv
 | step _ ih=>exact GoalV.succ _ _ _ _ _ _ ih
end Lx
end Go.Proofs.YtiljemkglhloeaaGreatDoor
namespace Go.Proofs.YtiljemkglhloeaaGreatDoor
set_option linter.unusedSimpArgs false
set_option linter.unusedVariables false
namespace Lx
open Go Go.RowKit
set_option maxRecDepth 100000 in
set_option maxHeartbeats 4000000 in
theorem guarded_any (b:Nat) (A:Option Addr) (c:Nat) (ts:List Tok) (ne:Int) (f:Nat→Addr) (d:Nat) (rd:Nat→Out GoalT) (hrd:Fwd ts rd)
  (HR:Hid (∀ w k,Par w b A c ts k ne→PErrs w b f→k≤ts.length→Calls Tryz.prog 184 #[.pointer (some ⟨b,0,none⟩)] w fun e w'=>EndsV b A c ts ne f (GoalV d) w (rd k) e w'))
  (w:World) (k:Nat) (h:Par w b A c ts k ne) (hE:PErrs w b f) (hk:k≤ts.length) :
  Calls Tryz.prog 192 #[.pointer (some ⟨b,0,none⟩)] w fun e w'=>EndsV b A c ts ne f (GoalV (d+1)) w (guardO rd ts k) e w':=by
 have HP:=Lib.hid h
 have HE:=Lib.hid hE
 have hfw:=h.few
 have hbw:=h.lt
 clear h hE
 unfold guardO
 have HQ1:=Lib.hid (fun w h hE=>HR.out w k h hE hk)
 cases q1:rd k with
 | no i =>
  rw [q1] at HQ1
  go_enter Tryz.func192,Tryz.ntmps192
  go_wp2_with fail
  go_at_call 184
  refine (HQ1.out _ (HP.out.alloc _) (HE.out.move ((PFr.refl b w).alloc _))).mono ?_
  rintro e w1 ⟨rfl,h2,h3⟩
  go_wp2_with fail
  exact ⟨rfl,rfl,h2,((PFr.refl b w).alloc _).trans h3⟩
 | ok gA k1 =>
  rw [q1] at HQ1
  have hk1:=hrd _ _ _ q1
  have HX2:=Lib.hid (fun w h hE=>expect_any w b A c ts k1 ne f ⟨#[99,97,116,99,104]⟩ h (by omega) hE)
  rw [expO_eq,show (ByteArray.mk #[99,97,116,99,104]).data.toList=[99,97,116,99,104] from rfl] at HX2
  show Calls _ _ _ _ fun e w'=>EndsV b A c ts ne f (GoalV (d+1)) w (match expO ts k1 [99,97,116,99,104] with | .no i=>.no i | .ok _ k2=>match varO ts k2 with | .no i=>.no i | .ok s k3=>match expO ts k3 [116,104,101,110] with | .no i=>.no i | .ok _ k4=>match rd k4 with | .no i=>.no i | .ok g2 k5=>.ok (.mk 9 zeroT zeroT s [] [gA,g2]) k5) e w'
  clear q1
  cases q2:expO ts k1 [99,97,116,99,104] with
  | no i =>
   rw [q2] at HX2
   go_enter Tryz.func192,Tryz.ntmps192
   go_wp2_with fail
   go_at_call 184
   refine (HQ1.out _ (HP.out.alloc _) (HE.out.move ((PFr.refl b w).alloc _))).mono ?_
   rintro e w1 ⟨v1,rfl,hv1,hp1,hf1⟩
   obtain ⟨z1,z2,z3,z4,z5,z6,z7,z8,z9,za,zb,zc,zd,ze,zf,zg,zh,zi,zj,zk,rfl⟩:=GoalV.this _ _ _ _ _ _ hv1
   have HV1:=Lib.hid hv1
   clear hv1
   go_wp2_with fail
   go_at_call 96
   refine (HX2.out _ (hp1.alloc _) ((HE.out.move ((PFr.refl b w).alloc _)).move (hf1.alloc _))).mono ?_
   rintro e w2 ⟨rfl,h2,h3⟩
   go_wp2_with fail
   exact ⟨rfl,rfl,h2,((PFr.refl b w).alloc _).trans ((hf1.alloc _).trans h3)⟩
  | ok uA k2 =>
   rw [q2] at HX2
   have hk2:=expO_fwd (ts:=ts) (s:=[99,97,116,99,104]) (by decide) _ _ _ q2
   have HX3:=Lib.hid (fun w h hE=>variable_any w b A c ts k2 ne f h (by omega) hE)
   show Calls _ _ _ _ fun e w'=>EndsV b A c ts ne f (GoalV (d+1)) w (match varO ts k2 with | .no i=>.no i | .ok s k3=>match expO ts k3 [116,104,101,110] with | .no i=>.no i | .ok _ k4=>match rd k4 with | .no i=>.no i | .ok g2 k5=>.ok (.mk 9 zeroT zeroT s [] [gA,g2]) k5) e w'
   clear q2
   cases q3:varO ts k2 with
   | no i =>
    rw [q3] at HX3
    go_enter Tryz.func192,Tryz.ntmps192
    go_wp2_with fail
    go_at_call 184
    refine (HQ1.out _ (HP.out.alloc _) (HE.out.move ((PFr.refl b w).alloc _))).mono ?_
    rintro e w1 ⟨v1,rfl,hv1,hp1,hf1⟩
    obtain ⟨z1,z2,z3,z4,z5,z6,z7,z8,z9,za,zb,zc,zd,ze,zf,zg,zh,zi,zj,zk,rfl⟩:=GoalV.this _ _ _ _ _ _ hv1
    have HV1:=Lib.hid hv1
    clear hv1
    go_wp2_with fail
    go_at_call 96
    refine (HX2.out _ (hp1.alloc _) ((HE.out.move ((PFr.refl b w).alloc _)).move (hf1.alloc _))).mono ?_
    rintro e w2 ⟨v2,rfl,rfl,hp2,hf2⟩
    go_wp2_with fail
    go_at_call 142
    refine (HX3.out _ hp2 ((HE.out.move ((PFr.refl b w).alloc _)).move ((hf1.alloc _).trans hf2))).mono ?_
    rintro e w3 ⟨rfl,h2,h3⟩
    go_wp2_with fail
    exact ⟨rfl,rfl,h2,((PFr.refl b w).alloc _).trans ((hf1.alloc _).trans (hf2.trans h3))⟩
   | ok s k3 =>
    rw [q3] at HX3
    have hk3:=varO_fwd ts _ _ _ q3
    have HX4:=Lib.hid (fun w h hE=>expect_any w b A c ts k3 ne f ⟨#[116,104,101,110]⟩ h (by omega) hE)
    rw [expO_eq,show (ByteArray.mk #[116,104,101,110]).data.toList=[116,104,101,110] from rfl] at HX4
    show Calls _ _ _ _ fun e w'=>EndsV b A c ts ne f (GoalV (d+1)) w (match expO ts k3 [116,104,101,110] with | .no i=>.no i | .ok _ k4=>match rd k4 with | .no i=>.no i | .ok g2 k5=>.ok (.mk 9 zeroT zeroT s [] [gA,g2]) k5) e w'
    clear q3
    cases q4:expO ts k3 [116,104,101,110] with
    | no i =>
     rw [q4] at HX4
     go_enter Tryz.func192,Tryz.ntmps192
     go_wp2_with fail
     go_at_call 184
     refine (HQ1.out _ (HP.out.alloc _) (HE.out.move ((PFr.refl b w).alloc _))).mono ?_
     rintro e w1 ⟨v1,rfl,hv1,hp1,hf1⟩
     obtain ⟨z1,z2,z3,z4,z5,z6,z7,z8,z9,za,zb,zc,zd,ze,zf,zg,zh,zi,zj,zk,rfl⟩:=GoalV.this _ _ _ _ _ _ hv1
     have HV1:=Lib.hid hv1
     clear hv1
     go_wp2_with fail
     go_at_call 96
     refine (HX2.out _ (hp1.alloc _) ((HE.out.move ((PFr.refl b w).alloc _)).move (hf1.alloc _))).mono ?_
     rintro e w2 ⟨v2,rfl,rfl,hp2,hf2⟩
     go_wp2_with fail
     go_at_call 142
     refine (HX3.out _ hp2 ((HE.out.move ((PFr.refl b w).alloc _)).move ((hf1.alloc _).trans hf2))).mono ?_
     rintro e w3 ⟨v3,rfl,rfl,hp3,hf3⟩
     go_wp2_with fail
     go_at_call 96
     refine (HX4.out _ hp3 ((HE.out.move ((PFr.refl b w).alloc _)).move ((hf1.alloc _).trans (hf2.trans hf3)))).mono ?_
     rintro e w4 ⟨rfl,h2,h3⟩
     go_wp2_with fail
     exact ⟨rfl,rfl,h2,((PFr.refl b w).alloc _).trans ((hf1.alloc _).trans (hf2.trans (hf3.trans h3)))⟩
    | ok uB k4 =>
     rw [q4] at HX4
     have hk4:=expO_fwd (ts:=ts) (s:=[116,104,101,110]) (by decide) _ _ _ q4
     have HQ5:=Lib.hid (fun w h hE=>HR.out w k4 h hE (by omega))
     show Calls _ _ _ _ fun e w'=>EndsV b A c ts ne f (GoalV (d+1)) w (match rd k4 with | .no i=>.no i | .ok g2 k5=>.ok (.mk 9 zeroT zeroT s [] [gA,g2]) k5) e w'
     clear q4
     cases q5:rd k4 with
     | no i =>
      rw [q5] at HQ5
      go_enter Tryz.func192,Tryz.ntmps192
      go_wp2_with fail
      go_at_call 184
      refine (HQ1.out _ (HP.out.alloc _) (HE.out.move ((PFr.refl b w).alloc _))).mono ?_
      rintro e w1 ⟨v1,rfl,hv1,hp1,hf1⟩
      obtain ⟨z1,z2,z3,z4,z5,z6,z7,z8,z9,za,zb,zc,zd,ze,zf,zg,zh,zi,zj,zk,rfl⟩:=GoalV.this _ _ _ _ _ _ hv1
      have HV1:=Lib.hid hv1
      clear hv1
      go_wp2_with fail
      go_at_call 96
      refine (HX2.out _ (hp1.alloc _) ((HE.out.move ((PFr.refl b w).alloc _)).move (hf1.alloc _))).mono ?_
      rintro e w2 ⟨v2,rfl,rfl,hp2,hf2⟩
      go_wp2_with fail
      go_at_call 142
      refine (HX3.out _ hp2 ((HE.out.move ((PFr.refl b w).alloc _)).move ((hf1.alloc _).trans hf2))).mono ?_
      rintro e w3 ⟨v3,rfl,rfl,hp3,hf3⟩
      go_wp2_with fail
      go_at_call 96
      refine (HX4.out _ hp3 ((HE.out.move ((PFr.refl b w).alloc _)).move ((hf1.alloc _).trans (hf2.trans hf3)))).mono ?_
      rintro e w4 ⟨v4,rfl,rfl,hp4,hf4⟩
      have hgb:=((hf2.trans (hf3.trans hf4)).block w1.heap.size (by simp) (by have:=hf1.size;simp at this;omega)).trans (heap_alloc_new w1 _)
      have ew40:=(Lib.cell_of_heap hgb 0).trans rfl
      have ew41:=(Lib.cell_of_heap hgb 1).trans rfl
      have ew42:=(Lib.cell_of_heap hgb 2).trans rfl
      have ew43:=(Lib.cell_of_heap hgb 3).trans rfl
      have ew44:=(Lib.cell_of_heap hgb 4).trans rfl
      have ew45:=(Lib.cell_of_heap hgb 5).trans rfl
      have ew46:=(Lib.cell_of_heap hgb 6).trans rfl
      have ew47:=(Lib.cell_of_heap hgb 7).trans rfl
      have ew48:=(Lib.cell_of_heap hgb 8).trans rfl
      have ew49:=(Lib.cell_of_heap hgb 9).trans rfl
      have ew410:=(Lib.cell_of_heap hgb 10).trans rfl
      have ew411:=(Lib.cell_of_heap hgb 11).trans rfl
      have hsw4:w1.heap.size < w4.heap.size:=(Array.getElem?_eq_some_iff.1 hgb).1
      clear hgb
      go_wp2_with fail
      refine wp_region_held_drew (S:=(fun W=>W.cell? ⟨w1.heap.size,0,none⟩=some (.int .i64 z1)∧W.cell? ⟨w1.heap.size,1,none⟩=some (.int .i64 z2)∧W.cell? ⟨w1.heap.size,2,none⟩=some (.string z3)∧W.cell? ⟨w1.heap.size,3,none⟩=some (.int .i64 z4)∧W.cell? ⟨w1.heap.size,4,none⟩=some (.slice z5 z6 z7)∧W.cell? ⟨w1.heap.size,5,none⟩=some (.int .i64 z8)∧W.cell? ⟨w1.heap.size,6,none⟩=some (.string z9)∧W.cell? ⟨w1.heap.size,7,none⟩=some (.int .i64 za)∧W.cell? ⟨w1.heap.size,8,none⟩=some (.slice zb zc zd)∧W.cell? ⟨w1.heap.size,9,none⟩=some (.string ze)∧W.cell? ⟨w1.heap.size,10,none⟩=some (.slice zf zg zh)∧W.cell? ⟨w1.heap.size,11,none⟩=some (.slice zi zj zk))) (by kernel_rfl) ⟨ew40,ew41,ew42,ew43,ew44,ew45,ew46,ew47,ew48,ew49,ew410,ew411⟩ (fun hHeld=>?_)
      refine wpAnyH_take (i:=0) (v:=(.string (bs s))) rfl (by kernel_rfl) (by kernel_rfl) (by kernel_rfl) (fun _ _ _ h=>h) (Or.inl ⟨by rfl,?_⟩) hHeld ?_
      ·(intro w hSw;go_simp)
      try simp only [Act.put,List.setIfInBounds_toArray,List.set_cons_zero,List.set_cons_succ]
      refine wpAnyH_take (i:=1) (v:=(.agg #[.int .i64 z1,.int .i64 z2,.string z3,.int .i64 z4,.slice z5 z6 z7,.int .i64 z8,.string z9,.int .i64 za,.slice zb zc zd,.string ze,.slice zf zg zh,.slice zi zj zk])) rfl (by kernel_rfl) (by kernel_rfl) (by kernel_rfl) (fun _ _ _ h=>h) (Or.inl ⟨by rfl,?_⟩) hHeld ?_
      ·(intro w hSw;(try dsimp only at hSw);go_simp)
      try simp only [Act.put,List.setIfInBounds_toArray,List.set_cons_zero,List.set_cons_succ]
      refine wpAnyH_take (i:=2) (v:=(.pointer (some ⟨b,0,none⟩))) rfl (by kernel_rfl) (by kernel_rfl) (by kernel_rfl) (fun _ _ _ h=>h) (Or.inl ⟨by rfl,?_⟩) hHeld ?_
      ·(intro w hSw;go_simp)
      try simp only [Act.put,List.setIfInBounds_toArray,List.set_cons_zero,List.set_cons_succ]
      refine wpAnyH_ready (rs:=[3]) (by kernel_rfl) (by simp) ?_
      refine AllReadyH.cons rfl (fun K hK=>?_) AllReadyH.nil
      go_simp
      go_at_call 184
      refine (HQ5.out _ (hp4.drewN 1) ((HE.out.move ((PFr.refl b w).alloc _)).move ((hf1.alloc _).trans (hf2.trans (hf3.trans (hf4.drewN 1)))))).mono ?_
      rintro e w5 ⟨rfl,h2,h3⟩
      exact ⟨rfl,rfl,h2,((PFr.refl b w).alloc _).trans ((hf1.alloc _).trans (hf2.trans (hf3.trans ((hf4.drewN 1).trans h3))))⟩
     | ok gB k5 =>
      rw [q5] at HQ5
      go_enter Tryz.func192,Tryz.ntmps192
      go_wp2_with fail
      go_at_call 184
      refine (HQ1.out _ (HP.out.alloc _) (HE.out.move ((PFr.refl b w).alloc _))).mono ?_
      rintro e w1 ⟨v1,rfl,hv1,hp1,hf1⟩
      obtain ⟨z1,z2,z3,z4,z5,z6,z7,z8,z9,za,zb,zc,zd,ze,zf,zg,zh,zi,zj,zk,rfl⟩:=GoalV.this _ _ _ _ _ _ hv1
      have HV1:=Lib.hid hv1
      clear hv1
      go_wp2_with fail
      go_at_call 96
      refine (HX2.out _ (hp1.alloc _) ((HE.out.move ((PFr.refl b w).alloc _)).move (hf1.alloc _))).mono ?_
      rintro e w2 ⟨v2,rfl,rfl,hp2,hf2⟩
      go_wp2_with fail
      go_at_call 142
      refine (HX3.out _ hp2 ((HE.out.move ((PFr.refl b w).alloc _)).move ((hf1.alloc _).trans hf2))).mono ?_
      rintro e w3 ⟨v3,rfl,rfl,hp3,hf3⟩
      go_wp2_with fail
      go_at_call 96
      refine (HX4.out _ hp3 ((HE.out.move ((PFr.refl b w).alloc _)).move ((hf1.alloc _).trans (hf2.trans hf3)))).mono ?_
      rintro e w4 ⟨v4,rfl,rfl,hp4,hf4⟩
      have hgb:=((hf2.trans (hf3.trans hf4)).block w1.heap.size (by simp) (by have:=hf1.size;simp at this;omega)).trans (heap_alloc_new w1 _)
      have ew40:=(Lib.cell_of_heap hgb 0).trans rfl
      have ew41:=(Lib.cell_of_heap hgb 1).trans rfl
      have ew42:=(Lib.cell_of_heap hgb 2).trans rfl
      have ew43:=(Lib.cell_of_heap hgb 3).trans rfl
      have ew44:=(Lib.cell_of_heap hgb 4).trans rfl
      have ew45:=(Lib.cell_of_heap hgb 5).trans rfl
      have ew46:=(Lib.cell_of_heap hgb 6).trans rfl
      have ew47:=(Lib.cell_of_heap hgb 7).trans rfl
      have ew48:=(Lib.cell_of_heap hgb 8).trans rfl
      have ew49:=(Lib.cell_of_heap hgb 9).trans rfl
      have ew410:=(Lib.cell_of_heap hgb 10).trans rfl
      have ew411:=(Lib.cell_of_heap hgb 11).trans rfl
      have hsw4:w1.heap.size < w4.heap.size:=(Array.getElem?_eq_some_iff.1 hgb).1
      clear hgb
      have hsn:w.heap.size < w1.heap.size:=(by have:=hf1.size;simp at this;omega)
      have hsn1:¬ w.heap.size=w1.heap.size:=Nat.ne_of_lt hsn
      have hsn2:¬ w1.heap.size=w.heap.size:=Nat.ne_of_gt hsn
      go_wp2_with fail
      refine wp_region_held_drew (S:=(fun W=>W.cell? ⟨w1.heap.size,0,none⟩=some (.int .i64 z1)∧W.cell? ⟨w1.heap.size,1,none⟩=some (.int .i64 z2)∧W.cell? ⟨w1.heap.size,2,none⟩=some (.string z3)∧W.cell? ⟨w1.heap.size,3,none⟩=some (.int .i64 z4)∧W.cell? ⟨w1.heap.size,4,none⟩=some (.slice z5 z6 z7)∧W.cell? ⟨w1.heap.size,5,none⟩=some (.int .i64 z8)∧W.cell? ⟨w1.heap.size,6,none⟩=some (.string z9)∧W.cell? ⟨w1.heap.size,7,none⟩=some (.int .i64 za)∧W.cell? ⟨w1.heap.size,8,none⟩=some (.slice zb zc zd)∧W.cell? ⟨w1.heap.size,9,none⟩=some (.string ze)∧W.cell? ⟨w1.heap.size,10,none⟩=some (.slice zf zg zh)∧W.cell? ⟨w1.heap.size,11,none⟩=some (.slice zi zj zk))) (by kernel_rfl) ⟨ew40,ew41,ew42,ew43,ew44,ew45,ew46,ew47,ew48,ew49,ew410,ew411⟩ (fun hHeld=>?_)
      refine wpAnyH_take (i:=0) (v:=(.string (bs s))) rfl (by kernel_rfl) (by kernel_rfl) (by kernel_rfl) (fun _ _ _ h=>h) (Or.inl ⟨by rfl,?_⟩) hHeld ?_
      ·(intro w hSw;go_simp)
      try simp only [Act.put,List.setIfInBounds_toArray,List.set_cons_zero,List.set_cons_succ]
      refine wpAnyH_take (i:=1) (v:=(.agg #[.int .i64 z1,.int .i64 z2,.string z3,.int .i64 z4,.slice z5 z6 z7,.int .i64 z8,.string z9,.int .i64 za,.slice zb zc zd,.string ze,.slice zf zg zh,.slice zi zj zk])) rfl (by kernel_rfl) (by kernel_rfl) (by kernel_rfl) (fun _ _ _ h=>h) (Or.inl ⟨by rfl,?_⟩) hHeld ?_
      ·(intro w hSw;(try dsimp only at hSw);go_simp)
      try simp only [Act.put,List.setIfInBounds_toArray,List.set_cons_zero,List.set_cons_succ]
      refine wpAnyH_take (i:=2) (v:=(.pointer (some ⟨b,0,none⟩))) rfl (by kernel_rfl) (by kernel_rfl) (by kernel_rfl) (fun _ _ _ h=>h) (Or.inl ⟨by rfl,?_⟩) hHeld ?_
      ·(intro w hSw;go_simp)
      try simp only [Act.put,List.setIfInBounds_toArray,List.set_cons_zero,List.set_cons_succ]
      refine wpAnyH_ready (rs:=[3]) (by kernel_rfl) (by simp) ?_
      refine AllReadyH.cons rfl (fun K hK=>?_) AllReadyH.nil
      go_simp
      go_at_call 184
      refine (HQ5.out _ (hp4.drewN 1) ((HE.out.move ((PFr.refl b w).alloc _)).move ((hf1.alloc _).trans (hf2.trans (hf3.trans (hf4.drewN 1)))))).mono ?_
      rintro e w5 ⟨v5,rfl,hv5,hp5,hf5⟩
      obtain ⟨r1,r2,r3,r4,r5,r6,r7,r8,r9,r10,r11,r12,r13,r14,r15,r16,r17,r18,r19,r20,rfl⟩:=GoalV.this _ _ _ _ _ _ hv5
      have HV5:=Lib.hid hv5
      clear hv5
      have hgb:=((hf2.trans (hf3.trans ((hf4.drewN 1).trans hf5))).block w1.heap.size (by simp) (by have:=hf1.size;simp at this;omega)).trans (heap_alloc_new w1 _)
      have ew50:=(Lib.cell_of_heap hgb 0).trans rfl
      have ew51:=(Lib.cell_of_heap hgb 1).trans rfl
      have ew52:=(Lib.cell_of_heap hgb 2).trans rfl
      have ew53:=(Lib.cell_of_heap hgb 3).trans rfl
      have ew54:=(Lib.cell_of_heap hgb 4).trans rfl
      have ew55:=(Lib.cell_of_heap hgb 5).trans rfl
      have ew56:=(Lib.cell_of_heap hgb 6).trans rfl
      have ew57:=(Lib.cell_of_heap hgb 7).trans rfl
      have ew58:=(Lib.cell_of_heap hgb 8).trans rfl
      have ew59:=(Lib.cell_of_heap hgb 9).trans rfl
      have ew510:=(Lib.cell_of_heap hgb 10).trans rfl
      have ew511:=(Lib.cell_of_heap hgb 11).trans rfl
      have hsw5:w1.heap.size < w5.heap.size:=(Array.getElem?_eq_some_iff.1 hgb).1
      clear hgb
      have hb:=boxG ((hf1.alloc _).trans (hf2.trans (hf3.trans ((hf4.drewN 1).trans hf5)))) hbw (heap_alloc_new w _)
      have d0:=(Lib.cell_of_heap hb 0).trans rfl
      have g0:=Lib.frozen_of_heap hb 0
      have d1:=(Lib.cell_of_heap hb 1).trans rfl
      have g1:=Lib.frozen_of_heap hb 1
      have d2:=(Lib.cell_of_heap hb 2).trans rfl
      have g2:=Lib.frozen_of_heap hb 2
      have d3:=(Lib.cell_of_heap hb 3).trans rfl
      have g3:=Lib.frozen_of_heap hb 3
      have d4:=(Lib.cell_of_heap hb 4).trans rfl
      have g4:=Lib.frozen_of_heap hb 4
      have d5:=(Lib.cell_of_heap hb 5).trans rfl
      have g5:=Lib.frozen_of_heap hb 5
      have d6:=(Lib.cell_of_heap hb 6).trans rfl
      have g6:=Lib.frozen_of_heap hb 6
      have d7:=(Lib.cell_of_heap hb 7).trans rfl
      have g7:=Lib.frozen_of_heap hb 7
      have d8:=(Lib.cell_of_heap hb 8).trans rfl
      have g8:=Lib.frozen_of_heap hb 8
      have d9:=(Lib.cell_of_heap hb 9).trans rfl
      have g9:=Lib.frozen_of_heap hb 9
      have d10:=(Lib.cell_of_heap hb 10).trans rfl
      have g10:=Lib.frozen_of_heap hb 10
      have d11:=(Lib.cell_of_heap hb 11).trans rfl
      have g11:=Lib.frozen_of_heap hb 11
      have hsz:w.heap.size < w5.heap.size:=(Array.getElem?_eq_some_iff.1 hb).1
      have HB:=Lib.hid hb
      clear hb
      refine hK.out _ _ ⟨ew50,ew51,ew52,ew53,ew54,ew55,ew56,ew57,ew58,ew59,ew510,ew511⟩ (fun hHeld=>?_)
      clear hK K
      try simp only [Act.put,List.setIfInBounds_toArray,List.set_cons_zero,List.set_cons_succ]
      refine wpAnyH_ready (rs:=[4]) (by kernel_rfl) (by simp) ?_
      refine AllReadyH.cons rfl (fun K hK=>?_) AllReadyH.nil
      go_simp
      refine hK.out _ _ ⟨(World.cell?_alloc_lt _ _ _ hsw5).trans ew50,(World.cell?_alloc_lt _ _ _ hsw5).trans ew51,(World.cell?_alloc_lt _ _ _ hsw5).trans ew52,(World.cell?_alloc_lt _ _ _ hsw5).trans ew53,(World.cell?_alloc_lt _ _ _ hsw5).trans ew54,(World.cell?_alloc_lt _ _ _ hsw5).trans ew55,(World.cell?_alloc_lt _ _ _ hsw5).trans ew56,(World.cell?_alloc_lt _ _ _ hsw5).trans ew57,(World.cell?_alloc_lt _ _ _ hsw5).trans ew58,(World.cell?_alloc_lt _ _ _ hsw5).trans ew59,(World.cell?_alloc_lt _ _ _ hsw5).trans ew510,(World.cell?_alloc_lt _ _ _ hsw5).trans ew511⟩ (fun hHeld=>?_)
      clear hK K
      try simp only [Act.put,List.setIfInBounds_toArray,List.set_cons_zero,List.set_cons_succ]
      refine wpAnyH_take (i:=5) (v:=.agg #[.int .i64 9,.int .i64 0,.string ⟨#[]⟩,.int .i64 0,.slice none 0 0,.int .i64 0,.string ⟨#[]⟩,.int .i64 0,.slice none 0 0,.string (bs s),.slice none 0 0,.slice (some ⟨w5.heap.size,0,none⟩) 2 2]) rfl (by kernel_rfl) (by kernel_rfl) (by kernel_rfl) (fun _ _ _ h=>h) (Or.inl ⟨by rfl,?_⟩) hHeld ?_
      ·(intro w hSw;go_simp)
      try simp only [Act.put,List.setIfInBounds_toArray,List.set_cons_zero,List.set_cons_succ]
      refine wpAnyH_ready (rs:=[6]) (by kernel_rfl) (by simp) ?_
      refine AllReadyH.cons rfl (fun K hK=>?_) AllReadyH.nil
      go_simp
      refine hK.out _ _ ⟨(farA12 hsn2 hsw5).trans ew50,(farA12 hsn2 hsw5).trans ew51,(farA12 hsn2 hsw5).trans ew52,(farA12 hsn2 hsw5).trans ew53,(farA12 hsn2 hsw5).trans ew54,(farA12 hsn2 hsw5).trans ew55,(farA12 hsn2 hsw5).trans ew56,(farA12 hsn2 hsw5).trans ew57,(farA12 hsn2 hsw5).trans ew58,(farA12 hsn2 hsw5).trans ew59,(farA12 hsn2 hsw5).trans ew510,(farA12 hsn2 hsw5).trans ew511⟩ (fun hHeld=>?_)
      clear hK K
      refine wpAnyH_done (by kernel_rfl) ?_ _
      go_wp2
      have hsw1:w.heap.size < w1.heap.size:=(by have:=hf1.size;simp at this;omega)
      have hs45:w4.heap.size≤w5.heap.size:=hf5.size
      have hs14:w1.heap.size < w4.heap.size:=hsw4
      obtain ⟨t1,t2,t3,t4,t5⟩:=put12 HP.out ((hf1.alloc _).trans (hf2.trans (hf3.trans ((hf4.drewN 1).trans hf5)))) hp5 HB.out (.int .i64 9) (.int .i64 0) (.string ⟨#[]⟩) (.int .i64 0) (.slice none 0 0) (.int .i64 0) (.string ⟨#[]⟩) (.int .i64 0) (.slice none 0 0) (.string (bs s)) (.slice none 0 0) (.slice (some ⟨w5.heap.size,0,none⟩) 2 2)
      have t6:=(Below.heap_alloc _ (.cells #[.int .i64 z1,.int .i64 z2,.string z3,.int .i64 z4,.slice z5 z6 z7,.int .i64 z8,.string z9,.int .i64 za,.slice zb zc zd,.string ze,.slice zf zg zh,.slice zi zj zk,.int .i64 r1,.int .i64 r2,.string r3,.int .i64 r4,.slice r5 r6 r7,.int .i64 r8,.string r9,.int .i64 r10,.slice r11 r12 r13,.string r14,.slice r15 r16 r17,.slice r18 r19 r20] 31) _ (by rw [t5];exact hsz)).trans t1
      have y0:=(Lib.cell_of_heap t6 0).trans rfl
      have y1:=(Lib.cell_of_heap t6 1).trans rfl
      have y2:=(Lib.cell_of_heap t6 2).trans rfl
      have y3:=(Lib.cell_of_heap t6 3).trans rfl
      have y4:=(Lib.cell_of_heap t6 4).trans rfl
      have y5:=(Lib.cell_of_heap t6 5).trans rfl
      have y6:=(Lib.cell_of_heap t6 6).trans rfl
      have y7:=(Lib.cell_of_heap t6 7).trans rfl
      have y8:=(Lib.cell_of_heap t6 8).trans rfl
      have y9:=(Lib.cell_of_heap t6 9).trans rfl
      have y10:=(Lib.cell_of_heap t6 10).trans rfl
      have y11:=(Lib.cell_of_heap t6 11).trans rfl
      refine bodyPost_ret (v:=.agg #[.int .i64 9,.int .i64 0,.string ⟨#[]⟩,.int .i64 0,.slice none 0 0,.int .i64 0,.string ⟨#[]⟩,.int .i64 0,.slice none 0 0,.string (bs s),.slice none 0 0,.slice (some ⟨w5.heap.size,0,none⟩) 2 2]) (by simp [results,Tryz.results192,go_sem,y0,y1,y2,y3,y4,y5,y6,y7,y8,y9,y10,y11]) rfl ⟨_,rfl,?_,t2.alloc _,t3.alloc _⟩
      refine ⟨_,_,_,_,_,_,_,_,_,_,rfl,zeroT_holds _ _ _,zeroT_holds _ _ _,.inl ⟨rfl,rfl⟩,.inr ?_⟩
      refine (rowLit (l:=[gA,gB]) (vs:=[.agg #[.int .i64 z1,.int .i64 z2,.string z3,.int .i64 z4,.slice z5 z6 z7,.int .i64 z8,.string z9,.int .i64 za,.slice zb zc zd,.string ze,.slice zf zg zh,.slice zi zj zk],.agg #[.int .i64 r1,.int .i64 r2,.string r3,.int .i64 r4,.slice r5 r6 r7,.int .i64 r8,.string r9,.int .i64 r10,.slice r11 r12 r13,.string r14,.slice r15 r16 r17,.slice r18 r19 r20]]) (lo:=w.heap.size+1) t5 (by omega) rfl rfl (show 2≤maxLen by decide) ⟨⟨w.heap.size+1,w1.heap.size,Nat.le_refl _,by omega,by omega,?_⟩,⟨w4.heap.size,w5.heap.size,by omega,Nat.le_refl _,by omega,?_⟩,trivial⟩).wide (Nat.le_succ _) (by simp [t5])
      ·refine GoalV.stable _ _ _ _ _ _ _ (GoalV.wide _ _ _ _ _ (w.heap.size+1) _ _ HV1.out (by simp) (Nat.le_refl _)) (fun j j1 j2=>?_)
       exact (Below.heap_alloc _ _ j (by rw [t5];omega)).trans ((t4 j (by omega)).trans (((hf2.trans (hf3.trans ((hf4.drewN 1).trans hf5))).block j (by simp;omega) (by omega)).trans (Below.heap_alloc w1 _ j j2)))
      ·exact GoalV.stable _ _ _ _ _ _ _ HV5.out (fun j j1 hj=>(Below.heap_alloc _ _ j (by rw [t5];exact hj)).trans (t4 j (by have:w4.heap.size≤j:=j1;omega)))
end Lx
end Go.Proofs.YtiljemkglhloeaaGreatDoor
namespace Go.Proofs.YtiljemkglhloeaaGreatDoor
set_option linter.unusedSimpArgs false
set_option linter.unusedVariables false
namespace Lx
open Go Go.RowKit
set_option maxRecDepth 100000 in
set_option maxHeartbeats 4000000 in
theorem uoc_any (b:Nat) (A:Option Addr) (c:Nat) (ts:List Tok) (f:Nat→Addr) (ne:Int) (h0:0≤ne) (h1:ne≤70000) (w:World) (k:Nat) (h:Par w b A c ts k ne) (hE:PErrs w b f) (hk:k≤ts.length) :
  Calls Tryz.prog 193 #[.pointer (some ⟨b,0,none⟩)] w fun e w'=>EndsV b A c ts ne f (GoalV 1) w (uocO (termO ts 66 ne) ts k) e w':=by
 have HP:=Lib.hid h
 have HE:=Lib.hid hE
 have hfw:=h.few
 have hbw:=h.lt
 clear h hE
 unfold uocO
 have HQ1:=Lib.hid (fun w h hE=>term_any b A c ts f 65 ne (by omega) h0 h1 w k h hE hk)
 cases q1:termO ts 66 ne k with
 | no i =>
  rw [q1] at HQ1
  go_enter Tryz.func193,Tryz.ntmps193
  go_wp2_with fail
  go_at_call 86
  refine (HQ1.out _ (HP.out.alloc _) (HE.out.move ((PFr.refl b w).alloc _))).mono ?_
  rintro e w1 ⟨rfl,h2,h3⟩
  go_wp2_with fail
  exact ⟨rfl,rfl,h2,((PFr.refl b w).alloc _).trans h3⟩
 | ok tA k1 =>
  rw [q1] at HQ1
  have hk1:=termO_fwd ts 66 ne _ _ _ q1
  have HA2:=Lib.hid (fun w h=>accept_any w b A c ts k1 ne ⟨#[61]⟩ h (by omega))
  rw [hasT_eq,show (ByteArray.mk #[61]).data.toList=[61] from rfl] at HA2
  show Calls _ _ _ _ fun e w'=>EndsV b A c ts ne f (GoalV 1) w (if hasT ts k1 [61]=true then match termO ts 66 ne (k1+1) with | .no i=>.no i | .ok u k2=>.ok (.mk 3 tA u [] [] []) k2 else if tA.kind=3 then .ok (.mk 4 zeroT zeroT tA.name tA.args []) k1 else .no 2) e w'
  clear q1
  cases q2:hasT ts k1 [61] with
  | true =>
   have hin:k1 < ts.length:=hasT_in q2 (by decide)
   rw [q2] at HA2
   simp only [if_true] at HA2 ⊢
   clear q2
   have HQ3:=Lib.hid (fun w h hE=>term_any b A c ts f 65 ne (by omega) h0 h1 w (k1+1) h hE (by omega))
   cases q3:termO ts 66 ne (k1+1) with
   | no i =>
    rw [q3] at HQ3
    go_enter Tryz.func193,Tryz.ntmps193
    go_wp2_with fail
    go_at_call 86
    refine (HQ1.out _ (HP.out.alloc _) (HE.out.move ((PFr.refl b w).alloc _))).mono ?_
    rintro e w1 ⟨v1,rfl,hv1,hp1,hf1⟩
    obtain ⟨z1,z2,z3,z4,z5,z6,rfl⟩:=TermV.shape hv1
    have HV1:=Lib.hid hv1
    clear hv1
    go_wp2_with fail
    go_at_call 123
    refine (HA2.out _ (hp1.alloc _)).mono ?_
    rintro e w2 ⟨rfl,hp2,hf2⟩
    have hgb:=(hf2.block w1.heap.size (by simp) (by have:=hf1.size;simp at this;omega)).trans (heap_alloc_new w1 _)
    have ew20:=(Lib.cell_of_heap hgb 0).trans rfl
    have ew21:=(Lib.cell_of_heap hgb 1).trans rfl
    have ew22:=(Lib.cell_of_heap hgb 2).trans rfl
    have ew23:=(Lib.cell_of_heap hgb 3).trans rfl
    have hsw2:w1.heap.size < w2.heap.size:=(Array.getElem?_eq_some_iff.1 hgb).1
    clear hgb
    go_wp2_with fail
    refine wp_region_held_drew (S:=(fun W=>W.cell? ⟨w1.heap.size,0,none⟩=some (.int .i64 z1)∧W.cell? ⟨w1.heap.size,1,none⟩=some (.string z2)∧W.cell? ⟨w1.heap.size,2,none⟩=some (.int .i64 z3)∧W.cell? ⟨w1.heap.size,3,none⟩=some (.slice z4 z5 z6))) (by kernel_rfl) ⟨ew20,ew21,ew22,ew23⟩ (fun hHeld=>?_)
    refine wpAnyH_take (i:=0) (v:=(.agg #[.int .i64 z1,.string z2,.int .i64 z3,.slice z4 z5 z6])) rfl (by kernel_rfl) (by kernel_rfl) (by kernel_rfl) (fun _ _ _ h=>h) (Or.inl ⟨by rfl,?_⟩) hHeld ?_
    ·(intro w hSw;(try dsimp only at hSw);go_simp)
    try simp only [Act.put,List.setIfInBounds_toArray,List.set_cons_zero,List.set_cons_succ]
    refine wpAnyH_take (i:=1) (v:=(.pointer (some ⟨b,0,none⟩))) rfl (by kernel_rfl) (by kernel_rfl) (by kernel_rfl) (fun _ _ _ h=>h) (Or.inl ⟨by rfl,?_⟩) hHeld ?_
    ·(intro w hSw;go_simp)
    try simp only [Act.put,List.setIfInBounds_toArray,List.set_cons_zero,List.set_cons_succ]
    refine wpAnyH_ready (rs:=[2]) (by kernel_rfl) (by simp) ?_
    refine AllReadyH.cons rfl (fun K hK=>?_) AllReadyH.nil
    go_simp
    go_at_call 86
    refine (HQ3.out _ (hp2.drewN 1) ((HE.out.move ((PFr.refl b w).alloc _)).move ((hf1.alloc _).trans (hf2.drewN 1)))).mono ?_
    rintro e w3 ⟨rfl,h2,h3⟩
    exact ⟨rfl,rfl,h2,((PFr.refl b w).alloc _).trans ((hf1.alloc _).trans ((hf2.drewN 1).trans h3))⟩
   | ok tB k2 =>
    rw [q3] at HQ3
    go_enter Tryz.func193,Tryz.ntmps193
    go_wp2_with fail
    go_at_call 86
    refine (HQ1.out _ (HP.out.alloc _) (HE.out.move ((PFr.refl b w).alloc _))).mono ?_
    rintro e w1 ⟨v1,rfl,hv1,hp1,hf1⟩
    obtain ⟨z1,z2,z3,z4,z5,z6,rfl⟩:=TermV.shape hv1
    have HV1:=Lib.hid hv1
    clear hv1
    go_wp2_with fail
    go_at_call 123
    refine (HA2.out _ (hp1.alloc _)).mono ?_
    rintro e w2 ⟨rfl,hp2,hf2⟩
    have hgb:=(hf2.block w1.heap.size (by simp) (by have:=hf1.size;simp at this;omega)).trans (heap_alloc_new w1 _)
    have ew20:=(Lib.cell_of_heap hgb 0).trans rfl
    have ew21:=(Lib.cell_of_heap hgb 1).trans rfl
    have ew22:=(Lib.cell_of_heap hgb 2).trans rfl
    have ew23:=(Lib.cell_of_heap hgb 3).trans rfl
    have hsw2:w1.heap.size < w2.heap.size:=(Array.getElem?_eq_some_iff.1 hgb).1
    clear hgb
    have hsn:w.heap.size < w1.heap.size:=(by have:=hf1.size;simp at this;omega)
    have hsn1:¬ w.heap.size=w1.heap.size:=Nat.ne_of_lt hsn
    have hsn2:¬ w1.heap.size=w.heap.size:=Nat.ne_of_gt hsn
    go_wp2_with fail
    refine wp_region_held_drew (S:=(fun W=>W.cell? ⟨w1.heap.size,0,none⟩=some (.int .i64 z1)∧W.cell? ⟨w1.heap.size,1,none⟩=some (.string z2)∧W.cell? ⟨w1.heap.size,2,none⟩=some (.int .i64 z3)∧W.cell? ⟨w1.heap.size,3,none⟩=some (.slice z4 z5 z6))) (by kernel_rfl) ⟨ew20,ew21,ew22,ew23⟩ (fun hHeld=>?_)
    refine wpAnyH_take (i:=0) (v:=(.agg #[.int .i64 z1,.string z2,.int .i64 z3,.slice z4 z5 z6])) rfl (by kernel_rfl) (by kernel_rfl) (by kernel_rfl) (fun _ _ _ h=>h) (Or.inl ⟨by rfl,?_⟩) hHeld ?_
    ·(intro w hSw;(try dsimp only at hSw);go_simp)
    try simp only [Act.put,List.setIfInBounds_toArray,List.set_cons_zero,List.set_cons_succ]
    refine wpAnyH_take (i:=1) (v:=(.pointer (some ⟨b,0,none⟩))) rfl (by kernel_rfl) (by kernel_rfl) (by kernel_rfl) (fun _ _ _ h=>h) (Or.inl ⟨by rfl,?_⟩) hHeld ?_
    ·(intro w hSw;go_simp)
    try simp only [Act.put,List.setIfInBounds_toArray,List.set_cons_zero,List.set_cons_succ]
    refine wpAnyH_ready (rs:=[2]) (by kernel_rfl) (by simp) ?_
    refine AllReadyH.cons rfl (fun K hK=>?_) AllReadyH.nil
    go_simp
    go_at_call 86
    refine (HQ3.out _ (hp2.drewN 1) ((HE.out.move ((PFr.refl b w).alloc _)).move ((hf1.alloc _).trans (hf2.drewN 1)))).mono ?_
    rintro e w3 ⟨v3,rfl,hv3,hp3,hf3⟩
    obtain ⟨r1,r2,r3,r4,r5,r6,rfl⟩:=TermV.shape hv3
    have HV3:=Lib.hid hv3
    clear hv3
    have hgb:=(((hf2.drewN 1).trans hf3).block w1.heap.size (by simp) (by have:=hf1.size;simp at this;omega)).trans (heap_alloc_new w1 _)
    have ew30:=(Lib.cell_of_heap hgb 0).trans rfl
    have ew31:=(Lib.cell_of_heap hgb 1).trans rfl
    have ew32:=(Lib.cell_of_heap hgb 2).trans rfl
    have ew33:=(Lib.cell_of_heap hgb 3).trans rfl
    have hsw3:w1.heap.size < w3.heap.size:=(Array.getElem?_eq_some_iff.1 hgb).1
    clear hgb
    have hb:=boxG ((hf1.alloc _).trans ((hf2.drewN 1).trans hf3)) hbw (heap_alloc_new w _)
    have d0:=(Lib.cell_of_heap hb 0).trans rfl
    have g0:=Lib.frozen_of_heap hb 0
    have d1:=(Lib.cell_of_heap hb 1).trans rfl
    have g1:=Lib.frozen_of_heap hb 1
    have d2:=(Lib.cell_of_heap hb 2).trans rfl
    have g2:=Lib.frozen_of_heap hb 2
    have d3:=(Lib.cell_of_heap hb 3).trans rfl
    have g3:=Lib.frozen_of_heap hb 3
    have d4:=(Lib.cell_of_heap hb 4).trans rfl
    have g4:=Lib.frozen_of_heap hb 4
    have d5:=(Lib.cell_of_heap hb 5).trans rfl
    have g5:=Lib.frozen_of_heap hb 5
    have d6:=(Lib.cell_of_heap hb 6).trans rfl
    have g6:=Lib.frozen_of_heap hb 6
    have d7:=(Lib.cell_of_heap hb 7).trans rfl
    have g7:=Lib.frozen_of_heap hb 7
    have d8:=(Lib.cell_of_heap hb 8).trans rfl
    have g8:=Lib.frozen_of_heap hb 8
    have d9:=(Lib.cell_of_heap hb 9).trans rfl
    have g9:=Lib.frozen_of_heap hb 9
    have d10:=(Lib.cell_of_heap hb 10).trans rfl
    have g10:=Lib.frozen_of_heap hb 10
    have d11:=(Lib.cell_of_heap hb 11).trans rfl
    have g11:=Lib.frozen_of_heap hb 11
    have hsz:w.heap.size < w3.heap.size:=(Array.getElem?_eq_some_iff.1 hb).1
    have HB:=Lib.hid hb
    clear hb
    refine hK.out _ _ ⟨ew30,ew31,ew32,ew33⟩ (fun hHeld=>?_)
    clear hK K
    try simp only [Act.put,List.setIfInBounds_toArray,List.set_cons_zero,List.set_cons_succ]
    refine wpAnyH_take (i:=3) (v:=.agg #[.int .i64 3,.int .i64 z1,.string z2,.int .i64 z3,.slice z4 z5 z6,.int .i64 r1,.string r2,.int .i64 r3,.slice r4 r5 r6,.string ⟨#[]⟩,.slice none 0 0,.slice none 0 0]) rfl (by kernel_rfl) (by kernel_rfl) (by kernel_rfl) (fun _ _ _ h=>h) (Or.inl ⟨by rfl,?_⟩) hHeld ?_
    ·(intro w hSw;go_simp)
    try simp only [Act.put,List.setIfInBounds_toArray,List.set_cons_zero,List.set_cons_succ]
    refine wpAnyH_ready (rs:=[4]) (by kernel_rfl) (by simp) ?_
    refine AllReadyH.cons rfl (fun K hK=>?_) AllReadyH.nil
    go_simp
    refine hK.out _ _ ⟨(far12 hsn2).trans ew30,(far12 hsn2).trans ew31,(far12 hsn2).trans ew32,(far12 hsn2).trans ew33⟩ (fun hHeld=>?_)
    clear hK K
    refine wpAnyH_done (by kernel_rfl) ?_ _
    go_wp2
    have hs23:w2.heap.size≤w3.heap.size:=hf3.size
    have hs12:=hsw2
    obtain ⟨t1,t2,t3,t4,t5⟩:=put12 HP.out ((hf1.alloc _).trans ((hf2.drewN 1).trans hf3)) hp3 HB.out (.int .i64 3) (.int .i64 z1) (.string z2) (.int .i64 z3) (.slice z4 z5 z6) (.int .i64 r1) (.string r2) (.int .i64 r3) (.slice r4 r5 r6) (.string ⟨#[]⟩) (.slice none 0 0) (.slice none 0 0)
    have y0:=(Lib.cell_of_heap t1 0).trans rfl
    have y1:=(Lib.cell_of_heap t1 1).trans rfl
    have y2:=(Lib.cell_of_heap t1 2).trans rfl
    have y3:=(Lib.cell_of_heap t1 3).trans rfl
    have y4:=(Lib.cell_of_heap t1 4).trans rfl
    have y5:=(Lib.cell_of_heap t1 5).trans rfl
    have y6:=(Lib.cell_of_heap t1 6).trans rfl
    have y7:=(Lib.cell_of_heap t1 7).trans rfl
    have y8:=(Lib.cell_of_heap t1 8).trans rfl
    have y9:=(Lib.cell_of_heap t1 9).trans rfl
    have y10:=(Lib.cell_of_heap t1 10).trans rfl
    have y11:=(Lib.cell_of_heap t1 11).trans rfl
    refine bodyPost_ret (v:=.agg #[.int .i64 3,.int .i64 z1,.string z2,.int .i64 z3,.slice z4 z5 z6,.int .i64 r1,.string r2,.int .i64 r3,.slice r4 r5 r6,.string ⟨#[]⟩,.slice none 0 0,.slice none 0 0]) (by simp [results,Tryz.results193,go_sem,y0,y1,y2,y3,y4,y5,y6,y7,y8,y9,y10,y11]) rfl ⟨_,rfl,?_,t2,t3⟩
    refine ⟨_,_,_,_,_,_,_,_,_,_,rfl,?_,?_,.inl ⟨rfl,rfl⟩,.inl ⟨rfl,rfl⟩⟩
    ·refine TermV.wide _ _ _ _ _ _ _ _ (TermV.stable _ _ _ _ _ _ _ (TermV.wide _ _ _ _ _ (w.heap.size+1) _ _ HV1.out (by simp) (Nat.le_refl _)) (fun j j1 j2=>?_)) (Nat.le_succ _) (by rw [t5];omega)
     exact (t4 j (by omega)).trans ((((hf2.drewN 1).trans hf3).block j (by simp;omega) (by omega)).trans (Below.heap_alloc w1 _ j j2))
    ·exact TermV.wide _ _ _ _ _ _ _ _ (TermV.stable _ _ _ _ _ _ _ HV3.out (fun j j1 j2=>t4 j (by have:w2.heap.size≤j:=j1;omega))) (show w.heap.size≤w2.heap.size by omega) (by rw [t5];exact Nat.le_refl _)
  | false =>
   rw [q2] at HA2
   simp only [Bool.false_eq_true,if_false] at HA2 ⊢
   clear q2
   by_cases q3:tA.kind=3
   ·simp only [q3,if_true]
    go_enter Tryz.func193,Tryz.ntmps193
    go_wp2_with fail
    go_at_call 86
    refine (HQ1.out _ (HP.out.alloc _) (HE.out.move ((PFr.refl b w).alloc _))).mono ?_
    rintro e w1 ⟨v1,rfl,hv1,hp1,hf1⟩
    obtain ⟨z2,z3,z4,z5,z6,rfl⟩:=TermV.kind3 q3 hv1
    have HV1:=Lib.hid hv1
    clear hv1
    go_wp2_with fail
    go_at_call 123
    refine (HA2.out _ (hp1.alloc _)).mono ?_
    rintro e w2 ⟨rfl,hp2,hf2⟩
    have hgb:=(hf2.block w1.heap.size (by simp) (by have:=hf1.size;simp at this;omega)).trans (heap_alloc_new w1 _)
    have ew20:=(Lib.cell_of_heap hgb 0).trans rfl
    have ew21:=(Lib.cell_of_heap hgb 1).trans rfl
    have ew22:=(Lib.cell_of_heap hgb 2).trans rfl
    have ew23:=(Lib.cell_of_heap hgb 3).trans rfl
    have hsw2:w1.heap.size < w2.heap.size:=(Array.getElem?_eq_some_iff.1 hgb).1
    clear hgb
    have hsn:w.heap.size < w1.heap.size:=(by have:=hf1.size;simp at this;omega)
    have hsn1:¬ w.heap.size=w1.heap.size:=Nat.ne_of_lt hsn
    have hsn2:¬ w1.heap.size=w.heap.size:=Nat.ne_of_gt hsn
    have hb:=boxG ((hf1.alloc _).trans hf2) hbw (heap_alloc_new w _)
    have d0:=(Lib.cell_of_heap hb 0).trans rfl
    have g0:=Lib.frozen_of_heap hb 0
    have d1:=(Lib.cell_of_heap hb 1).trans rfl
    have g1:=Lib.frozen_of_heap hb 1
    have d2:=(Lib.cell_of_heap hb 2).trans rfl
    have g2:=Lib.frozen_of_heap hb 2
    have d3:=(Lib.cell_of_heap hb 3).trans rfl
    have g3:=Lib.frozen_of_heap hb 3
    have d4:=(Lib.cell_of_heap hb 4).trans rfl
    have g4:=Lib.frozen_of_heap hb 4
    have d5:=(Lib.cell_of_heap hb 5).trans rfl
    have g5:=Lib.frozen_of_heap hb 5
    have d6:=(Lib.cell_of_heap hb 6).trans rfl
    have g6:=Lib.frozen_of_heap hb 6
    have d7:=(Lib.cell_of_heap hb 7).trans rfl
    have g7:=Lib.frozen_of_heap hb 7
    have d8:=(Lib.cell_of_heap hb 8).trans rfl
    have g8:=Lib.frozen_of_heap hb 8
    have d9:=(Lib.cell_of_heap hb 9).trans rfl
    have g9:=Lib.frozen_of_heap hb 9
    have d10:=(Lib.cell_of_heap hb 10).trans rfl
    have g10:=Lib.frozen_of_heap hb 10
    have d11:=(Lib.cell_of_heap hb 11).trans rfl
    have g11:=Lib.frozen_of_heap hb 11
    have hsz:w.heap.size < w2.heap.size:=(Array.getElem?_eq_some_iff.1 hb).1
    have HB:=Lib.hid hb
    clear hb
    go_wp2_with fail
    have hs12:=hsw2
    obtain ⟨t1,t2,t3,t4,t5⟩:=put12 HP.out ((hf1.alloc _).trans hf2) hp2 HB.out (.int .i64 4) (.int .i64 0) (.string ⟨#[]⟩) (.int .i64 0) (.slice none 0 0) (.int .i64 0) (.string ⟨#[]⟩) (.int .i64 0) (.slice none 0 0) (.string z2) (.slice z4 z5 z6) (.slice none 0 0)
    have y0:=(Lib.cell_of_heap t1 0).trans rfl
    have y1:=(Lib.cell_of_heap t1 1).trans rfl
    have y2:=(Lib.cell_of_heap t1 2).trans rfl
    have y3:=(Lib.cell_of_heap t1 3).trans rfl
    have y4:=(Lib.cell_of_heap t1 4).trans rfl
    have y5:=(Lib.cell_of_heap t1 5).trans rfl
    have y6:=(Lib.cell_of_heap t1 6).trans rfl
    have y7:=(Lib.cell_of_heap t1 7).trans rfl
    have y8:=(Lib.cell_of_heap t1 8).trans rfl
    have y9:=(Lib.cell_of_heap t1 9).trans rfl
    have y10:=(Lib.cell_of_heap t1 10).trans rfl
    have y11:=(Lib.cell_of_heap t1 11).trans rfl
    refine bodyPost_ret (v:=.agg #[.int .i64 4,.int .i64 0,.string ⟨#[]⟩,.int .i64 0,.slice none 0 0,.int .i64 0,.string ⟨#[]⟩,.int .i64 0,.slice none 0 0,.string z2,.slice z4 z5 z6,.slice none 0 0]) (by simp [results,Tryz.results193,go_sem,y0,y1,y2,y3,y4,y5,y6,y7,y8,y9,y10,y11]) rfl ⟨_,rfl,?_,t2,t3⟩
    obtain ⟨hnm,har⟩:=TermV.parts HV1.out
    subst hnm
    refine ⟨_,_,_,_,_,_,_,_,_,_,rfl,zeroT_holds _ _ _,zeroT_holds _ _ _,?_,.inl ⟨rfl,rfl⟩⟩
    refine ArgsV.wide (ArgsV.stable _ _ (TermV.stable 66) _ _ _ _ _ _ (ArgsV.imp (fun x v lo hi w h=>TermV.succ _ _ _ _ _ _ h) (har.wide (lo':=w.heap.size+1) (by simp) (Nat.le_refl _))) (fun j j1 j2=>?_)) (Nat.le_succ _) (by rw [t5];omega)
    exact (t4 j (by omega)).trans ((hf2.block j (by simp;omega) (by omega)).trans (Below.heap_alloc w1 _ j j2))
   ·simp only [q3,if_false]
    go_enter Tryz.func193,Tryz.ntmps193
    go_wp2_with fail
    go_at_call 86
    refine (HQ1.out _ (HP.out.alloc _) (HE.out.move ((PFr.refl b w).alloc _))).mono ?_
    rintro e w1 ⟨v1,rfl,hv1,hp1,hf1⟩
    obtain ⟨z1,z2,z3,z4,z5,z6,hz1,rfl⟩:=TermV.kindn q3 hv1
    have HV1:=Lib.hid hv1
    clear hv1
    go_wp2_with fail
    go_at_call 123
    refine (HA2.out _ (hp1.alloc _)).mono ?_
    rintro e w2 ⟨rfl,hp2,hf2⟩
    have hgb:=(hf2.block w1.heap.size (by simp) (by have:=hf1.size;simp at this;omega)).trans (heap_alloc_new w1 _)
    have ew20:=(Lib.cell_of_heap hgb 0).trans rfl
    have ew21:=(Lib.cell_of_heap hgb 1).trans rfl
    have ew22:=(Lib.cell_of_heap hgb 2).trans rfl
    have ew23:=(Lib.cell_of_heap hgb 3).trans rfl
    have hsw2:w1.heap.size < w2.heap.size:=(Array.getElem?_eq_some_iff.1 hgb).1
    clear hgb
    have hsn:w.heap.size < w1.heap.size:=(by have:=hf1.size;simp at this;omega)
    have hsn1:¬ w.heap.size=w1.heap.size:=Nat.ne_of_lt hsn
    have hsn2:¬ w1.heap.size=w.heap.size:=Nat.ne_of_gt hsn
    have c1:=((HE.out.move ((PFr.refl b w).alloc _)).move ((hf1.alloc _).trans hf2)).syn
    have hg:=World.block_lt_of_cell? _ _ c1
    go_wp2_with fail
    exact ⟨rfl,rfl,⟨_,_,hp2,Int.le_refl _⟩,((PFr.refl b w).alloc _).trans ((hf1.alloc _).trans hf2)⟩
end Lx
end Go.Proofs.YtiljemkglhloeaaGreatDoor
