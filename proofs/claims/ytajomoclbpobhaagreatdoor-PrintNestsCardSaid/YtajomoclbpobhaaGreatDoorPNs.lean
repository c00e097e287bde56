/- Goals set into goals, a level at a time: each is read back from its form. No program stands in this text but the things' form. Conditions: at most thirty-one levels. -/
import Derived.Test.YtajomoclbpobhaaGreatDoorPRt
import Derived.Test.YtajomoclbpobhaaGreatDoorPrIt
namespace Go.Proofs.YtajomoclbpobhaaGreatDoor
set_option linter.unusedSimpArgs false
set_option linter.unusedVariables false
namespace Lx
open Go Go.RowKit
def failG:GoalT:=.mk 2 zeroT zeroT [] [] []
def callG:GoalT:=.mk 4 zeroT zeroT [113] [] []
def nestL (m:Int) (g:GoalT):List GoalT:=if m=1 ∨ m=6 then [failG,g] else if m=3 then [failG,g,failG] else if m=4 then [g] else [g,failG]
def nestK (m:Int):Int:=if m=0 ∨ m=1 then 5 else if m=2 ∨ m=3 then 6 else if m=4 then 7 else 9
def nestS (m:Int):List UInt8:=if m=5 then [69] else if m=6 then [95] else []
def inNest (m:Int):Prop:=m=0 ∨ m=1 ∨ m=2 ∨ m=3 ∨ m=4 ∨ m=5 ∨ m=6
def nestG (m:Int) (g:GoalT):GoalT:=.mk (nestK m) zeroT zeroT (nestS m) [] (nestL m g)
theorem nestL_mem {m:Int} {g x:GoalT} (h:x ∈ nestL m g):x=g ∨ x=failG:=by
 unfold nestL at h
 split at h
 ·simp at h;exact h.symm
 ·split at h
  ·simp at h;rcases h with h | h | h <;> simp [h]
  ·split at h
   ·simp at h;exact .inl h
   ·simpa using h
theorem varB_E:VarB [69]:=⟨⟨2,[69],0⟩,⟨by rfl,rfl⟩,rfl⟩
theorem varB_u:VarB [95]:=⟨⟨2,[95],0⟩,⟨by rfl,rfl⟩,rfl⟩
theorem nameB_q:NameB [113]:=⟨⟨⟨1,[113],0⟩,⟨by rfl,rfl⟩,rfl⟩,by decide⟩
/-- A goal that is read back however deep it stands, so many levels of its own left out. -/
def QB (j:Nat) (g:GoalT):Prop:=∀ (m:Nat) (ne:Int),j < m→ne+j+2≤64→primB m ne g
theorem fail_prim {m:Nat} {ne:Int} (h:0 < m) (h1:ne+1≤64):primB m ne failG:=by
 obtain ⟨m,rfl⟩:∃ q,m=q+1:=⟨m - 1,by omega⟩
 rw [primB]
 exact ⟨h1,.inr (.inl rfl)⟩
theorem call_QB:QB 0 callG:=fun m ne h h1=>by
 obtain ⟨m,rfl⟩:∃ q,m=q+1:=⟨m - 1,by omega⟩
 rw [primB]
 refine ⟨by omega,.inr (.inr (.inr (.inr (.inr (.inr (.inl ⟨[113],[],rfl,?_⟩))))))⟩
 show termB 66 (ne+1) (.mk 3 [113] 0 [])
 rw [termB]
 exact ⟨by omega,.inr (.inr ⟨rfl,rfl,nameB_q,by simp,fun x hx=>by cases hx⟩)⟩
theorem QB.succ {j:Nat} {g:GoalT} (h:QB j g):QB (j+1) g:=fun m ne h1 h2=>h m ne (by omega) (by omega)
theorem QB.nest {j:Nat} {g:GoalT} (h:QB j g) {m:Int} (hm:inNest m):QB (j+1) (nestG m g):=fun d ne h1 h2=>by
 obtain ⟨d,rfl⟩:∃ q,d=q+1:=⟨d - 1,by omega⟩
 have hg:primB d (ne+1) g:=h d (ne+1) (by omega) (by omega)
 have hf:primB d (ne+1) failG:=fail_prim (by omega) (by omega)
 have hL:∀ x ∈ nestL m g,primB d (ne+1) x:=fun x hx=>by rcases nestL_mem hx with rfl | rfl <;> assumption
 rw [primB]
 refine ⟨by omega,?_⟩
 rcases hm with rfl | rfl | rfl | rfl | rfl | rfl | rfl
 ·exact .inr (.inr (.inr (.inr (.inr (.inr (.inr ⟨.inl rfl,.inr ⟨by simp [nestG,nestK,kindG],.inl ⟨_,rfl,by simp [nestL],by simp [nestL],hL⟩⟩⟩))))))
 ·exact .inr (.inr (.inr (.inr (.inr (.inr (.inr ⟨.inl rfl,.inr ⟨by simp [nestG,nestK,kindG],.inl ⟨_,rfl,by simp [nestL],by simp [nestL],hL⟩⟩⟩))))))
 ·exact .inr (.inr (.inr (.inr (.inr (.inr (.inr ⟨.inr rfl,.inl ⟨_,rfl,by simp [nestL],by simp [nestL],fun x hx=>prim_conj (hL x hx)⟩⟩))))))
 ·exact .inr (.inr (.inr (.inr (.inr (.inr (.inr ⟨.inr rfl,.inl ⟨_,rfl,by simp [nestL],by simp [nestL],fun x hx=>prim_conj (hL x hx)⟩⟩))))))
 ·exact .inr (.inr (.inl ⟨g,rfl,hg⟩))
 ·exact .inr (.inr (.inr (.inr (.inl ⟨g,failG,[69],rfl,varB_E,hg,hf⟩))))
 ·exact .inr (.inr (.inr (.inr (.inl ⟨failG,g,[95],rfl,varB_u,hf,hg⟩))))
theorem W_of {s:List UInt8} (h:VarB s):W s:=by
 obtain ⟨t,h1,_⟩:=h
 exact (W.of h1).1
theorem W_ofN {s:List UInt8} (h:NameB s):W s:=by
 obtain ⟨⟨t,h1,_⟩,_⟩:=h
 exact (W.of h1).1
theorem fail_W:goalW' failG:=by simp [failG,goalW',goalsW']
theorem call_W:goalW' callG:=by
 rw [callG,goalW']
 exact ⟨fun h=>by simp at h,fun _=>⟨W_ofN nameB_q,by simp [termsW]⟩,fun h=>by simp at h,fun h=>by simp at h,by simp [goalsW']⟩
theorem nest_W {g:GoalT} (h:goalW' g) {m:Int} (hm:inNest m):goalW' (nestG m g):=by
 rw [nestG,goalW']
 refine ⟨fun e=>?_,fun e=>?_,fun e=>?_,fun e=>?_,(goalsW_iff _).2 fun x hx=>by rcases nestL_mem hx with rfl | rfl;exact h;exact fail_W⟩
 ·rcases hm with rfl | rfl | rfl | rfl | rfl | rfl | rfl <;> simp [nestK] at e
 ·rcases hm with rfl | rfl | rfl | rfl | rfl | rfl | rfl <;> simp [nestK] at e
 ·rcases hm with rfl | rfl | rfl | rfl | rfl | rfl | rfl <;> simp [nestK] at e
 ·rcases hm with rfl | rfl | rfl | rfl | rfl | rfl | rfl
  ·simp [nestK] at e
  ·simp [nestK] at e
  ·simp [nestK] at e
  ·simp [nestK] at e
  ·simp [nestK] at e
  ·exact W_of varB_E
  ·exact W_of varB_u
theorem fail_ok:goalOk failG:=by simp [failG,goalOk,goalsOk,termsOk,zeroT_ok]
theorem call_ok:goalOk callG:=by simp [callG,goalOk,goalsOk,termsOk,zeroT_ok]
theorem nest_ok {g:GoalT} (h:goalOk g) (m:Int):goalOk (nestG m g):=by
 rw [nestG,goalOk]
 exact ⟨zeroT_ok,zeroT_ok,by simp [termsOk],(goalsOk_iff _).2 fun x hx=>by rcases nestL_mem hx with rfl | rfl;exact h;exact fail_ok⟩
theorem paren_len (s:List UInt8):(parenF s).length=s.length+2:=by simp [parenF]
theorem conjW_len (p:Int × List UInt8):(conjW p).length≤p.2.length+2:=by
 unfold conjW
 split
 ·rw [paren_len];exact Nat.le_refl _
 ·omega
theorem primW_len (p:Int × List UInt8):(primW p).length≤p.2.length+2:=by
 unfold primW
 split
 ·rw [paren_len];exact Nat.le_refl _
 ·exact conjW_len p
theorem nest_len (g:GoalT) {m:Int} (hm:inNest m):(goalF (nestG m g)).length≤(goalF g).length+60:=by
 have e1:=primW_len (kindG g,goalF g)
 have e2:=conjW_len (kindG g,goalF g)
 have e3:primW (kindG failG,goalF failG)=[102,97,105,108]:=rfl
 have e4:conjW (kindG failG,goalF failG)=[102,97,105,108]:=rfl
 have e5:goalF failG=[102,97,105,108]:=rfl
 have e6:kindG failG=2:=rfl
 rw [nestG,goalF,goalsF_map]
 simp only [] at e1 e2
 rcases hm with rfl | rfl | rfl | rfl | rfl | rfl | rfl <;> simp [goalW,nestK,nestL,nestS,joinF,partW,e3,e4] <;> (simp [e5,e6,primW,conjW] at *;omega)
theorem call_len:(goalF callG).length=1:=rfl
theorem nest_round {j:Nat} {g:GoalT} (hq:QB j g) (hw:goalW' g) (hj:j≤60) (hl:(goalF g).length≤16384):Round rdGo goalF g:=by
 have hB:topB (primB 66 0) g:=conj_top (prim_conj (hq 66 0 (by omega) (by omega)))
 refine round_of (K:=goalK) (lxs_goal g hw) ?_ (fun k e=>?_) (by omega)
 ·have:=top_back (prim_back 66 0) g (goalK g) 0 hB (sits_all _) ⟨⟨⟨hasT_out (by omega) _ (by simp),hasT_out (by omega) _ (by simp)⟩,hasT_out (by omega) _ (by simp)⟩,hasT_out (by omega) _ (by simp)⟩
  rw [Nat.zero_add] at this
  exact this
 ·have:=joinO_fwd (joinO_fwd (primO_fwd [] 66 0) [44] 5) [59] 6 _ _ _ e
  simp at this
  omega
end Lx
end Go.Proofs.YtajomoclbpobhaaGreatDoor
