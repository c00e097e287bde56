/- The contract of package lex's Reserved: it tells whether a name is one of the eighteen words. No conditions. -/
import Derived.Test.YtiljemkglhloeaaGreatDoorRunA
namespace Go.Proofs.YtiljemkglhloeaaGreatDoor
set_option linter.unusedSimpArgs false
set_option linter.unusedVariables false
namespace Lx
open Go Go.RowKit
def wordsL:List (List UInt8):=[[116,121,112,101],[112,114,101,100],[109,111,100,101],[105,115],[100,101,116],[115,101,109,105,100,101,116],[109,117,108,116,105],[110,111,110,100,101,116],[105,110],[111,117,116],
 [116,114,117,101],[102,97,105,108],[110,111,116],[116,104,114,111,119],[116,114,121],[99,97,116,99,104],[116,104,101,110],[105,110,116]]
def resv (l:List UInt8):Bool:=wordsL.any fun w=>l == w
theorem reserved_any (s:ByteArray) (w:World) :
  Calls Tryz.prog 132 #[.string s] w fun e w'=>e=.returned (.bool (resv s.toList))∧w=w':=by
 go_enter Tryz.func132,Tryz.ntmps132
 go_wp2
 all_goals go_ret
 all_goals (refine ⟨ret_bool ?_,rfl⟩;simp_all only [resv,wordsL,List.any_cons,List.any_nil,Bool.or_false,Bool.or_true,Bool.true_or,reduceCtorEq])
def wordsV:Array Value:=#[.string ⟨#[116,121,112,101]⟩,.string ⟨#[112,114,101,100]⟩,.string ⟨#[109,111,100,101]⟩,.string ⟨#[105,115]⟩,.string ⟨#[100,101,116]⟩,.string ⟨#[115,101,109,105,100,101,116]⟩,.string ⟨#[109,117,108,116,105]⟩,.string ⟨#[110,111,110,100,101,116]⟩,.string ⟨#[105,110]⟩,.string ⟨#[111,117,116]⟩,
 .string ⟨#[116,114,117,101]⟩,.string ⟨#[102,97,105,108]⟩,.string ⟨#[110,111,116]⟩,.string ⟨#[116,104,114,111,119]⟩,.string ⟨#[116,114,121]⟩,.string ⟨#[99,97,116,99,104]⟩,.string ⟨#[116,104,101,110]⟩,.string ⟨#[105,110,116]⟩]
def wordB (k:Nat):ByteArray:=⟨(wordsL.getD k []).toArray⟩
theorem wordsV_get:∀ k,k < 18→wordsV[k]?=some (.string (wordB k)):=by
 intro k hk
 rcases (show k=0 ∨ k=1 ∨ k=2 ∨ k=3 ∨ k=4 ∨ k=5 ∨ k=6 ∨ k=7 ∨ k=8 ∨ k=9 ∨ k=10 ∨ k=11 ∨ k=12 ∨ k=13 ∨ k=14 ∨ k=15 ∨ k=16 ∨ k=17 by omega) with rfl | rfl | rfl | rfl | rfl | rfl | rfl | rfl | rfl | rfl | rfl | rfl | rfl | rfl | rfl | rfl | rfl | rfl <;> rfl
theorem words_hit (l:List UInt8) (k:Nat) (hk:k < 18) (h:((wordB k).toList == l)=true):resv l=true:=by
 unfold resv
 rw [List.any_eq_true]
 rw [beq_iff_eq,ByteArray.toList_eq] at h
 refine ⟨wordsL.getD k [],?_,?_⟩
 ·rw [List.getD_eq_getElem?_getD,List.getElem?_eq_getElem (show k < wordsL.length from hk)]
  exact List.getElem_mem _
 ·rw [← h];simp [wordB]
def noneYet (l:List UInt8) (k:Nat):Prop:=∀ j,j < k→((wordB j).toList == l)=false
theorem words_miss (l:List UInt8) (h:noneYet l 18):resv l=false:=by
 unfold resv
 rw [List.any_eq_false]
 intro x hx
 obtain ⟨j,hj,rfl⟩:=List.getElem_of_mem hx
 have h1:=h j hj
 intro he
 rw [beq_iff_eq] at he
 subst he
 rw [beq_eq_false_iff_ne] at h1
 refine h1 ?_
 rw [ByteArray.toList_eq]
 simp only [wordB]
 rw [List.getD_eq_getElem?_getD,List.getElem?_eq_getElem hj]
 rfl
end Lx
end Go.Proofs.YtiljemkglhloeaaGreatDoor
