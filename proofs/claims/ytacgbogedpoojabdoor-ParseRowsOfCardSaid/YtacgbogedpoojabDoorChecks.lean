/- What the texts of the statement ParseRowsOf come to, one by one. No conditions. -/
import Derived.Test.YtacgbogedpoojabDoorAlive2
namespace Go.Proofs.YtacgbogedpoojabDoor
namespace Lx
open Go Go.RowKit

theorem bs_app (a b : List UInt8) : bs a ++ bs b = bs (a ++ b) := ByteArray.ext (by simp [bs])
theorem bs_len (a : List UInt8) : (bs a).size = a.length := bs_size a
def textL {α : Type} (rd : List Tok → Out α) (l : List UInt8) : Out α :=
  if 16384 < l.length then .no 1
  else if whole l = false then .no 3
  else endO (toks l).length (rd (toks l))
theorem textO_bs {α : Type} (rd : List Tok → Out α) (l : List UInt8) : textO rd (bs l) = textL rd l := by
  have h1 : (bs l).size = l.length := bs_size l
  have h2 : (bs l).data.toList = l := by simp [bs]
  unfold textL
  by_cases hs : 16384 < l.length
  · rw [if_pos hs]
    exact textO_large rd (by rw [h1]; exact hs)
  · rw [if_neg hs]
    cases hw : whole l with
    | false =>
      rw [if_pos rfl]
      exact textO_bad rd (by rw [h1]; omega) (by rw [h2]; exact hw)
    | true =>
      rw [if_neg (by simp), textO_good rd (by rw [h1]; omega) (by rw [h2]; exact hw), h2]

def sL : Nat → List UInt8
  | 0 => [88]
  | k + 1 => sL k ++ [44, 32, 88]
def wL : Nat → List UInt8
  | 0 => [105, 110]
  | k + 1 => wL k ++ [44, 32, 105, 110]
theorem sL_len : ∀ k, (sL k).length = 1 + 3 * k
  | 0 => rfl
  | k + 1 => by simp [sL, sL_len k]; omega
theorem wL_len : ∀ k, (wL k).length = 2 + 4 * k
  | 0 => rfl
  | k + 1 => by simp [wL, wL_len k]; omega
def t1 (k : Nat) : List UInt8 := [112, 40] ++ sL k ++ [41, 46]
def t2 (k : Nat) : List UInt8 := [109, 111, 100, 101, 32, 112, 40] ++ wL k ++ [41, 32, 105, 115, 32, 100, 101, 116, 46]
def t3 (k : Nat) : List UInt8 := [102, 40] ++ sL k ++ [41]
def okSrc (k : Nat) : Out (List ItemT) → Bool
  | .ok [it] _ => decide (k < 8) && it.args.length == k + 1
  | .ok _ _ => false
  | .no i => decide (8 ≤ k) && i == 1
def okAny {α : Type} (k : Nat) : Out α → Bool
  | .ok _ _ => decide (k < 8)
  | .no i => decide (8 ≤ k) && i == 1
set_option maxRecDepth 100000 in
theorem checks : (List.range 12).all (fun k => okSrc k (textL (fun ts => sourceO ts 0 0) (t1 k)) && okAny k (textL (fun ts => sourceO ts 0 0) (t2 k)) && okAny k (textL (fun ts => termO ts 66 0 0) (t3 k))) = true := by kernel_rfl
theorem check (k : Nat) (hk : k < 12) : okSrc k (textL (fun ts => sourceO ts 0 0) (t1 k)) = true ∧ okAny k (textL (fun ts => sourceO ts 0 0) (t2 k)) = true ∧ okAny k (textL (fun ts => termO ts 66 0 0) (t3 k)) = true := by
  have h := List.all_eq_true.1 checks k (List.mem_range.2 hk)
  simp only [Bool.and_eq_true] at h
  exact ⟨h.1.1, h.1.2, h.2⟩

end Lx
end Go.Proofs.YtacgbogedpoojabDoor
