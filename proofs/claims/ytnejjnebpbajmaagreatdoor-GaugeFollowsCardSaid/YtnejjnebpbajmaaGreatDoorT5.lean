/-
  Contracts of the reference's Recorded and gaps. Conditions: the index is below the number of levels; at most 100000 marks.
  Contracts of the reference's Sixteenths and Above, at valid records.
  Contracts of the reference's water and Waters, at valid records.
  Contracts of the reference's Waters and Summary, at valid records.
  Contract of the reference's Summary, at valid records.
-/
import Derived.Test.YtnejjnebpbajmaaGreatDoorProg
import Derived.Test.YtnejjnebpbajmaaGreatDoorH2
import Derived.Test.YtnejjnebpbajmaaGreatDoorT1
import Derived.OwnWalk
import Derived.Test.YtnejjnebpbajmaaGreatDoorMN
import Derived.BigQuiet
import Derived.Deep.RegionHeld3

namespace Go.Proofs.YtnejjnebpbajmaaGreatDoor
open Go.RowKit
attribute [local go_sem] Oper.semAt_some

theorem strF_next (bs : List Bool) (k : Nat) : strF bs (k + 1) = if bs.getD k false then ext (strF bs k) k (k + 1) else strF bs k := rfl

end Go.Proofs.YtnejjnebpbajmaaGreatDoor

namespace Go.Proofs.YtnejjnebpbajmaaGreatDoor
open Go.RowKit
attribute [local go_sem] Oper.semAt_some

/-- The marks of the levels above one. -/
def abvL (bs : List Nat) (gs : List (Int × Int)) (lev : Nat) : List Bool := (List.range bs.length).map fun i => !hasL gs (i : Nat) && decide (num lev < num (bs.getD i 0))
end Go.Proofs.YtnejjnebpbajmaaGreatDoor

namespace Go.Proofs.YtnejjnebpbajmaaGreatDoor
open Go.RowKit
attribute [local go_sem] Oper.semAt_some

/-- A level times 1 or -1. -/
def sv (neg : Bool) (b : Nat) : Int := if neg = true then -num b else num b
/-- That a level doesn't keep another one from being a high water. -/
def okR (bs : List Nat) (gs : List (Int × Int)) (wd : Int) (neg : Bool) (i k : Nat) : Bool :=
  hasL gs (k : Nat) || !((decide (k < i) && decide ((i : Int) - wd ≤ k) && decide (sv neg (bs.getD i 0) ≤ sv neg (bs.getD k 0))) || (decide (i < k) && decide ((k : Int) ≤ i + wd) && decide (sv neg (bs.getD i 0) < sv neg (bs.getD k 0))))
def watR (bs : List Nat) (gs : List (Int × Int)) (wd : Int) (neg : Bool) (i : Nat) : Bool := !hasL gs (i : Nat) && (List.range bs.length).all fun k => okR bs gs wd neg i k
theorem watR_gap {bs : List Nat} {gs : List (Int × Int)} {wd : Int} {neg : Bool} {i : Nat} (h : hasL gs (i : Nat) = true) : watR bs gs wd neg i = false := by unfold watR; rw [h]; rfl
theorem watR_yes {bs : List Nat} {gs : List (Int × Int)} {wd : Int} {neg : Bool} {i : Nat} (h : hasL gs (i : Nat) = false) (ha : ∀ k, k < bs.length → okR bs gs wd neg i k = true) : watR bs gs wd neg i = true := by
  unfold watR
  rw [h, Bool.and_eq_true]
  exact ⟨rfl, List.all_eq_true.2 fun k hk => ha k (by simpa using hk)⟩
end Go.Proofs.YtnejjnebpbajmaaGreatDoor

namespace Go.Proofs.YtnejjnebpbajmaaGreatDoor
open Go.RowKit
attribute [local go_sem] Oper.semAt_some

def wtsR (bs : List Nat) (gs : List (Int × Int)) (wd : Int) (neg : Bool) (k : Nat) : List Int := ((List.range k).filter fun i => watR bs gs wd neg i).map fun i : Nat => (i : Int)
theorem wtsR_len (bs : List Nat) (gs : List (Int × Int)) (wd : Int) (neg : Bool) (k : Nat) : (wtsR bs gs wd neg k).length ≤ k := by
  unfold wtsR
  rw [List.length_map]
  exact Nat.le_trans (List.length_filter_le _ _) (by simp)
end Go.Proofs.YtnejjnebpbajmaaGreatDoor

namespace Go.Proofs.YtnejjnebpbajmaaGreatDoor
open Go.RowKit
attribute [local go_sem] Oper.semAt_some

section
variable {w : World} {nm : ByteArray} {st : Int} {lv gv : Value} {cs : Array Value} {W W' : World}
end

/-- One level more in the reference's statistics. -/
def rst (s : SS) (b : Nat) : SS := ⟨s.cnt + 1, s.sum + s16 b, if s.cnt = 0 ∨ num b < num s.lo then b else s.lo, if s.cnt = 0 ∨ num s.hi < num b then b else s.hi⟩
def rfK (bs : List Nat) (gs : List (Int × Int)) : Nat → SS
  | 0 => ⟨0, 0, 0, 0⟩
  | k + 1 => if hasL gs (k : Nat) = true then rfK bs gs k else rst (rfK bs gs k) (bs.getD k 0)
theorem rfK_ok (bs : List Nat) (gs : List (Int × Int)) (hlev : ∀ i, i < bs.length → chkLev (bs.getD i 0) = 0) : ∀ k, k ≤ bs.length → 0 ≤ (rfK bs gs k).cnt ∧ (rfK bs gs k).cnt ≤ k ∧ -(1024 * (k : Int)) ≤ (rfK bs gs k).sum ∧ (rfK bs gs k).sum ≤ 1024 * (k : Int) ∧ (0 < (rfK bs gs k).cnt → finB (rfK bs gs k).lo = true ∧ finB (rfK bs gs k).hi = true)
  | 0, _ => ⟨by simp [rfK], by simp [rfK], by simp [rfK], by simp [rfK], fun h => by simp [rfK] at h⟩
  | k + 1, hk => by
    obtain ⟨h1, h2, h3, h4, h5⟩ := rfK_ok bs gs hlev k (by omega)
    have hl := hlev k (by omega)
    have hf := fin_lev hl
    obtain ⟨-, g1, g2⟩ := sixt_of (show levOK (bs.getD k 0) = true by rw [levOK_iff]; simpa using hl)
    rw [rfK]
    split
    · exact ⟨h1, by omega, by omega, by omega, h5⟩
    · refine ⟨by simp only [rst]; omega, by simp only [rst]; omega, by simp only [rst]; omega, by simp only [rst]; omega, fun _ => ?_⟩
      by_cases h0 : (rfK bs gs k).cnt = 0
      · simp only [rst, h0, true_or, if_true]; exact ⟨hf, hf⟩
      · obtain ⟨f1, f2⟩ := h5 (by omega)
        simp only [rst, h0, false_or]
        constructor
        · split <;> assumption
        · split <;> assumption

end Go.Proofs.YtnejjnebpbajmaaGreatDoor
