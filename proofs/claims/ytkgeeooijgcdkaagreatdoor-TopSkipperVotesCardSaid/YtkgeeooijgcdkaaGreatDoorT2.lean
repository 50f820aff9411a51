/-
  Contracts of the reference's Recorded and gaps. Conditions: the index is below the number of levels; at most 100000 marks.
  Contracts of the reference's Sixteenths and Above, at valid records.
-/
import Derived.Test.YtkgeeooijgcdkaaGreatDoorProg
import Derived.Test.YtkgeeooijgcdkaaGreatDoorH2
import Derived.Test.YtkgeeooijgcdkaaGreatDoorT1
import Derived.OwnWalk

namespace Go.Proofs.YtkgeeooijgcdkaaGreatDoor
open Go.RowKit
attribute [local go_sem] Oper.semAt_some

set_option maxRecDepth 1000000 in
set_option maxHeartbeats 1000000 in
theorem refRecorded_any (nm : ByteArray) (st : Int) (A A2 : Option Addr) (n c c2 : Nat) (gs : List (Int × Int)) (i : Nat) (w : World) (hg : Rd w w.heap.size (.slice A2 gs.length c2) gs.length (spc gs)) (hi : i < n) :
    Calls Tryz.prog 12 #[.agg #[.string nm, .int .i64 st, .slice A n c, .slice A2 gs.length c2], .int .i64 i] w fun e w' => e = .returned (.bool (!hasL gs i)) ∧ Below w.heap.size w w' := by
  have HB := hd (show Below w.heap.size w (w.alloc (Obj.cells #[.string nm, .int .i64 st, .slice A n c, .slice A2 gs.length c2] 25)) from (Below.refl _ w).alloc (Nat.le_refl _) _)
  have HG := hd ((hg.below HB.out (Nat.le_refl _)).mono HB.out.size)
  have hi' : (i : Int) < (n : Int) := by omega
  clear hg
  cases hh : hasL gs i
  all_goals
    have HH := hd hh
    clear hh
    go_enter Tryz.func12, Tryz.ntmps12
    go_wp2_with fail
    refine (has_any _ gs i _ HG.out).mono ?_
    rw [HH.out]
    rintro e w' ⟨rfl, rfl⟩
    go_wp2_with fail
    go_returns
    exact ⟨rfl, HB.out⟩

theorem not_at (ts : List Bool) (k : Nat) (hk : k < ts.length) : (ts.map (!·)).getD k false = !ts.getD k false := by simp [hk]
theorem strF_next (bs : List Bool) (k : Nat) : strF bs (k + 1) = if bs.getD k false then ext (strF bs k) k (k + 1) else strF bs k := rfl

end Go.Proofs.YtkgeeooijgcdkaaGreatDoor

namespace Go.Proofs.YtkgeeooijgcdkaaGreatDoor
open Go.RowKit
attribute [local go_sem] Oper.semAt_some

set_option maxRecDepth 100000 in
theorem refSixt_any (b : Nat) (w : World) (h : chkLev b = 0) : Calls Tryz.prog 11 #[.float .f32 b] w fun e w' => e = .returned (.int .i64 (s16 b)) ∧ w = w' := by
  have hok : levOK b = true := by rw [levOK_iff]; simpa using h
  obtain ⟨hs, -, -⟩ := sixt_of hok
  have hM : ∃ s m e, FloatKind.f32.decode b = .number s m e ∧ magOf dbl m e ≤ 64 * oneU dbl := by
    unfold chkLev at h
    cases hd0 : FloatKind.f32.decode b with
    | nan s t => rw [hd0] at h; cases h
    | infinity s => rw [hd0] at h; cases h
    | number s m e =>
      rw [hd0] at h
      simp only at h
      split at h
      · rename_i hc; exact ⟨s, m, e, rfl, hc.2⟩
      · cases h
  obtain ⟨s, m, e, hd0, hM⟩ := hM
  obtain ⟨hf, he⟩ := f32_top hd0
  obtain ⟨x, y, L⟩ := levF_of hf he
  have hi := (sixt_wide L hf he rfl hM).trans hs
  have hc := fun w => run_convert_float_float (P := Tryz.prog) w 39 80 .f32 .f64 b x (by kernel_rfl) Tryz.underlying80 L.wide
  have hm := fun w => run_float_arith (P := Tryz.prog) w .mul 80 .f64 4625196817309499392 x y L.big'
  have hc2 := fun w => run_convert_float_int (P := Tryz.prog) w 80 3 .f64 .i64 y (s16 b) (by kernel_rfl) Tryz.underlying3 hi
  clear L hf he hd0 hi hM hs hok h
  go_enter Tryz.func11, Tryz.ntmps11
  go_wp2
  go_ret
  exact ⟨rfl, rfl⟩

theorem fle_num {a b : Nat} (ha : finB a = true) (hb : finB b = true) : (FloatKind.f32.format.order a b == some .lt || FloatKind.f32.format.order a b == some .eq) = !decide (num b < num a) := by
  rw [ord_num ha hb, cmp_lt, cmp_eq, ← Bool.decide_or, ← decide_not, decide_eq_decide]
  omega

/-- The marks of the levels that are not above one, as the reference sets them one by one. -/
def blwL (bs : List Nat) (gs : List (Int × Int)) (lev k : Nat) : List Bool := (List.range bs.length).map fun i => decide (i < k) && !(!hasL gs (i : Nat) && decide (num lev < num (bs.getD i 0)))
theorem blwL_len (bs : List Nat) (gs : List (Int × Int)) (lev k : Nat) : (blwL bs gs lev k).length = bs.length := by simp [blwL]
theorem blwL_zero (bs : List Nat) (gs : List (Int × Int)) (lev : Nat) : (blwL bs gs lev 0).map Value.bool = List.replicate bs.length (.bool false) := by
  apply List.ext_getElem
  · simp [blwL]
  · intro i h1 h2
    simp [blwL]
theorem blwL_set (bs : List Nat) (gs : List (Int × Int)) (lev k : Nat) : ((blwL bs gs lev k).map Value.bool).set k (.bool (!(!hasL gs (k : Nat) && decide (num lev < num (bs.getD k 0))))) = (blwL bs gs lev (k + 1)).map Value.bool := by
  apply List.ext_getElem
  · simp [blwL]
  · intro i h1 h2
    rw [List.getElem_set]
    by_cases e : k = i
    · subst e
      simp [blwL]
    · rw [if_neg e]
      have : (i < k + 1) ↔ (i < k) := by omega
      simp [blwL, this]
/-- The marks of the levels above one. -/
def abvL (bs : List Nat) (gs : List (Int × Int)) (lev : Nat) : List Bool := (List.range bs.length).map fun i => !hasL gs (i : Nat) && decide (num lev < num (bs.getD i 0))
theorem blwL_not (bs : List Nat) (gs : List (Int × Int)) (lev : Nat) : (blwL bs gs lev bs.length).map (!·) = abvL bs gs lev := by
  unfold blwL abvL
  rw [List.map_map]
  apply List.map_congr_left
  intro i hi
  have : i < bs.length := by simpa using hi
  simp [this]

end Go.Proofs.YtkgeeooijgcdkaaGreatDoor
