/-
  Plain words on levels that are kept: a valid level is the same as itself, and a record's levels in gaps are the same as 0. No program.
  Plain words on valid levels as numbers: how they compare, what 1 and -1 times them are, the lesser and the greater of two. No program.
-/
import Derived.Test.YtnncmaegmlaabaaGreatDoorQ2
import Derived.Test.YtnncmaegmlaabaaGreatDoorP0
import Derived.Test.YtnncmaegmlaabaaGreatDoorMI
import Derived.Test.YtnncmaegmlaabaaGreatDoorMK

namespace Go.Proofs.YtnncmaegmlaabaaGreatDoor
open Go.RowKit

theorem feq_self {b : Nat} (h : chkLev b = 0) : feqL b b = true := by
  unfold chkLev at h
  cases hd : FloatKind.f32.decode b with
  | nan s t => rw [hd] at h; cases h
  | infinity s => rw [hd] at h; cases h
  | number s m e =>
    have hr : FloatKind.f32.format.read b = .number s m e := hd
    unfold feqL Ieee.Format.order
    rw [hr]
    simp [Ieee.Datum.order]
theorem feq_zero {b : Nat} (h : zeroF b = true) : feqL b 0 = true := by
  have := zeroF_true.1 h
  unfold feqL
  simpa [bne] using this

/-- The levels that are kept: the marked ones, the others are 0. -/
def keptL (bs : List Nat) (ts : List Bool) : List Nat := (List.range bs.length).map fun i => if ts.getD i false = true then bs.getD i 0 else 0
theorem keptL_len (bs : List Nat) (ts : List Bool) : (keptL bs ts).length = bs.length := by simp [keptL]
theorem keptL_at (bs : List Nat) (ts : List Bool) (i : Nat) (h : i < bs.length) : (keptL bs ts).getD i 0 = if ts.getD i false = true then bs.getD i 0 else 0 := by simp [keptL, h]
theorem lev_each {bs : List Nat} (h : fst0 (levErr bs) = 0) (i : Nat) (hi : i < bs.length) : chkLev (bs.getD i 0) = 0 := by
  have := fst0_each h i (by simpa [levErr] using hi)
  rwa [levErr_at bs i hi] at this
/-- A record's levels are the same as those that are kept. -/
theorem kept_same (bs : List Nat) (ts : List Bool) (hl : ∀ i, i < bs.length → chkLev (bs.getD i 0) = 0) (hz : ∀ i, i < bs.length → ts.getD i false = false → zeroF (bs.getD i 0) = true) : sameF feqL 0 bs (keptL bs ts) = true := by
  refine sameF_yes feqL 0 _ _ (keptL_len bs ts).symm fun i hi => ?_
  rw [keptL_at bs ts i hi]
  by_cases h : ts.getD i false = true
  · rw [if_pos h]; exact feq_self (hl i hi)
  · rw [if_neg h]; exact feq_zero (hz i hi (by simpa using h))
end Go.Proofs.YtnncmaegmlaabaaGreatDoor

namespace Go.Proofs.YtnncmaegmlaabaaGreatDoor
open Go.RowKit
open Ieee (Format Datum)

/-- The value of a float32, in units of its least place; 0 of what is no number. -/
def num (b : Nat) : Int := match FloatKind.f32.decode b with
  | .number s m e => sgnI s (magOf sgl m e)
  | _ => 0
/-- The bits of a finite float32. -/
def finB (b : Nat) : Bool := match FloatKind.f32.decode b with
  | .number _ _ _ => true
  | _ => false
theorem fin_parts {b : Nat} (h : finB b = true) : ∃ s m e, Fin sgl b s m e ∧ e ≤ 104 ∧ num b = sgnI s (magOf sgl m e) := by
  unfold finB at h
  cases hd : FloatKind.f32.decode b with
  | nan s t => rw [hd] at h; cases h
  | infinity s => rw [hd] at h; cases h
  | number s m e =>
    obtain ⟨hf, he⟩ := f32_top hd
    exact ⟨s, m, e, hf, he, by unfold num; rw [hd]⟩
theorem fin_of {b : Nat} {s : Bool} {m : Nat} {e : Int} (h : Fin sgl b s m e) : finB b = true ∧ num b = sgnI s (magOf sgl m e) := by
  have hd : FloatKind.f32.decode b = .number s m e := h.read
  unfold finB num
  rw [hd]
  exact ⟨rfl, rfl⟩
theorem fin_lev {b : Nat} (h : chkLev b = 0) : finB b = true := by
  unfold chkLev at h
  unfold finB
  cases hd : FloatKind.f32.decode b with
  | nan s t => rw [hd] at h; cases h
  | infinity s => rw [hd] at h; cases h
  | number s m e => rfl
theorem ord_num {a b : Nat} (ha : finB a = true) (hb : finB b = true) : FloatKind.f32.format.order a b = some (compare (num a) (num b)) := by
  obtain ⟨s, m, e, h1, -, e1⟩ := fin_parts ha
  obtain ⟨t, n, j, h2, -, e2⟩ := fin_parts hb
  rw [e1, e2]
  exact order_eq h1 h2
theorem fgt_num {a b : Nat} (ha : finB a = true) (hb : finB b = true) : fgt a b = decide (num b < num a) := by
  unfold fgt; rw [ord_num ha hb, cmp_gt]
theorem flt_num {a b : Nat} (ha : finB a = true) (hb : finB b = true) : flt a b = decide (num a < num b) := by
  unfold flt; rw [ord_num ha hb, cmp_lt]
theorem feq_num {a b : Nat} (ha : finB a = true) (hb : finB b = true) : feqL a b = decide (num a = num b) := by
  unfold feqL; rw [ord_num ha hb, cmp_eq]

/-- The exponent of what no float32 reaches. -/
def K7 : Nat := 277
theorem mag_top {b : Nat} {s : Bool} {m : Nat} {e : Int} (h : Fin sgl b s m e) (he : e ≤ 104) : magOf sgl m e < 2 ^ K7 := by
  unfold magOf
  rw [sgl_lp]
  have h1 := h.mag
  have h2 : (e - -149).toNat ≤ 253 := by omega
  have h3 : 2 ^ (e - -149).toNat ≤ 2 ^ 253 := Nat.pow_le_pow_right (by omega) h2
  have h4 : sgl.fractionBits + 1 = 24 := by decide
  rw [h4] at h1
  calc m * 2 ^ (e - -149).toNat ≤ m * 2 ^ 253 := Nat.mul_le_mul_left _ h3
    _ < 2 ^ 24 * 2 ^ 253 := Nat.mul_lt_mul_of_pos_right h1 (Nat.two_pow_pos _)
    _ = 2 ^ K7 := by rw [← Nat.pow_add, show 24 + 253 = K7 from rfl]

/-- 1 and -1 as float32. -/
def sgF (neg : Bool) : Nat := if neg = true then 3212836864 else 1065353216
theorem sgF_read (neg : Bool) : sgl.read (sgF neg) = .number neg 8388608 (-23) := by cases neg <;> decide +kernel
theorem times_one {x : Nat} (neg : Bool) (h : finB x = true) : ∃ z, floatBits .mul .f32 (sgF neg) x = some z ∧ finB z = true ∧ num z = if neg = true then -num x else num x := by
  obtain ⟨s, m, e, hf, he, hn⟩ := fin_parts h
  have h1 := hf.lp
  rw [sgl_lp] at h1
  have ht := mag_top hf he
  obtain ⟨m2, e2, r1, r2, r3, r4⟩ := nearest_exact sgl (by decide) (neg ^^ s) (8388608 * m) (-23 + e) m e (e - 23) 0 23 (by omega) (by omega) (by simp [Nat.mul_comm]) hf.mag (by rw [sgl_lp]; omega) (by
    have h5 : sgl.fractionBits + (2 ^ sgl.exponentBits - 2) = K7 := by decide
    rw [h5]; exact ht)
  refine ⟨_, ?_, (fin_of ⟨r1, r2, r3⟩).1, ?_⟩
  · show sgl.mul (sgF neg) x = _
    unfold Format.mul
    rw [sgF_read, hf.read]
    rfl
  · rw [(fin_of ⟨r1, r2, r3⟩).2, r4, hn]
    cases neg <;> cases s <;> simp [sgnI]

theorem fmn_min {a b : Nat} (ha : finB a = true) (hb : finB b = true) : finB (fmn a b) = true ∧ num (fmn a b) = min (num a) (num b) := by
  unfold fmn
  rw [ord_num ha hb]
  cases hc : compare (num a) (num b) with
  | lt => have := Int.compare_eq_lt.1 hc; exact ⟨ha, by simp only; omega⟩
  | gt => have := Int.compare_eq_gt.1 hc; exact ⟨hb, by simp only; omega⟩
  | eq =>
    have := Int.compare_eq_eq.1 hc
    simp only
    split
    · exact ⟨ha, by omega⟩
    · exact ⟨hb, by omega⟩
theorem fmx_max {a b : Nat} (ha : finB a = true) (hb : finB b = true) : finB (fmx a b) = true ∧ num (fmx a b) = max (num a) (num b) := by
  unfold fmx
  rw [ord_num ha hb]
  cases hc : compare (num a) (num b) with
  | lt => have := Int.compare_eq_lt.1 hc; exact ⟨hb, by simp only; omega⟩
  | gt => have := Int.compare_eq_gt.1 hc; exact ⟨ha, by simp only; omega⟩
  | eq =>
    have := Int.compare_eq_eq.1 hc
    simp only
    split
    · exact ⟨hb, by omega⟩
    · exact ⟨ha, by omega⟩

/-- A valid level lies between -64 and 64. -/
theorem lev_bound {b : Nat} (h : chkLev b = 0) : num 3263168512 ≤ num b ∧ num b ≤ num 1115684864 := by
  have h1 : num 3263168512 = -(64 * (oneU sgl : Int)) := by decide +kernel
  have h2 : num 1115684864 = 64 * (oneU sgl : Int) := by decide +kernel
  have hfin := fin_lev h
  unfold chkLev at h
  unfold num
  cases hd : FloatKind.f32.decode b with
  | nan s t => rw [hd] at h; cases h
  | infinity s => rw [hd] at h; cases h
  | number s m e =>
    rw [hd] at h
    simp only at h ⊢
    obtain ⟨hf, he⟩ := f32_top hd
    have hlp := hf.lp
    rw [sgl_lp] at hlp
    split at h
    · rename_i hc
      obtain ⟨-, hc⟩ := hc
      rw [mag_wide m e hlp, one_wide, ← Nat.mul_assoc] at hc
      have hc2 := Nat.le_of_mul_le_mul_right hc (Nat.two_pow_pos _)
      change num 3263168512 ≤ _ ∧ _ ≤ num 1115684864
      rw [h1, h2]
      cases s
      · simp only [sgnI, Bool.false_eq_true, if_false]; omega
      · simp only [sgnI, if_true]; omega
    · cases h
theorem fin_64b : finB 1115684864 = true ∧ finB 3263168512 = true := ⟨by decide +kernel, by decide +kernel⟩
end Go.Proofs.YtnncmaegmlaabaaGreatDoor
