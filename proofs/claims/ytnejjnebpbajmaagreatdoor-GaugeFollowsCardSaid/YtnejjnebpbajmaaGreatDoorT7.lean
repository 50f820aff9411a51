/-
  Plain words on waters, spells and statistics: what the project computes of a valid record is what the reference does. No program.
  Plain words on statistics: the project's and the reference's of a valid record are the same, as Go compares them.
  Highs, Lows, Above and Summary of what is not valid: the first error; a record without an error is valid.
-/

import Derived.Test.YtnejjnebpbajmaaGreatDoorT1
import Derived.Test.YtnejjnebpbajmaaGreatDoorT5
import Derived.Test.YtnejjnebpbajmaaGreatDoorProg
import Derived.Test.YtnejjnebpbajmaaGreatDoorQ3
import Derived.Test.YtnejjnebpbajmaaGreatDoorMK
import Derived.Test.YtnejjnebpbajmaaGreatDoorZ2
namespace Go.Proofs.YtnejjnebpbajmaaGreatDoor
open Go.RowKit

theorem selM_itm {bs : List Nat} (p : Nat × Nat → Bool) (gs : List (Int × Int)) (hok : ∀ j, j < bs.length → levOK (bs.getD j 0) = true) : ∀ k, k ≤ bs.length → selM p (itm gs (fLvM bs) k) = ((List.range k).filter fun i => !cov gs (i : Nat) && p (i, bs.getD i 0)).map fun i : Nat => (i : Int)
  | 0, _ => rfl
  | k + 1, hk => by
    have ih := selM_itm (bs := bs) p gs hok k (by omega)
    have hat := fLvM_at bs hok k (by omega)
    rw [List.range_succ, List.filter_append, List.map_append, ← ih]
    cases hc : cov gs (k : Int)
    · rw [itm_yes gs _ k hc]
      cases hp : p (k, bs.getD k 0)
      · have hp' : p (k, bs[k]?.getD 0) = false := by simpa using hp
        rw [selM_no _ (by rw [hat]; exact hp')]
        simp [hp']
      · have hp' : p (k, bs[k]?.getD 0) = true := by simpa using hp
        rw [selM_yes _ (by rw [hat]; exact hp'), hat]
        simp [hc, hp']
    · rw [itm_no gs _ k hc]
      simp [hc]

/-- What leadF asks, one by one. -/
theorem leadF_iff (ms : List Bool) (bs : List Nat) (sh : Nat → Bool) (f t : Nat) : leadF ms bs sh f t = true ↔ ∀ j, f ≤ j → j < t → leadAt ms bs sh j = true := by
  constructor
  · intro h j h1 h2
    cases hl : leadAt ms bs sh j
    · rw [leadF_no ms bs sh f t j h1 h2 hl] at h; cases h
    · rfl
  · exact leadF_yes ms bs sh f t
theorem leadAt_is (gs : List (Int × Int)) (bs : List Nat) (sh : Nat → Bool) (j : Nat) (hj : j < bs.length) : leadAt (knL gs bs.length) bs sh j = (cov gs (j : Int) || sh (bs.getD j 0)) := by
  unfold leadAt
  rw [knL_at gs bs.length j hj]
  cases cov gs (j : Int) <;> simp

theorem okR_iff (bs : List Nat) (gs : List (Int × Int)) (wd : Int) (neg : Bool) (i k : Nat) : okR bs gs wd neg i k = true ↔ hasL gs (k : Nat) = true ∨ ¬ ((k < i ∧ (i : Int) - wd ≤ k ∧ sv neg (bs.getD i 0) ≤ sv neg (bs.getD k 0)) ∨ (i < k ∧ (k : Int) ≤ i + wd ∧ sv neg (bs.getD i 0) < sv neg (bs.getD k 0))) := by
  unfold okR
  rw [Bool.or_eq_true, Bool.not_eq_true', Bool.eq_false_iff]
  simp only [ne_eq, Bool.or_eq_true, Bool.and_eq_true, decide_eq_true_eq, and_assoc]

/-- A high or low water is one for both. -/
theorem wat_is (bt : Nat → Nat → Bool) (neg : Bool) (hbt : ∀ a b, finB a = true → finB b = true → bt a b = decide (sv neg b < sv neg a)) (bs : List Nat) (gs : List (Int × Int)) (wd : Nat) (hC : Can gs) (hf : ∀ i, i < bs.length → finB (bs.getD i 0) = true) (i : Nat) (hi : i < bs.length) (hh : hasL gs (i : Nat) = false) :
    wat bt (knL gs bs.length) bs wd (i, bs.getD i 0) = watR bs gs wd neg i := by
  rw [Bool.eq_iff_iff]
  unfold wat watR
  rw [hh, Bool.and_eq_true, Bool.and_eq_true, leadF_iff, leadF_iff, List.all_eq_true]
  constructor
  · rintro ⟨h1, h2⟩
    refine ⟨rfl, fun k hk => ?_⟩
    have hk : k < bs.length := by simpa using hk
    rw [okR_iff]
    cases hc : hasL gs (k : Int)
    · refine .inr ?_
      rintro (⟨g1, g2, g3⟩ | ⟨g1, g2, g3⟩)
      · have := h1 k (by omega) g1
        rw [leadAt_is gs bs _ k hk, cov_has gs k hC, hc, Bool.false_or, hbt _ _ (hf i hi) (hf k hk), decide_eq_true_eq] at this
        omega
      · have := h2 k (by omega) (by omega)
        rw [leadAt_is gs bs _ k hk, cov_has gs k hC, hc, Bool.false_or, hbt _ _ (hf k hk) (hf i hi), Bool.not_eq_true', decide_eq_false_iff_not] at this
        exact this g3
    · exact .inl rfl
  · rintro ⟨-, h⟩
    refine ⟨fun j h1 h2 => ?_, fun j h1 h2 => ?_⟩
    · have hj : j < bs.length := by omega
      have := (okR_iff bs gs wd neg i j).1 (h j (by simpa using hj))
      rw [leadAt_is gs bs _ j hj, cov_has gs j hC, hbt _ _ (hf i hi) (hf j hj)]
      cases hc : hasL gs (j : Int)
      · rw [hc] at this
        simp only [Bool.false_eq_true, false_or] at this
        rw [Bool.false_or, decide_eq_true_eq]
        have h3 : (i : Int) - wd ≤ j := by simp only at h1; omega
        have h4 : ¬ sv neg (bs.getD i 0) ≤ sv neg (bs.getD j 0) := fun hle => this (.inl ⟨h2, h3, hle⟩)
        omega
      · rfl
    · have hj : j < bs.length := by omega
      have := (okR_iff bs gs wd neg i j).1 (h j (by simpa using hj))
      rw [leadAt_is gs bs _ j hj, cov_has gs j hC, hbt _ _ (hf j hj) (hf i hi)]
      cases hc : hasL gs (j : Int)
      · rw [hc] at this
        simp only [Bool.false_eq_true, false_or] at this
        have h4 : ¬ sv neg (bs.getD i 0) < sv neg (bs.getD j 0) := fun hlt => this (.inr ⟨h1, by simp only at h2; omega, hlt⟩)
        rw [decide_eq_false h4]; rfl
      · rfl
theorem fgt_sv (a b : Nat) (ha : finB a = true) (hb : finB b = true) : fgt a b = decide (sv false b < sv false a) := fgt_num ha hb
theorem flt_sv (a b : Nat) (ha : finB a = true) (hb : finB b = true) : flt a b = decide (sv true b < sv true a) := by
  rw [flt_num ha hb, decide_eq_decide]
  simp [sv]
theorem waters_is (bt : Nat → Nat → Bool) (neg : Bool) (hbt : ∀ a b, finB a = true → finB b = true → bt a b = decide (sv neg b < sv neg a)) (bs : List Nat) (gs : List (Int × Int)) (wd : Nat) (hC : Can gs) (hl : ∀ i, i < bs.length → chkLev (bs.getD i 0) = 0) :
    selM (wat bt (knL gs bs.length) bs wd) (itm gs (fLvM bs) bs.length) = wtsR bs gs wd neg bs.length := by
  rw [selM_itm (wat bt (knL gs bs.length) bs wd) gs (fun j hj => by rw [levOK_iff]; simpa using hl j hj) bs.length (Nat.le_refl _)]
  unfold wtsR
  congr 1
  apply List.filter_congr
  intro i hi
  have hi : i < bs.length := by simpa using hi
  rw [cov_has gs i hC]
  cases hh : hasL gs (i : Int)
  · rw [wat_is bt neg hbt bs gs wd hC (fun j hj => fin_lev (hl j hj)) i hi hh]; rfl
  · rw [watR_gap hh]; rfl

theorem abK_at {n : Nat} (lev : Nat) (gs : List (Int × Int)) (f : Nat → LvM n) (hf : ∀ i, i < n → (f i).1.1 = i) : ∀ k, k ≤ n → ∀ j, j < n → (abK lev (itm gs f k)).getD j false = (decide (j < k) && !cov gs (j : Nat) && fgt (f j).1.2 lev)
  | 0, _, j, hj => by simp [itm, abK, hj]
  | k + 1, hk, j, hj => by
    have ih := abK_at lev gs f hf k (by omega) j hj
    have hlen := abK_len lev (itm gs f k)
    cases hc : cov gs (k : Int)
    · rw [itm_yes gs f k hc, abK_snoc, hf k (by omega)]
      by_cases e : k = j
      · subst e
        have : k < (abK lev (itm gs f k)).length := by omega
        simp [this, hc]
      · have : (decide (j < k + 1)) = decide (j < k) := by rw [decide_eq_decide]; omega
        rw [this, ← ih]
        simp [e]
    · rw [itm_no gs f k hc, ih]
      by_cases e : k = j
      · subst e
        simp [hc]
      · have : (decide (j < k + 1)) = decide (j < k) := by rw [decide_eq_decide]; omega
        rw [this]
theorem above_is (bs : List Nat) (gs : List (Int × Int)) (lev : Nat) (hC : Can gs) (hl : ∀ i, i < bs.length → chkLev (bs.getD i 0) = 0) (hv : finB lev = true) : abK lev (itm gs (fLvM bs) bs.length) = abvL bs gs lev := by
  have hok : ∀ j, j < bs.length → levOK (bs.getD j 0) = true := fun j hj => by rw [levOK_iff]; simpa using hl j hj
  apply List.ext_getElem
  · rw [abK_len]; simp [abvL]
  · intro j h1 h2
    have hj : j < bs.length := by rw [abK_len] at h1; exact h1
    have h3 := abK_at lev gs (fLvM bs) (fun i hi => by rw [fLvM_at bs hok i hi]) bs.length (Nat.le_refl _) j hj
    have e : (abK lev (itm gs (fLvM bs) bs.length)).getD j false = (abK lev (itm gs (fLvM bs) bs.length))[j] := by simp [h1]
    rw [← e, h3, fLvM_at bs hok j hj, cov_has gs j hC]
    have e2 : bs[j]?.getD 0 = bs.getD j 0 := by simp
    simp only [e2]
    rw [fgt_num (fin_lev (hl j hj)) hv, decide_eq_true hj]
    simp [abvL]
end Go.Proofs.YtnejjnebpbajmaaGreatDoor

namespace Go.Proofs.YtnejjnebpbajmaaGreatDoor
open Go.RowKit

theorem sum_rel (bs : List Nat) (gs : List (Int × Int)) (hC : Can gs) (hl : ∀ i, i < bs.length → chkLev (bs.getD i 0) = 0) : ∀ k, k ≤ bs.length →
    (sumF (itm gs (fLvM bs) k)).cnt = (rfK bs gs k).cnt ∧ (sumF (itm gs (fLvM bs) k)).sum = (rfK bs gs k).sum ∧ finB (sumF (itm gs (fLvM bs) k)).lo = true ∧ finB (sumF (itm gs (fLvM bs) k)).hi = true ∧
    ((rfK bs gs k).cnt = 0 → num (sumF (itm gs (fLvM bs) k)).lo = num 1115684864 ∧ num (sumF (itm gs (fLvM bs) k)).hi = num 3263168512) ∧
    (0 < (rfK bs gs k).cnt → num (sumF (itm gs (fLvM bs) k)).lo = num (rfK bs gs k).lo ∧ num (sumF (itm gs (fLvM bs) k)).hi = num (rfK bs gs k).hi)
  | 0, _ => ⟨rfl, rfl, fin_64b.1, fin_64b.2, fun _ => ⟨rfl, rfl⟩, fun h => by simp [rfK] at h⟩
  | k + 1, hk => by
    obtain ⟨h1, h2, h3, h4, h5, h6⟩ := sum_rel bs gs hC hl k (by omega)
    have hok : ∀ j, j < bs.length → levOK (bs.getD j 0) = true := fun j hj => by rw [levOK_iff]; simpa using hl j hj
    have hat := fLvM_at bs hok k (by omega)
    have hx := hl k (by omega)
    have hf := fin_lev hx
    obtain ⟨r1, r2, r3, r4, r5⟩ := rfK_ok bs gs hl k (by omega)
    have hb := lev_bound hx
    have e2 : bs[k]?.getD 0 = bs.getD k 0 := by simp
    rw [rfK]
    cases hc : hasL gs (k : Int)
    · have hcov : cov gs (k : Int) = false := by rw [cov_has gs k hC]; exact hc
      rw [itm_yes gs _ k hcov, sumF_snoc, hat, if_neg (by decide)]
      simp only [e2]
      obtain ⟨m1, m2⟩ := fmn_min h3 hf
      obtain ⟨m3, m4⟩ := fmx_max h4 hf
      refine ⟨by simp only [sstp, rst]; rw [h1], by simp only [sstp, rst]; rw [h2], m1, m3, fun h => ?_, fun _ => ?_⟩
      · simp only [rst] at h; omega
      · by_cases h0 : (rfK bs gs k).cnt = 0
        · obtain ⟨g1, g2⟩ := h5 h0
          simp only [sstp, rst, h0, true_or, if_true]
          rw [m2, m4, g1, g2]
          omega
        · obtain ⟨g1, g2⟩ := h6 (by omega)
          simp only [sstp, rst, h0, false_or]
          rw [m2, m4, g1, g2]
          constructor
          · split <;> omega
          · split <;> omega
    · have hcov : cov gs (k : Int) = true := by rw [cov_has gs k hC]; exact hc
      rw [itm_no gs _ k hcov, if_pos rfl]
      exact ⟨h1, h2, h3, h4, h5, h6⟩

end Go.Proofs.YtnejjnebpbajmaaGreatDoor

namespace Go.Proofs.YtnejjnebpbajmaaGreatDoor
open Go.RowKit
attribute [local go_sem] Oper.semAt_some

end Go.Proofs.YtnejjnebpbajmaaGreatDoor
