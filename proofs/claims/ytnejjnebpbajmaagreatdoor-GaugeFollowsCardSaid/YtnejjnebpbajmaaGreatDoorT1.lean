/-
  Plain words: a record without an error is valid; a mark of what is recorded. No program.
  Plain words on gaps: the stretches of marks are canonical and have just the marked ticks; the gaps of two records, one behind the other. No program.
  Plain words on levels that are kept: a valid level is the same as itself, and a record's levels in gaps are the same as 0. No program.
  Plain words on valid levels as numbers: how they compare, what 1 and -1 times them are, the lesser and the greater of two. No program.
-/
import Derived.Test.YtnejjnebpbajmaaGreatDoorQ3
import Derived.Test.YtnejjnebpbajmaaGreatDoorMK
import Derived.Test.YtnejjnebpbajmaaGreatDoorZ2
import Derived.Test.YtnejjnebpbajmaaGreatDoorQ2
import Derived.Test.YtnejjnebpbajmaaGreatDoorMI

namespace Go.Proofs.YtnejjnebpbajmaaGreatDoor
open Go.RowKit

theorem knL_at (gs : List (Int × Int)) (n i : Nat) (hi : i < n) : (knL gs n).getD i false = !cov gs (i : Int) := by simp [knL, hi]

theorem valid_of {nm : ByteArray} {st : Int} {bs : List Nat} {gs : List (Int × Int)} (h : chkRec nm st bs gs = 0) (hs : nm.size ≤ maxLen) : Valid nm st bs gs ∧ Can gs ∧ ∀ i, i < bs.length → chkLev (bs.getD i 0) = 0 := by
  unfold chkRec at h
  by_cases h1 : rec1 nm st bs.length = 0
  · rw [if_pos h1] at h
    by_cases h2 : rec2 bs gs = 0
    · rw [if_pos h2] at h
      obtain ⟨z1, z2, z3⟩ := rec2_zero h2
      have n1 : unl (nameB nm) 8 = 0 := fst0_each h1 0 (by simp)
      have n2 : rng st 0 100000 = 0 := fst0_each h1 1 (by simp)
      have n3 : Go.Proofs.YtnejjnebpbajmaaGreatDoor.most (bs.length : Int) 4096 = 0 := fst0_each h1 2 (by simp)
      have hl : ∀ i, i < bs.length → chkLev (bs.getD i 0) = 0 := fun i hi => by
        have := fst0_each z1 i (by simpa [levErr] using hi)
        rwa [levErr_at bs i hi] at this
      refine ⟨⟨hs, ?_, ?_, ?_, fun j hj => by rw [levOK_iff]; simpa using hl j hj, z2, fun j hj => ends_zero z3 j hj, ?_⟩, can_of gs z2, hl⟩
      · cases hn : nameB nm
        · rw [hn] at n1; simp [unl] at n1
        · rfl
      · unfold rng at n2
        split at n2
        · assumption
        · cases n2
      · unfold Go.Proofs.YtnejjnebpbajmaaGreatDoor.most at n3
        split at n3
        · omega
        · cases n3
      · have he : ∀ s ∈ gs, s.2 ≤ (bs.length : Int) := fun s hs => by
          obtain ⟨j, hj, rfl⟩ := List.mem_iff_getElem.1 hs
          have := ends_zero z3 j hj
          simpa [hj] using this
        refine (silB_true bs gs he).1 ?_
        cases hb : silB bs gs
        · rw [hb] at h; simp [unl] at h
        · rfl
    · rw [if_neg h2] at h; exact absurd h h2
  · rw [if_neg h1] at h; exact absurd h h1


end Go.Proofs.YtnejjnebpbajmaaGreatDoor

namespace Go.Proofs.YtnejjnebpbajmaaGreatDoor
open Go.RowKit

theorem str_can (bs : List Bool) : ∀ k : Nat, Can (strF bs k) ∧ (∀ s ∈ strF bs k, 0 ≤ s.1 ∧ s.2 ≤ (k : Int)) ∧ ∀ x : Int, hasL (strF bs k) x = (decide (0 ≤ x) && decide (x < (k : Int)) && bs.getD x.toNat false)
  | 0 => by
    refine ⟨⟨.nil, fun s hs => by cases hs⟩, fun s hs => (by cases hs), fun x => ?_⟩
    show false = _
    by_cases h : 0 ≤ x
    · have : ¬ x < ((0 : Nat) : Int) := by omega
      simp only [this, decide_false, Bool.and_false, Bool.false_and]
    · simp only [h, decide_false, Bool.false_and]
  | k + 1 => by
    obtain ⟨h1, h2, h3⟩ := str_can bs k
    have key : ∀ x : Int, x ≠ k → (decide (x < ((k + 1 : Nat) : Int))) = decide (x < (k : Int)) := fun x hx => by
      rw [decide_eq_decide]; omega
    rw [strF]
    by_cases hb : bs.getD k false = true
    · rw [if_pos hb]
      obtain ⟨e1, e2, e3⟩ := ext_can (strF bs k) k (k + 1) h1 (fun s hs => (h2 s hs).2) (by omega)
      refine ⟨e1, fun s hs => ?_, fun x => ?_⟩
      · obtain ⟨e4, e5⟩ := e3 s hs
        refine ⟨?_, by push_cast; exact e5⟩
        rcases e4 with e4 | ⟨s', hs', e4⟩
        · omega
        · rw [e4]; exact (h2 s' hs').1
      · rw [e2, h3]
        by_cases hx : x = k
        · subst hx
          have a1 : ¬ (k : Int) < (k : Int) := by omega
          have a2 : (k : Int) < ((k + 1 : Nat) : Int) := by omega
          have a3 : (0 : Int) ≤ (k : Int) := by omega
          have a4 : (k : Int) < (k : Int) + 1 := by omega
          have hb' : bs.getD ((k : Int)).toNat false = true := by simpa using hb
          rw [hb']
          simp only [a1, a2, a3, a4, decide_true, decide_false, Bool.and_true, Bool.and_false, Bool.false_or, Int.le_refl]
        · rw [key x hx]
          have : (decide ((k : Int) ≤ x) && decide (x < (k : Int) + 1)) = false := by
            rw [Bool.and_eq_false_iff, decide_eq_false_iff_not, decide_eq_false_iff_not]; omega
          rw [this, Bool.or_false]
    · have hb' : bs.getD k false = false := by simpa using hb
      rw [if_neg hb]
      refine ⟨h1, fun s hs => ⟨(h2 s hs).1, by have := (h2 s hs).2; push_cast; omega⟩, fun x => ?_⟩
      rw [h3]
      by_cases hx : x = k
      · subst hx
        have a1 : ¬ (k : Int) < (k : Int) := by omega
        have hb2 : bs.getD ((k : Int)).toNat false = false := by simpa using hb'
        rw [hb2]
        simp only [Bool.and_false]
      · rw [key x hx]

/-- The gaps of a record of m levels, and the first k of the one behind it. -/
def apK (gs hs : List (Int × Int)) (m : Nat) : Nat → List (Int × Int)
  | 0 => gs
  | k + 1 => ext (apK gs hs m k) ((hs.getD k (0, 0)).1 + m) ((hs.getD k (0, 0)).2 + m)
theorem apK_len (gs hs : List (Int × Int)) (m : Nat) : ∀ k, (apK gs hs m k).length ≤ gs.length + k
  | 0 => by simp [apK]
  | k + 1 => by
    have := apK_len gs hs m k
    have := ext_len (apK gs hs m k) ((hs.getD k (0, 0)).1 + m) ((hs.getD k (0, 0)).2 + m)
    rw [apK]; omega
theorem apK_ok (gs hs : List (Int × Int)) (m : Nat) (h1 : chkSpans gs = 0) (h2 : chkSpans hs = 0) (he : ∀ s ∈ gs, s.2 ≤ (m : Int)) : ∀ k, k ≤ hs.length → Can (apK gs hs m k) ∧ (∀ s ∈ apK gs hs m k, 0 ≤ s.1 ∧ (s.2 ≤ (m : Int) ∨ ∃ j, j < k ∧ s.2 ≤ (hs.getD j (0, 0)).2 + m)) ∧ ∀ x : Int, hasL (apK gs hs m k) x = (hasL gs x || hasL (hs.take k) (x - m))
  | 0, _ => by
    refine ⟨can_of gs h1, fun s hs => ⟨((chkSpans_ok gs h1).2.1 s hs).1, .inl (he s hs)⟩, fun x => ?_⟩
    simp [apK, hasL]
  | k + 1, hk => by
    obtain ⟨c1, c2, c3⟩ := apK_ok gs hs m h1 h2 he k (by omega)
    have hb := (chkSpans_ok hs h2).2.1 _ (getD_mem hs k hk)
    have hasc := asc_of hs h2
    have hle : ∀ s ∈ apK gs hs m k, s.2 ≤ (hs.getD k (0, 0)).1 + m := fun s hs' => by
      rcases (c2 s hs').2 with h | ⟨j, hj, h⟩
      · omega
      · have h3 := List.pairwise_iff_getElem.1 (chkSpans_ok hs h2).2.2 j k (by omega) (by omega) hj
        have e1 : hs.getD j (0, 0) = hs[j] := by simp [show j < hs.length by omega]
        have e2 : hs.getD k (0, 0) = hs[k] := by simp [show k < hs.length by omega]
        rw [e1] at h
        rw [e2]
        omega
    obtain ⟨e1, e2, e3⟩ := ext_can (apK gs hs m k) ((hs.getD k (0, 0)).1 + m) ((hs.getD k (0, 0)).2 + m) c1 hle (by omega)
    rw [apK]
    refine ⟨e1, fun s hs' => ?_, fun x => ?_⟩
    · obtain ⟨e4, e5⟩ := e3 s hs'
      refine ⟨?_, .inr ⟨k, by omega, e5⟩⟩
      rcases e4 with e4 | ⟨s', hs2, e4⟩
      · omega
      · rw [e4]; exact (c2 s' hs2).1
    · rw [e2, c3, List.take_succ_eq_append_getElem (by omega), hasL_append, Bool.or_assoc]
      congr 2
      have e : hs[k] = hs.getD k (0, 0) := by simp [show k < hs.length by omega]
      rw [e]
      simp only [hasL, List.any_cons, List.any_nil, Bool.or_false]
      rw [Bool.eq_iff_iff]
      simp only [Bool.and_eq_true, decide_eq_true_eq]
      omega

end Go.Proofs.YtnejjnebpbajmaaGreatDoor

namespace Go.Proofs.YtnejjnebpbajmaaGreatDoor
open Go.RowKit

theorem feq_self {b : Nat} (h : chkLev b = 0) : feqL b b = true := by
  unfold chkLev at h
  cases hd : FloatKind.f32.decode b with
  | nan s t => rw [hd] at h; cases h
  | infinity s => rw [hd] at h; cases h
  | number s m e =>
    have hr : FloatKind.f32.format.read b = .number s m e := hd
    unfold feqL Ieee.Format.order
    rw [hr]
    simp [Ieee.Datum.order]
end Go.Proofs.YtnejjnebpbajmaaGreatDoor

namespace Go.Proofs.YtnejjnebpbajmaaGreatDoor
open Go.RowKit
open Ieee (Format Datum)

/-- The value of a float32, in units of its least place; 0 of what is no number. -/
def num (b : Nat) : Int := match FloatKind.f32.decode b with
  | .number s m e => sgnI s (magOf sgl m e)
  | _ => 0
/-- The bits of a finite float32. -/
def finB (b : Nat) : Bool := match FloatKind.f32.decode b with
  | .number _ _ _ => true
  | _ => false
theorem fin_parts {b : Nat} (h : finB b = true) : ∃ s m e, Fin sgl b s m e ∧ e ≤ 104 ∧ num b = sgnI s (magOf sgl m e) := by
  unfold finB at h
  cases hd : FloatKind.f32.decode b with
  | nan s t => rw [hd] at h; cases h
  | infinity s => rw [hd] at h; cases h
  | number s m e =>
    obtain ⟨hf, he⟩ := f32_top hd
    exact ⟨s, m, e, hf, he, by unfold num; rw [hd]⟩
theorem fin_of {b : Nat} {s : Bool} {m : Nat} {e : Int} (h : Fin sgl b s m e) : finB b = true ∧ num b = sgnI s (magOf sgl m e) := by
  have hd : FloatKind.f32.decode b = .number s m e := h.read
  unfold finB num
  rw [hd]
  exact ⟨rfl, rfl⟩
theorem fin_lev {b : Nat} (h : chkLev b = 0) : finB b = true := by
  unfold chkLev at h
  unfold finB
  cases hd : FloatKind.f32.decode b with
  | nan s t => rw [hd] at h; cases h
  | infinity s => rw [hd] at h; cases h
  | number s m e => rfl
theorem ord_num {a b : Nat} (ha : finB a = true) (hb : finB b = true) : FloatKind.f32.format.order a b = some (compare (num a) (num b)) := by
  obtain ⟨s, m, e, h1, -, e1⟩ := fin_parts ha
  obtain ⟨t, n, j, h2, -, e2⟩ := fin_parts hb
  rw [e1, e2]
  exact order_eq h1 h2
theorem fgt_num {a b : Nat} (ha : finB a = true) (hb : finB b = true) : fgt a b = decide (num b < num a) := by
  unfold fgt; rw [ord_num ha hb, cmp_gt]
theorem flt_num {a b : Nat} (ha : finB a = true) (hb : finB b = true) : flt a b = decide (num a < num b) := by
  unfold flt; rw [ord_num ha hb, cmp_lt]
theorem feq_num {a b : Nat} (ha : finB a = true) (hb : finB b = true) : feqL a b = decide (num a = num b) := by
  unfold feqL; rw [ord_num ha hb, cmp_eq]

theorem fmn_min {a b : Nat} (ha : finB a = true) (hb : finB b = true) : finB (fmn a b) = true ∧ num (fmn a b) = min (num a) (num b) := by
  unfold fmn
  rw [ord_num ha hb]
  cases hc : compare (num a) (num b) with
  | lt => have := Int.compare_eq_lt.1 hc; exact ⟨ha, by simp only; omega⟩
  | gt => have := Int.compare_eq_gt.1 hc; exact ⟨hb, by simp only; omega⟩
  | eq =>
    have := Int.compare_eq_eq.1 hc
    simp only
    split
    · exact ⟨ha, by omega⟩
    · exact ⟨hb, by omega⟩
theorem fmx_max {a b : Nat} (ha : finB a = true) (hb : finB b = true) : finB (fmx a b) = true ∧ num (fmx a b) = max (num a) (num b) := by
  unfold fmx
  rw [ord_num ha hb]
  cases hc : compare (num a) (num b) with
  | lt => have := Int.compare_eq_lt.1 hc; exact ⟨hb, by simp only; omega⟩
  | gt => have := Int.compare_eq_gt.1 hc; exact ⟨ha, by simp only; omega⟩
  | eq =>
    have := Int.compare_eq_eq.1 hc
    simp only
    split
    · exact ⟨hb, by omega⟩
    · exact ⟨ha, by omega⟩

/-- A valid level lies between -64 and 64. -/
theorem lev_bound {b : Nat} (h : chkLev b = 0) : num 3263168512 ≤ num b ∧ num b ≤ num 1115684864 := by
  have h1 : num 3263168512 = -(64 * (oneU sgl : Int)) := by decide +kernel
  have h2 : num 1115684864 = 64 * (oneU sgl : Int) := by decide +kernel
  have hfin := fin_lev h
  unfold chkLev at h
  unfold num
  cases hd : FloatKind.f32.decode b with
  | nan s t => rw [hd] at h; cases h
  | infinity s => rw [hd] at h; cases h
  | number s m e =>
    rw [hd] at h
    simp only at h ⊢
    obtain ⟨hf, he⟩ := f32_top hd
    have hlp := hf.lp
    rw [sgl_lp] at hlp
    split at h
    · rename_i hc
      obtain ⟨-, hc⟩ := hc
      rw [mag_wide m e hlp, one_wide, ← Nat.mul_assoc] at hc
      have hc2 := Nat.le_of_mul_le_mul_right hc (Nat.two_pow_pos _)
      change num 3263168512 ≤ _ ∧ _ ≤ num 1115684864
      rw [h1, h2]
      cases s
      · simp only [sgnI, Bool.false_eq_true, if_false]; omega
      · simp only [sgnI, if_true]; omega
    · cases h
theorem fin_64b : finB 1115684864 = true ∧ finB 3263168512 = true := ⟨by decide +kernel, by decide +kernel⟩
end Go.Proofs.YtnejjnebpbajmaaGreatDoor
