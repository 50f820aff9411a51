/-
  Plain words: a record without an error is valid; a mark of what is recorded. No program.
  Plain words on gaps: the stretches of marks are canonical and have just the marked ticks; the gaps of two records, one behind the other. No program.
  Plain words on levels that are kept: a valid level is the same as itself, and a record's levels in gaps are the same as 0. No program.
  Plain words on valid levels as numbers: how they compare, what 1 and -1 times them are, the lesser and the greater of two. No program.
-/
import Derived.Test.YtibhjdmndlelaaaGreatDoorProg
import Derived.Test.YtibhjdmndlelaaaGreatDoorQ2
import Derived.Test.YtibhjdmndlelaaaGreatDoorMK
import Derived.Test.YtibhjdmndlelaaaGreatDoorZ2
import Derived.Test.YtibhjdmndlelaaaGreatDoorMI

namespace Go.Proofs.YtibhjdmndlelaaaGreatDoor
open Go.RowKit

theorem valid_of {nm : ByteArray} {st : Int} {bs : List Nat} {gs : List (Int × Int)} (h : chkRec nm st bs gs = 0) (hs : nm.size ≤ maxLen) : Valid nm st bs gs ∧ Can gs ∧ ∀ i, i < bs.length → chkLev (bs.getD i 0) = 0 := by
  unfold chkRec at h
  by_cases h1 : rec1 nm st bs.length = 0
  · rw [if_pos h1] at h
    by_cases h2 : rec2 bs gs = 0
    · rw [if_pos h2] at h
      obtain ⟨z1, z2, z3⟩ := rec2_zero h2
      have n1 : unl (nameB nm) 8 = 0 := fst0_each h1 0 (by simp)
      have n2 : rng st 0 100000 = 0 := fst0_each h1 1 (by simp)
      have n3 : Go.Proofs.YtibhjdmndlelaaaGreatDoor.most (bs.length : Int) 4096 = 0 := fst0_each h1 2 (by simp)
      have hl : ∀ i, i < bs.length → chkLev (bs.getD i 0) = 0 := fun i hi => by
        have := fst0_each z1 i (by simpa [levErr] using hi)
        rwa [levErr_at bs i hi] at this
      refine ⟨⟨hs, ?_, ?_, ?_, fun j hj => by rw [levOK_iff]; simpa using hl j hj, z2, fun j hj => ends_zero z3 j hj, ?_⟩, can_of gs z2, hl⟩
      · cases hn : nameB nm
        · rw [hn] at n1; simp [unl] at n1
        · rfl
      · unfold rng at n2
        split at n2
        · assumption
        · cases n2
      · unfold Go.Proofs.YtibhjdmndlelaaaGreatDoor.most at n3
        split at n3
        · omega
        · cases n3
      · have he : ∀ s ∈ gs, s.2 ≤ (bs.length : Int) := fun s hs => by
          obtain ⟨j, hj, rfl⟩ := List.mem_iff_getElem.1 hs
          have := ends_zero z3 j hj
          simpa [hj] using this
        refine (silB_true bs gs he).1 ?_
        cases hb : silB bs gs
        · rw [hb] at h; simp [unl] at h
        · rfl
    · rw [if_neg h2] at h; exact absurd h h2
  · rw [if_neg h1] at h; exact absurd h h1


end Go.Proofs.YtibhjdmndlelaaaGreatDoor

namespace Go.Proofs.YtibhjdmndlelaaaGreatDoor
open Go.RowKit

theorem str_can (bs : List Bool) : ∀ k : Nat, Can (strF bs k) ∧ (∀ s ∈ strF bs k, 0 ≤ s.1 ∧ s.2 ≤ (k : Int)) ∧ ∀ x : Int, hasL (strF bs k) x = (decide (0 ≤ x) && decide (x < (k : Int)) && bs.getD x.toNat false)
  | 0 => by
    refine ⟨⟨.nil, fun s hs => by cases hs⟩, fun s hs => (by cases hs), fun x => ?_⟩
    show false = _
    by_cases h : 0 ≤ x
    · have : ¬ x < ((0 : Nat) : Int) := by omega
      simp only [this, decide_false, Bool.and_false, Bool.false_and]
    · simp only [h, decide_false, Bool.false_and]
  | k + 1 => by
    obtain ⟨h1, h2, h3⟩ := str_can bs k
    have key : ∀ x : Int, x ≠ k → (decide (x < ((k + 1 : Nat) : Int))) = decide (x < (k : Int)) := fun x hx => by
      rw [decide_eq_decide]; omega
    rw [strF]
    by_cases hb : bs.getD k false = true
    · rw [if_pos hb]
      obtain ⟨e1, e2, e3⟩ := ext_can (strF bs k) k (k + 1) h1 (fun s hs => (h2 s hs).2) (by omega)
      refine ⟨e1, fun s hs => ?_, fun x => ?_⟩
      · obtain ⟨e4, e5⟩ := e3 s hs
        refine ⟨?_, by push_cast; exact e5⟩
        rcases e4 with e4 | ⟨s', hs', e4⟩
        · omega
        · rw [e4]; exact (h2 s' hs').1
      · rw [e2, h3]
        by_cases hx : x = k
        · subst hx
          have a1 : ¬ (k : Int) < (k : Int) := by omega
          have a2 : (k : Int) < ((k + 1 : Nat) : Int) := by omega
          have a3 : (0 : Int) ≤ (k : Int) := by omega
          have a4 : (k : Int) < (k : Int) + 1 := by omega
          have hb' : bs.getD ((k : Int)).toNat false = true := by simpa using hb
          rw [hb']
          simp only [a1, a2, a3, a4, decide_true, decide_false, Bool.and_true, Bool.and_false, Bool.false_or, Int.le_refl]
        · rw [key x hx]
          have : (decide ((k : Int) ≤ x) && decide (x < (k : Int) + 1)) = false := by
            rw [Bool.and_eq_false_iff, decide_eq_false_iff_not, decide_eq_false_iff_not]; omega
          rw [this, Bool.or_false]
    · have hb' : bs.getD k false = false := by simpa using hb
      rw [if_neg hb]
      refine ⟨h1, fun s hs => ⟨(h2 s hs).1, by have := (h2 s hs).2; push_cast; omega⟩, fun x => ?_⟩
      rw [h3]
      by_cases hx : x = k
      · subst hx
        have a1 : ¬ (k : Int) < (k : Int) := by omega
        have hb2 : bs.getD ((k : Int)).toNat false = false := by simpa using hb'
        rw [hb2]
        simp only [Bool.and_false]
      · rw [key x hx]

end Go.Proofs.YtibhjdmndlelaaaGreatDoor

namespace Go.Proofs.YtibhjdmndlelaaaGreatDoor
open Go.RowKit

end Go.Proofs.YtibhjdmndlelaaaGreatDoor

namespace Go.Proofs.YtibhjdmndlelaaaGreatDoor
open Go.RowKit
open Ieee (Format Datum)

/-- The value of a float32, in units of its least place; 0 of what is no number. -/
def num (b : Nat) : Int := match FloatKind.f32.decode b with
  | .number s m e => sgnI s (magOf sgl m e)
  | _ => 0
/-- The bits of a finite float32. -/
def finB (b : Nat) : Bool := match FloatKind.f32.decode b with
  | .number _ _ _ => true
  | _ => false
theorem fin_parts {b : Nat} (h : finB b = true) : ∃ s m e, Fin sgl b s m e ∧ e ≤ 104 ∧ num b = sgnI s (magOf sgl m e) := by
  unfold finB at h
  cases hd : FloatKind.f32.decode b with
  | nan s t => rw [hd] at h; cases h
  | infinity s => rw [hd] at h; cases h
  | number s m e =>
    obtain ⟨hf, he⟩ := f32_top hd
    exact ⟨s, m, e, hf, he, by unfold num; rw [hd]⟩
theorem fin_lev {b : Nat} (h : chkLev b = 0) : finB b = true := by
  unfold chkLev at h
  unfold finB
  cases hd : FloatKind.f32.decode b with
  | nan s t => rw [hd] at h; cases h
  | infinity s => rw [hd] at h; cases h
  | number s m e => rfl
theorem ord_num {a b : Nat} (ha : finB a = true) (hb : finB b = true) : FloatKind.f32.format.order a b = some (compare (num a) (num b)) := by
  obtain ⟨s, m, e, h1, -, e1⟩ := fin_parts ha
  obtain ⟨t, n, j, h2, -, e2⟩ := fin_parts hb
  rw [e1, e2]
  exact order_eq h1 h2
theorem fgt_num {a b : Nat} (ha : finB a = true) (hb : finB b = true) : fgt a b = decide (num b < num a) := by
  unfold fgt; rw [ord_num ha hb, cmp_gt]
theorem flt_num {a b : Nat} (ha : finB a = true) (hb : finB b = true) : flt a b = decide (num a < num b) := by
  unfold flt; rw [ord_num ha hb, cmp_lt]
theorem feq_num {a b : Nat} (ha : finB a = true) (hb : finB b = true) : feqL a b = decide (num a = num b) := by
  unfold feqL; rw [ord_num ha hb, cmp_eq]

theorem fmx_max {a b : Nat} (ha : finB a = true) (hb : finB b = true) : finB (fmx a b) = true ∧ num (fmx a b) = max (num a) (num b) := by
  unfold fmx
  rw [ord_num ha hb]
  cases hc : compare (num a) (num b) with
  | lt => have := Int.compare_eq_lt.1 hc; exact ⟨hb, by simp only; omega⟩
  | gt => have := Int.compare_eq_gt.1 hc; exact ⟨ha, by simp only; omega⟩
  | eq =>
    have := Int.compare_eq_eq.1 hc
    simp only
    split
    · exact ⟨hb, by omega⟩
    · exact ⟨ha, by omega⟩

end Go.Proofs.YtibhjdmndlelaaaGreatDoor
