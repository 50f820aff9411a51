/-
  The project's checks of levels and of the ends of gaps, whatever they are; and of silent gaps, of gaps that lie in the record.
  The project's CheckRecord, of every record whose name is no longer than memory holds.
-/

import Derived.Test.YtibhjdmndlelaaaGreatDoorProg
import Derived.Test.YtibhjdmndlelaaaGreatDoorFB
import Derived.Test.YtibhjdmndlelaaaGreatDoorMC
namespace Go.Proofs.YtibhjdmndlelaaaGreatDoor
open Go.RowKit

def levErr (bs : List Nat) : List Int := bs.map chkLev
theorem levErr_at (bs : List Nat) (k : Nat) (hk : k < bs.length) : (levErr bs).getD k 0 = chkLev (bs.getD k 0) := by simp [levErr, hk]
theorem flc_at (bs : List Nat) (k : Nat) (hk : k < bs.length) : (flc bs)[k]? = some (.float .f32 (bs.getD k 0)) := by simp [flc, hk]

/-- Whether a span lies in the ticks below n, as checkEnds asks it. -/
def endAt (n f t : Int) : Int := if max f 0 = f ∧ min t n = t then 0 else 14
def endErr (n : Int) (l : List (Int × Int)) : List Int := l.map fun s => endAt n s.1 s.2
theorem endErr_at (n : Int) (l : List (Int × Int)) (k : Nat) (hk : k < l.length) : (endErr n l).getD k 0 = endAt n (l.getD k (0, 0)).1 (l.getD k (0, 0)).2 := by simp [endErr, hk]

end Go.Proofs.YtibhjdmndlelaaaGreatDoor

namespace Go.Proofs.YtibhjdmndlelaaaGreatDoor
open Go.RowKit

/-- A level that is 0, as Go compares it. -/
def zeroF (b : Nat) : Bool := !(FloatKind.f32.format.order b 0 != some .eq)
theorem zeroF_true {b : Nat} : zeroF b = true ↔ (FloatKind.f32.format.order b 0 != some .eq) = false := by unfold zeroF; cases (FloatKind.f32.format.order b 0 != some .eq) <;> simp
/-- All levels in gaps are 0. -/
def silB (bs : List Nat) (gs : List (Int × Int)) : Bool := gs.all fun s => (List.range bs.length).all fun i => !(decide (s.1 ≤ (i : Int)) && decide ((i : Int) < s.2)) || zeroF (bs.getD i 0)
theorem silB_true (bs : List Nat) (gs : List (Int × Int)) (he : ∀ s ∈ gs, s.2 ≤ (bs.length : Int)) : silB bs gs = true ↔ ∀ j, j < gs.length → ∀ i : Nat, (gs.getD j (0, 0)).1 ≤ i → (i : Int) < (gs.getD j (0, 0)).2 → (FloatKind.f32.format.order (bs.getD i 0) 0 != some .eq) = false := by
  unfold silB
  rw [List.all_eq_true]
  constructor
  · intro h j hj i h1 h2
    have hm := getD_mem gs j hj
    have h3 := h _ hm
    rw [List.all_eq_true] at h3
    have h4 := h3 i (List.mem_range.2 (by have := he _ hm; omega))
    rw [decide_eq_true h1, decide_eq_true h2] at h4
    exact zeroF_true.1 (by simpa using h4)
  · intro h s hs
    rw [List.all_eq_true]
    intro i hi
    obtain ⟨j, hj, rfl⟩ := List.mem_iff_getElem.1 hs
    by_cases h1 : (gs[j]).1 ≤ (i : Int) ∧ (i : Int) < (gs[j]).2
    · have e : gs.getD j (0, 0) = gs[j] := by simp [hj]
      have := h j hj i (by rw [e]; exact h1.1) (by rw [e]; exact h1.2)
      rw [zeroF_true.2 this, Bool.or_true]
    · have : (decide ((gs[j]).1 ≤ (i : Int)) && decide ((i : Int) < (gs[j]).2)) = false := by
        rw [Bool.and_eq_false_iff, decide_eq_false_iff_not, decide_eq_false_iff_not]; omega
      rw [this]; rfl

/-- The first errors of a record, as the project asks for them. -/
def rec1 (nm : ByteArray) (st : Int) (n : Nat) : Int := fst0 [unl (nameB nm) 8, rng st 0 100000, Go.Proofs.YtibhjdmndlelaaaGreatDoor.most (n : Int) 4096]
def rec2 (bs : List Nat) (gs : List (Int × Int)) : Int := fst0 [fst0 (levErr bs), chkSpans gs, fst0 (endErr (bs.length : Int) gs)]
/-- What CheckRecord says. -/
def chkRec (nm : ByteArray) (st : Int) (bs : List Nat) (gs : List (Int × Int)) : Int :=
  if rec1 nm st bs.length = 0 then (if rec2 bs gs = 0 then unl (silB bs gs) 1 else rec2 bs gs) else rec1 nm st bs.length

theorem fst0_each {l : List Int} (h : fst0 l = 0) (j : Nat) (hj : j < l.length) : l.getD j 0 = 0 := by
  induction l generalizing j with
  | nil => simp at hj
  | cons x l ih =>
    unfold fst0 at h
    split at h
    · rename_i hx
      match j with
      | 0 => simpa using hx
      | j + 1 => simpa using ih h j (by simpa using hj)
    · rename_i hx
      exact absurd h hx
theorem rec2_zero {bs : List Nat} {gs : List (Int × Int)} (h : rec2 bs gs = 0) : fst0 (levErr bs) = 0 ∧ chkSpans gs = 0 ∧ fst0 (endErr (bs.length : Int) gs) = 0 :=
  ⟨fst0_each h 0 (by simp), fst0_each h 1 (by simp), fst0_each h 2 (by simp)⟩
theorem ends_zero {n : Int} {gs : List (Int × Int)} (h : fst0 (endErr n gs) = 0) (j : Nat) (hj : j < gs.length) : (gs.getD j (0, 0)).2 ≤ n := by
  have h1 := fst0_each h j (by simpa [endErr] using hj)
  rw [endErr_at n gs j hj] at h1
  unfold endAt at h1
  split at h1
  · rename_i h2; omega
  · cases h1
end Go.Proofs.YtibhjdmndlelaaaGreatDoor
