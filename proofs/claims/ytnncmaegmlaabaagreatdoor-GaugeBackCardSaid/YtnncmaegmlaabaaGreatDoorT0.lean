/-
  Plain words: a record without an error is valid; a mark of what is recorded. No program.
-/
import Derived.Test.YtnncmaegmlaabaaGreatDoorQ3
import Derived.Test.YtnncmaegmlaabaaGreatDoorMK
import Derived.Test.YtnncmaegmlaabaaGreatDoorZ2
namespace Go.Proofs.YtnncmaegmlaabaaGreatDoor
open Go.RowKit

theorem knL_at (gs : List (Int × Int)) (n i : Nat) (hi : i < n) : (knL gs n).getD i false = !cov gs (i : Int) := by simp [knL, hi]

theorem valid_of {nm : ByteArray} {st : Int} {bs : List Nat} {gs : List (Int × Int)} (h : chkRec nm st bs gs = 0) (hs : nm.size ≤ maxLen) : Valid nm st bs gs ∧ Can gs ∧ ∀ i, i < bs.length → chkLev (bs.getD i 0) = 0 := by
  unfold chkRec at h
  by_cases h1 : rec1 nm st bs.length = 0
  · rw [if_pos h1] at h
    by_cases h2 : rec2 bs gs = 0
    · rw [if_pos h2] at h
      obtain ⟨z1, z2, z3⟩ := rec2_zero h2
      have n1 : unl (nameB nm) 8 = 0 := fst0_each h1 0 (by simp)
      have n2 : rng st 0 100000 = 0 := fst0_each h1 1 (by simp)
      have n3 : Go.Proofs.YtnncmaegmlaabaaGreatDoor.most (bs.length : Int) 4096 = 0 := fst0_each h1 2 (by simp)
      have hl : ∀ i, i < bs.length → chkLev (bs.getD i 0) = 0 := fun i hi => by
        have := fst0_each z1 i (by simpa [levErr] using hi)
        rwa [levErr_at bs i hi] at this
      refine ⟨⟨hs, ?_, ?_, ?_, fun j hj => by rw [levOK_iff]; simpa using hl j hj, z2, fun j hj => ends_zero z3 j hj, ?_⟩, can_of gs z2, hl⟩
      · cases hn : nameB nm
        · rw [hn] at n1; simp [unl] at n1
        · rfl
      · unfold rng at n2
        split at n2
        · assumption
        · cases n2
      · unfold Go.Proofs.YtnncmaegmlaabaaGreatDoor.most at n3
        split at n3
        · omega
        · cases n3
      · have he : ∀ s ∈ gs, s.2 ≤ (bs.length : Int) := fun s hs => by
          obtain ⟨j, hj, rfl⟩ := List.mem_iff_getElem.1 hs
          have := ends_zero z3 j hj
          simpa [hj] using this
        refine (silB_true bs gs he).1 ?_
        cases hb : silB bs gs
        · rw [hb] at h; simp [unl] at h
        · rfl
    · rw [if_neg h2] at h; exact absurd h h2
  · rw [if_neg h1] at h; exact absurd h h1


end Go.Proofs.YtnncmaegmlaabaaGreatDoor
