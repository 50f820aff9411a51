/-
  Plain words of GaugeKeeps: a cleaned record is valid, and what the law asks of each of its levels. No program.
-/
import Derived.Test.YtfmmmpmdnfpofaaGreatDoorKP
namespace Go.Proofs.YtfmmmpmdnfpofaaGreatDoor
open Go.RowKit

theorem can_count : ∀ (l : List (Int × Int)) (lo hi : Int), Can l → (∀ s ∈ l, lo ≤ s.1 ∧ s.2 ≤ hi) → l ≠ [] → lo + 2 * (l.length : Int) ≤ hi + 1
  | [], _, _, _, _, h => absurd rfl h
  | [s], lo, hi, hC, hb, _ => by
    have h1 := hb s (List.mem_cons_self ..)
    have h2 := hC.2 s (List.mem_cons_self ..)
    simp only [List.length_cons, List.length_nil]
    omega
  | s :: r :: l, lo, hi, hC, hb, _ => by
    obtain ⟨c1, c2, c3⟩ := can_tail hC
    have h1 := hb s (List.mem_cons_self ..)
    have ih := can_count (r :: l) (s.2 + 1) hi c1 (fun x hx => ⟨by have := c2 x hx; omega, (hb x (List.mem_cons_of_mem _ hx)).2⟩) (by simp)
    simp only [List.length_cons] at ih ⊢
    push_cast at ih ⊢
    omega
theorem str_few (bs : List Bool) (n : Nat) (hn : n ≤ 4096) : (strF bs n).length ≤ 2048 := by
  by_cases h : strF bs n = []
  · rw [h]; simp
  · obtain ⟨h1, h2, -⟩ := str_can bs n
    have := can_count _ 0 (n : Int) h1 h2 h
    omega
theorem lev_zeroK : chkLev 0 = 0 := by decide +kernel
theorem asm_levK (bs : List Nat) (T : List Bool) (hl : ∀ i, i < bs.length → chkLev (bs.getD i 0) = 0) (j : Nat) (hj : j < bs.length) : chkLev ((asmK bs T bs.length).getD j 0) = 0 := by
  rw [asmK_at bs T j hj]
  split
  · exact hl j hj
  · exact lev_zeroK
/-- In the gaps of what has been cleaned there is nothing. -/
theorem str_has (bs : List Nat) (T : List Bool) (hT : T.length = bs.length) (j : Nat) (hj : j < bs.length) : hasL (strF (T.map (!·)) bs.length) (j : Int) = !T.getD j false := by
  have h3 := (str_can (T.map (!·)) bs.length).2.2 (j : Int)
  have e1 : decide ((0 : Int) ≤ (j : Int)) = true := by simp
  have e2 : decide ((j : Int) < (bs.length : Int)) = true := by simp; omega
  rw [e1, e2, Int.toNat_natCast, not_getD _ j (by omega)] at h3
  simpa using h3
theorem asm_len (bs : List Nat) (T : List Bool) : (asmK bs T bs.length).length = bs.length := by rw [asmK_len]
theorem fst0_all : ∀ (l : List Int), (∀ j, j < l.length → l.getD j 0 = 0) → fst0 l = 0
  | [], _ => rfl
  | x :: l, h => by
    have h0 := h 0 (by simp)
    have : x = 0 := by simpa using h0
    unfold fst0
    rw [if_pos this]
    exact fst0_all l (fun j hj => by have := h (j + 1) (by simpa using hj); simpa using this)
theorem cleaned_ok (nm : ByteArray) (st : Int) (bs : List Nat) (gs : List (Int × Int)) (T : List Bool) (hT : T.length = bs.length) (hn : bs.length ≤ 4096) (h : chkRec nm st bs gs = 0) (hl : ∀ i, i < bs.length → chkLev (bs.getD i 0) = 0) :
    chkRec nm st (asmK bs T bs.length) (strF (T.map (!·)) bs.length) = 0 := by
  have h1 : rec1 nm st bs.length = 0 := by
    unfold chkRec at h
    by_cases h1 : rec1 nm st bs.length = 0
    · exact h1
    · rw [if_neg h1] at h; exact absurd h h1
  obtain ⟨c1, c2, -⟩ := str_can (T.map (!·)) bs.length
  have hch : chkSpans (strF (T.map (!·)) bs.length) = 0 := chk_can _ c1 (fun s hs => ⟨(c2 s hs).1, by have := (c2 s hs).2; omega⟩) (str_few _ _ hn)
  have hlev : fst0 (levErr (asmK bs T bs.length)) = 0 := by
    apply fst0_all
    intro j hj
    have hj : j < (asmK bs T bs.length).length := by simpa [levErr] using hj
    rw [levErr_at _ j hj]
    exact asm_levK bs T hl j (by rwa [asm_len] at hj)
  have hend : ∀ j, j < (strF (T.map (!·)) bs.length).length → ((strF (T.map (!·)) bs.length).getD j (0, 0)).2 ≤ ((asmK bs T bs.length).length : Int) := fun j hj => by
    rw [asm_len]
    exact (c2 _ (getD_mem _ j hj)).2
  have h2 := rec2_fine hlev hch hend
  have h3 : silB (asmK bs T bs.length) (strF (T.map (!·)) bs.length) = true := by
    refine (silB_true _ _ (fun s hs => by rw [asm_len]; exact (c2 s hs).2)).2 ?_
    intro j hj i hi1 hi2
    have hm := getD_mem (strF (T.map (!·)) bs.length) j hj
    have hb := c2 _ hm
    have hi : i < bs.length := by omega
    have hh : hasL (strF (T.map (!·)) bs.length) (i : Int) = true := hasL_true.2 ⟨_, hm, hi1, hi2⟩
    rw [str_has bs T hT i hi] at hh
    rw [asmK_at bs T i hi, if_neg (by simpa using hh)]
    decide +kernel
  unfold chkRec
  rw [asm_len, if_pos h1, if_pos h2, h3]
  rfl
end Go.Proofs.YtfmmmpmdnfpofaaGreatDoor
