/-
  Plain words on votes: what the project's vote finds at all indices is what the reference's does. No program.
-/
import Derived.Test.YtkgeeooijgcdkaaGreatDoorD1
import Derived.Test.YtkgeeooijgcdkaaGreatDoorEK
namespace Go.Proofs.YtkgeeooijgcdkaaGreatDoor
open Go.RowKit

/-- The levels that so many gauges have recorded at an index, in sixteenths; the reference's vote of them. -/
def rSk (bs : Nat → List Nat) (gs : Nat → List (Int × Int)) (i k : Nat) : List Int := ((List.range k).filter (fun r => !hasL (gs r) (i : Int))).map (fun r => s16 ((bs r).getD i 0))
theorem rSk_yes {bs : Nat → List Nat} {gs : Nat → List (Int × Int)} {i k : Nat} (h : hasL (gs k) (i : Int) = false) : rSk bs gs i (k + 1) = rSk bs gs i k ++ [s16 ((bs k).getD i 0)] := by simp [rSk, List.range_succ, h]
theorem rSk_no {bs : Nat → List Nat} {gs : Nat → List (Int × Int)} {i k : Nat} (h : hasL (gs k) (i : Int) = true) : rSk bs gs i (k + 1) = rSk bs gs i k := by simp [rSk, List.range_succ, h]
theorem rSk_len (bs : Nat → List Nat) (gs : Nat → List (Int × Int)) (i k : Nat) : (rSk bs gs i k).length ≤ k := by
  unfold rSk; rw [List.length_map]; exact Nat.le_trans (List.length_filter_le _ _) (by simp)
def rvI (bs : Nat → List Nat) (gs : Nat → List (Int × Int)) (tol : Int) (i : Nat) : Int × Bool := rvt (rSk bs gs i 3) tol
/-- That a gauge deviates at an index; at how many it does. -/
def rDev (bs : Nat → List Nat) (gs : Nat → List (Int × Int)) (tol : Int) (i g : Nat) : Bool := (rvI bs gs tol i).2 && (!hasL (gs g) (i : Int) && decide (max (s16 ((bs g).getD i 0) - (rvI bs gs tol i).1) (0 - (s16 ((bs g).getD i 0) - (rvI bs gs tol i).1)) > tol))
def rCnt (bs : Nat → List Nat) (gs : Nat → List (Int × Int)) (tol : Int) (g : Nat) : Nat → Int
  | 0 => 0
  | m + 1 => rCnt bs gs tol g m + (if rDev bs gs tol m g then 1 else 0)
theorem rCnt_le (bs : Nat → List Nat) (gs : Nat → List (Int × Int)) (tol : Int) (g : Nat) : ∀ m : Nat, 0 ≤ rCnt bs gs tol g m ∧ rCnt bs gs tol g m ≤ (m : Int)
  | 0 => by simp [rCnt]
  | m + 1 => by
    have := rCnt_le bs gs tol g m
    unfold rCnt
    split <;> omega
/-- Levels and marks behind so many indices. -/
def rMrk (bs : Nat → List Nat) (gs : Nat → List (Int × Int)) (tol : Int) (n m : Nat) : List Bool := (List.range n).map (fun j => decide (j < m) && (rvI bs gs tol j).2)
def rLev (bs : Nat → List Nat) (gs : Nat → List (Int × Int)) (tol : Int) (n m : Nat) : List Nat := (List.range n).map (fun j => if decide (j < m) && (rvI bs gs tol j).2 then lvl (rvI bs gs tol j).1 else 0)
theorem rLev_len (bs : Nat → List Nat) (gs : Nat → List (Int × Int)) (tol : Int) (n m : Nat) : (rLev bs gs tol n m).length = n := by simp [rLev]
theorem rMrk_len (bs : Nat → List Nat) (gs : Nat → List (Int × Int)) (tol : Int) (n m : Nat) : (rMrk bs gs tol n m).length = n := by simp [rMrk]
theorem rLev_zero (bs : Nat → List Nat) (gs : Nat → List (Int × Int)) (tol : Int) (n : Nat) : rLev bs gs tol n 0 = List.replicate n 0 := by
  apply List.ext_getElem
  · simp [rLev]
  · intro i h1 h2; simp [rLev]
theorem rMrk_zero (bs : Nat → List Nat) (gs : Nat → List (Int × Int)) (tol : Int) (n : Nat) : rMrk bs gs tol n 0 = List.replicate n false := by
  apply List.ext_getElem
  · simp [rMrk]
  · intro i h1 h2; simp [rMrk]
theorem rLev_no {bs : Nat → List Nat} {gs : Nat → List (Int × Int)} {tol : Int} {m : Nat} (n : Nat) (h : (rvI bs gs tol m).2 = false) : rLev bs gs tol n (m + 1) = rLev bs gs tol n m := by
  apply List.ext_getElem
  · simp [rLev]
  · intro i h1 h2
    simp only [rLev, List.getElem_map, List.getElem_range]
    by_cases e : i = m
    · subst e; simp [h]
    · rw [show decide (i < m + 1) = decide (i < m) by simp; omega]
theorem rMrk_no {bs : Nat → List Nat} {gs : Nat → List (Int × Int)} {tol : Int} {m : Nat} (n : Nat) (h : (rvI bs gs tol m).2 = false) : rMrk bs gs tol n (m + 1) = rMrk bs gs tol n m := by
  apply List.ext_getElem
  · simp [rMrk]
  · intro i h1 h2
    simp only [rMrk, List.getElem_map, List.getElem_range]
    by_cases e : i = m
    · subst e; simp [h]
    · rw [show decide (i < m + 1) = decide (i < m) by simp; omega]
theorem rLev_yes {bs : Nat → List Nat} {gs : Nat → List (Int × Int)} {tol : Int} {m : Nat} (n : Nat) (h : (rvI bs gs tol m).2 = true) : flc (rLev bs gs tol n (m + 1)) = (flc (rLev bs gs tol n m)).set m (.float .f32 (lvl (rvI bs gs tol m).1)) := by
  apply List.ext_getElem
  · simp [rLev, flc]
  · intro i h1 h2
    simp only [rLev, flc, List.getElem_map, List.getElem_range, List.getElem_set]
    by_cases e : m = i
    · subst e; simp [h]
    · rw [if_neg e, show decide (i < m + 1) = decide (i < m) by simp; omega]
theorem rMrk_yes {bs : Nat → List Nat} {gs : Nat → List (Int × Int)} {tol : Int} {m : Nat} (n : Nat) (h : (rvI bs gs tol m).2 = true) : (rMrk bs gs tol n (m + 1)).map Value.bool = ((rMrk bs gs tol n m).map Value.bool).set m (.bool true) := by
  apply List.ext_getElem
  · simp [rMrk]
  · intro i h1 h2
    simp only [rMrk, List.getElem_map, List.getElem_range, List.getElem_set]
    by_cases e : m = i
    · subst e; simp [h]
    · rw [if_neg e, show decide (i < m + 1) = decide (i < m) by simp; omega]

theorem updA_itm (F : Bal) (g : Nat) (bs : List Nat) (gs : List (Int × Int)) (hok : ∀ j, j < bs.length → levOK (bs.getD j 0) = true) :
    ∀ k, k ≤ bs.length → ∀ i r, updA F g (itm gs (fLvM bs) k) i r = if r = g ∧ i < k ∧ cov gs (i : Int) = false then some (bs.getD i 0) else F i r
  | 0, _, i, r => by
    rw [if_neg (by omega)]
    rfl
  | k + 1, hk, i, r => by
    have ih := updA_itm F g bs gs hok k (by omega) i r
    cases hc : cov gs (k : Int)
    · rw [itm_yes gs _ k hc, updA_snoc]
      unfold updB
      rw [fLvM_at bs hok k (by omega)]
      by_cases h1 : i = k ∧ r = g
      · rw [if_pos h1, if_pos ⟨h1.2, by omega, by rw [h1.1]; exact hc⟩, h1.1]
        simp
      · rw [if_neg h1, ih]
        by_cases h2 : r = g ∧ i < k ∧ cov gs (i : Int) = false
        · rw [if_pos h2, if_pos ⟨h2.1, by omega, h2.2.2⟩]
        · rw [if_neg h2, if_neg]
          rintro ⟨a, b, c⟩
          by_cases e : i = k
          · exact h1 ⟨e, a⟩
          · exact h2 ⟨a, by omega, c⟩
    · rw [itm_no gs _ k hc, ih]
      by_cases h2 : r = g ∧ i < k ∧ cov gs (i : Int) = false
      · rw [if_pos h2, if_pos ⟨h2.1, by omega, h2.2.2⟩]
      · rw [if_neg h2, if_neg]
        rintro ⟨a, b, c⟩
        by_cases e : i = k
        · rw [e, hc] at c; cases c
        · exact h2 ⟨a, by omega, c⟩
theorem balF_at (bs : Nat → List Nat) (gs : Nat → List (Int × Int)) (n : Nat) (hok : ∀ g, g < 3 → ∀ j, j < (bs g).length → levOK ((bs g).getD j 0) = true) (hn : ∀ g, g < 3 → (bs g).length = n) (hc : ∀ g, g < 3 → Can (gs g)) :
    ∀ m, m ≤ 3 → ∀ i r, balF bs gs m i r = if r < m ∧ i < n ∧ hasL (gs r) (i : Int) = false then some ((bs r).getD i 0) else none
  | 0, _, i, r => by
    rw [if_neg (by omega)]
    rfl
  | m + 1, hm, i, r => by
    have ih := balF_at bs gs n hok hn hc m (by omega) i r
    show updA (balF bs gs m) m (itm (gs m) (fLvM (bs m)) (bs m).length) i r = _
    rw [updA_itm _ m (bs m) (gs m) (hok m (by omega)) _ (Nat.le_refl _) i r, ih, hn m (by omega), cov_has _ _ (hc m (by omega))]
    by_cases h1 : r = m
    · subst h1
      by_cases h2 : i < n ∧ hasL (gs r) (i : Int) = false
      · rw [if_pos ⟨rfl, h2⟩, if_pos ⟨by omega, h2⟩]
      · rw [if_neg (fun h => h2 h.2), if_neg (by omega), if_neg (fun h => h2 h.2)]
    · rw [if_neg (fun h => h1 h.1)]
      by_cases h2 : r < m ∧ i < n ∧ hasL (gs r) (i : Int) = false
      · rw [if_pos h2, if_pos ⟨by omega, h2.2⟩]
      · rw [if_neg h2, if_neg (fun h => h2 ⟨by omega, h.2⟩)]
section
variable {bs : Nat → List Nat} {gs : Nat → List (Int × Int)} {n : Nat} {tol : Int}
/-- What the project's ballots have at an index. -/
structure Both (bs : Nat → List Nat) (gs : Nat → List (Int × Int)) (n : Nat) : Prop where
  len : ∀ g, g < 3 → (bs g).length = n
  can : ∀ g, g < 3 → Can (gs g)
  lev : ∀ g, g < 3 → ∀ j, j < n → chkLev ((bs g).getD j 0) = 0
theorem Both.at (h : Both bs gs n) {i r : Nat} (hr : r < 3) (hi : i < n) : balF bs gs 3 i r = if hasL (gs r) (i : Int) = false then some ((bs r).getD i 0) else none := by
  rw [balF_at bs gs n (fun g hg j hj => by rw [levOK_iff]; simpa using h.lev g hg j (by rw [← h.len g hg]; exact hj)) h.len h.can 3 (Nat.le_refl _) i r]
  by_cases h1 : hasL (gs r) (i : Int) = false
  · rw [if_pos ⟨hr, hi, h1⟩, if_pos h1]
  · rw [if_neg (fun h => h1 h.2.2), if_neg h1]
theorem Both.some (h : Both bs gs n) {i r : Nat} (hr : r < 3) (hi : i < n) : (balF bs gs 3 i r).isSome = !hasL (gs r) (i : Int) := by
  rw [h.at hr hi]
  cases hasL (gs r) (i : Int) <;> rfl
theorem Both.thr (h : Both bs gs n) {i : Nat} (hi : i < n) : (thr (fun r => flO (balF bs gs 3 i r)) (fun r => (balF bs gs 3 i r).isSome) 3).map s16 = rSk bs gs i 3 := by
  unfold Go.Proofs.YtkgeeooijgcdkaaGreatDoor.thr rSk
  rw [List.map_map]
  have e : (List.range 3).filter (fun r => (balF bs gs 3 i r).isSome) = (List.range 3).filter (fun r => !hasL (gs r) (i : Int)) := List.filter_congr (fun r hr => h.some (by simpa using hr) hi)
  rw [e]
  refine List.map_congr_left fun r hr => ?_
  rw [List.mem_filter, List.mem_range] at hr
  have h2 : hasL (gs r) (i : Int) = false := by simpa using hr.2
  show s16 (flO (balF bs gs 3 i r)) = _
  rw [h.at hr.1 hi, if_pos h2]
  rfl
theorem Both.known (h : Both bs gs n) {i : Nat} (hi : i < n) : ∀ r, r < 3 → (balF bs gs 3 i r).isSome = true → chkLev (flO (balF bs gs 3 i r)) = 0 := by
  intro r hr hs
  rw [h.some hr hi] at hs
  have h2 : hasL (gs r) (i : Int) = false := by simpa using hs
  rw [h.at hr hi, if_pos h2]
  exact h.lev r hr i hi
theorem Both.vote (h : Both bs gs n) (tol : Int) {i : Nat} (hi : i < n) : (vL (balF bs gs 3) tol i).2 = (rvI bs gs tol i).2 ∧ ((vL (balF bs gs 3) tol i).2 = true → chkLev (vL (balF bs gs 3) tol i).1 = 0 ∧ s16 (vL (balF bs gs 3) tol i).1 = (rvI bs gs tol i).1) := by
  have := vote_is (fun r => flO (balF bs gs 3 i r)) (fun r => (balF bs gs 3 i r).isSome) tol (h.known hi)
  rw [h.thr hi] at this
  exact this
theorem s16_in {b : Nat} (h : chkLev b = 0) : -1024 ≤ s16 b ∧ s16 b ≤ 1024 := (sixt_of (by rw [levOK_iff]; simpa using h)).2
theorem Both.val (h : Both bs gs n) (tol : Int) {i : Nat} (hi : i < n) (hv : (rvI bs gs tol i).2 = true) : -1024 ≤ (rvI bs gs tol i).1 ∧ (rvI bs gs tol i).1 ≤ 1024 := by
  obtain ⟨h1, h2⟩ := h.vote tol hi
  obtain ⟨h3, h4⟩ := h2 (h1.trans hv)
  rw [← h4]
  exact s16_in h3
theorem Both.mrk (h : Both bs gs n) (tol : Int) : vMrk (balF bs gs 3) tol n n = rMrk bs gs tol n n := by
  unfold vMrk rMrk
  refine List.map_congr_left fun i hi => ?_
  rw [(h.vote tol (by simpa using hi)).1]
theorem Both.dev (h : Both bs gs n) (tol : Int) {i g : Nat} (hi : i < n) (hg : g < 3) : vDev (balF bs gs 3) tol i g = rDev bs gs tol i g := by
  obtain ⟨h1, h2⟩ := h.vote tol hi
  unfold vDev rDev devF
  rw [← h1]
  cases hv : (vL (balF bs gs 3) tol i).2
  · rfl
  · obtain ⟨h3, h4⟩ := h2 hv
    show (true && ((balF bs gs 3 i g).isSome && decide (dst (flO (balF bs gs 3 i g)) (vL (balF bs gs 3) tol i).1 > tol))) = _
    rw [h.some hg hi, Bool.true_and, Bool.true_and]
    cases hh : hasL (gs g) (i : Int)
    · have e : flO (balF bs gs 3 i g) = (bs g).getD i 0 := by rw [h.at hg hi, if_pos hh]; rfl
      rw [e]
      unfold dst
      rw [h4]
      simp only [Bool.not_false, Bool.true_and, decide_eq_decide]
      omega
    · rfl
theorem Both.cnt (h : Both bs gs n) (tol : Int) {g : Nat} (hg : g < 3) : ∀ m, m ≤ n → vCnt (balF bs gs 3) tol g m = rCnt bs gs tol g m
  | 0, _ => rfl
  | m + 1, hm => by
    unfold vCnt rCnt
    rw [h.cnt tol hg m (by omega), h.dev tol (by omega) hg]
theorem Both.levs (h : Both bs gs n) (tol : Int) : sameF feqL 0 (asmK (vLev (balF bs gs 3) tol n n) (vMrk (balF bs gs 3) tol n n) n) (asmK (rLev bs gs tol n n) (rMrk bs gs tol n n) n) = true := by
  have hz : feqL 0 0 = true := feq_self (by decide +kernel)
  refine sameF_yes feqL 0 _ _ (by rw [asmK_len, asmK_len, vLev_len, rLev_len]) fun i hi => ?_
  rw [asmK_len, vLev_len] at hi
  have e1 := asmK_at (vLev (balF bs gs 3) tol n n) (vMrk (balF bs gs 3) tol n n) i (by rw [vLev_len]; exact hi)
  have e2 := asmK_at (rLev bs gs tol n n) (rMrk bs gs tol n n) i (by rw [rLev_len]; exact hi)
  rw [vLev_len] at e1
  rw [rLev_len] at e2
  rw [e1, e2, h.mrk tol]
  have e3 : (rMrk bs gs tol n n).getD i false = (rvI bs gs tol i).2 := by simp [rMrk, hi]
  have e4 : (vLev (balF bs gs 3) tol n n).getD i 0 = if (vL (balF bs gs 3) tol i).2 then (vL (balF bs gs 3) tol i).1 else 0 := by simp [vLev, hi]
  have e5 : (rLev bs gs tol n n).getD i 0 = if (rvI bs gs tol i).2 then lvl (rvI bs gs tol i).1 else 0 := by simp [rLev, hi]
  rw [e3, e4, e5]
  obtain ⟨h1, h2⟩ := h.vote tol hi
  cases hv : (rvI bs gs tol i).2
  · simp only [Bool.false_eq_true, if_false]
    exact hz
  · rw [h1, hv]
    simp only [if_true]
    obtain ⟨h3, h4⟩ := h2 (h1.trans hv)
    obtain ⟨-, h6, h7⟩ := lvl_ok (h.val tol hi hv)
    rw [feq16 h3 h6, h4, h7]
    exact decide_eq_true rfl
end
end Go.Proofs.YtkgeeooijgcdkaaGreatDoor
