/-
  Plain words on votes: the project's vote of what is recorded at an index is the reference's; sixteenths as levels. No program.
  Plain words on votes: what the project's vote finds at all indices is what the reference's does. No program.
-/
import Derived.Test.YtibhjdmndlelaaaGreatDoorMR
import Derived.Test.YtibhjdmndlelaaaGreatDoorT1
import Derived.Laws.Cover2
import Derived.Laws.FloatArith
import Derived.Test.YtibhjdmndlelaaaGreatDoorEK

namespace Go.Proofs.YtibhjdmndlelaaaGreatDoor
open Go.RowKit
open Ieee (Format Datum)

/-- A valid level's value, by its sixteenths. -/
theorem num16 {b : Nat} (h : chkLev b = 0) : num b * 16 = s16 b * (oneU sgl : Int) := by
  unfold chkLev at h
  cases hd0 : FloatKind.f32.decode b with
  | nan s t => rw [hd0] at h; cases h
  | infinity s => rw [hd0] at h; cases h
  | number s m e =>
    rw [hd0] at h
    simp only at h
    split at h
    · rename_i hc
      obtain ⟨hf, he⟩ := f32_top hd0
      obtain ⟨v1, -⟩ := sixt_num hf hc.2
      have h1 := hf.lp
      rw [sgl_lp] at h1
      have hp9 := Nat.two_pow_pos K9
      have hdiv : 16 * magOf sgl m e % oneU sgl = 0 := by
        have := hc.1
        rw [mag_wide m e h1, one_wide, ← Nat.mul_assoc, Nat.mul_mod_mul_right] at this
        rcases Nat.mul_eq_zero.1 this with h | h
        · exact h
        · omega
      rw [mag_wide m e h1, one_wide, ← Nat.mul_assoc, Nat.mul_div_mul_right _ _ hp9] at v1
      have hn : num b = sgnI s (magOf sgl m e) := by unfold num; rw [hd0]
      unfold s16
      rw [v1, hn]
      have hq : 16 * magOf sgl m e / oneU sgl * oneU sgl = 16 * magOf sgl m e := Nat.div_mul_cancel (Nat.dvd_of_mod_eq_zero hdiv)
      simp only [Option.getD_some]
      unfold sgnI
      cases s
      · simp only [Bool.false_eq_true, if_false]
        rw [← Int.natCast_mul, hq]; omega
      · simp only [if_true]
        rw [Int.neg_mul, Int.neg_mul, ← Int.natCast_mul, hq]; omega
    · cases h
theorem num_lt {a b : Nat} (ha : chkLev a = 0) (hb : chkLev b = 0) : num a < num b ↔ s16 a < s16 b := by
  have h1 := num16 ha
  have h2 := num16 hb
  have hp : (0 : Int) < (oneU sgl : Int) := by have := oneU_pos sgl; omega
  constructor
  · intro h
    refine Int.lt_of_mul_lt_mul_right (a := (oneU sgl : Int)) ?_ (Int.le_of_lt hp)
    rw [← h1, ← h2]; omega
  · intro h
    have := Int.mul_lt_mul_of_pos_right h hp
    rw [← h1, ← h2] at this
    omega
theorem num_eq {a b : Nat} (ha : chkLev a = 0) (hb : chkLev b = 0) : num a = num b ↔ s16 a = s16 b := by
  have h1 := num_lt ha hb
  have h2 := num_lt hb ha
  omega
theorem feq16 {a b : Nat} (ha : chkLev a = 0) (hb : chkLev b = 0) : feqL a b = decide (s16 a = s16 b) := by
  rw [feq_num (fin_lev ha) (fin_lev hb), decide_eq_decide, num_eq ha hb]
theorem fls16 {a b : Nat} (ha : chkLev a = 0) (hb : chkLev b = 0) : fls a b = decide (s16 a < s16 b) := by
  show flt a b = _
  rw [flt_num (fin_lev ha) (fin_lev hb), decide_eq_decide, num_lt ha hb]
theorem fmx16 {a b : Nat} (ha : chkLev a = 0) (hb : chkLev b = 0) : chkLev (fmx a b) = 0 ∧ s16 (fmx a b) = max (s16 a) (s16 b) := by
  have hl : levOK (fmx a b) = true := fmx_lev (by rw [levOK_iff]; simpa using ha) (by rw [levOK_iff]; simpa using hb)
  have hc : chkLev (fmx a b) = 0 := by rw [levOK_iff] at hl; simpa using hl
  refine ⟨hc, ?_⟩
  obtain ⟨-, g2⟩ := fmx_max (fin_lev ha) (fin_lev hb)
  have e1 := num_lt ha hb
  by_cases h : s16 a < s16 b
  · have : num (fmx a b) = num b := by rw [g2]; have := e1.2 h; omega
    rw [(num_eq hc hb).1 this]; omega
  · have : num (fmx a b) = num a := by rw [g2]; have := fun h' => h (e1.1 h'); omega
    rw [(num_eq hc ha).1 this]; omega

/-- The vote of some levels in sixteenths, and whether there is one. -/
def rvt (l : List Int) (tol : Int) : Int × Bool :=
  match l with
  | [a, b, c] => (a + b + c - min (min a b) c - max (max a b) c, true)
  | [a, b] => if max (a - b) (b - a) ≤ tol then (max a b, true) else (0, false)
  | _ => (0, false)
theorem inr_yes {m : Nat} {t : Nat → Nat} (h : fls (t (m + 1)) (t m) = true) : inr (m + 1) t = inr m (swp t (m + 1)) := by
  rw [show inr (m + 1) t = if fls (t (m + 1)) (t m) then inr m (swp t (m + 1)) else t from rfl, if_pos h]
theorem inr_no {m : Nat} {t : Nat → Nat} (h : fls (t (m + 1)) (t m) = false) : inr (m + 1) t = t := by
  rw [show inr (m + 1) t = if fls (t (m + 1)) (t m) then inr m (swp t (m + 1)) else t from rfl, if_neg (by rw [h]; simp)]
theorem fin3_mid (t : Nat → Nat) (h0 : chkLev (t 0) = 0) (h1 : chkLev (t 1) = 0) (h2 : chkLev (t 2) = 0) : s16 (fin3 1 t 1) = s16 (t 0) + s16 (t 1) + s16 (t 2) - min (min (s16 (t 0)) (s16 (t 1))) (s16 (t 2)) - max (max (s16 (t 0)) (s16 (t 1))) (s16 (t 2)) := by
  have e01 := fls16 h1 h0
  have e12 := fls16 h2 h1
  have e02 := fls16 h2 h0
  show s16 (inr 2 (inr 1 t) 1) = _
  by_cases a1 : s16 (t 1) < s16 (t 0)
  · rw [inr_yes (m := 0) (t := t) (by rw [show (0 + 1) = 1 from rfl, e01]; exact decide_eq_true a1)]
    show s16 (inr 2 (swp t 1) 1) = _
    have u2 : swp t 1 2 = t 2 := by simp [swp]
    have u1 : swp t 1 1 = t 0 := by simp [swp]
    have u0 : swp t 1 0 = t 1 := by simp [swp]
    by_cases a2 : s16 (t 2) < s16 (t 0)
    · rw [inr_yes (m := 1) (t := swp t 1) (by rw [show (1 + 1) = 2 from rfl, u2, u1, e02]; exact decide_eq_true a2)]
      show s16 (inr 1 (swp (swp t 1) 2) 1) = _
      have v1 : swp (swp t 1) 2 1 = t 2 := by simp [swp]
      have v0 : swp (swp t 1) 2 0 = t 1 := by simp [swp]
      by_cases a3 : s16 (t 2) < s16 (t 1)
      · rw [inr_yes (m := 0) (t := swp (swp t 1) 2) (by rw [show (0 + 1) = 1 from rfl, v1, v0, e12]; exact decide_eq_true a3)]
        have : (inr 0 (swp (swp (swp t 1) 2) 1)) 1 = t 1 := by simp [inr, swp]
        rw [show (0 + 1) = 1 from rfl, this]; omega
      · rw [inr_no (m := 0) (t := swp (swp t 1) 2) (by rw [show (0 + 1) = 1 from rfl, v1, v0, e12]; exact decide_eq_false a3), v1]; omega
    · rw [inr_no (m := 1) (t := swp t 1) (by rw [show (1 + 1) = 2 from rfl, u2, u1, e02]; exact decide_eq_false a2), u1]; omega
  · rw [inr_no (m := 0) (t := t) (by rw [show (0 + 1) = 1 from rfl, e01]; exact decide_eq_false a1)]
    by_cases a2 : s16 (t 2) < s16 (t 1)
    · rw [inr_yes (m := 1) (t := t) (by rw [show (1 + 1) = 2 from rfl, e12]; exact decide_eq_true a2)]
      show s16 (inr 1 (swp t 2) 1) = _
      have v1 : swp t 2 1 = t 2 := by simp [swp]
      have v0 : swp t 2 0 = t 0 := by simp [swp]
      by_cases a3 : s16 (t 2) < s16 (t 0)
      · rw [inr_yes (m := 0) (t := swp t 2) (by rw [show (0 + 1) = 1 from rfl, v1, v0, e02]; exact decide_eq_true a3)]
        have : (inr 0 (swp (swp t 2) 1)) 1 = t 0 := by simp [inr, swp]
        rw [show (0 + 1) = 1 from rfl, this]; omega
      · rw [inr_no (m := 0) (t := swp t 2) (by rw [show (0 + 1) = 1 from rfl, v1, v0, e02]; exact decide_eq_false a3), v1]; omega
    · rw [inr_no (m := 1) (t := t) (by rw [show (1 + 1) = 2 from rfl, e12]; exact decide_eq_false a2)]; omega
/-- The project's vote of an index is the reference's. -/
theorem vote_is (x : Nat → Nat) (k : Nat → Bool) (tol : Int) (hx : ∀ i, i < 3 → k i = true → chkLev (x i) = 0) :
    (resF x k tol).2 = (rvt ((thr x k 3).map s16) tol).2 ∧ ((resF x k tol).2 = true → chkLev (resF x k tol).1 = 0 ∧ s16 (resF x k tol).1 = (rvt ((thr x k 3).map s16) tol).1) := by
  have ht : thr x k 3 = (if k 0 then [x 0] else []) ++ (if k 1 then [x 1] else []) ++ (if k 2 then [x 2] else []) := by
    unfold thr
    cases h0 : k 0 <;> cases h1 : k 1 <;> cases h2 : k 2 <;> simp [List.range_succ, h0, h1, h2]
  have two : ∀ a b, chkLev a = 0 → chkLev b = 0 → (k 0 && k 1 && k 2) = false → thr x k 3 = [a, b] → (resF x k tol).2 = (rvt ((thr x k 3).map s16) tol).2 ∧ ((resF x k tol).2 = true → chkLev (resF x k tol).1 = 0 ∧ s16 (resF x k tol).1 = (rvt ((thr x k 3).map s16) tol).1) := by
    intro a b ha hb hk e
    rw [resF_two hk e, e]
    unfold rvt dst
    simp only [List.map_cons, List.map_nil]
    by_cases hg : max (s16 a - s16 b) (s16 b - s16 a) > tol
    · rw [if_pos hg, if_neg (by omega)]
      exact ⟨rfl, fun h => by cases h⟩
    · rw [if_neg hg, if_pos (by omega)]
      exact ⟨rfl, fun _ => fmx16 ha hb⟩
  have few : (k 0 && k 1 && k 2) = false → (thr x k 3).length < 2 → (resF x k tol).2 = (rvt ((thr x k 3).map s16) tol).2 ∧ ((resF x k tol).2 = true → chkLev (resF x k tol).1 = 0 ∧ s16 (resF x k tol).1 = (rvt ((thr x k 3).map s16) tol).1) := by
    intro hk hl
    rw [resF_few hk hl]
    refine ⟨?_, fun h => by cases h⟩
    match hq : thr x k 3, hl with
    | [], _ => rfl
    | [a], _ => rfl
  cases h0 : k 0 <;> cases h1 : k 1 <;> cases h2 : k 2 <;> simp only [h0, h1, h2, if_true, Bool.false_eq_true, if_false, List.nil_append, List.append_nil, List.cons_append] at ht
  · exact few (by simp [h0]) (by rw [ht]; simp)
  · exact few (by simp [h0]) (by rw [ht]; simp)
  · exact few (by simp [h0]) (by rw [ht]; simp)
  · exact two _ _ (hx 1 (by omega) h1) (hx 2 (by omega) h2) (by simp [h0]) ht
  · exact few (by simp [h1]) (by rw [ht]; simp)
  · exact two _ _ (hx 0 (by omega) h0) (hx 2 (by omega) h2) (by simp [h1]) ht
  · exact two _ _ (hx 0 (by omega) h0) (hx 1 (by omega) h1) (by simp [h2]) ht
  · rw [resF_three (by simp [h0, h1, h2]), ht]
    unfold rvt
    simp only [List.map_cons, List.map_nil]
    refine ⟨trivial, fun _ => ⟨?_, fin3_mid x (hx 0 (by omega) h0) (hx 1 (by omega) h1) (hx 2 (by omega) h2)⟩⟩
    have hl := resF_lev (x := x) (k := k) (tol := tol) (fun i hi hk => by rw [levOK_iff]; simpa using hx i hi hk) (by rw [resF_three (by simp [h0, h1, h2])])
    rw [resF_three (by simp [h0, h1, h2])] at hl
    rw [levOK_iff] at hl
    simpa using hl
end Go.Proofs.YtibhjdmndlelaaaGreatDoor

namespace Go.Proofs.YtibhjdmndlelaaaGreatDoor
open Go.RowKit

/-- The levels that so many gauges have recorded at an index, in sixteenths; the reference's vote of them. -/
def rSk (bs : Nat → List Nat) (gs : Nat → List (Int × Int)) (i k : Nat) : List Int := ((List.range k).filter (fun r => !hasL (gs r) (i : Int))).map (fun r => s16 ((bs r).getD i 0))
theorem rSk_yes {bs : Nat → List Nat} {gs : Nat → List (Int × Int)} {i k : Nat} (h : hasL (gs k) (i : Int) = false) : rSk bs gs i (k + 1) = rSk bs gs i k ++ [s16 ((bs k).getD i 0)] := by simp [rSk, List.range_succ, h]
theorem rSk_no {bs : Nat → List Nat} {gs : Nat → List (Int × Int)} {i k : Nat} (h : hasL (gs k) (i : Int) = true) : rSk bs gs i (k + 1) = rSk bs gs i k := by simp [rSk, List.range_succ, h]
theorem rSk_len (bs : Nat → List Nat) (gs : Nat → List (Int × Int)) (i k : Nat) : (rSk bs gs i k).length ≤ k := by
  unfold rSk; rw [List.length_map]; exact Nat.le_trans (List.length_filter_le _ _) (by simp)
def rvI (bs : Nat → List Nat) (gs : Nat → List (Int × Int)) (tol : Int) (i : Nat) : Int × Bool := rvt (rSk bs gs i 3) tol
/-- That a gauge deviates at an index; at how many it does. -/
def rDev (bs : Nat → List Nat) (gs : Nat → List (Int × Int)) (tol : Int) (i g : Nat) : Bool := (rvI bs gs tol i).2 && (!hasL (gs g) (i : Int) && decide (max (s16 ((bs g).getD i 0) - (rvI bs gs tol i).1) (0 - (s16 ((bs g).getD i 0) - (rvI bs gs tol i).1)) > tol))
def rCnt (bs : Nat → List Nat) (gs : Nat → List (Int × Int)) (tol : Int) (g : Nat) : Nat → Int
  | 0 => 0
  | m + 1 => rCnt bs gs tol g m + (if rDev bs gs tol m g then 1 else 0)
theorem rCnt_le (bs : Nat → List Nat) (gs : Nat → List (Int × Int)) (tol : Int) (g : Nat) : ∀ m : Nat, 0 ≤ rCnt bs gs tol g m ∧ rCnt bs gs tol g m ≤ (m : Int)
  | 0 => by simp [rCnt]
  | m + 1 => by
    have := rCnt_le bs gs tol g m
    unfold rCnt
    split <;> omega
/-- Levels and marks behind so many indices. -/
def rMrk (bs : Nat → List Nat) (gs : Nat → List (Int × Int)) (tol : Int) (n m : Nat) : List Bool := (List.range n).map (fun j => decide (j < m) && (rvI bs gs tol j).2)
theorem updA_itm (F : Bal) (g : Nat) (bs : List Nat) (gs : List (Int × Int)) (hok : ∀ j, j < bs.length → levOK (bs.getD j 0) = true) :
    ∀ k, k ≤ bs.length → ∀ i r, updA F g (itm gs (fLvM bs) k) i r = if r = g ∧ i < k ∧ cov gs (i : Int) = false then some (bs.getD i 0) else F i r
  | 0, _, i, r => by
    rw [if_neg (by omega)]
    rfl
  | k + 1, hk, i, r => by
    have ih := updA_itm F g bs gs hok k (by omega) i r
    cases hc : cov gs (k : Int)
    · rw [itm_yes gs _ k hc, updA_snoc]
      unfold updB
      rw [fLvM_at bs hok k (by omega)]
      by_cases h1 : i = k ∧ r = g
      · rw [if_pos h1, if_pos ⟨h1.2, by omega, by rw [h1.1]; exact hc⟩, h1.1]
        simp
      · rw [if_neg h1, ih]
        by_cases h2 : r = g ∧ i < k ∧ cov gs (i : Int) = false
        · rw [if_pos h2, if_pos ⟨h2.1, by omega, h2.2.2⟩]
        · rw [if_neg h2, if_neg]
          rintro ⟨a, b, c⟩
          by_cases e : i = k
          · exact h1 ⟨e, a⟩
          · exact h2 ⟨a, by omega, c⟩
    · rw [itm_no gs _ k hc, ih]
      by_cases h2 : r = g ∧ i < k ∧ cov gs (i : Int) = false
      · rw [if_pos h2, if_pos ⟨h2.1, by omega, h2.2.2⟩]
      · rw [if_neg h2, if_neg]
        rintro ⟨a, b, c⟩
        by_cases e : i = k
        · rw [e, hc] at c; cases c
        · exact h2 ⟨a, by omega, c⟩
theorem balF_at (bs : Nat → List Nat) (gs : Nat → List (Int × Int)) (n : Nat) (hok : ∀ g, g < 3 → ∀ j, j < (bs g).length → levOK ((bs g).getD j 0) = true) (hn : ∀ g, g < 3 → (bs g).length = n) (hc : ∀ g, g < 3 → Can (gs g)) :
    ∀ m, m ≤ 3 → ∀ i r, balF bs gs m i r = if r < m ∧ i < n ∧ hasL (gs r) (i : Int) = false then some ((bs r).getD i 0) else none
  | 0, _, i, r => by
    rw [if_neg (by omega)]
    rfl
  | m + 1, hm, i, r => by
    have ih := balF_at bs gs n hok hn hc m (by omega) i r
    show updA (balF bs gs m) m (itm (gs m) (fLvM (bs m)) (bs m).length) i r = _
    rw [updA_itm _ m (bs m) (gs m) (hok m (by omega)) _ (Nat.le_refl _) i r, ih, hn m (by omega), cov_has _ _ (hc m (by omega))]
    by_cases h1 : r = m
    · subst h1
      by_cases h2 : i < n ∧ hasL (gs r) (i : Int) = false
      · rw [if_pos ⟨rfl, h2⟩, if_pos ⟨by omega, h2⟩]
      · rw [if_neg (fun h => h2 h.2), if_neg (by omega), if_neg (fun h => h2 h.2)]
    · rw [if_neg (fun h => h1 h.1)]
      by_cases h2 : r < m ∧ i < n ∧ hasL (gs r) (i : Int) = false
      · rw [if_pos h2, if_pos ⟨by omega, h2.2⟩]
      · rw [if_neg h2, if_neg (fun h => h2 ⟨by omega, h.2⟩)]
section
variable {bs : Nat → List Nat} {gs : Nat → List (Int × Int)} {n : Nat} {tol : Int}
/-- What the project's ballots have at an index. -/
structure Both (bs : Nat → List Nat) (gs : Nat → List (Int × Int)) (n : Nat) : Prop where
  len : ∀ g, g < 3 → (bs g).length = n
  can : ∀ g, g < 3 → Can (gs g)
  lev : ∀ g, g < 3 → ∀ j, j < n → chkLev ((bs g).getD j 0) = 0
theorem Both.at (h : Both bs gs n) {i r : Nat} (hr : r < 3) (hi : i < n) : balF bs gs 3 i r = if hasL (gs r) (i : Int) = false then some ((bs r).getD i 0) else none := by
  rw [balF_at bs gs n (fun g hg j hj => by rw [levOK_iff]; simpa using h.lev g hg j (by rw [← h.len g hg]; exact hj)) h.len h.can 3 (Nat.le_refl _) i r]
  by_cases h1 : hasL (gs r) (i : Int) = false
  · rw [if_pos ⟨hr, hi, h1⟩, if_pos h1]
  · rw [if_neg (fun h => h1 h.2.2), if_neg h1]
theorem Both.some (h : Both bs gs n) {i r : Nat} (hr : r < 3) (hi : i < n) : (balF bs gs 3 i r).isSome = !hasL (gs r) (i : Int) := by
  rw [h.at hr hi]
  cases hasL (gs r) (i : Int) <;> rfl
theorem Both.thr (h : Both bs gs n) {i : Nat} (hi : i < n) : (thr (fun r => flO (balF bs gs 3 i r)) (fun r => (balF bs gs 3 i r).isSome) 3).map s16 = rSk bs gs i 3 := by
  unfold Go.Proofs.YtibhjdmndlelaaaGreatDoor.thr rSk
  rw [List.map_map]
  have e : (List.range 3).filter (fun r => (balF bs gs 3 i r).isSome) = (List.range 3).filter (fun r => !hasL (gs r) (i : Int)) := List.filter_congr (fun r hr => h.some (by simpa using hr) hi)
  rw [e]
  refine List.map_congr_left fun r hr => ?_
  rw [List.mem_filter, List.mem_range] at hr
  have h2 : hasL (gs r) (i : Int) = false := by simpa using hr.2
  show s16 (flO (balF bs gs 3 i r)) = _
  rw [h.at hr.1 hi, if_pos h2]
  rfl
theorem Both.known (h : Both bs gs n) {i : Nat} (hi : i < n) : ∀ r, r < 3 → (balF bs gs 3 i r).isSome = true → chkLev (flO (balF bs gs 3 i r)) = 0 := by
  intro r hr hs
  rw [h.some hr hi] at hs
  have h2 : hasL (gs r) (i : Int) = false := by simpa using hs
  rw [h.at hr hi, if_pos h2]
  exact h.lev r hr i hi
theorem Both.vote (h : Both bs gs n) (tol : Int) {i : Nat} (hi : i < n) : (vL (balF bs gs 3) tol i).2 = (rvI bs gs tol i).2 ∧ ((vL (balF bs gs 3) tol i).2 = true → chkLev (vL (balF bs gs 3) tol i).1 = 0 ∧ s16 (vL (balF bs gs 3) tol i).1 = (rvI bs gs tol i).1) := by
  have := vote_is (fun r => flO (balF bs gs 3 i r)) (fun r => (balF bs gs 3 i r).isSome) tol (h.known hi)
  rw [h.thr hi] at this
  exact this
theorem s16_in {b : Nat} (h : chkLev b = 0) : -1024 ≤ s16 b ∧ s16 b ≤ 1024 := (sixt_of (by rw [levOK_iff]; simpa using h)).2
theorem Both.val (h : Both bs gs n) (tol : Int) {i : Nat} (hi : i < n) (hv : (rvI bs gs tol i).2 = true) : -1024 ≤ (rvI bs gs tol i).1 ∧ (rvI bs gs tol i).1 ≤ 1024 := by
  obtain ⟨h1, h2⟩ := h.vote tol hi
  obtain ⟨h3, h4⟩ := h2 (h1.trans hv)
  rw [← h4]
  exact s16_in h3
theorem Both.mrk (h : Both bs gs n) (tol : Int) : vMrk (balF bs gs 3) tol n n = rMrk bs gs tol n n := by
  unfold vMrk rMrk
  refine List.map_congr_left fun i hi => ?_
  rw [(h.vote tol (by simpa using hi)).1]
theorem Both.dev (h : Both bs gs n) (tol : Int) {i g : Nat} (hi : i < n) (hg : g < 3) : vDev (balF bs gs 3) tol i g = rDev bs gs tol i g := by
  obtain ⟨h1, h2⟩ := h.vote tol hi
  unfold vDev rDev devF
  rw [← h1]
  cases hv : (vL (balF bs gs 3) tol i).2
  · rfl
  · obtain ⟨h3, h4⟩ := h2 hv
    show (true && ((balF bs gs 3 i g).isSome && decide (dst (flO (balF bs gs 3 i g)) (vL (balF bs gs 3) tol i).1 > tol))) = _
    rw [h.some hg hi, Bool.true_and, Bool.true_and]
    cases hh : hasL (gs g) (i : Int)
    · have e : flO (balF bs gs 3 i g) = (bs g).getD i 0 := by rw [h.at hg hi, if_pos hh]; rfl
      rw [e]
      unfold dst
      rw [h4]
      simp only [Bool.not_false, Bool.true_and, decide_eq_decide]
      omega
    · rfl
theorem Both.cnt (h : Both bs gs n) (tol : Int) {g : Nat} (hg : g < 3) : ∀ m, m ≤ n → vCnt (balF bs gs 3) tol g m = rCnt bs gs tol g m
  | 0, _ => rfl
  | m + 1, hm => by
    unfold vCnt rCnt
    rw [h.cnt tol hg m (by omega), h.dev tol (by omega) hg]
end
end Go.Proofs.YtibhjdmndlelaaaGreatDoor
