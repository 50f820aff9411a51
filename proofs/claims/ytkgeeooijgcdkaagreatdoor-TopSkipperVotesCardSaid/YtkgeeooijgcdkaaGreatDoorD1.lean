/-
  Plain words on votes: the project's vote of what is recorded at an index is the reference's; sixteenths as levels. No program.
-/
import Derived.Test.YtkgeeooijgcdkaaGreatDoorMR
import Derived.Test.YtkgeeooijgcdkaaGreatDoorT0
import Derived.Test.YtkgeeooijgcdkaaGreatDoorT1
import Derived.Test.YtkgeeooijgcdkaaGreatDoorP0
import Derived.Laws.Cover2
import Derived.Laws.FloatArith
namespace Go.Proofs.YtkgeeooijgcdkaaGreatDoor
open Go.RowKit
open Ieee (Format Datum)

/-- Sixteenths as a level. -/
def lvl (v : Int) : Nat := (floatBits .quo .f32 (floatOfInt .f32 v) 1098907648).getD 0
def lvlT (i : Nat) : Bool := (floatBits .quo .f32 (floatOfInt .f32 ((i : Int) - 1024)) 1098907648 == some (lvl ((i : Int) - 1024))) && decide (chkLev (lvl ((i : Int) - 1024)) = 0) && (sixt (lvl ((i : Int) - 1024)) == some ((i : Int) - 1024))
theorem lvl_all : (List.range 2049).all lvlT = true := by decide +kernel
theorem lvl_ok {v : Int} (h : -1024 ≤ v ∧ v ≤ 1024) : floatBits .quo .f32 (floatOfInt .f32 v) 1098907648 = some (lvl v) ∧ chkLev (lvl v) = 0 ∧ s16 (lvl v) = v := by
  have h1 := List.all_eq_true.1 lvl_all (v + 1024).toNat (by rw [List.mem_range]; omega)
  unfold lvlT at h1
  rw [show (((v + 1024).toNat : Nat) : Int) - 1024 = v by omega, Bool.and_eq_true, Bool.and_eq_true, beq_iff_eq, beq_iff_eq, decide_eq_true_eq] at h1
  exact ⟨h1.1.1, h1.1.2, by unfold s16; rw [h1.2]; rfl⟩

/-- A valid level's value, by its sixteenths. -/
theorem num16 {b : Nat} (h : chkLev b = 0) : num b * 16 = s16 b * (oneU sgl : Int) := by
  unfold chkLev at h
  cases hd0 : FloatKind.f32.decode b with
  | nan s t => rw [hd0] at h; cases h
  | infinity s => rw [hd0] at h; cases h
  | number s m e =>
    rw [hd0] at h
    simp only at h
    split at h
    · rename_i hc
      obtain ⟨hf, he⟩ := f32_top hd0
      obtain ⟨v1, -⟩ := sixt_num hf hc.2
      have h1 := hf.lp
      rw [sgl_lp] at h1
      have hp9 := Nat.two_pow_pos K9
      have hdiv : 16 * magOf sgl m e % oneU sgl = 0 := by
        have := hc.1
        rw [mag_wide m e h1, one_wide, ← Nat.mul_assoc, Nat.mul_mod_mul_right] at this
        rcases Nat.mul_eq_zero.1 this with h | h
        · exact h
        · omega
      rw [mag_wide m e h1, one_wide, ← Nat.mul_assoc, Nat.mul_div_mul_right _ _ hp9] at v1
      have hn : num b = sgnI s (magOf sgl m e) := by unfold num; rw [hd0]
      unfold s16
      rw [v1, hn]
      have hq : 16 * magOf sgl m e / oneU sgl * oneU sgl = 16 * magOf sgl m e := Nat.div_mul_cancel (Nat.dvd_of_mod_eq_zero hdiv)
      simp only [Option.getD_some]
      unfold sgnI
      cases s
      · simp only [Bool.false_eq_true, if_false]
        rw [← Int.natCast_mul, hq]; omega
      · simp only [if_true]
        rw [Int.neg_mul, Int.neg_mul, ← Int.natCast_mul, hq]; omega
    · cases h
theorem num_lt {a b : Nat} (ha : chkLev a = 0) (hb : chkLev b = 0) : num a < num b ↔ s16 a < s16 b := by
  have h1 := num16 ha
  have h2 := num16 hb
  have hp : (0 : Int) < (oneU sgl : Int) := by have := oneU_pos sgl; omega
  constructor
  · intro h
    refine Int.lt_of_mul_lt_mul_right (a := (oneU sgl : Int)) ?_ (Int.le_of_lt hp)
    rw [← h1, ← h2]; omega
  · intro h
    have := Int.mul_lt_mul_of_pos_right h hp
    rw [← h1, ← h2] at this
    omega
theorem num_eq {a b : Nat} (ha : chkLev a = 0) (hb : chkLev b = 0) : num a = num b ↔ s16 a = s16 b := by
  have h1 := num_lt ha hb
  have h2 := num_lt hb ha
  omega
theorem feq16 {a b : Nat} (ha : chkLev a = 0) (hb : chkLev b = 0) : feqL a b = decide (s16 a = s16 b) := by
  rw [feq_num (fin_lev ha) (fin_lev hb), decide_eq_decide, num_eq ha hb]
theorem fls16 {a b : Nat} (ha : chkLev a = 0) (hb : chkLev b = 0) : fls a b = decide (s16 a < s16 b) := by
  show flt a b = _
  rw [flt_num (fin_lev ha) (fin_lev hb), decide_eq_decide, num_lt ha hb]
theorem fmx16 {a b : Nat} (ha : chkLev a = 0) (hb : chkLev b = 0) : chkLev (fmx a b) = 0 ∧ s16 (fmx a b) = max (s16 a) (s16 b) := by
  have hl : levOK (fmx a b) = true := fmx_lev (by rw [levOK_iff]; simpa using ha) (by rw [levOK_iff]; simpa using hb)
  have hc : chkLev (fmx a b) = 0 := by rw [levOK_iff] at hl; simpa using hl
  refine ⟨hc, ?_⟩
  obtain ⟨-, g2⟩ := fmx_max (fin_lev ha) (fin_lev hb)
  have e1 := num_lt ha hb
  by_cases h : s16 a < s16 b
  · have : num (fmx a b) = num b := by rw [g2]; have := e1.2 h; omega
    rw [(num_eq hc hb).1 this]; omega
  · have : num (fmx a b) = num a := by rw [g2]; have := fun h' => h (e1.1 h'); omega
    rw [(num_eq hc ha).1 this]; omega

/-- The vote of some levels in sixteenths, and whether there is one. -/
def rvt (l : List Int) (tol : Int) : Int × Bool :=
  match l with
  | [a, b, c] => (a + b + c - min (min a b) c - max (max a b) c, true)
  | [a, b] => if max (a - b) (b - a) ≤ tol then (max a b, true) else (0, false)
  | _ => (0, false)
theorem inr_yes {m : Nat} {t : Nat → Nat} (h : fls (t (m + 1)) (t m) = true) : inr (m + 1) t = inr m (swp t (m + 1)) := by
  rw [show inr (m + 1) t = if fls (t (m + 1)) (t m) then inr m (swp t (m + 1)) else t from rfl, if_pos h]
theorem inr_no {m : Nat} {t : Nat → Nat} (h : fls (t (m + 1)) (t m) = false) : inr (m + 1) t = t := by
  rw [show inr (m + 1) t = if fls (t (m + 1)) (t m) then inr m (swp t (m + 1)) else t from rfl, if_neg (by rw [h]; simp)]
theorem fin3_mid (t : Nat → Nat) (h0 : chkLev (t 0) = 0) (h1 : chkLev (t 1) = 0) (h2 : chkLev (t 2) = 0) : s16 (fin3 1 t 1) = s16 (t 0) + s16 (t 1) + s16 (t 2) - min (min (s16 (t 0)) (s16 (t 1))) (s16 (t 2)) - max (max (s16 (t 0)) (s16 (t 1))) (s16 (t 2)) := by
  have e01 := fls16 h1 h0
  have e12 := fls16 h2 h1
  have e02 := fls16 h2 h0
  show s16 (inr 2 (inr 1 t) 1) = _
  by_cases a1 : s16 (t 1) < s16 (t 0)
  · rw [inr_yes (m := 0) (t := t) (by rw [show (0 + 1) = 1 from rfl, e01]; exact decide_eq_true a1)]
    show s16 (inr 2 (swp t 1) 1) = _
    have u2 : swp t 1 2 = t 2 := by simp [swp]
    have u1 : swp t 1 1 = t 0 := by simp [swp]
    have u0 : swp t 1 0 = t 1 := by simp [swp]
    by_cases a2 : s16 (t 2) < s16 (t 0)
    · rw [inr_yes (m := 1) (t := swp t 1) (by rw [show (1 + 1) = 2 from rfl, u2, u1, e02]; exact decide_eq_true a2)]
      show s16 (inr 1 (swp (swp t 1) 2) 1) = _
      have v1 : swp (swp t 1) 2 1 = t 2 := by simp [swp]
      have v0 : swp (swp t 1) 2 0 = t 1 := by simp [swp]
      by_cases a3 : s16 (t 2) < s16 (t 1)
      · rw [inr_yes (m := 0) (t := swp (swp t 1) 2) (by rw [show (0 + 1) = 1 from rfl, v1, v0, e12]; exact decide_eq_true a3)]
        have : (inr 0 (swp (swp (swp t 1) 2) 1)) 1 = t 1 := by simp [inr, swp]
        rw [show (0 + 1) = 1 from rfl, this]; omega
      · rw [inr_no (m := 0) (t := swp (swp t 1) 2) (by rw [show (0 + 1) = 1 from rfl, v1, v0, e12]; exact decide_eq_false a3), v1]; omega
    · rw [inr_no (m := 1) (t := swp t 1) (by rw [show (1 + 1) = 2 from rfl, u2, u1, e02]; exact decide_eq_false a2), u1]; omega
  · rw [inr_no (m := 0) (t := t) (by rw [show (0 + 1) = 1 from rfl, e01]; exact decide_eq_false a1)]
    by_cases a2 : s16 (t 2) < s16 (t 1)
    · rw [inr_yes (m := 1) (t := t) (by rw [show (1 + 1) = 2 from rfl, e12]; exact decide_eq_true a2)]
      show s16 (inr 1 (swp t 2) 1) = _
      have v1 : swp t 2 1 = t 2 := by simp [swp]
      have v0 : swp t 2 0 = t 0 := by simp [swp]
      by_cases a3 : s16 (t 2) < s16 (t 0)
      · rw [inr_yes (m := 0) (t := swp t 2) (by rw [show (0 + 1) = 1 from rfl, v1, v0, e02]; exact decide_eq_true a3)]
        have : (inr 0 (swp (swp t 2) 1)) 1 = t 0 := by simp [inr, swp]
        rw [show (0 + 1) = 1 from rfl, this]; omega
      · rw [inr_no (m := 0) (t := swp t 2) (by rw [show (0 + 1) = 1 from rfl, v1, v0, e02]; exact decide_eq_false a3), v1]; omega
    · rw [inr_no (m := 1) (t := t) (by rw [show (1 + 1) = 2 from rfl, e12]; exact decide_eq_false a2)]; omega
/-- The project's vote of an index is the reference's. -/
theorem vote_is (x : Nat → Nat) (k : Nat → Bool) (tol : Int) (hx : ∀ i, i < 3 → k i = true → chkLev (x i) = 0) :
    (resF x k tol).2 = (rvt ((thr x k 3).map s16) tol).2 ∧ ((resF x k tol).2 = true → chkLev (resF x k tol).1 = 0 ∧ s16 (resF x k tol).1 = (rvt ((thr x k 3).map s16) tol).1) := by
  have ht : thr x k 3 = (if k 0 then [x 0] else []) ++ (if k 1 then [x 1] else []) ++ (if k 2 then [x 2] else []) := by
    unfold thr
    cases h0 : k 0 <;> cases h1 : k 1 <;> cases h2 : k 2 <;> simp [List.range_succ, h0, h1, h2]
  have two : ∀ a b, chkLev a = 0 → chkLev b = 0 → (k 0 && k 1 && k 2) = false → thr x k 3 = [a, b] → (resF x k tol).2 = (rvt ((thr x k 3).map s16) tol).2 ∧ ((resF x k tol).2 = true → chkLev (resF x k tol).1 = 0 ∧ s16 (resF x k tol).1 = (rvt ((thr x k 3).map s16) tol).1) := by
    intro a b ha hb hk e
    rw [resF_two hk e, e]
    unfold rvt dst
    simp only [List.map_cons, List.map_nil]
    by_cases hg : max (s16 a - s16 b) (s16 b - s16 a) > tol
    · rw [if_pos hg, if_neg (by omega)]
      exact ⟨rfl, fun h => by cases h⟩
    · rw [if_neg hg, if_pos (by omega)]
      exact ⟨rfl, fun _ => fmx16 ha hb⟩
  have few : (k 0 && k 1 && k 2) = false → (thr x k 3).length < 2 → (resF x k tol).2 = (rvt ((thr x k 3).map s16) tol).2 ∧ ((resF x k tol).2 = true → chkLev (resF x k tol).1 = 0 ∧ s16 (resF x k tol).1 = (rvt ((thr x k 3).map s16) tol).1) := by
    intro hk hl
    rw [resF_few hk hl]
    refine ⟨?_, fun h => by cases h⟩
    match hq : thr x k 3, hl with
    | [], _ => rfl
    | [a], _ => rfl
  cases h0 : k 0 <;> cases h1 : k 1 <;> cases h2 : k 2 <;> simp only [h0, h1, h2, if_true, Bool.false_eq_true, if_false, List.nil_append, List.append_nil, List.cons_append] at ht
  · exact few (by simp [h0]) (by rw [ht]; simp)
  · exact few (by simp [h0]) (by rw [ht]; simp)
  · exact few (by simp [h0]) (by rw [ht]; simp)
  · exact two _ _ (hx 1 (by omega) h1) (hx 2 (by omega) h2) (by simp [h0]) ht
  · exact few (by simp [h1]) (by rw [ht]; simp)
  · exact two _ _ (hx 0 (by omega) h0) (hx 2 (by omega) h2) (by simp [h1]) ht
  · exact two _ _ (hx 0 (by omega) h0) (hx 1 (by omega) h1) (by simp [h2]) ht
  · rw [resF_three (by simp [h0, h1, h2]), ht]
    unfold rvt
    simp only [List.map_cons, List.map_nil]
    refine ⟨trivial, fun _ => ⟨?_, fin3_mid x (hx 0 (by omega) h0) (hx 1 (by omega) h1) (hx 2 (by omega) h2)⟩⟩
    have hl := resF_lev (x := x) (k := k) (tol := tol) (fun i hi hk => by rw [levOK_iff]; simpa using hx i hi hk) (by rw [resF_three (by simp [h0, h1, h2])])
    rw [resF_three (by simp [h0, h1, h2])] at hl
    rw [levOK_iff] at hl
    simpa using hl
end Go.Proofs.YtkgeeooijgcdkaaGreatDoor
