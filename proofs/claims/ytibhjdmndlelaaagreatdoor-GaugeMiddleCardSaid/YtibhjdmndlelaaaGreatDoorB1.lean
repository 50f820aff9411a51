/-
  Plain words of GaugeMiddle on floats: sixteen times the difference of two valid levels, as a float64, stands to an integer as the difference of the sixteenths does. No program.
-/
import Derived.Test.YtibhjdmndlelaaaGreatDoorD2
import Derived.Test.YtibhjdmndlelaaaGreatDoorT1
namespace Go.Proofs.YtibhjdmndlelaaaGreatDoor
open Go.RowKit
open Ieee (Format Datum signed)

/-- The exponent of a double's unit, and sixteen times it. -/
def K10 : Nat := 1074
def K11 : Nat := 1070
theorem oneU_dbl : oneU dbl = 2 ^ K10 := by
  unfold oneU
  rw [dbl_lp]
  congr 1
theorem sgnI_not (t : Bool) (M : Nat) : sgnI (!t) M = -sgnI t M := by
  unfold sgnI
  cases t <;> simp
/-- A magnitude brought to the unit of the last place. -/
theorem signed_unit (s : Bool) (m : Nat) (i base : Int) (h1 : base ≤ i) (h2 : dbl.leastPlace ≤ base) : signed s m (i - base).toNat * ((2 ^ (base - dbl.leastPlace).toNat : Nat) : Int) = sgnI s (magOf dbl m i) := by
  rw [signed_eq]
  unfold sgnI magOf
  have h3 : (i - dbl.leastPlace).toNat = (i - base).toNat + (base - dbl.leastPlace).toNat := by omega
  rw [h3, Nat.pow_add, ← Nat.mul_assoc]
  cases s
  · simp
  · simp [Int.neg_mul]
theorem natAbs_mul_nat (a : Int) (n : Nat) : (a * (n : Int)).natAbs = a.natAbs * n := by rw [Int.natAbs_mul, Int.natAbs_natCast]
/-- The difference of two multiples of a sixteenth. -/
theorem sub16 {x y : Nat} {s t : Bool} {m n : Nat} {i j : Int} (hx : Fin dbl x s m i) (hy : Fin dbl y t n j) {a b : Int} (ha : 16 * sgnI s (magOf dbl m i) = a * (oneU dbl : Int)) (hb : 16 * sgnI t (magOf dbl n j) = b * (oneU dbl : Int)) (hab : -4096 ≤ a - b ∧ a - b ≤ 4096) :
    ∃ z u k e, floatBits .sub .f64 x y = some z ∧ Fin dbl z u k e ∧ 16 * sgnI u (magOf dbl k e) = (a - b) * (oneU dbl : Int) ∧ magOf dbl k e < 2 ^ K2 := by
  have hlx := hx.lp
  have hly := hy.lp
  obtain ⟨base, hbase⟩ : ∃ base, base = min i j := ⟨_, rfl⟩
  have hb0 : dbl.leastPlace ≤ base := by omega
  obtain ⟨B, hB⟩ : ∃ B, B = (base - dbl.leastPlace).toNat := ⟨_, rfl⟩
  have e1 := signed_unit s m i base (by omega) hb0
  have e2 := signed_unit (!t) n j base (by omega) hb0
  rw [sgnI_not] at e2
  rw [← hB] at e1 e2
  obtain ⟨total, htot⟩ : ∃ total, total = signed s m (i - base).toNat + signed (!t) n (j - base).toNat := ⟨_, rfl⟩
  have e3 : 16 * (total * ((2 ^ B : Nat) : Int)) = (a - b) * ((2 ^ K10 : Nat) : Int) := by
    rw [htot, Int.add_mul, e1, e2, Int.mul_add, ha, Int.mul_neg, hb, oneU_dbl, Int.sub_mul]
    omega
  have hpB : 0 < 2 ^ B := Nat.two_pow_pos _
  have hp1 : 0 < 2 ^ K10 := Nat.two_pow_pos _
  have e4 : total.natAbs * 2 ^ (B + 4) = (a - b).natAbs * 2 ^ K10 := by
    have h := congrArg Int.natAbs e3
    rw [natAbs_mul_nat, Int.natAbs_mul, natAbs_mul_nat] at h
    rw [← h, Nat.pow_add]
    show total.natAbs * (2 ^ B * 16) = 16 * (total.natAbs * 2 ^ B)
    rw [← Nat.mul_assoc, Nat.mul_comm 16]
  obtain ⟨c, hc⟩ : ∃ c, c = (a - b).natAbs := ⟨_, rfl⟩
  rw [← hc] at e4
  have hc2 : c ≤ 4096 := by omega
  obtain ⟨neg, hneg⟩ : ∃ neg : Bool, neg = (if total = 0 then s && !t else decide (total < 0)) := ⟨_, rfl⟩
  obtain ⟨base', hbb⟩ : ∃ base' : Int, base' = min base (-4) := ⟨_, rfl⟩
  rw [dbl_lp] at hB hb0
  have hv : total.natAbs * 2 ^ (base - base').toNat = c * 2 ^ (-4 - base').toNat := by
    have h1 : B + 4 = (base - base').toNat + (base' + 1078).toNat := by omega
    have h2 : K10 = (-4 - base').toNat + (base' + 1078).toNat := by unfold K10; omega
    have e5 := e4
    rw [h1, Nat.pow_add, ← Nat.mul_assoc] at e5
    have e6 : c * 2 ^ K10 = c * 2 ^ (-4 - base').toNat * 2 ^ (base' + 1078).toNat := by
      conv => lhs; rw [h2]
      rw [Nat.pow_add, ← Nat.mul_assoc]
    rw [e6] at e5
    exact Nat.eq_of_mul_eq_mul_right (Nat.two_pow_pos _) e5
  have hm4 : magOf dbl c (-4) = c * 2 ^ K11 := by
    unfold magOf
    rw [dbl_lp, show ((-4 : Int) - -1074).toNat = K11 from rfl]
  have hm5 : magOf dbl c (-4) < 2 ^ K2 := by
    rw [hm4]
    refine Nat.lt_of_le_of_lt (Nat.mul_le_mul_right _ hc2) ?_
    rw [show 4096 = 2 ^ 12 by decide, ← Nat.pow_add]
    exact Nat.pow_lt_pow_right (by omega) (by decide)
  obtain ⟨k, e, r1, r2, r3, r4⟩ := nearest_exact dbl (by decide) neg total.natAbs base c (-4) base' (base - base').toNat (-4 - base').toNat (by omega) (by omega) hv
    (Nat.lt_of_le_of_lt hc2 (by decide)) (by rw [dbl_lp]; omega) (Nat.lt_of_lt_of_le hm5 (Nat.pow_le_pow_right (by omega) (by decide)))
  refine ⟨dbl.nearest neg total.natAbs base, neg, k, e, ?_, ⟨r1, r2, r3⟩, ?_, by rw [r4]; exact hm5⟩
  · show dbl.sub x y = _
    unfold Format.sub
    rw [hx.read, hy.read]
    show some (dbl.write (.number (if signed s m (i - min i j).toNat + signed (!t) n (j - min i j).toNat = 0 then s && !t else decide (signed s m (i - min i j).toNat + signed (!t) n (j - min i j).toNat < 0)) (signed s m (i - min i j).toNat + signed (!t) n (j - min i j).toNat).natAbs (min i j))) = _
    rw [← hbase, ← htot, ← hneg]
    rfl
  · rw [r4, hm4, oneU_dbl]
    by_cases h0 : total = 0
    · have hc0 : c = 0 := by
        rw [h0] at e4
        have : c * 2 ^ K10 = 0 := by rw [← e4]; simp
        rcases Nat.mul_eq_zero.1 this with h | h
        · exact h
        · omega
      have hd : a - b = 0 := by omega
      rw [hc0, hd]
      unfold sgnI
      cases neg <;> simp
    · have hs : (total < 0) ↔ (a - b < 0) := by
        have hP : (0 : Int) < ((2 ^ B : Nat) : Int) := by omega
        have hQ : (0 : Int) < ((2 ^ K10 : Nat) : Int) := by omega
        constructor
        · intro h
          have h1 := Int.mul_neg_of_neg_of_pos h hP
          have h2 : (a - b) * ((2 ^ K10 : Nat) : Int) < 0 := by rw [← e3]; omega
          rcases Int.lt_or_le (a - b) 0 with h5 | h5
          · exact h5
          · have := Int.mul_nonneg h5 (Int.le_of_lt hQ); omega
        · intro h
          have h1 := Int.mul_neg_of_neg_of_pos h hQ
          have h2 : total * ((2 ^ B : Nat) : Int) < 0 := by rw [← e3] at h1; omega
          rcases Int.lt_or_le total 0 with h5 | h5
          · exact h5
          · have := Int.mul_nonneg h5 (Int.le_of_lt hP); omega
      rw [if_neg h0] at hneg
      have h16 : (16 : Int) * ((c * 2 ^ K11 : Nat) : Int) = (c : Int) * ((2 ^ K10 : Nat) : Int) := by
        have : 16 * (c * 2 ^ K11) = c * 2 ^ K10 := by
          rw [show K10 = 4 + K11 by rfl, Nat.pow_add, ← Nat.mul_assoc, ← Nat.mul_assoc, Nat.mul_comm 16 c]
        exact_mod_cast this
      unfold sgnI
      by_cases hl : total < 0
      · rw [hneg, decide_eq_true hl]
        have hc3 : (c : Int) = -(a - b) := by have := hs.1 hl; omega
        rw [if_pos rfl, Int.mul_neg, h16, hc3, Int.neg_mul, Int.neg_neg]
      · rw [hneg, decide_eq_false hl]
        have hc3 : (c : Int) = a - b := by have : ¬ (a - b < 0) := fun h => hl (hs.2 h); omega
        rw [if_neg (by decide), h16, hc3]
/-- A valid level as a float64. -/
theorem lev_fin {b : Nat} (h : chkLev b = 0) : ∃ x s m e, floatToFloatBits .f32 b .f64 = some x ∧ Fin dbl x s m e ∧ 16 * sgnI s (magOf dbl m e) = s16 b * (oneU dbl : Int) := by
  unfold chkLev at h
  cases hd0 : FloatKind.f32.decode b with
  | nan s t => rw [hd0] at h; cases h
  | infinity s => rw [hd0] at h; cases h
  | number s m e =>
    rw [hd0] at h
    simp only at h
    split at h
    · rename_i hc
      obtain ⟨hf, he⟩ := f32_top hd0
      obtain ⟨x, m1, e1, q1, -, q2, q3, -⟩ := wide_of hf he
      obtain ⟨v1, -⟩ := sixt_num hf hc.2
      refine ⟨x, s, m1, e1, q1, q2, ?_⟩
      rw [q3]
      have hv : s16 b = sgnI s (16 * magOf dbl m e / oneU dbl) := by unfold s16; rw [v1]; rfl
      rw [hv]
      have hq : 16 * magOf dbl m e / oneU dbl * oneU dbl = 16 * magOf dbl m e := Nat.div_mul_cancel (Nat.dvd_of_mod_eq_zero hc.1)
      unfold sgnI
      cases s
      · simp only [Bool.false_eq_true, if_false]
        rw [← Int.natCast_mul, hq]; push_cast; rfl
      · simp only [if_true]
        rw [Int.neg_mul, ← Int.natCast_mul, hq]; push_cast; omega
    · cases h
/-- A small integer as a float64. -/
theorem int_fin (n : Int) (h : -4096 ≤ n ∧ n ≤ 4096) : ∃ s m e, Fin dbl (floatOfInt .f64 n) s m e ∧ sgnI s (magOf dbl m e) = n * (oneU dbl : Int) := by
  have hm0 : magOf dbl n.natAbs 0 = n.natAbs * oneU dbl := by
    unfold magOf oneU
    rw [dbl_lp, Int.zero_sub]
  have hlt : magOf dbl n.natAbs 0 < 2 ^ K2 := by
    rw [hm0, oneU_dbl]
    refine Nat.lt_of_le_of_lt (Nat.mul_le_mul_right _ (show n.natAbs ≤ 4096 by omega)) ?_
    rw [show 4096 = 2 ^ 12 by decide, ← Nat.pow_add]
    exact Nat.pow_lt_pow_right (by omega) (by decide)
  obtain ⟨k, e, r1, r2, r3, r4⟩ := nearest_exact dbl (by decide) (decide (n < 0)) n.natAbs 0 n.natAbs 0 0 0 0 (by omega) (by omega) rfl
    (Nat.lt_of_le_of_lt (show n.natAbs ≤ 4096 by omega) (by decide)) (by rw [dbl_lp]; omega) (Nat.lt_of_lt_of_le hlt (Nat.pow_le_pow_right (by omega) (by decide)))
  refine ⟨decide (n < 0), k, e, ⟨r1, r2, r3⟩, ?_⟩
  rw [r4, hm0]
  unfold sgnI
  by_cases hn : n < 0
  · have h3 : -(n.natAbs : Int) = n := by omega
    rw [decide_eq_true hn, if_pos rfl, Int.natCast_mul, ← Int.neg_mul, h3]
  · have h3 : (n.natAbs : Int) = n := by omega
    rw [decide_eq_false hn, if_neg (by decide), Int.natCast_mul, h3]
theorem neg_fin {x : Nat} {s : Bool} {m : Nat} {e : Int} (h : Fin dbl x s m e) : Fin dbl (Op.negFloat .f64 x) (!s) m e := by
  refine ⟨?_, h.lp, h.mag⟩
  have hr := h.read
  have hs : dbl.signWeight = 2 ^ 63 := by decide
  have hw : Op.negFloat .f64 x = x ^^^ 2 ^ 63 := rfl
  rw [hw]
  unfold Format.read at hr ⊢
  simp only [hs] at hr ⊢
  have e2 : (x ^^^ 2 ^ 63) % 2 ^ 63 = x % 2 ^ 63 := by rw [Nat.xor_mod_two_pow]; simp
  have e1 : ((x ^^^ 2 ^ 63) / 2 ^ 63 % 2 == 1) = !(x / 2 ^ 63 % 2 == 1) := by
    rw [Nat.xor_div_two_pow]
    have h1 : 2 ^ 63 / 2 ^ 63 = 1 := by decide
    rw [h1]
    have h2 := Nat.xor_mod_two_pow (a := x / 2 ^ 63) (b := 1) (n := 1)
    simp only [Nat.pow_one] at h2
    rw [h2]
    rcases Nat.mod_two_eq_zero_or_one (x / 2 ^ 63) with h | h <;> rw [h] <;> decide
  rw [e2, e1]
  split at hr
  · rename_i c
    rw [if_pos c]
    simp only [Datum.number.injEq] at hr ⊢
    exact ⟨by rw [hr.1], hr.2⟩
  · rename_i c
    rw [if_neg c]
    split at hr
    · rename_i c2
      rw [if_pos c2]
      simp only [Datum.number.injEq] at hr ⊢
      exact ⟨by rw [hr.1], hr.2⟩
    · split at hr <;> cases hr
/-- Sixteen times the difference of two valid levels stands to an integer, and to one with the other sign, as the difference of the sixteenths. -/
theorem diff16 {a b : Nat} (ha : chkLev a = 0) (hb : chkLev b = 0) : ∃ x y z v, floatToFloatBits .f32 a .f64 = some x ∧ floatToFloatBits .f32 b .f64 = some y ∧ floatBits .sub .f64 x y = some z ∧ floatBits .mul .f64 4625196817309499392 z = some v ∧
    ∀ n : Int, -4096 ≤ n ∧ n ≤ 4096 → FloatKind.f64.format.order v (floatOfInt .f64 n) = some (compare (s16 a - s16 b) n) ∧ FloatKind.f64.format.order v (Op.negFloat .f64 (floatOfInt .f64 n)) = some (compare (s16 a - s16 b) (-n)) := by
  obtain ⟨x, s, m, e, q1, q2, q3⟩ := lev_fin ha
  obtain ⟨y, t, n, f, r1, r2, r3⟩ := lev_fin hb
  have h1 := s16_in ha
  have h2 := s16_in hb
  obtain ⟨z, u, k, g, p1, p2, p3, p4⟩ := sub16 q2 r2 q3 r3 (by omega)
  obtain ⟨v, m2, e2, -, o1, o2, o3⟩ := times16 p2 p4
  refine ⟨x, y, z, v, q1, r1, p1, o1, fun n hn => ?_⟩
  have hv : sgnI u (magOf dbl m2 e2) = (s16 a - s16 b) * (oneU dbl : Int) := by
    rw [o3, ← p3]
    unfold sgnI
    cases u
    · simp
    · simp only [if_true]; push_cast; omega
  obtain ⟨s', m', e', d1, d2⟩ := int_fin n hn
  constructor
  · show dbl.order v (floatOfInt .f64 n) = _
    rw [order_eq o2 d1, hv, d2, oneU_dbl, compare_scale]
  · show dbl.order v (Op.negFloat .f64 (floatOfInt .f64 n)) = _
    rw [order_eq o2 (neg_fin d1), hv, sgnI_not, d2, oneU_dbl, ← Int.neg_mul, compare_scale]
end Go.Proofs.YtibhjdmndlelaaaGreatDoor
