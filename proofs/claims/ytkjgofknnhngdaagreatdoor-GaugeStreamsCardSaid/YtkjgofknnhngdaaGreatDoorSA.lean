/-
  A level and 0 is the level; -0 and 0 is 0. No program. Condition: the level is valid.
-/
import Derived.Test.YtkjgofknnhngdaaGreatDoorFB
namespace Go.Proofs.YtkjgofknnhngdaaGreatDoor
open Go Ieee Go.RowKit
theorem sgl_sw : sgl.signWeight = 2147483648 := by decide
theorem sgl_bn : sgl.binade = 8388608 := by decide
/-- A number's word: its sign, and where its digits and its place come from. -/
theorem fin_word {b : Nat} {s : Bool} {m : Nat} {e : Int} (h : Fin sgl b s m e) :
    (b / 2147483648 % 2 == 1) = s ∧ ((b % 2147483648 < 8388608 ∧ m = b % 2147483648 ∧ e = -149) ∨
      (8388608 ≤ b % 2147483648 ∧ m = 8388608 + b % 2147483648 % 8388608 ∧ e = -149 + ((b % 2147483648 / 8388608 - 1 : Nat) : Int))) := by
  have hr := h.read
  unfold Format.read at hr
  simp only [sgl_sw, sgl_bn, sgl_lp] at hr
  split at hr
  · rename_i h1
    simp only [Datum.number.injEq] at hr
    exact ⟨hr.1, .inl ⟨h1, hr.2.1.symm, hr.2.2.symm⟩⟩
  · rename_i h1
    split at hr
    · simp only [Datum.number.injEq] at hr
      exact ⟨hr.1, .inr ⟨by omega, hr.2.1.symm, hr.2.2.symm⟩⟩
    · split at hr <;> cases hr
theorem two_scaled {a b k l : Nat} (ha : 8388608 ≤ a ∧ a < 16777216) (hb : 8388608 ≤ b ∧ b < 16777216) (h : a * 2 ^ k = b * 2 ^ l) : k = l ∧ a = b := by
  rcases Nat.lt_trichotomy k l with hl | hl | hl
  · obtain ⟨d, rfl⟩ : ∃ d, l = k + (d + 1) := ⟨l - k - 1, by omega⟩
    have h2 : a = b * 2 ^ (d + 1) := by
      rw [Nat.pow_add, ← Nat.mul_assoc, Nat.mul_right_comm] at h
      exact Nat.eq_of_mul_eq_mul_right (Nat.two_pow_pos k) h
    have h3 : b * 2 ≤ b * 2 ^ (d + 1) := Nat.mul_le_mul_left _ (by rw [Nat.pow_succ]; have := Nat.two_pow_pos d; omega)
    omega
  · subst hl
    exact ⟨rfl, Nat.eq_of_mul_eq_mul_right (Nat.two_pow_pos k) h⟩
  · obtain ⟨d, rfl⟩ : ∃ d, k = l + (d + 1) := ⟨k - l - 1, by omega⟩
    have h2 : b = a * 2 ^ (d + 1) := by
      rw [Nat.pow_add, ← Nat.mul_assoc, Nat.mul_right_comm] at h
      exact (Nat.eq_of_mul_eq_mul_right (Nat.two_pow_pos l) h).symm
    have h3 : a * 2 ≤ a * 2 ^ (d + 1) := Nat.mul_le_mul_left _ (by rw [Nat.pow_succ]; have := Nat.two_pow_pos d; omega)
    omega
theorem sign_word {a b : Nat} {s : Bool} (ha : (a / 2147483648 % 2 == 1) = s) (hb : (b / 2147483648 % 2 == 1) = s) (la : a < 4294967296) (lb : b < 4294967296) (h : a % 2147483648 = b % 2147483648) : a = b := by
  rw [← hb] at ha
  have h1 : a / 2147483648 < 2 := by omega
  have h2 : b / 2147483648 < 2 := by omega
  have h3 : (a / 2147483648 % 2 = 1) ↔ (b / 2147483648 % 2 = 1) := by
    rw [← beq_iff_eq (a := a / 2147483648 % 2), ← beq_iff_eq (a := b / 2147483648 % 2), ha]
  omega
theorem fin_inj {a b : Nat} {s : Bool} {m m' : Nat} {e e' : Int} (ha : Fin sgl a s m e) (hb : Fin sgl b s m' e') (la : a < 4294967296) (lb : b < 4294967296) (hm : magOf sgl m e = magOf sgl m' e') : a = b := by
  obtain ⟨sa, ca⟩ := fin_word ha
  obtain ⟨sb, cb⟩ := fin_word hb
  refine sign_word sa sb la lb ?_
  unfold magOf at hm
  rw [sgl_lp] at hm
  have low : ∀ k x : Nat, 8388608 ≤ (8388608 + x) * 2 ^ k := fun k x => by
    have h1 : (8388608 + x) * 1 ≤ (8388608 + x) * 2 ^ k := Nat.mul_le_mul_left _ (Nat.two_pow_pos k)
    omega
  rcases ca with ⟨h1, rfl, rfl⟩ | ⟨h1, rfl, rfl⟩ <;> rcases cb with ⟨h2, rfl, rfl⟩ | ⟨h2, rfl, rfl⟩
  · simpa using hm
  · have := low ((-149 : Int) + ((b % 2147483648 / 8388608 - 1 : Nat) : Int) - -149).toNat (b % 2147483648 % 8388608)
    simp only [Int.sub_self, Int.toNat_zero, Nat.pow_zero, Nat.mul_one] at hm
    omega
  · have := low ((-149 : Int) + ((a % 2147483648 / 8388608 - 1 : Nat) : Int) - -149).toNat (a % 2147483648 % 8388608)
    simp only [Int.sub_self, Int.toNat_zero, Nat.pow_zero, Nat.mul_one] at hm
    omega
  · obtain ⟨h3, h4⟩ := two_scaled (by omega) (by omega) hm
    omega
/-- A level and 0 is the level; -0 and 0 is 0. -/
theorem add_zero {b : Nat} (h : chkLev b = 0) (hb : b < 4294967296) : floatBits .add .f32 b 0 = some (if b = 2147483648 then 0 else b) := by
  obtain ⟨s, m, e, hf, he⟩ : ∃ s m e, Fin sgl b s m e ∧ e ≤ 104 := by
    unfold chkLev at h
    cases hd : FloatKind.f32.decode b with
    | nan s t => rw [hd] at h; simp at h
    | infinity s => rw [hd] at h; simp at h
    | number s m e => exact ⟨s, m, e, f32_top hd⟩
  have hlp := hf.lp
  rw [sgl_lp] at hlp
  show sgl.add b 0 = _
  unfold Format.add
  have h0 : sgl.read 0 = .number false 0 (-149) := by decide +kernel
  rw [hf.read, h0]
  show some (sgl.write _) = _
  have hmin : min e (-149) = -149 := by omega
  rw [hmin]
  have hz : signed false 0 ((-149 : Int) - -149).toNat = 0 := by rw [signed_eq]; simp
  rw [hz, Int.add_zero]
  congr 1
  rcases Nat.eq_zero_or_pos m with rfl | hm
  · have hs : signed s 0 (e - -149).toNat = 0 := by rw [signed_eq]; cases s <;> simp
    rw [hs]
    have hw := (fin_word hf).2
    have hbb : b = 0 ∨ b = 2147483648 := by omega
    rcases hbb with rfl | rfl
    · simp; decide +kernel
    · simp; decide +kernel
  · have hpos : 0 < m * 2 ^ (e - -149).toNat := Nat.mul_pos hm (Nat.two_pow_pos _)
    have hs : signed s m (e - -149).toNat = sgnI s (m * 2 ^ (e - -149).toNat) := by rw [signed_eq]; rfl
    rw [hs]
    have h1 : ¬ sgnI s (m * 2 ^ (e - -149).toNat) = 0 := by unfold sgnI; split <;> omega
    rw [if_neg h1]
    have h2 : decide (sgnI s (m * 2 ^ (e - -149).toNat) < 0) = s := by
      unfold sgnI
      cases s
      · simp only [Bool.false_eq_true, if_false]; exact decide_eq_false (by omega)
      · simp only [if_true]; exact decide_eq_true (by omega)
    have h3 : (sgnI s (m * 2 ^ (e - -149).toNat)).natAbs = m * 2 ^ (e - -149).toNat := by unfold sgnI; split <;> omega
    rw [h2, h3]
    have hM : magOf sgl m e < 2 ^ (sgl.fractionBits + (2 ^ sgl.exponentBits - 2)) := by
      have h4 := he
      have h5 : m < 2 ^ 24 := hf.mag
      unfold magOf
      rw [sgl_lp]
      have h6 : (e - -149).toNat ≤ 253 := by omega
      have h7 : m * 2 ^ (e - -149).toNat < 2 ^ 24 * 2 ^ 253 := Nat.lt_of_lt_of_le (Nat.mul_lt_mul_of_pos_right h5 (Nat.two_pow_pos _)) (Nat.mul_le_mul_left _ (Nat.pow_le_pow_right (by omega) h6))
      exact Nat.lt_of_lt_of_le h7 (by decide +kernel)
    obtain ⟨m', e', r1, r2, r3, r4⟩ := nearest_exact sgl (by decide) s (m * 2 ^ (e - -149).toNat) (-149) m e (-149) 0 (e - -149).toNat (by omega) (by omega) (by simp) hf.mag hf.lp hM
    have hne : b ≠ 2147483648 := by
      rintro rfl
      have hw := (fin_word hf).2
      omega
    rw [if_neg hne]
    show sgl.nearest _ _ _ = b
    exact fin_inj ⟨r1, r2, r3⟩ hf (sgl.write_lt (.number s (m * 2 ^ (e - -149).toNat) (-149))) hb r4
end Go.Proofs.YtkjgofknnhngdaaGreatDoor
