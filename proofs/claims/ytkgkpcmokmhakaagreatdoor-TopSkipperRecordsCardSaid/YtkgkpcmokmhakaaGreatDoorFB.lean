/-
  Plain words on floats: writing a number that a format has is exact; what CheckLevel asks of a float32, and its sixteenths, by gauge's way and by the statements' way. No condition; no program.
  CheckLevel, the project's and the reference's, of the bits of every float32.
-/
import Derived.Test.YtkgkpcmokmhakaaGreatDoorMB
import Derived.Test.YtkgkpcmokmhakaaGreatDoorProg
import Ieee.Arith
import Derived.Laws.FloatArith
import Derived.Laws.Entries
import Derived.Laws.Bits64b

namespace Go.Proofs.YtkgkpcmokmhakaaGreatDoor
open Ieee


theorem sw_eq (f : Format) : f.infRung + f.binade = f.signWeight := by
  unfold Format.infRung Format.binade Format.signWeight
  have h1 : 1 ≤ 2 ^ f.exponentBits := Nat.one_le_two_pow
  rw [Nat.sub_mul, Nat.pow_add]
  have h2 : 2 ^ f.fractionBits ≤ 2 ^ f.exponentBits * 2 ^ f.fractionBits := Nat.le_mul_of_pos_left _ (by omega)
  omega

/-- A number, in units of the last place of its format. -/
def magOf (f : Format) (m : Nat) (e : Int) : Nat := m * 2 ^ (e - f.leastPlace).toNat

/-- Cutting off zeros alone. -/
theorem cut_exact (way : Toward) (neg : Bool) (n d : Nat) (hn : 0 < n) (h : 2 ^ d ∣ n) : way.cut neg n d = n / 2 ^ d := by
  have hd : d ≤ n.log2 := (Nat.le_log2 (by omega)).2 (Nat.le_of_dvd hn h)
  unfold Toward.cut
  have hm : min d (n.log2 + 2) = d := by omega
  rw [hm, Nat.one_shiftLeft]
  have hr : n % 2 ^ d = 0 := Nat.mod_eq_zero_of_dvd h
  have hp : 0 < 2 ^ d := Nat.two_pow_pos d
  cases way <;> simp [hr] <;> omega

/-- The floor and the truncation of a number with a fraction. -/
theorem cut_zero (neg : Bool) (n d : Nat) : Toward.zero.cut neg n d = n / 2 ^ d := by
  unfold Toward.cut
  simp only [Nat.one_shiftLeft]
  by_cases h : d ≤ n.log2 + 2
  · rw [Nat.min_eq_left h]; simp
  · rw [Nat.min_eq_right (by omega)]
    have hlt : n < 2 ^ (n.log2 + 2) := Nat.lt_of_lt_of_le Nat.lt_log2_self (Nat.pow_le_pow_right (by omega) (by omega))
    have hlt2 : n < 2 ^ d := Nat.lt_of_lt_of_le hlt (Nat.pow_le_pow_right (by omega) (by omega))
    rw [Nat.div_eq_of_lt hlt, Nat.div_eq_of_lt hlt2]; rfl
theorem cut_down (neg : Bool) (n d : Nat) : Toward.down.cut neg n d = n / 2 ^ d + (neg && n % 2 ^ d != 0).toNat := by
  unfold Toward.cut
  simp only [Nat.one_shiftLeft]
  by_cases h : d ≤ n.log2 + 2
  · rw [Nat.min_eq_left h]
  · rw [Nat.min_eq_right (by omega)]
    have hlt : n < 2 ^ (n.log2 + 2) := Nat.lt_of_lt_of_le Nat.lt_log2_self (Nat.pow_le_pow_right (by omega) (by omega))
    have hlt2 : n < 2 ^ d := Nat.lt_of_lt_of_le hlt (Nat.pow_le_pow_right (by omega) (by omega))
    rw [Nat.div_eq_of_lt hlt, Nat.div_eq_of_lt hlt2, Nat.mod_eq_of_lt hlt, Nat.mod_eq_of_lt hlt2]

theorem word_parts (f : Format) (neg : Bool) (r : Nat) (h : r < f.signWeight) : (f.word neg r / f.signWeight % 2 == 1) = neg ∧ f.word neg r % f.signWeight = r := by
  unfold Format.word
  have hp : 0 < f.signWeight := by omega
  cases neg with
  | false => simp [Nat.div_eq_of_lt h, Nat.mod_eq_of_lt h]
  | true => simp [Nat.add_div_left _ hp, Nat.div_eq_of_lt h, Nat.mod_eq_of_lt h]

/-- What is read of a word whose rung has a place l and a significand k. -/
theorem read_word (f : Format) (neg : Bool) (l k : Nat) (hk : k < 2 * f.binade) (hl : 0 < l → f.binade ≤ k) (ho : l + 2 ≤ 2 ^ f.exponentBits - 1) :
    f.read (f.word neg (l * f.binade + k)) = .number neg k (f.leastPlace + (l : Int)) ∧ l * f.binade + k < f.infRung := by
  have hb : 0 < f.binade := Nat.two_pow_pos _
  have hlt : l * f.binade + k < f.infRung := by
    unfold Format.infRung
    have : (l + 2) * f.binade ≤ (2 ^ f.exponentBits - 1) * f.binade := Nat.mul_le_mul_right _ ho
    have e : (l + 2) * f.binade = l * f.binade + 2 * f.binade := by rw [Nat.add_mul]
    omega
  have hsw := sw_eq f
  obtain ⟨w1, w2⟩ := word_parts f neg (l * f.binade + k) (by omega)
  refine ⟨?_, hlt⟩
  unfold Format.read
  simp only [w1, w2]
  by_cases hk2 : f.binade ≤ k
  · obtain ⟨r, rfl⟩ : ∃ r, k = f.binade + r := ⟨k - f.binade, by omega⟩
    have e : l * f.binade + (f.binade + r) = r + f.binade * (l + 1) := by rw [Nat.mul_add, Nat.mul_comm]; omega
    have hr : r < f.binade := by omega
    have hge : ¬ l * f.binade + (f.binade + r) < f.binade := by have := Nat.zero_le (l * f.binade); omega
    rw [if_neg hge, if_pos hlt, e, Nat.add_mul_mod_self_left, Nat.mod_eq_of_lt hr, Nat.add_mul_div_left _ _ hb, Nat.div_eq_of_lt hr]
    simp
  · obtain rfl : l = 0 := by
      rcases Nat.eq_zero_or_pos l with h | h
      · exact h
      · exact absurd (hl h) hk2
    rw [if_pos (by omega)]
    simp

theorem nearest_pos (f : Format) (hee : 4 ≤ 2 ^ f.exponentBits) (neg : Bool) (mag : Nat) (place : Int) (c : Nat) (q : Int) (base : Int) (i j : Nat) (hp : place = base + i) (hq : q = base + j)
    (hv : mag * 2 ^ i = c * 2 ^ j) (hc : c < 2 ^ (f.fractionBits + 1)) (hlp : f.leastPlace ≤ q) (ho : magOf f c q < 2 ^ (f.fractionBits + (2 ^ f.exponentBits - 2))) (hpos : 0 < mag) (hbase : base ≤ f.leastPlace) :
    ∃ m e, f.read (f.nearest neg mag place) = .number neg m e ∧ f.leastPlace ≤ e ∧ m < 2 ^ (f.fractionBits + 1) ∧ magOf f m e = magOf f c q := by
  obtain ⟨L, hL⟩ : ∃ L, L = mag.log2 := ⟨_, rfl⟩
  have l1 : 2 ^ L ≤ mag := by rw [hL]; exact Nat.log2_self_le (by omega)
  have l2 : mag < 2 ^ (L + 1) := by rw [hL]; exact Nat.lt_log2_self
  obtain ⟨last, hlast⟩ : ∃ last : Int, last = max (place + L - f.fractionBits) f.leastPlace := ⟨_, rfl⟩
  have hi := Nat.two_pow_pos i
  have hV1 : 2 ^ (L + i) ≤ mag * 2 ^ i := by rw [Nat.pow_add]; exact Nat.mul_le_mul_right _ l1
  have hV2 : mag * 2 ^ i < 2 ^ (L + 1 + i) := by rw [Nat.pow_add 2 (L + 1)]; exact Nat.mul_lt_mul_of_pos_right l2 hi
  have hV3 : c * 2 ^ j < 2 ^ (f.fractionBits + 1 + j) := by rw [Nat.pow_add 2 (f.fractionBits + 1)]; exact Nat.mul_lt_mul_of_pos_right hc (Nat.two_pow_pos j)
  have hA : L + i < f.fractionBits + 1 + j := (Nat.pow_lt_pow_iff_right (by omega)).1 (by omega : 2 ^ (L + i) < 2 ^ (f.fractionBits + 1 + j))
  obtain ⟨t, ht⟩ : ∃ t : Nat, last = base + t := ⟨(last - base).toNat, by omega⟩
  have htj : t ≤ j := by omega
  -- what is kept
  obtain ⟨kept, hkept⟩ : ∃ kept, kept = Toward.even.cut neg (mag <<< (place - last).toNat) (last - place).toNat := ⟨_, rfl⟩
  have hK : kept * 2 ^ t = mag * 2 ^ i := by
    rw [hkept]
    rcases Nat.le_total t i with h | h
    · have e1 : (place - last).toNat = i - t := by omega
      have e2 : (last - place).toNat = 0 := by omega
      rw [e1, e2, cut_exact _ _ _ _ (by rw [Nat.shiftLeft_eq]; exact Nat.mul_pos hpos (Nat.two_pow_pos _)) (by simp), Nat.shiftLeft_eq, Nat.pow_zero, Nat.div_one, Nat.mul_assoc, ← Nat.pow_add, Nat.sub_add_cancel h]
    · have e1 : (place - last).toNat = 0 := by omega
      have e2 : (last - place).toNat = t - i := by omega
      have hd : 2 ^ (t - i) ∣ mag := by
        have h1 : 2 ^ (t - i) * 2 ^ i ∣ mag * 2 ^ i := by
          rw [← Nat.pow_add, Nat.sub_add_cancel h, hv]
          exact Nat.dvd_mul_left_of_dvd (Nat.pow_dvd_pow 2 htj) c
        exact Nat.dvd_of_mul_dvd_mul_right hi h1
      rw [e1, e2, Nat.shiftLeft_eq, Nat.pow_zero, Nat.mul_one, cut_exact _ _ _ _ hpos hd]
      have e3 : 2 ^ t = 2 ^ (t - i) * 2 ^ i := by rw [← Nat.pow_add, Nat.sub_add_cancel h]
      rw [e3, ← Nat.mul_assoc, Nat.div_mul_cancel hd]
  have htp := Nat.two_pow_pos t
  have k1 : kept < 2 ^ (f.fractionBits + 1) := by
    have : kept * 2 ^ t < 2 ^ (f.fractionBits + 1) * 2 ^ t := by
      rw [hK, ← Nat.pow_add]
      exact Nat.lt_of_lt_of_le hV2 (Nat.pow_le_pow_right (by omega) (by omega))
    exact Nat.lt_of_mul_lt_mul_right this
  obtain ⟨l, hl⟩ : ∃ l : Nat, last = f.leastPlace + l := ⟨(last - f.leastPlace).toNat, by omega⟩
  have k2 : 0 < l → 2 ^ f.fractionBits ≤ kept := by
    intro h
    have : 2 ^ f.fractionBits * 2 ^ t ≤ kept * 2 ^ t := by
      rw [hK, ← Nat.pow_add]
      exact Nat.le_trans (Nat.pow_le_pow_right (by omega) (by omega)) hV1
    exact Nat.le_of_mul_le_mul_right this htp
  have hkc : kept = c * 2 ^ (j - t) := by
    have : kept * 2 ^ t = c * 2 ^ (j - t) * 2 ^ t := by rw [hK, hv, Nat.mul_assoc, ← Nat.pow_add, Nat.sub_add_cancel htj]
    exact Nat.eq_of_mul_eq_mul_right htp this
  have hM : magOf f c q = kept * 2 ^ l := by
    unfold magOf
    have e : (q - f.leastPlace).toNat = (j - t) + l := by omega
    rw [e, hkc, Nat.pow_add, Nat.mul_assoc]
  have ho2 : l + 2 ≤ 2 ^ f.exponentBits - 1 := by
    rcases Nat.eq_zero_or_pos l with h | h
    · omega
    · have h2 : 2 ^ (f.fractionBits + l) < 2 ^ (f.fractionBits + (2 ^ f.exponentBits - 2)) := by
        refine Nat.lt_of_le_of_lt ?_ ho
        rw [hM, Nat.pow_add]
        exact Nat.mul_le_mul_right _ (k2 h)
      have h3 := (Nat.pow_lt_pow_iff_right (a := 2) (by omega)).1 h2
      omega
  have hB : f.binade = 2 ^ f.fractionBits := rfl
  obtain ⟨r1, r2⟩ := read_word f neg l kept (by rw [hB]; rw [Nat.pow_succ] at k1; omega) k2 ho2
  refine ⟨kept, last, ?_, by omega, k1, ?_⟩
  · unfold Format.nearest
    rw [if_neg (by omega)]
    simp only
    rw [← hL, ← hlast, ← hkept]
    have e : (last - f.leastPlace).toNat = l := by omega
    rw [e, Nat.min_eq_left (by omega), r1, hl]
  · rw [hM, hl]
    unfold magOf
    congr 2
    omega

/-- Writing a number that the format has, exactly: c times a power of two. -/
theorem nearest_exact (f : Format) (h1 : 2 ≤ f.exponentBits) (neg : Bool) (mag : Nat) (place : Int) (c : Nat) (q : Int) (base : Int) (i j : Nat) (hp : place = base + i) (hq : q = base + j)
    (hv : mag * 2 ^ i = c * 2 ^ j) (hc : c < 2 ^ (f.fractionBits + 1)) (hlp : f.leastPlace ≤ q) (ho : magOf f c q < 2 ^ (f.fractionBits + (2 ^ f.exponentBits - 2))) :
    ∃ m e, f.read (f.nearest neg mag place) = .number neg m e ∧ f.leastPlace ≤ e ∧ m < 2 ^ (f.fractionBits + 1) ∧ magOf f m e = magOf f c q := by
  have hee : 4 ≤ 2 ^ f.exponentBits := by
    have := Nat.pow_le_pow_right (show 0 < 2 by omega) h1
    omega
  rcases Nat.eq_zero_or_pos mag with rfl | hpos
  · refine ⟨0, f.leastPlace, ?_, by omega, Nat.two_pow_pos _, ?_⟩
    · unfold Format.nearest
      rw [if_pos rfl]
      have := (read_word f neg 0 0 (by have := Nat.two_pow_pos f.fractionBits; unfold Format.binade; omega) (fun h => absurd h (by omega)) (by omega)).1
      simpa using this
    · have h0 : c = 0 := by
        have : c * 2 ^ j = 0 := by omega
        rcases Nat.mul_eq_zero.1 this with h | h
        · exact h
        · exact absurd h (by have := Nat.two_pow_pos j; omega)
      simp [magOf, h0]
  · obtain ⟨base', hb1, hb2⟩ : ∃ base' : Int, base' ≤ base ∧ base' ≤ f.leastPlace := ⟨min base f.leastPlace, by omega, by omega⟩
    obtain ⟨k, hk⟩ : ∃ k : Nat, base = base' + k := ⟨(base - base').toNat, by omega⟩
    exact nearest_pos f hee neg mag place c q base' (i + k) (j + k) (by omega) (by omega) (by rw [Nat.pow_add, Nat.pow_add, ← Nat.mul_assoc, ← Nat.mul_assoc, hv]) hc hlp ho hpos hb2

theorem signed_eq (s : Bool) (m k : Nat) : signed s m k = if s = true then -((m * 2 ^ k : Nat) : Int) else ((m * 2 ^ k : Nat) : Int) := by
  unfold signed
  rw [Nat.shiftLeft_eq]

/-- A magnitude with its sign. -/
def sgnI (s : Bool) (M : Nat) : Int := if s = true then -(M : Int) else M
theorem compare_scale (a b : Int) (k : Nat) : compare (a * (2 ^ k : Nat)) (b * (2 ^ k : Nat)) = compare a b := by
  have hp : (0 : Int) < ((2 ^ k : Nat) : Int) := by have := Nat.two_pow_pos k; omega
  rcases Int.lt_trichotomy a b with h | h | h
  · rw [Int.compare_eq_lt.2 h, Int.compare_eq_lt.2 (Int.mul_lt_mul_of_pos_right h hp)]
  · subst h; rw [Int.compare_eq_eq.2 rfl, Int.compare_eq_eq.2 rfl]
  · rw [Int.compare_eq_gt.2 h, Int.compare_eq_gt.2 (Int.mul_lt_mul_of_pos_right h hp)]
theorem order_numF (f : Format) (s t : Bool) (m n : Nat) (i j : Int) (hi : f.leastPlace ≤ i) (hj : f.leastPlace ≤ j) :
    Datum.order (.number s m i) (.number t n j) = some (compare (sgnI s (magOf f m i)) (sgnI t (magOf f n j))) := by
  unfold Datum.order
  simp only
  congr 1
  obtain ⟨k, hk⟩ : ∃ k : Nat, k = (min i j - f.leastPlace).toNat := ⟨_, rfl⟩
  have e : ∀ (s : Bool) (m : Nat) (i' : Int), min i j ≤ i' → sgnI s (magOf f m i') = signed s m (i' - min i j).toNat * (2 ^ k : Nat) := by
    intro s m i' h
    rw [signed_eq]
    unfold sgnI magOf
    have h2 : (i' - f.leastPlace).toNat = (i' - min i j).toNat + k := by omega
    rw [h2, Nat.pow_add, ← Nat.mul_assoc]
    cases s
    · simp
    · simp [Int.neg_mul]
  rw [e s m i (by omega), e t n j (by omega), compare_scale]

/-- One, in units of the last place. -/
def oneU (f : Format) : Nat := 2 ^ (-f.leastPlace).toNat
theorem oneU_pos (f : Format) : 0 < oneU f := Nat.two_pow_pos _
theorem shift_div (f : Format) (m : Nat) (e : Int) (h : f.leastPlace ≤ e) (h0 : f.leastPlace ≤ 0) :
    (m <<< e.toNat) / 2 ^ (-e).toNat = magOf f m e / oneU f ∧ ((m <<< e.toNat) % 2 ^ (-e).toNat = 0 ↔ magOf f m e % oneU f = 0) := by
  unfold magOf oneU
  rw [Nat.shiftLeft_eq]
  rcases Int.le_total 0 e with h1 | h1
  · have e1 : (-e).toNat = 0 := by omega
    have e2 : (e - f.leastPlace).toNat = e.toNat + (-f.leastPlace).toNat := by omega
    rw [e1, e2, Nat.pow_zero, Nat.div_one, Nat.mod_one, Nat.pow_add, ← Nat.mul_assoc, Nat.mul_div_cancel _ (Nat.two_pow_pos _), Nat.mul_mod_left]
    exact ⟨rfl, Iff.rfl⟩
  · have e1 : e.toNat = 0 := by omega
    have e2 : (-f.leastPlace).toNat = (-e).toNat + (e - f.leastPlace).toNat := by omega
    have hp := Nat.two_pow_pos (e - f.leastPlace).toNat
    rw [e1, e2, Nat.pow_zero, Nat.mul_one, Nat.pow_add, Nat.mul_div_mul_right _ _ hp, Nat.mul_mod_mul_right]
    refine ⟨rfl, ?_⟩
    constructor
    · intro h; rw [h, Nat.zero_mul]
    · intro h
      rcases Nat.mul_eq_zero.1 h with h | h
      · exact h
      · omega

/-- What is read of the whole number below a number, and of the one towards zero. -/
theorem read_whole (f : Format) (h1 : 2 ≤ f.exponentBits) (h0 : f.leastPlace ≤ 0) (s : Bool) (m : Nat) (e : Int) (he : f.leastPlace ≤ e) (hm : m < 2 ^ (f.fractionBits + 1)) (hf : 1 ≤ f.fractionBits) (d : Nat) (hd : d = 0 ∨ d = 1 ∧ magOf f m e % oneU f ≠ 0)
    (ho : magOf f m e + oneU f < 2 ^ (f.fractionBits + (2 ^ f.exponentBits - 2))) :
    ∃ m' e', f.read (f.nearest s (magOf f m e / oneU f + d) 0) = .number s m' e' ∧ f.leastPlace ≤ e' ∧ m' < 2 ^ (f.fractionBits + 1) ∧ magOf f m' e' = (magOf f m e / oneU f + d) * oneU f := by
  have hu := oneU_pos f
  have hle : (magOf f m e / oneU f) * oneU f ≤ magOf f m e := Nat.div_mul_le_self _ _
  rcases Int.le_total 0 e with h | h
  · have e2 : (e - f.leastPlace).toNat = e.toNat + (-f.leastPlace).toNat := by omega
    have hM : magOf f m e = m * 2 ^ e.toNat * oneU f := by unfold magOf oneU; rw [e2, Nat.pow_add, ← Nat.mul_assoc]
    have hd0 : d = 0 := by
      rcases hd with h | ⟨_, h⟩
      · exact h
      · rw [hM, Nat.mul_mod_left] at h; exact absurd rfl h
    subst hd0
    have hq : magOf f m e / oneU f = m * 2 ^ e.toNat := by rw [hM, Nat.mul_div_cancel _ hu]
    rw [Nat.add_zero, hq]
    obtain ⟨m', e', r1, r2, r3, r4⟩ := nearest_exact f h1 s (m * 2 ^ e.toNat) 0 m e 0 0 e.toNat (by omega) (by omega) (by rw [Nat.pow_zero, Nat.mul_one]) hm he (by omega)
    exact ⟨m', e', r1, r2, r3, by rw [r4, hM]⟩
  · have hq : magOf f m e / oneU f = m / 2 ^ (-e).toNat := by
      rw [← (shift_div f m e he h0).1]
      have e1 : e.toNat = 0 := by omega
      rw [e1, Nat.shiftLeft_zero]
    have hc : magOf f m e / oneU f + d < 2 ^ (f.fractionBits + 1) := by
      rcases hd with rfl | ⟨rfl, hne⟩
      · rw [hq]; exact Nat.lt_of_le_of_lt (Nat.div_le_self _ _) hm
      · have hlt : e < 0 := by
          rcases Int.lt_or_eq_of_le h with h | h
          · exact h
          · subst h
            unfold magOf oneU at hne
            rw [show ((0 : Int) - f.leastPlace).toNat = (-f.leastPlace).toNat by omega, Nat.mul_mod_left] at hne
            exact absurd rfl hne
        rw [hq]
        have hp : 2 ≤ 2 ^ (-e).toNat := by
          have := Nat.pow_le_pow_right (show 0 < 2 by omega) (show 1 ≤ (-e).toNat by omega)
          omega
        have h2 : m / 2 ^ (-e).toNat ≤ m / 2 := Nat.div_le_div_left hp (by omega)
        have h3 : 4 ≤ 2 ^ (f.fractionBits + 1) := by
          have := Nat.pow_le_pow_right (show 0 < 2 by omega) (show 2 ≤ f.fractionBits + 1 by omega)
          omega
        omega
    have hu2 : ∀ k, magOf f k 0 = k * oneU f := by intro k; unfold magOf oneU; congr 2; omega
    obtain ⟨m', e', r1, r2, r3, r4⟩ := nearest_exact f h1 s (magOf f m e / oneU f + d) 0 (magOf f m e / oneU f + d) 0 0 0 0 (by omega) (by omega) rfl hc h0 (by
      rw [hu2, Nat.add_mul]
      rcases hd with rfl | ⟨rfl, _⟩ <;> omega)
    exact ⟨m', e', r1, r2, r3, by rw [r4, hu2]⟩

theorem trunc_read (f : Format) (h1 : 2 ≤ f.exponentBits) (h0 : f.leastPlace ≤ 0) (s : Bool) (m : Nat) (e : Int) (he : f.leastPlace ≤ e) (hm : m < 2 ^ (f.fractionBits + 1)) (hf : 1 ≤ f.fractionBits)
    (ho : magOf f m e + oneU f < 2 ^ (f.fractionBits + (2 ^ f.exponentBits - 2))) :
    ∃ m' e', f.read (f.write ((Datum.number s m e).integral .zero)) = .number s m' e' ∧ f.leastPlace ≤ e' ∧ magOf f m' e' = magOf f m e / oneU f * oneU f := by
  obtain ⟨m', e', r1, r2, _, r4⟩ := read_whole f h1 h0 s m e he hm hf 0 (.inl rfl) ho
  refine ⟨m', e', ?_, r2, r4⟩
  show f.read (f.nearest s (Toward.zero.cut s (m <<< e.toNat) (-e).toNat) 0) = _
  rw [cut_zero, (shift_div f m e he h0).1]
  exact r1
theorem floor_read (f : Format) (h1 : 2 ≤ f.exponentBits) (h0 : f.leastPlace ≤ 0) (s : Bool) (m : Nat) (e : Int) (he : f.leastPlace ≤ e) (hm : m < 2 ^ (f.fractionBits + 1)) (hf : 1 ≤ f.fractionBits)
    (ho : magOf f m e + oneU f < 2 ^ (f.fractionBits + (2 ^ f.exponentBits - 2))) :
    ∃ m' e' d, f.read (f.write ((Datum.number s m e).integral .down)) = .number s m' e' ∧ f.leastPlace ≤ e' ∧ magOf f m' e' = (magOf f m e / oneU f + d) * oneU f ∧ (d = 0 ∨ d = 1 ∧ magOf f m e % oneU f ≠ 0) := by
  obtain ⟨d, hd, hd2⟩ : ∃ d, d = (s && (m <<< e.toNat) % 2 ^ (-e).toNat != 0).toNat ∧ (d = 0 ∨ d = 1 ∧ magOf f m e % oneU f ≠ 0) := by
    refine ⟨_, rfl, ?_⟩
    cases s
    · exact .inl rfl
    · by_cases h : (m <<< e.toNat) % 2 ^ (-e).toNat = 0
      · left; simp [h]
      · right
        refine ⟨by simp [h], fun hh => h ((shift_div f m e he h0).2.2 hh)⟩
  obtain ⟨m', e', r1, r2, _, r4⟩ := read_whole f h1 h0 s m e he hm hf d hd2 ho
  refine ⟨m', e', d, ?_, r2, r4, hd2⟩
  show f.read (f.nearest s (Toward.down.cut s (m <<< e.toNat) (-e).toNat) 0) = _
  rw [cut_down, (shift_div f m e he h0).1, ← hd]
  exact r1

theorem fabs_eq (x : Nat) (hx : x < 18446744073709551616) : fabs x = x % 9223372036854775808 := by
  unfold fabs bits
  have e : (BitVec.ofInt 64 (x : Int) &&& ~~~BitVec.ofInt 64 9223372036854775808).toNat = x % 9223372036854775808 := by
    rw [show (~~~BitVec.ofInt 64 9223372036854775808) = BitVec.ofNat 64 9223372036854775807 by decide, BitVec.toNat_and, BitVec.toNat_ofNat, BitVec.toNat_ofInt]
    have h2 : ((x : Int) % ((2 ^ 64 : Nat) : Int)).toNat = x := by omega
    rw [h2, show 9223372036854775807 % 2 ^ 64 = 2 ^ 63 - 1 by decide, Nat.and_two_pow_sub_one_eq_mod]
  show (IntKind.u64.wrap ((BitVec.ofInt 64 (x : Int) &&& ~~~BitVec.ofInt 64 9223372036854775808).toNat : Int)).toNat = _
  rw [e, IntKind.wrap_u64]
  omega

abbrev dbl : Format := Ieee.double
abbrev sgl : Format := Ieee.single
theorem dbl_lp : dbl.leastPlace = -1074 := by decide
theorem sgl_lp : sgl.leastPlace = -149 := by decide

/-- Room for the float64 of a float32. -/
def K2 : Nat := 1202
/-- What a word stands for that is no NaN and no infinity. -/
structure Fin (f : Format) (b : Nat) (s : Bool) (m : Nat) (e : Int) : Prop where
  read : f.read b = .number s m e
  lp : f.leastPlace ≤ e
  mag : m < 2 ^ (f.fractionBits + 1)

theorem read_cases (f : Format) (h1 : 2 ≤ f.exponentBits) (b : Nat) : (∃ s t, f.read b = .nan s t) ∨ (∃ s, f.read b = .infinity s) ∨ ∃ s m e, Fin f b s m e ∧ e + 3 ≤ f.leastPlace + (2 ^ f.exponentBits : Nat) := by
  have hB : f.binade = 2 ^ f.fractionBits := rfl
  have hb : 0 < f.binade := Nat.two_pow_pos _
  have hee : 4 ≤ 2 ^ f.exponentBits := by
    have := Nat.pow_le_pow_right (show 0 < 2 by omega) h1
    omega
  by_cases c1 : b % f.signWeight < f.binade
  · refine .inr (.inr ⟨_, _, _, ⟨by unfold Format.read; simp only; rw [if_pos c1], by omega, ?_⟩, by omega⟩)
    rw [Nat.pow_succ, ← hB]; omega
  · by_cases c2 : b % f.signWeight < f.infRung
    · refine .inr (.inr ⟨_, _, _, ⟨by unfold Format.read; simp only; rw [if_neg c1, if_pos c2], by omega, ?_⟩, ?_⟩)
      · have := Nat.mod_lt (b % f.signWeight) hb
        rw [Nat.pow_succ, ← hB]; omega
      · have h3 : b % f.signWeight / f.binade < 2 ^ f.exponentBits - 1 := by
          rw [Nat.div_lt_iff_lt_mul hb]
          exact c2
        have h4 : 1 ≤ b % f.signWeight / f.binade := (Nat.le_div_iff_mul_le hb).2 (by omega)
        omega
    · by_cases c3 : b % f.signWeight = f.infRung
      · exact .inr (.inl ⟨_, by unfold Format.read; simp only; rw [if_neg c1, if_neg c2, if_pos c3]⟩)
      · exact .inl ⟨_, _, by unfold Format.read; simp only; rw [if_neg c1, if_neg c2, if_neg c3]⟩

/-- The float64 of a float32 that is a number. -/
theorem wide_of {b : Nat} {s : Bool} {m : Nat} {e : Int} (h : Fin sgl b s m e) (he : e ≤ 104) :
    ∃ x m1 e1, floatToFloatBits .f32 b .f64 = some x ∧ x < 18446744073709551616 ∧ Fin dbl x s m1 e1 ∧ magOf dbl m1 e1 = magOf dbl m e ∧ magOf dbl m e < 2 ^ K2 := by
  have h1 := h.lp
  have h2 := h.mag
  rw [sgl_lp] at h1
  have h3 : m < 2 ^ 24 := h2
  have hM : magOf dbl m e < 2 ^ K2 := by
    unfold magOf
    rw [dbl_lp]
    refine Nat.lt_of_lt_of_le (Nat.mul_lt_mul_of_pos_right h3 (Nat.two_pow_pos _)) ?_
    rw [← Nat.pow_add]
    exact Nat.pow_le_pow_right (by omega) (by unfold K2; omega)
  obtain ⟨m1, e1, r1, r2, r3, r4⟩ := nearest_exact dbl (by decide) s m e m e e 0 0 (by omega) (by omega) rfl (Nat.lt_of_lt_of_le h3 (Nat.pow_le_pow_right (by omega) (by decide))) (by rw [dbl_lp]; omega)
    (Nat.lt_of_lt_of_le hM (Nat.pow_le_pow_right (by omega) (by decide)))
  have hx : FloatKind.f64.encode (.number s m e) < 18446744073709551616 := dbl.write_lt _
  refine ⟨FloatKind.f64.encode (.number s m e), m1, e1, ?_, hx, ⟨r1, r2, r3⟩, r4, hM⟩
  unfold floatToFloatBits
  rw [if_neg (by decide)]
  have hr : FloatKind.f32.decode b = .number s m e := h.read
  have hq : FloatKind.f64.decode (FloatKind.f64.encode (.number s m e)) = .number s m1 e1 := r1
  rw [hr]
  simp only
  rw [hq]
  rfl

/-- Sixteen times a float64. -/
theorem times16 {x : Nat} {s : Bool} {m : Nat} {e : Int} (h : Fin dbl x s m e) (hM : magOf dbl m e < 2 ^ K2) :
    ∃ y m2 e2, floatBits .mul .f64 x 4625196817309499392 = some y ∧ floatBits .mul .f64 4625196817309499392 x = some y ∧ Fin dbl y s m2 e2 ∧ magOf dbl m2 e2 = 16 * magOf dbl m e := by
  have h1 := h.lp
  rw [dbl_lp] at h1
  have hc : dbl.read 4625196817309499392 = .number false 4503599627370496 (-48) := by decide +kernel
  have hq : magOf dbl m (e + 4) = 16 * magOf dbl m e := by
    unfold magOf
    rw [dbl_lp]
    have : (e + 4 - -1074).toNat = (e - -1074).toNat + 4 := by omega
    rw [this, Nat.pow_add, ← Nat.mul_assoc, Nat.mul_comm _ (2 ^ 4)]
  have hpl : e + -48 = (e - 48) := by omega
  obtain ⟨m2, e2, r1, r2, r3, r4⟩ := nearest_exact dbl (by decide) s (m * 4503599627370496) (e - 48) m (e + 4) (e - 48) 0 52 (by omega) (by omega) (by simp) h.mag (by rw [dbl_lp]; omega) (by
    rw [hq]
    have this : 16 * magOf dbl m e < 2 ^ (K2 + 4) := by rw [Nat.pow_add]; omega
    exact Nat.lt_of_lt_of_le this (Nat.pow_le_pow_right (by omega) (by decide)))
  refine ⟨_, m2, e2, ?_, ?_, ⟨r1, r2, r3⟩, by rw [r4, hq]⟩
  · show dbl.mul x 4625196817309499392 = _
    unfold Format.mul
    rw [h.read, hc]
    show some (dbl.nearest (s ^^ false) (m * 4503599627370496) (e + -48)) = _
    rw [Bool.xor_false, hpl]
  · show dbl.mul 4625196817309499392 x = _
    unfold Format.mul
    rw [h.read, hc]
    show some (dbl.nearest (false ^^ s) (4503599627370496 * m) (-48 + e)) = _
    rw [Bool.false_xor, Nat.mul_comm 4503599627370496 m, Int.add_comm (-48) e, hpl]

def ffloor (x : Nat) : Nat := FloatKind.f64.encode ((FloatKind.f64.decode x).integral .down)

theorem sgn_eq (s : Bool) (a b : Nat) : sgnI s a = sgnI s b ↔ a = b := by
  unfold sgnI
  cases s <;> simp <;> omega
theorem order_eq {f : Format} {x y : Nat} {s t : Bool} {m n : Nat} {i j : Int} (h : Fin f x s m i) (k : Fin f y t n j) : f.order x y = some (compare (sgnI s (magOf f m i)) (sgnI t (magOf f n j))) := by
  unfold Format.order
  rw [h.read, k.read, order_numF f s t m n i j h.lp k.lp]
theorem cmp_eq (a b : Int) : (some (compare a b) == some Ordering.eq) = decide (a = b) := by
  by_cases h : a = b
  · rw [Int.compare_eq_eq.2 h]; simp [h]
  · have : compare a b ≠ .eq := fun e => h (Int.compare_eq_eq.1 e)
    simp [h, this]
theorem cmp_gt (a b : Int) : (some (compare a b) == some Ordering.gt) = decide (b < a) := by
  by_cases h : b < a
  · rw [Int.compare_eq_gt.2 h]; simp [h]
  · have : compare a b ≠ .gt := fun e => h (Int.compare_eq_gt.1 e)
    simp [h, this]
theorem cmp_lt (a b : Int) : (some (compare a b) == some Ordering.lt) = decide (a < b) := by
  by_cases h : a < b
  · rw [Int.compare_eq_lt.2 h]; simp [h]
  · have : compare a b ≠ .lt := fun e => h (Int.compare_eq_lt.1 e)
    simp [h, this]

theorem whole_eqs {y : Nat} {s : Bool} {m : Nat} {e : Int} (h : Fin dbl y s m e) (hM : magOf dbl m e < 2 ^ (K2 + 4)) :
    (FloatKind.f64.format.order (ftrunc y) y == some .eq) = decide (magOf dbl m e % oneU dbl = 0) ∧ (FloatKind.f64.format.order y (ffloor y) == some .eq) = decide (magOf dbl m e % oneU dbl = 0) := by
  have hu : oneU dbl ≤ 2 ^ (K2 + 4) := Nat.pow_le_pow_right (by omega) (by decide)
  have ho : magOf dbl m e + oneU dbl < 2 ^ (dbl.fractionBits + (2 ^ dbl.exponentBits - 2)) := by
    have this : magOf dbl m e + oneU dbl < 2 ^ (K2 + 4 + 1) := by rw [Nat.pow_succ 2 (K2 + 4)]; omega
    exact Nat.lt_of_lt_of_le this (Nat.pow_le_pow_right (by omega) (by decide))
  have h0 : dbl.leastPlace ≤ 0 := by rw [dbl_lp]; omega
  have hp := oneU_pos dbl
  have hdm := Nat.div_add_mod (magOf dbl m e) (oneU dbl)
  have hml := Nat.mod_lt (magOf dbl m e) hp
  have hcm := Nat.mul_comm (oneU dbl) (magOf dbl m e / oneU dbl)
  have hdec : FloatKind.f64.decode y = .number s m e := h.read
  constructor
  · obtain ⟨m', e', r1, r2, r3⟩ := trunc_read dbl (by decide) h0 s m e h.lp h.mag (by decide) ho
    have hr : dbl.read (ftrunc y) = .number s m' e' := by unfold ftrunc; rw [hdec]; exact r1
    show (dbl.order (ftrunc y) y == some .eq) = _
    unfold Format.order
    rw [hr, h.read, order_numF dbl s s m' m e' e r2 h.lp, cmp_eq, r3]
    congr 1
    apply propext
    rw [sgn_eq]
    clear ho hu hM hr r1 r3 hdec
    constructor <;> intro hh <;> omega
  · obtain ⟨m', e', d, r1, r2, r3, hd⟩ := floor_read dbl (by decide) h0 s m e h.lp h.mag (by decide) ho
    have hr : dbl.read (ffloor y) = .number s m' e' := by unfold ffloor; rw [hdec]; exact r1
    show (dbl.order y (ffloor y) == some .eq) = _
    unfold Format.order
    rw [hr, h.read, order_numF dbl s s m m' e e' h.lp r2, cmp_eq, r3]
    congr 1
    apply propext
    rw [sgn_eq, Nat.add_mul]
    clear ho hu hM hr r1 r3 hdec
    rcases hd with rfl | ⟨rfl, hne⟩
    · constructor <;> intro hh <;> omega
    · constructor <;> intro hh <;> omega

/-- The absolute value. -/
theorem fabs_fin {x : Nat} {s : Bool} {m : Nat} {e : Int} (h : Fin dbl x s m e) (hx : x < 18446744073709551616) : Fin dbl (fabs x) false m e := by
  refine ⟨?_, h.lp, h.mag⟩
  rw [fabs_eq x hx]
  have hr := h.read
  have hs : dbl.signWeight = 9223372036854775808 := by decide
  unfold Format.read at hr ⊢
  simp only [hs] at hr ⊢
  have e1 : x % 9223372036854775808 / 9223372036854775808 % 2 = 0 := by omega
  have e2 : x % 9223372036854775808 % 9223372036854775808 = x % 9223372036854775808 := by omega
  rw [e1, e2]
  split at hr
  · rename_i c
    rw [if_pos c]
    simp only [Datum.number.injEq] at hr ⊢
    exact ⟨rfl, hr.2⟩
  · rename_i c
    rw [if_neg c]
    split at hr
    · rename_i c2
      rw [if_pos c2]
      simp only [Datum.number.injEq] at hr ⊢
      exact ⟨rfl, hr.2⟩
    · split at hr <;> cases hr

theorem fin_64 : Fin dbl 4634204016564240384 false 4503599627370496 (-46) ∧ Fin dbl 13857576053419016192 true 4503599627370496 (-46) := ⟨⟨by decide +kernel, by decide +kernel, by decide +kernel⟩, ⟨by decide +kernel, by decide +kernel, by decide +kernel⟩⟩
theorem mag_64 : magOf dbl 4503599627370496 (-46) = 64 * oneU dbl := by decide +kernel
theorem fin_max : Fin dbl 9218868437227405311 false 9007199254740991 971 ∧ 2 ^ K2 ≤ magOf dbl 9007199254740991 971 := ⟨⟨by decide +kernel, by decide +kernel, by decide +kernel⟩, by decide +kernel⟩

/-- What CheckLevel asks of a float32 that is a number: of its value in units of 2^-1074. -/
structure LevF (b x y M : Nat) : Prop where
  wide : floatToFloatBits .f32 b .f64 = some x
  big : floatBits .mul .f64 x 4625196817309499392 = some y
  big' : floatBits .mul .f64 4625196817309499392 x = some y
  nan : (FloatKind.f64.format.order x x == some .eq) = true
  inf : (FloatKind.f64.format.order (fabs x) 9218868437227405311 == some .gt) = false
  num : ∃ s m e, FloatKind.f64.decode y = .number s m e
  trunc : (FloatKind.f64.format.order (ftrunc y) y == some .eq) = decide (16 * M % oneU dbl = 0)
  floor : (FloatKind.f64.format.order y (ffloor y) == some .eq) = decide (16 * M % oneU dbl = 0)
  abs : (FloatKind.f64.format.order (fabs x) 4634204016564240384 == some .lt || FloatKind.f64.format.order (fabs x) 4634204016564240384 == some .eq) = decide (M ≤ 64 * oneU dbl)
  out : (FloatKind.f64.format.order x 4634204016564240384 == some .gt || FloatKind.f64.format.order x 13857576053419016192 == some .lt) = !decide (M ≤ 64 * oneU dbl)

theorem levF_of {b : Nat} {s : Bool} {m : Nat} {e : Int} (h : Fin sgl b s m e) (he : e ≤ 104) : ∃ x y, LevF b x y (magOf dbl m e) := by
  obtain ⟨x, m1, e1, hw, hx, f1, hM1, hM⟩ := wide_of h he
  obtain ⟨y, m2, e2, hb1, hb2, f2, hM2⟩ := times16 f1 (by rw [hM1]; exact hM)
  have fa := fabs_fin f1 hx
  obtain ⟨w1, w2⟩ := whole_eqs f2 (by
    rw [hM2, hM1]
    rw [Nat.pow_add]; omega)
  rw [hM2, hM1] at w1 w2
  refine ⟨x, y, hw, hb1, hb2, ?_, ?_, ⟨s, m2, e2, f2.read⟩, w1, w2, ?_, ?_⟩
  · show (dbl.order x x == some .eq) = true
    rw [order_eq f1 f1, cmp_eq]; simp
  · show (dbl.order (fabs x) 9218868437227405311 == some .gt) = false
    rw [order_eq fa fin_max.1, cmp_gt, hM1]
    have := fin_max.2
    simp only [sgnI, Bool.false_eq_true, if_false, decide_eq_false_iff_not]
    omega
  · show (dbl.order (fabs x) 4634204016564240384 == some .lt || dbl.order (fabs x) 4634204016564240384 == some .eq) = _
    rw [order_eq fa fin_64.1, cmp_lt, cmp_eq, hM1, mag_64, ← Bool.decide_or]
    congr 1
    apply propext
    simp only [sgnI, Bool.false_eq_true, if_false]
    omega
  · show (dbl.order x 4634204016564240384 == some .gt || dbl.order x 13857576053419016192 == some .lt) = _
    rw [order_eq f1 fin_64.1, order_eq f1 fin_64.2, cmp_gt, cmp_lt, hM1, mag_64, ← Bool.decide_or, ← decide_not]
    congr 1
    apply propext
    cases s <;> simp only [sgnI, Bool.false_eq_true, if_false, if_true] <;> omega
/-- How much finer a float64's last place is. -/
def K9 : Nat := 925
/-- What CheckLevel says of the bits of a float32. -/
def chkLev (b : Nat) : Int := match FloatKind.f32.decode b with
  | .number _ m e => if 16 * magOf dbl m e % oneU dbl = 0 ∧ magOf dbl m e ≤ 64 * oneU dbl then 0 else 3
  | _ => 1

theorem mag_wide (m : Nat) (e : Int) (h : -149 ≤ e) : magOf dbl m e = magOf sgl m e * 2 ^ K9 := by
  unfold magOf
  rw [dbl_lp, sgl_lp]
  have : (e - -1074).toNat = (e - -149).toNat + K9 := by unfold K9; omega
  rw [this, Nat.pow_add, ← Nat.mul_assoc]
theorem one_wide : oneU dbl = oneU sgl * 2 ^ K9 := by
  unfold oneU
  rw [dbl_lp, sgl_lp, ← Nat.pow_add]
  congr 1

theorem toInt_num (f : Format) (h0 : f.leastPlace ≤ 0) (s : Bool) (m : Nat) (e : Int) (h : f.leastPlace ≤ e) : (Datum.number s m e).toInt .zero = some (sgnI s (magOf f m e / oneU f)) := by
  unfold Datum.toInt Datum.integral
  simp only
  rw [cut_zero, (shift_div f m e h h0).1, signed_eq]
  simp [sgnI]
theorem sgn_bound (s : Bool) (k : Nat) (h : k ≤ 1024) : -1024 ≤ sgnI s k ∧ sgnI s k ≤ 1024 := by
  unfold sgnI
  cases s
  · simp only [Bool.false_eq_true, if_false]; omega
  · simp only [if_true]; omega
theorem i64_val (k : FloatKind) (z : Nat) (v : Int) (h : (k.decode z).toInt .zero = some v) (hv : -1024 ≤ v ∧ v ≤ 1024) : floatToIntVal k z .i64 = some v := by
  unfold floatToIntVal
  rw [h]
  simp only
  have h1 : IntKind.i64.min = -9223372036854775808 := by decide
  have h2 : IntKind.i64.max = 9223372036854775807 := by decide
  rw [if_pos ⟨by rw [h1]; omega, by rw [h2]; omega⟩]

theorem i64_of {k : FloatKind} {z : Nat} {s : Bool} {m : Nat} {e : Int} (h0 : k.format.leastPlace ≤ 0) (h : k.format.read z = .number s m e) (he : k.format.leastPlace ≤ e) {v : Nat} (hv : magOf k.format m e / oneU k.format = v) (hb : v ≤ 1024) :
    floatToIntVal k z .i64 = some (sgnI s v) := by
  refine i64_val _ _ _ ?_ (sgn_bound s _ hb)
  have hd : k.decode z = .number s m e := h
  rw [hd, toInt_num k.format h0 s m e he, hv]

/-- 16 times a valid level, as an integer: by gauge's way and by the statements' way. -/
theorem sixt_num {b : Nat} {s : Bool} {m : Nat} {e : Int} (h : Fin sgl b s m e) (hM : magOf dbl m e ≤ 64 * oneU dbl) :
    sixt b = some (sgnI s (16 * magOf dbl m e / oneU dbl)) ∧ 16 * magOf dbl m e / oneU dbl ≤ 1024 := by
  have h1 := h.lp
  rw [sgl_lp] at h1
  have hp9 := Nat.two_pow_pos K9
  rw [mag_wide m e h1, one_wide] at hM ⊢
  rw [← Nat.mul_assoc] at hM
  have hM2 : magOf sgl m e ≤ 64 * oneU sgl := Nat.le_of_mul_le_mul_right hM hp9
  rw [← Nat.mul_assoc, Nat.mul_div_mul_right _ _ hp9]
  have hk : 16 * magOf sgl m e / oneU sgl ≤ 1024 := by
    rw [Nat.div_le_iff_le_mul_add_pred (oneU_pos sgl)]
    have := oneU_pos sgl
    have e : oneU sgl * 1024 = 1024 * oneU sgl := Nat.mul_comm _ _
    omega
  refine ⟨?_, hk⟩
  have hc : sgl.read 1098907648 = .number false 8388608 (-19) := by decide +kernel
  have hq : magOf sgl m (e + 4) = 16 * magOf sgl m e := by
    unfold magOf
    rw [sgl_lp]
    have : (e + 4 - -149).toNat = (e - -149).toNat + 4 := by omega
    rw [this, Nat.pow_add, ← Nat.mul_assoc, Nat.mul_comm _ (2 ^ 4)]
  have hpl : e + -19 = (e - 19) := by omega
  obtain ⟨m3, e3, r1, r2, r3, r4⟩ := nearest_exact sgl (by decide) s (m * 8388608) (e - 19) m (e + 4) (e - 19) 0 23 (by omega) (by omega) (by simp) h.mag (by rw [sgl_lp]; omega) (by
    rw [hq]
    have e1 : 16 * magOf sgl m e ≤ 1024 * oneU sgl := by omega
    refine Nat.lt_of_le_of_lt e1 ?_
    unfold oneU
    rw [sgl_lp, show 1024 = 2 ^ 10 by decide, ← Nat.pow_add]
    exact Nat.pow_lt_pow_right (by omega) (by decide))
  have hz : floatBits .mul .f32 b 1098907648 = some (sgl.nearest s (m * 8388608) (e - 19)) := by
    show sgl.mul b 1098907648 = _
    unfold Format.mul
    rw [h.read, hc]
    show some (sgl.nearest (s ^^ false) (m * 8388608) (e + -19)) = _
    rw [Bool.xor_false, hpl]
  obtain ⟨z, hzz⟩ : ∃ z, z = sgl.nearest s (m * 8388608) (e - 19) := ⟨_, rfl⟩
  rw [← hzz] at hz r1
  unfold sixt
  rw [hz]
  exact i64_of (k := .f32) (by rw [show FloatKind.f32.format.leastPlace = -149 from sgl_lp]; omega) r1 r2 (by rw [show magOf FloatKind.f32.format m3 e3 / oneU FloatKind.f32.format = 16 * magOf sgl m e / oneU sgl by rw [show FloatKind.f32.format = sgl from rfl, ← hq, ← r4]]) hk

theorem f32_top {b : Nat} {s : Bool} {m : Nat} {e : Int} (h : FloatKind.f32.decode b = .number s m e) : Fin sgl b s m e ∧ e ≤ 104 := by
  have hd : sgl.read b = .number s m e := h
  rcases read_cases sgl (by decide) b with ⟨s', t, c⟩ | ⟨s', c⟩ | ⟨s', m', e', c, hh⟩
  · rw [c] at hd; cases hd
  · rw [c] at hd; cases hd
  · have hr := c.read
    rw [hd] at hr
    simp only [Datum.number.injEq] at hr
    obtain ⟨rfl, rfl, rfl⟩ := hr
    refine ⟨c, ?_⟩
    rw [sgl_lp] at hh
    have : (2 ^ sgl.exponentBits : Nat) = 256 := by decide
    rw [this] at hh
    omega

/-- A level is valid just if CheckLevel says so. -/
theorem levOK_iff (b : Nat) : levOK b = decide (chkLev b = 0) := by
  unfold chkLev
  cases hd : FloatKind.f32.decode b with
  | nan s t =>
    have : levOK b = false := by
      unfold levOK levA floatToFloatBits
      rw [if_neg (by decide), hd]
      rfl
    rw [this]; rfl
  | infinity s =>
    have : levOK b = false := by
      unfold levOK levA floatToFloatBits
      rw [if_neg (by decide), hd]
      cases s <;> rfl
    rw [this]; rfl
  | number s m e =>
    obtain ⟨hf, he⟩ := f32_top hd
    obtain ⟨x, y, hl⟩ := levF_of hf he
    simp only
    have hy : noNaN y = true := by
      obtain ⟨s', m', e', h⟩ := hl.num
      unfold noNaN
      rw [h]
    have hA : levA b = (decide (16 * magOf dbl m e % oneU dbl = 0) && decide (magOf dbl m e ≤ 64 * oneU dbl)) := by
      unfold levA
      rw [hl.wide]
      simp only
      rw [hl.big]
      simp only
      unfold lev64
      rw [hl.trunc, hl.abs, hl.inf, hy]
      have := hl.nan
      simp only [bne, this]
      simp
    unfold levOK
    rw [hA]
    by_cases hH : magOf dbl m e ≤ 64 * oneU dbl
    · obtain ⟨v1, v2⟩ := sixt_num hf hH
      rw [v1]
      have hb := sgn_bound s _ v2
      simp only [hb.1, hb.2, decide_true, Bool.and_true, hH]
      by_cases hG : 16 * magOf dbl m e % oneU dbl = 0 <;> simp [hG]
    · simp [hH]
end Go.Proofs.YtkgkpcmokmhakaaGreatDoor

namespace Go.Proofs.YtkgkpcmokmhakaaGreatDoor
open Go.RowKit
open Ieee (Format Datum)

theorem floor_run (x : Nat) (h : noNaN x = true) (w : World) : (callFunc 85 #[.float .f64 x]).run Tryz.prog w = .ok (.value (.float .f64 (ffloor x))) w := by
  rw [run_callFunc_extern (e := Extern.MathFloor.toIntegral "math.archFloor" .down) Tryz.func85 (by kernel_rfl) (by kernel_rfl) (by kernel_rfl) (by kernel_rfl)]
  obtain ⟨N, hN⟩ := integral_of "math.archFloor" .down x
  rw [hN]
  unfold noNaN at h
  unfold ffloor
  cases hd : FloatKind.f64.decode x with
  | nan s t => rw [hd] at h; cases h
  | infinity s => rfl
  | number s m e => rfl
theorem floor_any (x : Nat) (h : noNaN x = true) (w : World) : Calls Tryz.prog 57 #[.float .f64 x] w fun e w' => e = .returned (.float .f64 (ffloor x)) ∧ w = w' := by
  have h1 := floor_run x h
  go_enter Tryz.func57, Tryz.ntmps57
  go_wp2
  go_ret
  exact ⟨rfl, rfl⟩

/-- A NaN that a conversion draws. -/
def nanW (t : Nat) : Nat := (t % 2) * 2 ^ 63 + 0x7ff0000000000000 + 1 + (t / 2) % (2 ^ 52 - 1)
theorem nan_order (t : Nat) : (FloatKind.f64.format.order (nanW t) (nanW t) != some .eq) = true := by
  have hr : ∃ s p, FloatKind.f64.format.read (nanW t) = .nan s p := by
    have h1 : FloatKind.f64.format.signWeight = 9223372036854775808 := by decide
    have h2 : FloatKind.f64.format.infRung = 9218868437227405312 := by decide
    have h3 : FloatKind.f64.format.binade = 4503599627370496 := by decide
    have hm : nanW t % 9223372036854775808 = 9218868437227405313 + (t / 2) % 4503599627370495 := by unfold nanW; omega
    unfold Format.read
    simp only
    rw [h1, h2, h3, hm, if_neg (by omega), if_neg (by omega), if_neg (by omega)]
    exact ⟨_, _, rfl⟩
  obtain ⟨s, p, hr⟩ := hr
  unfold Format.order
  rw [hr]
  rfl
theorem conv_nan {b : Nat} {s : Bool} {p : Nat} (h : FloatKind.f32.decode b = .nan s p) (w : World) : ∃ x, (FloatKind.f64.format.order x x != some .eq) = true ∧ (convert 60 116 (.float .f32 b)).run Tryz.prog w = .ok (.float .f64 x) w.drew := by
  refine ⟨nanW (w.tape w.drawn (.nanConv .f64 b)), nan_order _, ?_⟩
  obtain ⟨u, hs'⟩ := Option.isSome_iff_exists.1 (show (Tryz.prog.underlying 60).isSome = true by kernel_rfl)
  cases u <;> simp [convert, run_underlying hs', run_underlying Tryz.underlying116, Conv.floatToFloat, h, nanW, Question.cut, Question.forced]

theorem below_drew (w : World) : Below w.heap.size w w.drew := (Below.refl _ w).drew

/-- The facts of CheckLevel's walks, of a float that is an infinity. -/
theorem lev_inf (b : Nat) (s : Bool) (h : FloatKind.f32.decode b = .infinity s) : ∃ x, floatToFloatBits .f32 b .f64 = some x ∧ (FloatKind.f64.format.order x x != some .eq) = false ∧ (FloatKind.f64.format.order (fabs x) 9218868437227405311 == some .gt) = true := by
  refine ⟨FloatKind.f64.encode (.infinity s), ?_, ?_, ?_⟩
  · unfold floatToFloatBits
    rw [if_neg (by decide), h]
  · cases s <;> decide +kernel
  · cases s <;> decide +kernel

set_option maxRecDepth 100000 in
set_option maxHeartbeats 1000000 in
theorem gLev_any (b : Nat) (w : World) : Calls Tryz.prog 71 #[.float .f32 b] w fun e w' => e = .returned (.int .i64 (chkLev b)) ∧ Below w.heap.size w w' := by
  cases hd0 : FloatKind.f32.decode b with
  | nan s p =>
    have HC := hd (show chkLev b = 1 by unfold chkLev; rw [hd0])
    obtain ⟨x, hx, hc⟩ := conv_nan hd0 w
    clear hd0
    go_enter Tryz.func71, Tryz.ntmps71
    go_wp2_with (go_at_call 55; refine (isNaN_any _ _).mono ?_; rintro e w' ⟨rfl, rfl⟩)
    go_returns
    exact ⟨by rw [HC.out]; rfl, below_drew w⟩
  | infinity s =>
    have HC := hd (show chkLev b = 1 by unfold chkLev; rw [hd0])
    obtain ⟨x, hx, h1, h2⟩ := lev_inf b s hd0
    have hc := fun w => run_convert_float_float (P := Tryz.prog) w 60 116 .f32 .f64 b x (by kernel_rfl) Tryz.underlying116 hx
    clear hd0 hx
    generalize hfa : fabs x = ax at *
    have HFA := hd hfa
    clear hfa
    go_enter Tryz.func71, Tryz.ntmps71
    go_wp2_with (first | (go_at_call 55; refine (isNaN_any _ _).mono ?_; rintro e w' ⟨rfl, rfl⟩) | (go_at_call 56; refine (isInf_any _ _).mono ?_; rintro e w' ⟨rfl, rfl⟩; rw [HFA.out]))
    go_returns
    exact ⟨by rw [HC.out]; rfl, Below.refl _ _⟩
  | number s m e =>
    have hC : chkLev b = unl (decide (16 * magOf dbl m e % oneU dbl = 0) && decide (magOf dbl m e ≤ 64 * oneU dbl)) 3 := by
      unfold chkLev; rw [hd0]; simp only [unl]
      by_cases h1 : 16 * magOf dbl m e % oneU dbl = 0 <;> by_cases h2 : magOf dbl m e ≤ 64 * oneU dbl <;> simp [h1, h2]
    obtain ⟨hf, he⟩ := f32_top hd0
    obtain ⟨x, y, L⟩ := levF_of hf he
    have h1 : (FloatKind.f64.format.order x x != some .eq) = false := by have := L.nan; simp only [bne, this]; rfl
    have h2 := L.inf
    have h3 : noNaN y = true := by
      obtain ⟨s', m', e', h⟩ := L.num
      unfold noNaN
      rw [h]
    have h4 := L.trunc
    have h5 := L.abs
    have hc := fun w => run_convert_float_float (P := Tryz.prog) w 60 116 .f32 .f64 b x (by kernel_rfl) Tryz.underlying116 L.wide
    have hm := fun w => run_float_arith (P := Tryz.prog) w .mul 116 .f64 x 4625196817309499392 y L.big
    generalize decide (16 * magOf dbl m e % oneU dbl = 0) = G at h4 hC
    generalize decide (magOf dbl m e ≤ 64 * oneU dbl) = K at h5 hC
    have H3 := hd h3
    have HC := hd hC
    clear L hf he hd0 h3 hC
    generalize hfa : fabs x = ax at *
    have HFA := hd hfa
    clear hfa
    cases G <;> cases K
    all_goals
      go_enter Tryz.func71, Tryz.ntmps71
      go_wp2_with (first | (go_at_call 55; refine (isNaN_any _ _).mono ?_; rintro e w' ⟨rfl, rfl⟩) | (go_at_call 56; refine (isInf_any _ _).mono ?_; rintro e w' ⟨rfl, rfl⟩; rw [HFA.out]) | (go_at_call 99; refine (trunc_any _ H3.out _).mono ?_; rintro e w' ⟨rfl, rfl⟩) | (go_at_call 84; refine (abs_any _ _).mono ?_; rintro e w' ⟨rfl, rfl⟩; rw [HFA.out]) | (go_at_call 40; refine (unl_any _ _ _).mono ?_; rintro e w' ⟨rfl, rfl⟩))
      go_returns
      exact ⟨by rw [HC.out]; rfl, Below.refl _ _⟩

set_option maxRecDepth 100000 in
set_option maxHeartbeats 1000000 in
theorem rLev_any (b : Nat) (w : World) : Calls Tryz.prog 24 #[.float .f32 b] w fun e w' => e = .returned (.int .i64 (chkLev b)) ∧ Below w.heap.size w w' := by
  cases hd0 : FloatKind.f32.decode b with
  | nan s p =>
    have HC := hd (show chkLev b = 1 by unfold chkLev; rw [hd0])
    obtain ⟨x, hx, hc⟩ := conv_nan hd0 w
    clear hd0
    go_enter Tryz.func24, Tryz.ntmps24
    go_wp2_with (go_at_call 55; refine (isNaN_any _ _).mono ?_; rintro e w' ⟨rfl, rfl⟩)
    go_returns
    exact ⟨by rw [HC.out]; rfl, below_drew w⟩
  | infinity s =>
    have HC := hd (show chkLev b = 1 by unfold chkLev; rw [hd0])
    obtain ⟨x, hx, h1, h2⟩ := lev_inf b s hd0
    have hc := fun w => run_convert_float_float (P := Tryz.prog) w 60 116 .f32 .f64 b x (by kernel_rfl) Tryz.underlying116 hx
    clear hd0 hx
    generalize hfa : fabs x = ax at *
    have HFA := hd hfa
    clear hfa
    go_enter Tryz.func24, Tryz.ntmps24
    go_wp2_with (first | (go_at_call 55; refine (isNaN_any _ _).mono ?_; rintro e w' ⟨rfl, rfl⟩) | (go_at_call 56; refine (isInf_any _ _).mono ?_; rintro e w' ⟨rfl, rfl⟩; rw [HFA.out]))
    go_returns
    exact ⟨by rw [HC.out]; rfl, Below.refl _ _⟩
  | number s m e =>
    have hC : chkLev b = unl (decide (16 * magOf dbl m e % oneU dbl = 0) && decide (magOf dbl m e ≤ 64 * oneU dbl)) 3 := by
      unfold chkLev; rw [hd0]; simp only [unl]
      by_cases h1 : 16 * magOf dbl m e % oneU dbl = 0 <;> by_cases h2 : magOf dbl m e ≤ 64 * oneU dbl <;> simp [h1, h2]
    obtain ⟨hf, he⟩ := f32_top hd0
    obtain ⟨x, y, L⟩ := levF_of hf he
    have h1 : (FloatKind.f64.format.order x x != some .eq) = false := by have := L.nan; simp only [bne, this]; rfl
    have h2 := L.inf
    have h3 : noNaN y = true := by
      obtain ⟨s', m', e', h⟩ := L.num
      unfold noNaN
      rw [h]
    have h4 : (FloatKind.f64.format.order y (ffloor y) != some .eq) = !decide (16 * magOf dbl m e % oneU dbl = 0) := by rw [← L.floor]; rfl
    have h5 := L.out
    have hc := fun w => run_convert_float_float (P := Tryz.prog) w 60 116 .f32 .f64 b x (by kernel_rfl) Tryz.underlying116 L.wide
    have hm := fun w => run_float_arith (P := Tryz.prog) w .mul 116 .f64 4625196817309499392 x y L.big'
    generalize decide (16 * magOf dbl m e % oneU dbl = 0) = G at h4 hC
    generalize decide (magOf dbl m e ≤ 64 * oneU dbl) = K at h5 hC
    generalize hp : (FloatKind.f64.format.order x 4634204016564240384 == some .gt) = p at h5
    generalize hq : (FloatKind.f64.format.order x 13857576053419016192 == some .lt) = q at h5
    have H3 := hd h3
    have HC := hd hC
    clear L hf he hd0 h3 hC
    generalize hfa : fabs x = ax at *
    have HFA := hd hfa
    clear hfa
    cases G <;> cases K <;> cases p <;> cases q <;> simp at h5
    all_goals
      go_enter Tryz.func24, Tryz.ntmps24
      go_wp2_with (first | (go_at_call 55; refine (isNaN_any _ _).mono ?_; rintro e w' ⟨rfl, rfl⟩) | (go_at_call 56; refine (isInf_any _ _).mono ?_; rintro e w' ⟨rfl, rfl⟩; rw [HFA.out]) | (go_at_call 57; refine (floor_any _ H3.out _).mono ?_; rintro e w' ⟨rfl, rfl⟩))
      go_returns
      exact ⟨by rw [HC.out]; rfl, Below.refl _ _⟩
end Go.Proofs.YtkgkpcmokmhakaaGreatDoor
