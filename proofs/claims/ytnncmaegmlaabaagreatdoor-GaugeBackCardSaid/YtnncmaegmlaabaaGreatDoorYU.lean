/-
  Plain words on votes: the project's vote of what is recorded at an index is the reference's; sixteenths as levels. No program.
  Plain words: cutting at a byte undoes joining with it; decimal numerals are the words that are numbers. No program.
  Plain words: a record's text is read as the record; what is read is printed as it was. No program.
  Plain words: a record's text is read as the record; without its last byte it is none; what is read is printed as it was. No program.
  Plain words: a record's text without its last byte is none; what is read is printed as it was. No program.
-/
import Derived.Test.YtnncmaegmlaabaaGreatDoorMR
import Derived.Test.YtnncmaegmlaabaaGreatDoorT0
import Derived.Test.YtnncmaegmlaabaaGreatDoorT1
import Derived.Test.YtnncmaegmlaabaaGreatDoorP0
import Derived.Laws.Cover2
import Derived.Laws.FloatArith
import Derived.Test.YtnncmaegmlaabaaGreatDoorYI
import Derived.Test.YtnncmaegmlaabaaGreatDoorYP
import Derived.Test.YtnncmaegmlaabaaGreatDoorYL

namespace Go.Proofs.YtnncmaegmlaabaaGreatDoor
open Go.RowKit
open Ieee (Format Datum)

/-- A valid level's value, by its sixteenths. -/
theorem num16 {b : Nat} (h : chkLev b = 0) : num b * 16 = s16 b * (oneU sgl : Int) := by
  unfold chkLev at h
  cases hd0 : FloatKind.f32.decode b with
  | nan s t => rw [hd0] at h; cases h
  | infinity s => rw [hd0] at h; cases h
  | number s m e =>
    rw [hd0] at h
    simp only at h
    split at h
    · rename_i hc
      obtain ⟨hf, he⟩ := f32_top hd0
      obtain ⟨v1, -⟩ := sixt_num hf hc.2
      have h1 := hf.lp
      rw [sgl_lp] at h1
      have hp9 := Nat.two_pow_pos K9
      have hdiv : 16 * magOf sgl m e % oneU sgl = 0 := by
        have := hc.1
        rw [mag_wide m e h1, one_wide, ← Nat.mul_assoc, Nat.mul_mod_mul_right] at this
        rcases Nat.mul_eq_zero.1 this with h | h
        · exact h
        · omega
      rw [mag_wide m e h1, one_wide, ← Nat.mul_assoc, Nat.mul_div_mul_right _ _ hp9] at v1
      have hn : num b = sgnI s (magOf sgl m e) := by unfold num; rw [hd0]
      unfold s16
      rw [v1, hn]
      have hq : 16 * magOf sgl m e / oneU sgl * oneU sgl = 16 * magOf sgl m e := Nat.div_mul_cancel (Nat.dvd_of_mod_eq_zero hdiv)
      simp only [Option.getD_some]
      unfold sgnI
      cases s
      · simp only [Bool.false_eq_true, if_false]
        rw [← Int.natCast_mul, hq]; omega
      · simp only [if_true]
        rw [Int.neg_mul, Int.neg_mul, ← Int.natCast_mul, hq]; omega
    · cases h
theorem num_lt {a b : Nat} (ha : chkLev a = 0) (hb : chkLev b = 0) : num a < num b ↔ s16 a < s16 b := by
  have h1 := num16 ha
  have h2 := num16 hb
  have hp : (0 : Int) < (oneU sgl : Int) := by have := oneU_pos sgl; omega
  constructor
  · intro h
    refine Int.lt_of_mul_lt_mul_right (a := (oneU sgl : Int)) ?_ (Int.le_of_lt hp)
    rw [← h1, ← h2]; omega
  · intro h
    have := Int.mul_lt_mul_of_pos_right h hp
    rw [← h1, ← h2] at this
    omega
theorem num_eq {a b : Nat} (ha : chkLev a = 0) (hb : chkLev b = 0) : num a = num b ↔ s16 a = s16 b := by
  have h1 := num_lt ha hb
  have h2 := num_lt hb ha
  omega
theorem feq16 {a b : Nat} (ha : chkLev a = 0) (hb : chkLev b = 0) : feqL a b = decide (s16 a = s16 b) := by
  rw [feq_num (fin_lev ha) (fin_lev hb), decide_eq_decide, num_eq ha hb]
end Go.Proofs.YtnncmaegmlaabaaGreatDoor

namespace Go.Proofs.YtnncmaegmlaabaaGreatDoor
open Go.RowKit

theorem cutA_line (c : UInt8) : ∀ (x acc rest : List UInt8), c ∉ x → cutA c [] acc (x ++ c :: rest) = (acc ++ x) :: cutA c [] [] rest
  | [], acc, rest, _ => by rw [List.nil_append, cutA, if_pos rfl, List.append_nil]
  | y :: x, acc, rest, h => by
    have hy : ¬ y = c := fun e => h (by simp [e])
    rw [List.cons_append, cutA, if_neg hy, cutA_line c x (acc ++ [y]) rest (fun e => h (by simp [e]))]
    simp
theorem cutA_end (c : UInt8) : ∀ (x acc : List UInt8), c ∉ x → cutA c [] acc x = [acc ++ x]
  | [], acc, _ => by simp [cutA]
  | y :: x, acc, h => by
    have hy : ¬ y = c := fun e => h (by simp [e])
    rw [cutA, if_neg hy, cutA_end c x (acc ++ [y]) (fun e => h (by simp [e]))]
    simp
/-- Parts, each with the byte behind it. -/
def joinC (c : UInt8) (L : List (List UInt8)) : List UInt8 := (L.map (· ++ [c])).flatten
theorem cut_join (c : UInt8) (e : List UInt8) (he : c ∉ e) : ∀ L : List (List UInt8), (∀ x ∈ L, c ∉ x) → cutA c [] [] (joinC c L ++ e) = L ++ [e]
  | [], _ => by
    have := cutA_end c e [] he
    simpa [joinC] using this
  | x :: L, h => by
    have h1 : joinC c (x :: L) ++ e = x ++ c :: (joinC c L ++ e) := by simp [joinC]
    rw [h1, cutA_line c x [] _ (h x (by simp)), cut_join c e he L (fun y hy => h y (by simp [hy]))]
    simp
theorem join_cut (c : UInt8) : ∀ (l acc : List UInt8), ∃ L e, cutA c [] acc l = L ++ [e] ∧ joinC c L ++ e = acc ++ l
  | [], acc => ⟨[], acc, rfl, by simp [joinC]⟩
  | x :: l, acc => by
    by_cases h : x = c
    · obtain ⟨L, e, h1, h2⟩ := join_cut c l []
      refine ⟨acc :: L, e, by rw [cutA, if_pos h, h1]; simp, ?_⟩
      have h3 : joinC c (acc :: L) ++ e = acc ++ c :: (joinC c L ++ e) := by simp [joinC]
      rw [h3, h2, h]; simp
    · obtain ⟨L, e, h1, h2⟩ := join_cut c l (acc ++ [x])
      exact ⟨L, e, by rw [cutA, if_neg h, h1], by rw [h2]; simp⟩
theorem spl_join (s : ByteArray) (c : UInt8) (L : List ByteArray) (e : ByteArray) (h : s.data.toList = joinC c (L.map (·.data.toList)) ++ e.data.toList) (hL : ∀ x ∈ L, c ∉ x.data.toList) (he : c ∉ e.data.toList) : spl s c.toNat = L ++ [e] := by
  apply bytes_inj
  rw [spl_cut, h, cut_join c _ he _ (fun x hx => by obtain ⟨y, hy, rfl⟩ := List.mem_map.1 hx; exact hL y hy)]
  simp
theorem join_spl (s : ByteArray) (c : UInt8) (L : List ByteArray) (e : ByteArray) (h : spl s c.toNat = L ++ [e]) : s.data.toList = joinC c (L.map (·.data.toList)) ++ e.data.toList := by
  obtain ⟨L', e', h1, h2⟩ := join_cut c s.data.toList []
  rw [← spl_cut, h, List.map_append] at h1
  obtain ⟨ha, hb⟩ := List.append_inj' h1 rfl
  rw [ha, show e.data.toList = e' by simpa using hb, h2]; rfl
/-- The lines of a text that is joined of them. -/
theorem tL_join (s : ByteArray) (L : List ByteArray) (e : ByteArray) (h : s.data.toList = joinC 10 (L.map (·.data.toList)) ++ e.data.toList) (hL : ∀ x ∈ L, (10 : UInt8) ∉ x.data.toList) (he : (10 : UInt8) ∉ e.data.toList) : tL s = L ∧ tE s = e := by
  have h1 := spl_join s 10 L e h hL he
  rw [show (10 : UInt8).toNat = 10 from rfl, spl_is] at h1
  obtain ⟨ha, hb⟩ := List.append_inj' h1 rfl
  exact ⟨ha, by simpa using hb⟩
theorem tL_joins (s : ByteArray) : s.data.toList = joinC 10 ((tL s).map (·.data.toList)) ++ (tE s).data.toList := join_spl s 10 _ _ (spl_is s)

/-- The number of digits. -/
def dgl (l : List UInt8) : Nat := l.foldl (fun a d => 10 * a + (d.toNat - 48)) 0
theorem dgl_snoc (l : List UInt8) (d : UInt8) : dgl (l ++ [d]) = 10 * dgl l + (d.toNat - 48) := by simp [dgl, List.foldl_append]
theorem bAt_data (s : ByteArray) (i : Nat) (h : i < s.data.toList.length) : bAt s i = (s.data.toList[i]'h).toNat := by
  unfold bAt
  rw [List.getD_eq_getElem?_getD, List.getElem?_eq_getElem h]; rfl
theorem digN_dgl (s : ByteArray) : ∀ k, k ≤ s.size → digN s k = dgl (s.data.toList.take k)
  | 0, _ => rfl
  | k + 1, hk => by
    have hl : s.data.toList.length = s.size := by simp
    have hk' : k < s.data.toList.length := by omega
    rw [digN, digN_dgl s k (by omega), List.take_add_one, List.getElem?_eq_getElem hk', bAt_data s k hk']
    exact (dgl_snoc _ _).symm
theorem digN_all (s : ByteArray) : digN s s.size = dgl s.data.toList := by
  have hl : s.data.toList.length = s.size := by simp
  rw [digN_dgl s s.size (Nat.le_refl _), ← hl, List.take_length]
def isD (d : UInt8) : Bool := decide (48 ≤ d.toNat) && decide (d.toNat ≤ 57)
theorem digs_all (s : ByteArray) : digs s = s.data.toList.all isD := by
  have hl : s.data.toList.length = s.size := by simp
  unfold digs
  rw [Bool.eq_iff_iff, List.all_eq_true, List.all_eq_true]
  constructor
  · intro h d hd
    obtain ⟨i, hi, rfl⟩ := List.getElem_of_mem hd
    have := h i (by simpa using (by omega : i < s.size))
    rw [bAt_data s i hi] at this
    exact this
  · intro h i hi
    have hi' : i < s.data.toList.length := by have : i < s.size := (by simpa using hi); omega
    have := h _ (List.getElem_mem hi')
    rw [bAt_data s i hi']
    exact this
theorem ofNat_dig (n : Nat) (h : n < 10) : (UInt8.ofNat (48 + n)).toNat = 48 + n := by
  show (48 + n) % 256 = 48 + n
  omega
/-- A numeral's digits. -/
theorem dec_facts : ∀ m n : Nat, n ≤ m → dgl (Lib.decDigits n) = n ∧ (Lib.decDigits n).all isD = true ∧ 1 ≤ (Lib.decDigits n).length ∧ (1 ≤ n → ∃ d l, Lib.decDigits n = d :: l ∧ d.toNat ≠ 48)
  | 0, n, h => by
    have h0 : n = 0 := by omega
    rw [h0, Lib.decDigits_one (by omega)]
    refine ⟨by decide, by decide, by decide, fun h => absurd h (by omega)⟩
  | m + 1, n, h => by
    by_cases h1 : n < 10
    · rw [Lib.decDigits_one h1]
      have e := ofNat_dig n h1
      refine ⟨?_, ?_, by simp, fun h0 => ⟨_, [], rfl, by omega⟩⟩
      · simp only [dgl, List.foldl_cons, List.foldl_nil]; omega
      · simp only [List.all_cons, List.all_nil, Bool.and_true, isD, e]; simp; omega
    · obtain ⟨a1, a2, a3, a4⟩ := dec_facts m (n / 10) (by omega)
      have e := ofNat_dig (n % 10) (by omega)
      have hu : Lib.decDigits n = Lib.decDigits (n / 10) ++ [UInt8.ofNat (48 + n % 10)] := by rw [Lib.decDigits, dif_neg h1]
      rw [hu]
      refine ⟨by rw [dgl_snoc, a1, e]; omega, ?_, by simp, fun _ => ?_⟩
      · rw [List.all_append, a2]
        simp only [List.all_cons, List.all_nil, Bool.and_true, Bool.true_and, isD, e]; simp; omega
      · obtain ⟨d, l, hl, hd⟩ := a4 (by omega)
        exact ⟨d, l ++ [UInt8.ofNat (48 + n % 10)], by rw [hl]; rfl, hd⟩
/-- Digits without a leading zero are the numeral of their number. -/
theorem dec_dgl : ∀ (k : Nat) (l : List UInt8), l.length ≤ k → l ≠ [] → l.all isD = true → (1 < l.length → ∀ d r, l = d :: r → d.toNat ≠ 48) → Lib.decDigits (dgl l) = l
  | 0, l, h, hn, _, _ => absurd (List.eq_nil_of_length_eq_zero (by omega)) hn
  | k + 1, l, h, hn, hd, hz => by
    rcases List.eq_nil_or_concat l with h0 | ⟨r, d, hr⟩
    · exact absurd h0 hn
    · rw [List.concat_eq_append] at hr
      subst hr
      rw [List.all_append] at hd
      simp only [List.all_cons, List.all_nil, Bool.and_true, Bool.and_eq_true] at hd
      obtain ⟨d1, d2⟩ := hd
      have d3 : 48 ≤ d.toNat ∧ d.toNat ≤ 57 := by unfold isD at d2; simpa using d2
      have ed : UInt8.ofNat (48 + (d.toNat - 48)) = d := by rw [show 48 + (d.toNat - 48) = d.toNat by omega]; simp
      by_cases hre : r = []
      · subst hre
        have : dgl ([] ++ [d]) = d.toNat - 48 := by simp [dgl]
        rw [this, Lib.decDigits_one (by omega), ed]; rfl
      · have hlen : r.length ≤ k := by simp at h; omega
        have hr1 : 1 ≤ r.length := List.length_pos_iff.2 hre
        obtain ⟨d0, r0, hr0⟩ : ∃ a b, r = a :: b := by
          cases r with
          | nil => exact absurd rfl hre
          | cons a b => exact ⟨a, b, rfl⟩
        have hd0 : d0.toNat ≠ 48 := hz (by simp; omega) d0 (r0 ++ [d]) (by rw [hr0]; rfl)
        have ih := dec_dgl k r hlen hre d1 (fun _ a b e => by rw [hr0] at e; injection e with e1 _; rw [← e1]; exact hd0)
        have hpos : 1 ≤ dgl r := by
          rcases Nat.eq_zero_or_pos (dgl r) with h0 | h0
          · rw [h0, Lib.decDigits_one (by omega)] at ih
            rw [hr0] at ih
            injection ih with e1 _
            rw [← e1] at hd0
            exact absurd (by decide) hd0
          · exact h0
        rw [dgl_snoc, Lib.decDigits, dif_neg (by omega), show (10 * dgl r + (d.toNat - 48)) / 10 = dgl r by omega, show (10 * dgl r + (d.toNat - 48)) % 10 = d.toNat - 48 by omega, ih, ed]
theorem dec_len9 (n : Nat) (hn : n ≤ 999999999) : (Lib.decDigits n).length ≤ 9 := by
  have h : ∀ k u : Nat, u < 10 ^ (k + 1) → (Lib.decDigits u).length ≤ k + 1 := by
    intro k
    induction k with
    | zero => intro u h; rw [Lib.decDigits_one (by omega)]; simp
    | succ k ih =>
      intro u h
      by_cases h1 : u < 10
      · rw [Lib.decDigits_one h1]; simp
      · rw [Lib.decDigits, dif_neg h1]
        have := ih (u / 10) (by rw [Nat.pow_succ] at h; omega)
        simp only [List.length_append, List.length_cons, List.length_nil]
        omega
  exact h 8 n (by omega)
theorem bAt_zero (s : ByteArray) (d : UInt8) (r : List UInt8) (h : s.data.toList = d :: r) : bAt s 0 = d.toNat := by
  unfold bAt; rw [h]; rfl
/-- A word that is a number is its numeral. -/
theorem numB_dec {s : ByteArray} {n : Nat} (h : numB s = some n) : s.data.toList = Lib.decDigits n := by
  have hl : s.data.toList.length = s.size := by simp
  unfold numB at h
  split at h
  · cases h
  · rename_i hc
    split at h
    · rename_i hd
      injection h with h
      rw [← h, digN_all]
      rw [digs_all] at hd
      refine (dec_dgl s.size s.data.toList (by omega) (fun e => hc (.inl (by rw [← hl, e]; rfl))) hd (fun h1 d r e hd0 => hc (.inr (.inr ⟨by omega, by rw [bAt_zero s d r e, hd0]⟩)))).symm
    · cases h
theorem dec_numB (s : ByteArray) (n : Nat) (h : s.data.toList = Lib.decDigits n) (hn : n ≤ 999999999) : numB s = some n := by
  have hl : s.data.toList.length = s.size := by simp
  obtain ⟨a1, a2, a3, a4⟩ := dec_facts n n (Nat.le_refl _)
  have h9 := dec_len9 n hn
  rw [h] at hl
  unfold numB
  rw [if_neg, digs_all, h, a2, if_pos rfl, digN_all, h, a1]
  rintro (h0 | h0 | ⟨h0, h1⟩)
  · omega
  · omega
  · rcases Nat.eq_zero_or_pos n with hz | hz
    · rw [hz, Lib.decDigits_one (by omega)] at hl; simp at hl; omega
    · obtain ⟨d, l, e, hd⟩ := a4 hz
      rw [bAt_zero s d l (by rw [h, e])] at h1
      exact hd h1
end Go.Proofs.YtnncmaegmlaabaaGreatDoor

namespace Go.Proofs.YtnncmaegmlaabaaGreatDoor
open Go.RowKit

theorem itB_data (n : Int) : (itB n).data.toList = Lib.itoa n := by unfold itB; simp
theorem itoa_sgn (s : ByteArray) (n : Int) (h : s.data.toList = Lib.itoa n) (h1 : -999999999 ≤ n) (h2 : n ≤ 999999999) : sgnB s = some n := by
  have hl : s.data.toList.length = s.size := by simp
  by_cases hn : n < 0
  · obtain ⟨u, hu, hu1⟩ : ∃ u : Nat, n = -(u : Int) ∧ 1 ≤ u := ⟨n.natAbs, by omega, by omega⟩
    rw [hu, Lib.itoa_neg u hu1] at h
    have hd := (dec_facts u u (Nat.le_refl _)).2.2.1
    have hc : 1 < s.size ∧ bAt s 0 = 45 := ⟨by rw [← hl, h]; simp; omega, by rw [bAt_zero s 45 _ h]; rfl⟩
    have he : (s.extract 1 s.size).data.toList = Lib.decDigits u := by
      rw [Lib.extract_data, h]
      simp only [List.drop_succ_cons, List.drop_zero]
      exact List.take_of_length_le (by rw [← hl, h]; simp)
    rw [sgnB_neg hc, dec_numB _ u he (by omega)]
    simp only
    rw [if_pos (by omega), hu]
  · obtain ⟨u, hu⟩ : ∃ u : Nat, n = (u : Int) := ⟨n.toNat, by omega⟩
    rw [hu, Lib.itoa_nonneg u] at h
    have hf := dec_facts u u (Nat.le_refl _)
    have hc : ¬ (1 < s.size ∧ bAt s 0 = 45) := by
      rintro ⟨c1, c2⟩
      obtain ⟨d, l, e⟩ : ∃ d l, Lib.decDigits u = d :: l := by
        cases hq : Lib.decDigits u with
        | nil => rw [hq] at hf; simp at hf
        | cons d l => exact ⟨d, l, rfl⟩
      rw [bAt_zero s d l (by rw [h, e])] at c2
      have := hf.2.1
      rw [e, List.all_cons, Bool.and_eq_true] at this
      have h3 := this.1
      unfold isD at h3
      rw [c2] at h3
      revert h3; decide
    rw [sgnB_pos hc, dec_numB s u h (by omega), hu]; rfl
theorem sgn_itoa {s : ByteArray} {n : Int} (h : sgnB s = some n) : s.data.toList = Lib.itoa n := by
  have hl : s.data.toList.length = s.size := by simp
  by_cases hc : 1 < s.size ∧ bAt s 0 = 45
  · rw [sgnB_neg hc] at h
    cases hn : numB (s.extract 1 s.size) with
    | none => rw [hn] at h; cases h
    | some u =>
      rw [hn] at h
      simp only at h
      split at h
      · rename_i hp
        injection h with h
        have he := numB_dec hn
        rw [Lib.extract_data, List.take_of_length_le (by rw [List.length_drop, hl]; omega)] at he
        rw [← h, Lib.itoa_neg u (by omega), ← he]
        cases hs : s.data.toList with
        | nil => rw [hs] at hl; simp at hl; omega
        | cons d r =>
          have := bAt_zero s d r hs
          rw [hc.2] at this
          have hd : d = 45 := UInt8.toNat_inj.1 (by rw [← this]; rfl)
          rw [hd]; rfl
      · cases h
  · rw [sgnB_pos hc] at h
    cases hn : numB s with
    | none => rw [hn] at h; cases h
    | some u =>
      rw [hn] at h
      injection h with h
      rw [numB_dec hn, ← h, Lib.itoa_nonneg u]
theorem dec_no (u : Nat) (c : UInt8) (hc : isD c = false) : c ∉ Lib.decDigits u := fun h => by
  have := List.all_eq_true.1 (dec_facts u u (Nat.le_refl _)).2.1 c h
  rw [hc] at this; cases this
theorem itoa_no (n : Int) (c : UInt8) (hc : isD c = false) (h45 : c ≠ 45) : c ∉ (itB n).data.toList := by
  rw [itB_data]
  unfold Lib.itoa
  split
  · intro h
    rcases List.mem_cons.1 h with h | h
    · exact h45 h
    · exact dec_no _ c hc h
  · exact dec_no _ c hc
theorem name_no {nm : ByteArray} (h : nameB nm = true) (c : UInt8) (hc : c.toNat < 48) : c ∉ nm.data.toList := fun hm => by
  unfold nameB at h
  simp only [Bool.and_eq_true, decide_eq_true_eq] at h
  obtain ⟨i, hi, rfl⟩ := List.getElem_of_mem hm
  have hl : nm.data.toList.length = nm.size := by simp
  have h1 := h.2 i (by omega)
  have e : (nm[i]'(by omega)).toNat = (nm.data.toList[i]'hi).toNat := rfl
  rw [e] at h1
  unfold nameAt isLet isDig at h1
  simp only [Bool.or_eq_true, Bool.and_eq_true, decide_eq_true_eq] at h1
  omega
/-- The first line of a record's text, and the lines of its ticks. -/
def hdB (nm : ByteArray) (st : Int) : ByteArray := (⟨#[103, 97, 117, 103, 101, 32]⟩ : ByteArray) ++ nm ++ ⟨#[32]⟩ ++ itB st
def lnB (bs : List Nat) (gs : List (Int × Int)) (k : Nat) : ByteArray := if hasL gs k = true then ⟨#[45]⟩ else itB (s16 (bs.getD k 0))
def lnsB (nm : ByteArray) (st : Int) (bs : List Nat) (gs : List (Int × Int)) (k : Nat) : List ByteArray := hdB nm st :: (List.range k).map (lnB bs gs)
theorem txB_join (nm : ByteArray) (st : Int) (bs : List Nat) (gs : List (Int × Int)) : ∀ k, (txB nm st bs gs k).data.toList = joinC 10 ((lnsB nm st bs gs k).map (·.data.toList))
  | 0 => by
    rw [txB]
    simp [lnsB, joinC, hdB]
  | k + 1 => by
    have ih := txB_join nm st bs gs k
    have e : (lnsB nm st bs gs (k + 1)).map (·.data.toList) = (lnsB nm st bs gs k).map (·.data.toList) ++ [(lnB bs gs k).data.toList] := by simp [lnsB, List.range_succ]
    have e2 : joinC 10 ((lnsB nm st bs gs k).map (·.data.toList) ++ [(lnB bs gs k).data.toList]) = joinC 10 ((lnsB nm st bs gs k).map (·.data.toList)) ++ ((lnB bs gs k).data.toList ++ [10]) := by simp [joinC]
    rw [e, e2, ← ih, txB]
    unfold lnB
    split
    · simp
    · simp
theorem lns_no {nm : ByteArray} (h : nameB nm = true) (st : Int) (bs : List Nat) (gs : List (Int × Int)) (k : Nat) : ∀ x ∈ lnsB nm st bs gs k, (10 : UInt8) ∉ x.data.toList := by
  intro x hx
  rcases List.mem_cons.1 hx with rfl | hx
  · have h1 := name_no h 10 (by decide)
    have h2 := itoa_no st 10 (by decide) (by decide)
    unfold hdB
    simp only [ByteArray.data_append, Array.toList_append, List.mem_append, not_or]
    exact ⟨⟨⟨by decide, h1⟩, by decide⟩, h2⟩
  · obtain ⟨i, -, rfl⟩ := List.mem_map.1 hx
    unfold lnB
    split
    · decide
    · exact itoa_no _ 10 (by decide) (by decide)
theorem txB_lines {nm : ByteArray} (h : nameB nm = true) (st : Int) (bs : List Nat) (gs : List (Int × Int)) (k : Nat) : tL (txB nm st bs gs k) = lnsB nm st bs gs k ∧ tE (txB nm st bs gs k) = ⟨#[]⟩ :=
  tL_join _ _ ⟨#[]⟩ (by rw [txB_join]; simp) (lns_no h st bs gs k) (by decide)
theorem hdB_words {nm : ByteArray} (h : nameB nm = true) (st : Int) : spl (hdB nm st) 32 = [⟨#[103, 97, 117, 103, 101]⟩, nm, itB st] := by
  refine spl_join (hdB nm st) 32 [⟨#[103, 97, 117, 103, 101]⟩, nm] (itB st) ?_ ?_ (itoa_no st 32 (by decide) (by decide))
  · unfold hdB
    simp [joinC]
  · intro x hx
    rcases List.mem_cons.1 hx with rfl | hx
    · decide
    · rw [List.mem_singleton.1 hx]
      exact name_no h 32 (by decide)
theorem hdB_ok {nm : ByteArray} (h : nameB nm = true) (st : Int) (h1 : 0 ≤ st) (h2 : st ≤ 100000) : hdOk (hdB nm st) = true ∧ numB (itB st) = some st.toNat := by
  have hn : numB (itB st) = some st.toNat := dec_numB _ _ (by rw [itB_data]; unfold Lib.itoa; rw [if_neg (by omega)]) (by omega)
  refine ⟨?_, hn⟩
  unfold hdOk
  rw [hdB_words h st]
  have hz : (nm.toList == []) = false := by
    rw [beq_eq_false_iff_ne, ByteArray.toList_eq]
    intro e
    unfold nameB at h
    simp only [Bool.and_eq_true, decide_eq_true_eq] at h
    have hl : nm.data.toList.length = nm.size := by simp
    rw [e] at hl
    simp at hl
    omega
  have hg : ((⟨#[103, 97, 117, 103, 101]⟩ : ByteArray).toList == [103, 97, 117, 103, 101]) = true := by rw [ByteArray.toList_eq]; rfl
  simp only [List.headD_cons, List.getD_cons_zero, List.getD_cons_succ, List.tail_cons, List.length_nil]
  rw [hg, hz, hn]
  rfl
theorem dash_ok : dsh ⟨#[45]⟩ = true := by unfold dsh; rw [ByteArray.toList_eq]; rfl
theorem s16_small : (List.range 2049).all (fun k => decide (s16 (lvQ ((k : Int) - 1024)) = (k : Int) - 1024)) = true := by decide +kernel
theorem s16_lvQ (n : Int) (h1 : -1024 ≤ n) (h2 : n ≤ 1024) : s16 (lvQ n) = n := by
  have h := List.all_eq_true.1 s16_small (n + 1024).toNat (by simp; omega)
  have e : (((n + 1024).toNat : Nat) : Int) - 1024 = n := by omega
  rw [e] at h
  exact of_decide_eq_true h
end Go.Proofs.YtnncmaegmlaabaaGreatDoor

namespace Go.Proofs.YtnncmaegmlaabaaGreatDoor
open Go.RowKit

section
variable {nm : ByteArray} {st : Int} {bs : List Nat} {gs : List (Int × Int)}
theorem hd_lns (nm : ByteArray) (st : Int) (bs : List Nat) (gs : List (Int × Int)) (k : Nat) : (lnsB nm st bs gs k).headD ⟨#[]⟩ = hdB nm st ∧ (lnsB nm st bs gs k).tail = (List.range k).map (lnB bs gs) := ⟨rfl, rfl⟩
theorem lnB_ok (hl : ∀ i, i < bs.length → chkLev (bs.getD i 0) = 0) (i : Nat) (hi : i < bs.length) : lvOk (lnB bs gs i) = true ∧ (sgnB (lnB bs gs i)).isSome = !hasL gs (i : Int) ∧ (sgnB (lnB bs gs i)).getD 0 = (if hasL gs (i : Int) = true then 0 else s16 (bs.getD i 0)) := by
  have h1 := hl i hi
  obtain ⟨-, t1, t2⟩ := sixt_of (show levOK (bs.getD i 0) = true by rw [levOK_iff]; simpa using h1)
  unfold lnB
  cases hh : hasL gs (i : Int)
  · rw [if_neg (by decide)]
    have hs := itoa_sgn (itB (s16 (bs.getD i 0))) (s16 (bs.getD i 0)) (itB_data _) (by omega) (by omega)
    unfold lvOk
    rw [hs]
    simp
  · rw [if_pos rfl]
    have hs := dsh_sgn dash_ok
    unfold lvOk
    rw [hs, dash_ok]
    simp
/-- What a valid record's text is read as. -/
theorem print_read (V : Valid nm st bs gs) (hl : ∀ i, i < bs.length → chkLev (bs.getD i 0) = 0) :
    txtE (txB nm st bs gs bs.length) = 0 ∧ tNm (txB nm st bs gs bs.length) = nm ∧ tSt (txB nm st bs gs bs.length) = st ∧ tGs (txB nm st bs gs bs.length) = gs ∧ sameF feqL 0 (tBs (txB nm st bs gs bs.length)) bs = true := by
  obtain ⟨c1, c2⟩ := txB_lines V.name st bs gs bs.length
  obtain ⟨h1, h2⟩ := hd_lns nm st bs gs bs.length
  obtain ⟨k1, k2⟩ := hdB_ok V.name st V.start.1 V.start.2
  obtain ⟨s, hs⟩ : ∃ s, s = txB nm st bs gs bs.length := ⟨_, rfl⟩
  rw [← hs] at c1 c2 ⊢
  have e1 : tHd s = hdB nm st := by unfold tHd; rw [c1, h1]
  have e2 : tT s = (List.range bs.length).map (lnB bs gs) := by unfold tT; rw [c1, h2]
  have e3 : hedB s = true := by unfold hedB; rw [e1, k1, c1]; simp [lnsB]
  have hlen : (tT s).length = bs.length := by rw [e2]; simp
  have hget : ∀ i, i < bs.length → (tT s).getD i ⟨#[]⟩ = lnB bs gs i := fun i hi => by rw [e2]; simp [hi]
  have e4 : synB s = false := syn_no e3 (fbd_all (fun i hi => by rw [hget i (by omega)]; exact (lnB_ok hl i (by omega)).1)) (by rw [c2]; rfl)
  have eN : tNm s = nm := by unfold tNm; rw [e1, hdB_words V.name st]; rfl
  have eS : tSt s = st := by
    unfold tSt
    rw [e1, hdB_words V.name st]
    simp only [List.getD_cons_succ, List.getD_cons_zero]
    rw [k2]
    have := V.start.1
    simp only [Option.getD_some]; omega
  have hms : ∀ i, i < bs.length → (msT (tT s)).getD i false = !hasL gs (i : Int) := fun i hi => by
    have : (msT (tT s)).getD i false = (sgnB ((tT s).getD i ⟨#[]⟩)).isSome := by simp [msT, hlen, hi]
    rw [this, hget i hi]
    exact (lnB_ok hl i hi).2.1
  have hml : (msT (tT s)).length = bs.length := by simp [msT, hlen]
  have hbl : (bsT (tT s)).length = bs.length := by simp [bsT, hlen]
  have hbs : ∀ i, i < bs.length → (bsT (tT s)).getD i 0 = lvQ (if hasL gs (i : Int) = true then 0 else s16 (bs.getD i 0)) := fun i hi => by
    have : (bsT (tT s)).getD i 0 = lvX ((tT s).getD i ⟨#[]⟩) := by simp [bsT, hlen, hi]
    rw [this, hget i hi]
    unfold lvX
    rw [(lnB_ok hl i hi).2.2]
  have hbg : (nsT (tT s)).any bigN = false := by
    rw [List.any_eq_false]
    intro n hn
    obtain ⟨y, hy, rfl⟩ := List.mem_map.1 hn
    rw [e2] at hy
    obtain ⟨i, hi, rfl⟩ := List.mem_map.1 hy
    have hi := List.mem_range.1 hi
    have h1 := hl i hi
    obtain ⟨-, t1, t2⟩ := sixt_of (show levOK (bs.getD i 0) = true by rw [levOK_iff]; simpa using h1)
    rw [(lnB_ok hl i hi).2.2]
    unfold bigN
    split
    · decide
    · rw [decide_eq_false (by omega), decide_eq_false (by omega)]; decide
  have hF : fst0 [unl (nameB nm) 8, rng st 0 100000] = 0 := by
    have r1 : unl (nameB nm) 8 = 0 := by rw [V.name]; rfl
    have r2 : rng st 0 100000 = 0 := if_pos V.start
    rw [r1, r2]; rfl
  have eE : txtE s = 0 := by
    unfold txtE
    rw [e4]
    show chkRec (tNm s) (tSt s) (asmK (bsT (tT s)) (msT (tT s)) (tT s).length) (strF ((msT (tT s)).map (!·)) (tT s).length) = 0
    rw [chk_txt _ _ _ (by rw [hlen]; exact V.most), eN, eS, hF, if_pos rfl, hbg]; rfl
  have eG : tGs s = gs := by
    have hC := can_of gs V.spans
    unfold tGs
    rw [hlen]
    obtain ⟨g1, g2, g3⟩ := str_can ((msT (tT s)).map (!·)) bs.length
    refine can_uniq _ _ g1 hC fun t => ?_
    rw [g3 t]
    by_cases ht : 0 ≤ t ∧ t < (bs.length : Int)
    · have hi : t.toNat < bs.length := by omega
      have e5 : ((msT (tT s)).map (!·)).getD t.toNat false = !(msT (tT s)).getD t.toNat false := not_getD _ _ (by omega)
      rw [e5, hms _ hi, decide_eq_true ht.1, decide_eq_true ht.2, show ((t.toNat : Nat) : Int) = t by omega]
      simp
    · have hz : hasL gs t = false := by
        rw [Bool.eq_false_iff]
        intro h
        obtain ⟨x, hx, h3, h4⟩ := hasL_true.1 h
        obtain ⟨j, hj, rfl⟩ := List.mem_iff_getElem.1 hx
        have h5 := (chkSpans_ok gs V.spans).2.1 _ hx
        have h6 := V.ends j hj
        rw [show gs.getD j (0, 0) = gs[j] by simp [hj]] at h6
        exact ht ⟨by omega, by omega⟩
      rw [hz]
      have : (decide (0 ≤ t) && decide (t < (bs.length : Int))) = false := by
        rw [Bool.and_eq_false_iff, decide_eq_false_iff_not, decide_eq_false_iff_not]; omega
      rw [this]; rfl
  refine ⟨eE, eN, eS, eG, ?_⟩
  have hbl2 : (tBs s).length = bs.length := by unfold tBs; rw [hlen, ← hbl, asmK_len]
  refine sameF_yes feqL 0 _ _ hbl2 fun j hj => ?_
  rw [hbl2] at hj
  have h0 : chkLev 0 = 0 := lev_zeroK
  have hb := hl j hj
  have hat : (tBs s).getD j 0 = if (msT (tT s)).getD j false = true then (bsT (tT s)).getD j 0 else 0 := by
    unfold tBs
    rw [hlen, ← hbl, asmK_at _ _ j (by omega)]
  rw [hat, hms j hj]
  cases hh : hasL gs (j : Int)
  · obtain ⟨-, t1, t2⟩ := sixt_of (show levOK (bs.getD j 0) = true by rw [levOK_iff]; simpa using hb)
    rw [if_pos (by rfl), hbs j hj, hh, if_neg (by decide)]
    have hc : chkLev (lvQ (s16 (bs.getD j 0))) = 0 := by rw [lev_lvQ _ (by omega) (by omega), if_neg (by omega)]
    rw [feq16 hc hb, s16_lvQ _ t1 t2]
    simp
  · rw [if_neg (by decide)]
    have hq : feqL (bs.getD j 0) 0 = true := by
      obtain ⟨x, hx, h1, h2⟩ := hasL_true.1 hh
      obtain ⟨q, hq, rfl⟩ := List.mem_iff_getElem.1 hx
      have := V.silent q hq j (by simpa [hq] using h1) (by simpa [hq] using h2)
      unfold feqL
      simpa using this
    rw [feq16 hb h0] at hq
    rw [feq16 h0 hb]
    exact decide_eq_true (of_decide_eq_true hq).symm
end
end Go.Proofs.YtnncmaegmlaabaaGreatDoor

namespace Go.Proofs.YtnncmaegmlaabaaGreatDoor
open Go.RowKit

theorem take_init {α : Type} (l : List α) (a : α) : ((l ++ [a]).drop 0).take ((l ++ [a]).length - 1 - 0) = l := by simp
theorem joinC_snoc (c : UInt8) (L : List (List UInt8)) (x : List UInt8) : joinC c (L ++ [x]) = joinC c L ++ x ++ [c] := by simp [joinC]
section
variable {nm : ByteArray} {st : Int} {bs : List Nat} {gs : List (Int × Int)}
theorem lns_split (nm : ByteArray) (st : Int) (bs : List Nat) (gs : List (Int × Int)) (n : Nat) : ∃ L x, lnsB nm st bs gs n = L ++ [x] ∧ x.size ≠ 0 ∧ (n = 0 → L = []) ∧ (1 ≤ n → L = lnsB nm st bs gs (n - 1)) := by
  cases n with
  | zero =>
    refine ⟨[], hdB nm st, rfl, ?_, fun _ => rfl, fun h => absurd h (by omega)⟩
    unfold hdB
    simp only [ByteArray.size_append]
    have e1 : (⟨#[103, 97, 117, 103, 101, 32]⟩ : ByteArray).size = 6 := rfl
    omega
  | succ k =>
    refine ⟨lnsB nm st bs gs k, lnB bs gs k, by simp [lnsB, List.range_succ], ?_, fun h => absurd h (by omega), fun _ => rfl⟩
    unfold lnB
    split
    · decide
    · intro h
      have hl : (itB (s16 (bs.getD k 0))).data.toList.length = (itB (s16 (bs.getD k 0))).size := by simp
      rw [itB_data, h] at hl
      have hq := List.eq_nil_of_length_eq_zero hl
      unfold Lib.itoa at hq
      split at hq
      · cases hq
      · have := (dec_facts (s16 (bs.getD k 0)).toNat _ (Nat.le_refl _)).2.2.1
        rw [hq] at this; simp at this
/-- A record's text without its last byte. -/
theorem print_torn (V : Valid nm st bs gs) (hl : ∀ i, i < bs.length → chkLev (bs.getD i 0) = 0) (s : ByteArray) (hs : s = (txB nm st bs gs bs.length).extract 0 ((txB nm st bs gs bs.length).size - 1)) :
    txtE s = 26 ∧ txtAt s = bs.length := by
  obtain ⟨L, x, e1, hx, e2, e3⟩ := lns_split nm st bs gs bs.length
  have hno := lns_no V.name st bs gs bs.length
  rw [e1] at hno
  have hd : s.data.toList = joinC 10 (L.map (·.data.toList)) ++ x.data.toList := by
    have hj := txB_join nm st bs gs bs.length
    rw [e1, List.map_append, List.map_cons, List.map_nil, joinC_snoc] at hj
    have hlen : (txB nm st bs gs bs.length).data.toList.length = (txB nm st bs gs bs.length).size := by simp
    rw [hs, Lib.extract_data, ← hlen, hj]
    exact take_init _ _
  obtain ⟨c1, c2⟩ := tL_join s L x hd (fun y hy => hno y (by simp [hy])) (hno x (by simp))
  rcases Nat.eq_zero_or_pos bs.length with h0 | h0
  · have hh : hedB s = false := by unfold hedB; rw [c1, e2 h0]; rfl
    obtain ⟨s1, s2⟩ := txtAt_no hh
    exact ⟨txtE_syn s1, by omega⟩
  · rw [e3 h0] at c1
    obtain ⟨h1, h2⟩ := hd_lns nm st bs gs (bs.length - 1)
    obtain ⟨k1, -⟩ := hdB_ok V.name st V.start.1 V.start.2
    have a1 : tHd s = hdB nm st := by unfold tHd; rw [c1, h1]
    have a2 : tT s = (List.range (bs.length - 1)).map (lnB bs gs) := by unfold tT; rw [c1, h2]
    have a3 : hedB s = true := by unfold hedB; rw [a1, k1, c1]; simp [lnsB]
    have a4 : (tT s).length = bs.length - 1 := by rw [a2]; simp
    have a5 := fbd_all (T := tT s) (fun i hi => by
      have hi' : i < bs.length - 1 := by omega
      have : (tT s).getD i ⟨#[]⟩ = lnB bs gs i := by rw [a2]; simp [hi']
      rw [this]
      exact (lnB_ok hl i (by omega)).1)
    obtain ⟨s1, s2⟩ := txtAt_bad a3 (.inr (by rw [c2]; exact hx))
    exact ⟨txtE_syn s1, by omega⟩
end
theorem tBs_len (s : ByteArray) : (tBs s).length = (tT s).length := by unfold tBs; rw [asmK_len]; simp [bsT]
/-- What is read is printed as it was. -/
theorem read_print {s : ByteArray} (h : txtE s = 0) (hs : s.size ≤ 4000) : txB (tNm s) (tSt s) (tBs s) (tGs s) (tBs s).length = s := by
  have hsy : synB s = false := by
    unfold txtE at h
    by_cases hq : synB s = true
    · rw [if_pos hq] at h; cases h
    · simpa using hq
  have hck : chkRec (tNm s) (tSt s) (tBs s) (tGs s) = 0 := by
    unfold txtE at h
    rw [hsy] at h; exact h
  have htl := tL_len s
  unfold synB at hsy
  simp only [Bool.or_eq_false_iff, decide_eq_false_iff_not] at hsy
  obtain ⟨⟨q1, q2⟩, q3⟩ := hsy
  have q1 : hedB s = true := by simpa using q1
  have q3 : (tE s).size = 0 := by omega
  have q0 : (tL s).length ≠ 0 ∧ hdOk (tHd s) = true := by unfold hedB at q1; simpa using q1
  have hLt : tL s = tHd s :: tT s := by
    unfold tHd tT
    cases hl : tL s with
    | nil => rw [hl] at q0; simp at q0
    | cons a l => rfl
  have hTn : (tT s).length + 1 = (tL s).length := by rw [hLt]; simp
  have hok : ∀ i, i < (tT s).length → lvOk ((tT s).getD i ⟨#[]⟩) = true := fun i hi => fbd_ok (by have := fbd_le (tT s); omega)
  have hbg : (nsT (tT s)).any bigN = false := by
    have h1 := chk_txt (tNm s) (tSt s) (tT s) (by omega)
    rw [show chkRec (tNm s) (tSt s) (asmK (bsT (tT s)) (msT (tT s)) (tT s).length) (strF ((msT (tT s)).map (!·)) (tT s).length) = 0 from hck] at h1
    by_cases hF : fst0 [unl (nameB (tNm s)) 8, rng (tSt s) 0 100000] = 0
    · rw [if_pos hF] at h1
      cases hb : (nsT (tT s)).any bigN
      · rfl
      · rw [hb] at h1; cases h1
    · rw [if_neg hF] at h1; exact absurd h1.symm hF
  -- the heading
  have e1 : hdB (tNm s) (tSt s) = tHd s := by
    have h3 := hd_three q0.2
    obtain ⟨x0, x1, x2, hx⟩ : ∃ a b c, spl (tHd s) 32 = [a, b, c] := by
      rcases hq : spl (tHd s) 32 with _ | ⟨a, _ | ⟨b, _ | ⟨c, _ | ⟨d, l⟩⟩⟩⟩
      · rw [hq] at h3; cases h3
      · rw [hq] at h3; cases h3
      · rw [hq] at h3; cases h3
      · exact ⟨a, b, c, rfl⟩
      · rw [hq] at h3; simp at h3
    have hdk := q0.2
    unfold hdOk at hdk
    rw [hx] at hdk
    simp only [List.headD_cons, List.getD_cons_zero, List.getD_cons_succ, Bool.and_eq_true] at hdk
    obtain ⟨⟨⟨g1, -⟩, g3⟩, -⟩ := hdk
    have g1' : x0.data.toList = [103, 97, 117, 103, 101] := by rw [← ByteArray.toList_eq]; simpa using g1
    obtain ⟨v, hv⟩ := Option.isSome_iff_exists.1 g3
    have eN : tNm s = x1 := by unfold tNm; rw [hx]; rfl
    have eS : tSt s = (v : Int) := by
      unfold tSt
      rw [hx]
      simp only [List.getD_cons_succ, List.getD_cons_zero]
      rw [hv]; rfl
    apply bytes_one
    have hj := join_spl (tHd s) 32 [x0, x1] x2 hx
    rw [hj, eN, eS]
    have hi : (itB (v : Int)).data.toList = x2.data.toList := by rw [itB_data, Lib.itoa_nonneg, numB_dec hv]
    unfold hdB
    simp only [ByteArray.data_append, Array.toList_append, hi, joinC, List.map_cons, List.map_nil, List.flatten_cons, List.flatten_nil, g1']
    simp
  -- the lines
  have hml : (msT (tT s)).length = (tT s).length := by simp [msT]
  have e2 : (List.range (tT s).length).map (lnB (tBs s) (tGs s)) = tT s := by
    apply ext_getD _ _ ⟨#[]⟩
    · simp
    · intro i hi
      have hi : i < (tT s).length := by simpa using hi
      have hgl : ((List.range (tT s).length).map (lnB (tBs s) (tGs s))).getD i ⟨#[]⟩ = lnB (tBs s) (tGs s) i := by simp [hi]
      rw [hgl]
      obtain ⟨y, hy⟩ : ∃ y, y = (tT s).getD i ⟨#[]⟩ := ⟨_, rfl⟩
      have hm : (msT (tT s)).getD i false = (sgnB y).isSome := by rw [hy]; simp [msT, hi]
      have hh : hasL (tGs s) (i : Int) = !(sgnB y).isSome := by
        unfold tGs
        rw [(str_can _ _).2.2 (i : Int), Int.toNat_natCast, not_getD _ i (by omega), hm, decide_eq_true (by omega), decide_eq_true (by omega)]
        simp
      have hoky := hok i hi
      rw [← hy] at hoky ⊢
      unfold lnB
      cases hsg : sgnB y with
      | none =>
        rw [hsg] at hh
        rw [if_pos (by rw [hh]; rfl)]
        unfold lvOk at hoky
        rw [hsg] at hoky
        have hdsh : dsh y = true := by simpa using hoky
        apply bytes_one
        unfold dsh at hdsh
        have h1 : y.toList = [45] := by simpa using hdsh
        rw [ByteArray.toList_eq] at h1
        rw [h1]
      | some v =>
        rw [hsg] at hh hm
        rw [if_neg (by rw [hh]; simp)]
        have hbl : (bsT (tT s)).length = (tT s).length := by simp [bsT]
        have hat : (tBs s).getD i 0 = lvQ v := by
          unfold tBs
          rw [← hbl, asmK_at _ _ i (by omega), hm, if_pos (by rfl)]
          have : (bsT (tT s)).getD i 0 = lvX ((tT s).getD i ⟨#[]⟩) := by simp [bsT, hi]
          rw [this, ← hy]
          unfold lvX
          rw [hsg]; rfl
        have hvb : ¬ bigN v = true := fun hb => by
          have h5 := List.any_eq_false.1 hbg v (by
            refine List.mem_map.2 ⟨y, ?_, by rw [hsg]; rfl⟩
            rw [hy, List.getD_eq_getElem?_getD, List.getElem?_eq_getElem hi]
            exact List.getElem_mem hi)
          exact h5 hb
        unfold bigN at hvb
        simp only [Bool.or_eq_true, decide_eq_true_eq, not_or] at hvb
        rw [hat, s16_lvQ v (by omega) (by omega)]
        apply bytes_one
        rw [itB_data, sgn_itoa hsg]
  apply bytes_one
  rw [txB_join, tBs_len]
  have e3 : lnsB (tNm s) (tSt s) (tBs s) (tGs s) (tT s).length = tL s := by unfold lnsB; rw [e1, e2, ← hLt]
  have hEd : (tE s).data.toList = [] := List.eq_nil_of_length_eq_zero (by simpa using q3)
  rw [e3]
  have hj := tL_joins s
  rw [hEd, List.append_nil] at hj
  exact hj.symm
end Go.Proofs.YtnncmaegmlaabaaGreatDoor
