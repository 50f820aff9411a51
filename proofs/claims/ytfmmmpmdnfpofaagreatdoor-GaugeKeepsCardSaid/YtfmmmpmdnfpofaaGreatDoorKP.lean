/-
  Plain words of GaugeKeeps: what the rules have left has nothing that one of them removes. No program.
-/
import Derived.Test.YtfmmmpmdnfpofaaGreatDoorEK
import Derived.Test.YtfmmmpmdnfpofaaGreatDoorP0
namespace Go.Proofs.YtfmmmpmdnfpofaaGreatDoor
open Go.RowKit

/-- That a rule finds nothing to remove, of those that are there. -/
def Calm (x : Ru) (bs : List Nat) (T : List Bool) : Prop := ∀ i, T.getD i false = true → rmB x bs T T i = false
/-- All that is in one list of marks is in another one. -/
def Sub (T' T : List Bool) : Prop := ∀ i, T'.getD i false = true → T.getD i false = true
theorem Sub.refl (T : List Bool) : Sub T T := fun _ h => h
theorem Sub.trans {T T' T'' : List Bool} (h : Sub T T') (h' : Sub T' T'') : Sub T T'' := fun i hi => h' i (h i hi)

theorem rm_mono {x : Ru} {bs : List Nat} {T T' : List Bool} (hs : Sub T' T) (i : Nat) (h : rmB x bs T' T' i = true) : rmB x bs T T i = true := by
  unfold rmB at h ⊢
  cases h1 : x.1 == sRange
  · rw [h1] at h
    simp only [cond_false] at h ⊢
    cases h2 : x.1 == sJump
    · rw [h2] at h
      simp only [cond_false, Bool.and_eq_true, List.all_eq_true] at h ⊢
      refine ⟨h.1, fun k hk => ?_⟩
      have := h.2 k hk
      rw [Bool.or_eq_true] at this ⊢
      rcases this with h3 | h3
      · exact .inl h3
      · rw [Bool.and_eq_true] at h3 ⊢
        exact .inr ⟨hs k h3.1, h3.2⟩
    · rw [h2] at h
      simp only [cond_true, Bool.and_eq_true] at h ⊢
      exact ⟨⟨h.1.1, hs _ h.1.2⟩, h.2⟩
  · rw [h1] at h
    exact h
theorem Calm.sub {x : Ru} {bs : List Nat} {T T' : List Bool} (h : Calm x bs T) (hs : Sub T' T) : Calm x bs T' := fun i hi => by
  cases hr : rmB x bs T' T' i
  · rfl
  · have h1 := h i (hs i hi)
    rw [rm_mono hs i hr] at h1
    cases h1
theorem lf_sub (x : Ru) (bs : List Nat) (T : List Bool) (k : Nat) : Sub (lfK x bs T k) T := fun j h => by
  rw [lfK_at] at h
  rw [Bool.and_eq_true] at h
  exact h.1
/-- What a rule has left is calm. -/
theorem lf_calm (x : Ru) (bs : List Nat) (T : List Bool) (n : Nat) (hn : T.length = n) : Calm x bs (lfK x bs T n) := by
  intro i hi
  have hl := hi
  rw [lfK_at, Bool.and_eq_true] at hl
  obtain ⟨hT, hg⟩ := hl
  have hin : i < n := by
    rw [← hn]
    rcases Nat.lt_or_ge i T.length with h | h
    · exact h
    · rw [getD_off T i false h] at hT; cases hT
  have hgn : gn x bs T i = false := by
    cases h : gn x bs T i
    · rfl
    · rw [h] at hg; simp [hin] at hg
  unfold gn at hgn
  rw [hT, Bool.true_and] at hgn
  cases hr : rmB x bs (lfK x bs T n) (lfK x bs T n) i
  · rfl
  · exfalso
    have : rmB x bs T (lfK x bs T i) i = true := by
      unfold rmB at hr ⊢
      cases h1 : x.1 == sRange
      · rw [h1] at hr
        simp only [cond_false] at hr ⊢
        cases h2 : x.1 == sJump
        · rw [h2] at hr
          simp only [cond_false, Bool.and_eq_true, List.all_eq_true] at hr ⊢
          refine ⟨hr.1, fun k hk => ?_⟩
          have := hr.2 k hk
          rw [Bool.or_eq_true] at this ⊢
          rcases this with h3 | h3
          · exact .inl h3
          · rw [Bool.and_eq_true] at h3 ⊢
            exact .inr ⟨lf_sub x bs T n k h3.1, h3.2⟩
        · rw [h2] at hr
          simp only [cond_true, Bool.and_eq_true, decide_eq_true_eq] at hr ⊢
          refine ⟨⟨hr.1.1, ?_⟩, hr.2⟩
          have h3 := hr.1.2
          have h0 := hr.1.1
          rw [lfK_at, Bool.and_eq_true] at h3 ⊢
          refine ⟨h3.1, ?_⟩
          have h4 := h3.2
          have e1 : decide (i - 1 < n) = true := by simp; omega
          have e2 : decide (i - 1 < i) = true := by simp; omega
          rw [e1] at h4
          rw [e2]
          exact h4
      · rw [h1] at hr
        exact hr
    rw [this] at hgn
    cases hgn
/-- A calm rule removes nothing. -/
theorem calm_lf {x : Ru} {bs : List Nat} {T : List Bool} (h : Calm x bs T) : ∀ k, lfK x bs T k = T
  | 0 => rfl
  | k + 1 => by
    rw [lfK_succ, calm_lf h k, if_neg]
    unfold gn
    rw [calm_lf h k]
    cases hT : T.getD k false
    · simp
    · rw [h k hT]; simp
theorem calm_gn {x : Ru} {bs : List Nat} {T : List Bool} (h : Calm x bs T) (k : Nat) : gn x bs T k = false := by
  unfold gn
  rw [calm_lf h k]
  cases hT : T.getD k false
  · rfl
  · rw [h k hT]; rfl
theorem calm_rn {x : Ru} {bs : List Nat} {T : List Bool} (h : Calm x bs T) (v : Int) (R : List Int) : ∀ k, rnK x bs T v R k = R
  | 0 => rfl
  | k + 1 => by rw [rnK_succ, calm_gn h k, calm_rn h v R k]; simp
section
variable (bs : List Nat) (gs : List (Int × Int)) (l : List Ru)
theorem rs_sub : ∀ k m, k ≤ m → Sub (rsF bs gs l m).1 (rsF bs gs l k).1
  | k, 0, h => by rw [Nat.le_zero.1 h]; exact Sub.refl _
  | k, m + 1, h => by
    by_cases e : k = m + 1
    · rw [e]; exact Sub.refl _
    · exact (lf_sub (l.getD m ru0) bs (rsF bs gs l m).1 bs.length).trans (rs_sub k m (by omega))
/-- Behind all rules each of them is calm. -/
theorem rs_calm (k m : Nat) (h : k < m) : Calm (l.getD k ru0) bs (rsF bs gs l m).1 :=
  (lf_calm (l.getD k ru0) bs (rsF bs gs l k).1 bs.length (rsF_len bs gs l k).1).sub (rs_sub bs gs l (k + 1) m h)
/-- The reasons behind so many rules: whose they are, and that they are just of what has been removed. -/
theorem rs_reason : ∀ k j, j < bs.length → 0 ≤ (rsF bs gs l k).2.getD j 0 ∧ (rsF bs gs l k).2.getD j 0 ≤ (k : Int) ∧ (rsF bs gs l k).1.getD j false = (!hasL gs (j : Int) && decide ((rsF bs gs l k).2.getD j 0 = 0)) ∧ (0 < (rsF bs gs l k).2.getD j 0 → hasL gs (j : Int) = false)
  | 0, j, hj => by
    have e1 : (rsF bs gs l 0).2.getD j 0 = 0 := by simp [rsF, hj]
    have e2 : (rsF bs gs l 0).1.getD j false = !hasL gs (j : Int) := by simp [rsF, hj]
    rw [e1, e2]
    simp
  | k + 1, j, hj => by
    obtain ⟨h1, h2, h3, h4⟩ := rs_reason k j hj
    have e1 := rnK_at (l.getD k ru0) bs (rsF bs gs l k).1 ((k : Int) + 1) (rsF bs gs l k).2 (by rw [(rsF_len bs gs l k).1, (rsF_len bs gs l k).2]) j bs.length
    have e2 := lfK_at (l.getD k ru0) bs (rsF bs gs l k).1 j bs.length
    have g1 : (rsF bs gs l (k + 1)).2.getD j 0 = _ := e1
    have g2 : (rsF bs gs l (k + 1)).1.getD j false = _ := e2
    rw [g1, g2]
    cases hg : gn (l.getD k ru0) bs (rsF bs gs l k).1 j
    · rw [if_neg (fun h => absurd h.2 (by decide))]
      simp only [Bool.and_false, Bool.not_false, Bool.and_true]
      exact ⟨h1, by omega, h3, h4⟩
    · have hT : (rsF bs gs l k).1.getD j false = true := by unfold gn at hg; rw [Bool.and_eq_true] at hg; exact hg.1
      rw [hT] at h3
      have h5 := h3.symm
      rw [Bool.and_eq_true, decide_eq_true_eq] at h5
      have h6 : hasL gs (j : Int) = false := by simpa using h5.1
      rw [if_pos ⟨hj, rfl⟩]
      refine ⟨by omega, by omega, ?_, fun _ => h6⟩
      rw [h6]
      have h7 : ¬ (k : Int) + 1 = 0 := by omega
      simp [h7, hj]
/-- With one rule less no other level has a reason, and those have the same ones. -/
theorem rs_few (m j : Nat) (hj : j < bs.length) : ((rsF bs gs l m).2.getD j 0 > 0 → (rsF bs gs l (m + 1)).2.getD j 0 = (rsF bs gs l m).2.getD j 0) ∧ ((rsF bs gs l m).2.getD j 0 = 0 → (rsF bs gs l (m + 1)).2.getD j 0 = 0 ∨ (rsF bs gs l (m + 1)).2.getD j 0 = (m : Int) + 1) := by
  obtain ⟨h1, h2, h3, h4⟩ := rs_reason bs gs l m j hj
  have e1 := rnK_at (l.getD m ru0) bs (rsF bs gs l m).1 ((m : Int) + 1) (rsF bs gs l m).2 (by rw [(rsF_len bs gs l m).1, (rsF_len bs gs l m).2]) j bs.length
  have g1 : (rsF bs gs l (m + 1)).2.getD j 0 = _ := e1
  rw [g1]
  cases hg : gn (l.getD m ru0) bs (rsF bs gs l m).1 j
  · rw [if_neg (fun h => absurd h.2 (by decide))]
    exact ⟨fun _ => rfl, fun h => .inl h⟩
  · have hT : (rsF bs gs l m).1.getD j false = true := by unfold gn at hg; rw [Bool.and_eq_true] at hg; exact hg.1
    rw [hT] at h3
    have h5 := h3.symm
    rw [Bool.and_eq_true, decide_eq_true_eq] at h5
    rw [if_pos ⟨hj, rfl⟩]
    exact ⟨fun h => by omega, fun _ => .inr rfl⟩
end
theorem rs_pre (bs : List Nat) (gs : List (Int × Int)) (l l' : List Ru) : ∀ k, (∀ j, j < k → l.getD j ru0 = l'.getD j ru0) → rsF bs gs l k = rsF bs gs l' k
  | 0, _ => rfl
  | k + 1, h => by
    have ih := rs_pre bs gs l l' k (fun j hj => h j (by omega))
    unfold rsF
    rw [ih, h k (by omega)]

theorem rm_same {x : Ru} {bs bs' : List Nat} {T : List Bool} (he : ∀ j, T.getD j false = true → bs'.getD j 0 = bs.getD j 0) (i : Nat) (hi : T.getD i false = true) : rmB x bs' T T i = rmB x bs T T i := by
  unfold rmB
  rw [he i hi]
  cases h1 : x.1 == sRange
  · simp only [cond_false]
    cases h2 : x.1 == sJump
    · simp only [cond_false]
      congr 1
      rw [Bool.eq_iff_iff, List.all_eq_true, List.all_eq_true]
      constructor
      · intro h k hk
        have := h k hk
        cases hT : T.getD k false
        · rw [hT] at this; exact this
        · rw [hT, he k hT] at this; exact this
      · intro h k hk
        have := h k hk
        cases hT : T.getD k false
        · rw [hT] at this; exact this
        · rw [hT] at this; rw [he k hT]; exact this
    · simp only [cond_true]
      cases hT : T.getD (i - 1) false
      · simp
      · rw [he _ hT]
  · rfl
theorem asm_lev_at (bs : List Nat) (T : List Bool) (hT : T.length = bs.length) (j : Nat) (h : T.getD j false = true) : (asmK bs T bs.length).getD j 0 = bs.getD j 0 := by
  have hj : j < bs.length := by
    rcases Nat.lt_or_ge j T.length with h1 | h1
    · omega
    · rw [getD_off T j false h1] at h; cases h
  rw [asmK_at bs T j hj, if_pos h]
/-- What calm rules find as it is stays as it is, without a reason. -/
theorem rs_still (bs : List Nat) (T : List Bool) (l : List Ru) (hl : T.length = bs.length) (m : Nat) (hc : ∀ k, k < m → Calm (l.getD k ru0) bs T) : ∀ k, k ≤ m →
    rsF (asmK bs T bs.length) (strF (T.map (!·)) bs.length) l k = (T, List.replicate bs.length 0)
  | 0, _ => by
    unfold rsF
    rw [asmK_len]
    refine Prod.ext ?_ rfl
    apply ext_getD _ _ false
    · simp [hl]
    · intro j hj
      have hj : j < bs.length := by simpa using hj
      have h3 := (str_can (T.map (!·)) bs.length).2.2 (j : Int)
      have e1 : decide ((0 : Int) ≤ (j : Int)) = true := by simp
      have e2 : decide ((j : Int) < (bs.length : Int)) = true := by simp; omega
      rw [e1, e2, Int.toNat_natCast, not_getD _ j (by omega)] at h3
      have e4 : ((List.range bs.length).map (fun i : Nat => !hasL (strF (T.map (!·)) bs.length) (i : Int))).getD j false = !hasL (strF (T.map (!·)) bs.length) (j : Int) := by simp [hj]
      show ((List.range bs.length).map (fun i : Nat => !hasL (strF (T.map (!·)) bs.length) (i : Int))).getD j false = _
      rw [e4, h3]
      simp
  | k + 1, hk => by
    have ih := rs_still bs T l hl m hc k (by omega)
    have hc' : Calm (l.getD k ru0) (asmK bs T bs.length) T := fun i hi => by
      rw [rm_same (fun j hj => asm_lev_at bs _ hl j hj) i hi]
      exact hc k (by omega) i hi
    unfold rsF
    rw [ih]
    simp only
    rw [calm_lf hc', calm_rn hc']
/-- What has been cleaned is cleaned again as it is, without a reason. -/
theorem rs_again (bs : List Nat) (gs : List (Int × Int)) (l : List Ru) (m : Nat) : rsF (asmK bs (rsF bs gs l m).1 bs.length) (strF ((rsF bs gs l m).1.map (!·)) bs.length) l m = ((rsF bs gs l m).1, List.replicate bs.length 0) :=
  rs_still bs _ l (rsF_len bs gs l m).1 m (fun k hk => rs_calm bs gs l k m hk) m (Nat.le_refl _)
theorem asm_twice (bs : List Nat) (T : List Bool) : asmK (asmK bs T bs.length) T bs.length = asmK bs T bs.length := asm_asm bs T T (fun _ _ h => h)
/-- How many levels up to k, one after the other, are there and equal the level i. -/
def runB (bs : List Nat) (T : List Bool) (i : Nat) : Nat → Nat
  | 0 => if T.getD 0 false && feqL (bs.getD 0 0) (bs.getD i 0) then 1 else 0
  | k + 1 => if T.getD (k + 1) false && feqL (bs.getD (k + 1) 0) (bs.getD i 0) then runB bs T i k + 1 else 0
theorem runB_ge {bs : List Nat} {T : List Bool} {i : Nat} : ∀ (m k : Nat), m + 1 ≤ runB bs T i k → m ≤ k ∧ ∀ j, k ≤ j + m → j ≤ k → (T.getD j false && feqL (bs.getD j 0) (bs.getD i 0)) = true
  | m, 0, h => by
    unfold runB at h
    split at h
    · rename_i hc
      exact ⟨by omega, fun j _ hj => by rw [show j = 0 by omega]; exact hc⟩
    · omega
  | 0, k + 1, h => by
    unfold runB at h
    split at h
    · rename_i hc
      exact ⟨by omega, fun j h1 h2 => by rw [show j = k + 1 by omega]; exact hc⟩
    · omega
  | m + 1, k + 1, h => by
    unfold runB at h
    split at h
    · rename_i hc
      obtain ⟨h1, h2⟩ := runB_ge (bs := bs) (T := T) (i := i) m k (by omega)
      refine ⟨by omega, fun j h3 h4 => ?_⟩
      by_cases e : j = k + 1
      · rw [e]; exact hc
      · exact h2 j (by omega) (by omega)
    · omega
theorem calm_range {x : Ru} {bs : List Nat} {T : List Bool} (h : Calm x bs T) (hx : (x.1 == sRange) = true) {i : Nat} (hi : T.getD i false = true) : x.2.1 ≤ s16 (bs.getD i 0) ∧ s16 (bs.getD i 0) ≤ x.2.2 := by
  have := h i hi
  unfold rmB at this
  rw [hx] at this
  simp only [cond_true, Bool.or_eq_false_iff, decide_eq_false_iff_not] at this
  omega
theorem calm_jump {x : Ru} {bs : List Nat} {T : List Bool} (h : Calm x bs T) (h1 : (x.1 == sRange) = false) (h2 : (x.1 == sJump) = true) {i : Nat} (hi : T.getD (i + 1) false = true) (hp : T.getD i false = true) : dst (bs.getD (i + 1) 0) (bs.getD i 0) ≤ x.2.1 := by
  have := h (i + 1) hi
  unfold rmB at this
  rw [h1, h2] at this
  simp only [cond_true, cond_false, Nat.add_sub_cancel, hp, Bool.and_true] at this
  have e : decide (0 < i + 1) = true := by simp
  rw [e, Bool.true_and, decide_eq_false_iff_not] at this
  omega
theorem calm_stuck {x : Ru} {bs : List Nat} {T : List Bool} (h : Calm x bs T) (h1 : (x.1 == sRange) = false) (h2 : (x.1 == sJump) = false) (h0 : 0 ≤ x.2.1) {i : Nat} (hi : T.getD i false = true) : (runB bs T i i : Int) ≤ x.2.1 := by
  rcases Int.lt_or_le x.2.1 (runB bs T i i : Int) with hlt | hle
  · exfalso
    obtain ⟨a, ha⟩ := Int.eq_ofNat_of_zero_le h0
    obtain ⟨g1, g2⟩ := runB_ge (bs := bs) (T := T) (i := i) a i (by omega)
    have := h i hi
    unfold rmB at this
    rw [h1, h2] at this
    simp only [cond_false] at this
    rw [Bool.and_eq_false_iff] at this
    rcases this with h3 | h3
    · rw [decide_eq_false_iff_not] at h3; omega
    · rw [List.all_eq_false] at h3
      obtain ⟨k, hk, hn⟩ := h3
      have hk : k < i + 1 := by simpa using hk
      apply hn
      rw [Bool.or_eq_true]
      by_cases hb : (k : Int) < (i : Int) - x.2.1
      · exact .inl (decide_eq_true hb)
      · exact .inr (g2 k (by omega) (by omega))
  · exact hle
end Go.Proofs.YtfmmmpmdnfpofaaGreatDoor
