/-
  Plain words of GaugeKeeps: what the law asks holds of what the rules leave. No program.
-/
import Derived.Test.YtfmmmpmdnfpofaaGreatDoorKN
namespace Go.Proofs.YtfmmmpmdnfpofaaGreatDoor
open Go.RowKit

theorem feq_back {b : Nat} (h : chkLev b = 0) (hz : feqL b 0 = true) : feqL 0 b = true := by
  have h0 : finB 0 = true := by decide +kernel
  rw [feq_num (fin_lev h) h0] at hz
  rw [feq_num h0 (fin_lev h)]
  have := of_decide_eq_true hz
  simp [this]
theorem runU_is (CB : List Nat) (CG : List (Int × Int)) (T : List Bool) (n i : Nat) (h : ∀ j, j < n → hasL CG (j : Int) = !T.getD j false) : ∀ k, k < n → runU CB CG i (k + 1) = runB CB T i k
  | 0, hk => by
    unfold runB runU
    rw [h 0 hk, Bool.not_not]
    simp only [runU, Nat.zero_add]
  | k + 1, hk => by
    have ih := runU_is CB CG T n i h k (by omega)
    rw [runU, h (k + 1) hk, Bool.not_not, ih]
    rfl
theorem chkRule_parts {kd : ByteArray} {A B : Int} (h : chkRule kd A B = 0) : ((kd == sRange) = true) ∨ ((kd == sRange) = false ∧ (kd == sJump) = true ∧ 0 ≤ A ∧ A ≤ 2048) ∨ ((kd == sRange) = false ∧ (kd == sJump) = false ∧ (kd == sStuck) = true ∧ 1 ≤ A) := by
  unfold chkRule at h
  cases h1 : kd == sRange
  · rw [h1] at h
    simp only [cond_false] at h
    cases h2 : kd == sJump
    · rw [h2] at h
      simp only [cond_false] at h
      cases h3 : kd == sStuck
      · rw [h3] at h; simp at h
      · rw [h3] at h
        simp only [cond_true] at h
        unfold chkSt at h
        have := fst0_each h 0 (by simp)
        have h4 : rng A 1 4096 = 0 := by simpa using this
        unfold rng at h4
        split at h4
        · exact .inr (.inr ⟨rfl, rfl, rfl, by omega⟩)
        · cases h4
    · rw [h2] at h
      simp only [cond_true] at h
      unfold chkJp at h
      have := fst0_each h 0 (by simp)
      have h4 : rng A 0 2048 = 0 := by simpa using this
      unfold rng at h4
      split at h4
      · exact .inr (.inl ⟨rfl, rfl, by omega, by omega⟩)
      · cases h4
  · exact .inl rfl
section
variable (bs : List Nat) (gs : List (Int × Int)) (l : List Ru) (m : Nat)
theorem keeps_hp (hl : ∀ i, i < bs.length → chkLev (bs.getD i 0) = 0) (i : Nat) (hi : i < bs.length) :
    0 ≤ (rsF bs gs l m).2.getD i 0 ∧ (rsF bs gs l m).2.getD i 0 ≤ (m : Int) ∧ (List.replicate bs.length (0 : Int)).getD i 0 = 0 ∧ ((hasL gs (i : Int) = false ∧ (rsF bs gs l m).2.getD i 0 = 0 ∧ hasL (strF ((rsF bs gs l m).1.map (!·)) bs.length) (i : Int) = false ∧ feqL ((asmK bs (rsF bs gs l m).1 bs.length).getD i 0) (bs.getD i 0) = true) ∨ (hasL gs (i : Int) = false ∧ 0 < (rsF bs gs l m).2.getD i 0 ∧ hasL (strF ((rsF bs gs l m).1.map (!·)) bs.length) (i : Int) = true ∧ feqL ((asmK bs (rsF bs gs l m).1 bs.length).getD i 0) 0 = true) ∨ (hasL gs (i : Int) = true ∧ (rsF bs gs l m).2.getD i 0 = 0 ∧ hasL (strF ((rsF bs gs l m).1.map (!·)) bs.length) (i : Int) = true ∧ feqL ((asmK bs (rsF bs gs l m).1 bs.length).getD i 0) 0 = true)) := by
  obtain ⟨h1, h2, h3, h4⟩ := rs_reason bs gs l m i hi
  have hh := str_has bs (rsF bs gs l m).1 (rsF_len bs gs l m).1 i hi
  have ha := asmK_at bs (rsF bs gs l m).1 i hi
  have hz : feqL 0 0 = true := by decide +kernel
  refine ⟨h1, h2, by simp [hi], ?_⟩
  rw [hh, ha, h3]
  cases hg : hasL gs (i : Int)
  · by_cases hr : (rsF bs gs l m).2.getD i 0 = 0
    · exact .inl ⟨rfl, hr, by rw [hr]; rfl, by rw [hr]; exact feq_self (hl i hi)⟩
    · have hd : decide ((rsF bs gs l m).2.getD i 0 = 0) = false := by simpa using hr
      exact .inr (.inl ⟨rfl, by omega, by rw [hd]; rfl, by rw [hd]; exact hz⟩)
  · have hr : (rsF bs gs l m).2.getD i 0 = 0 := by
      by_cases hr : (rsF bs gs l m).2.getD i 0 = 0
      · exact hr
      · have := h4 (by omega); rw [hg] at this; cases this
    exact .inr (.inr ⟨rfl, hr, rfl, hz⟩)
theorem keeps_hk (hru : ∀ j, j < l.length → chkRule (l.getD j ru0).1 (l.getD j ru0).2.1 (l.getD j ru0).2.2 = 0) (i : Nat) (hi : i < bs.length)
    (hg : hasL (strF ((rsF bs gs l l.length).1.map (!·)) bs.length) (i : Int) = false) (q : Nat) (hq : q < l.length) :
    Asked (asmK bs (rsF bs gs l l.length).1 bs.length) (strF ((rsF bs gs l l.length).1.map (!·)) bs.length) i (l.getD q ru0).1 (l.getD q ru0).2.1 (l.getD q ru0).2.2 := by
  have hT := (rsF_len bs gs l l.length).1
  have hs := fun j hj => str_has bs (rsF bs gs l l.length).1 hT j hj
  have hti : (rsF bs gs l l.length).1.getD i false = true := by rw [hs i hi] at hg; simpa using hg
  have hc : Calm (l.getD q ru0) (asmK bs (rsF bs gs l l.length).1 bs.length) (rsF bs gs l l.length).1 := fun k hk => by
    rw [rm_same (fun j hj => asm_lev_at bs _ hT j hj) k hk]
    exact rs_calm bs gs l q l.length hq k hk
  have hk := chkRule_parts (hru q hq)
  generalize (rsF bs gs l l.length).1 = T at *
  generalize l.getD q ru0 = x at *
  rcases hk with h1 | ⟨h1, h2, h3, h4⟩ | ⟨h1, h2, h3, h4⟩
  · exact .inl ⟨h1, calm_range hc h1 hti⟩
  · refine .inr (.inl ⟨h1, h2, ⟨h3, h4⟩, fun hi0 hg1 => ?_⟩)
    obtain ⟨j, rfl⟩ : ∃ j, i = j + 1 := ⟨i - 1, by omega⟩
    have e : ((j + 1 : Nat) : Int) - 1 = (j : Int) := by omega
    rw [e, hs j (by omega)] at hg1
    have htj : T.getD j false = true := by simpa using hg1
    have := calm_jump hc h1 h2 hti htj
    unfold dst at this
    rw [Nat.add_sub_cancel]
    omega
  · refine .inr (.inr ⟨h1, h2, h3, ?_⟩)
    rw [runU_is _ _ T bs.length i hs i hi]
    exact calm_stuck hc h1 h2 (by omega) hti
theorem keeps_he (nm : ByteArray) (st : Int) (V : Valid nm st bs gs) (hC : Can gs) (hl : ∀ i, i < bs.length → chkLev (bs.getD i 0) = 0) :
    sameF feqL 0 (asmK bs (rsF bs gs l 0).1 bs.length) bs = true ∧ sameF (fun x y : Int × Int => x == y) (0, 0) (strF ((rsF bs gs l 0).1.map (!·)) bs.length) gs = true := by
  have hT := (rsF_len bs gs l 0).1
  have h0 : ∀ j, j < bs.length → (rsF bs gs l 0).1.getD j false = !hasL gs (j : Int) := fun j hj => by simp [rsF, hj]
  constructor
  · refine sameF_yes feqL 0 _ _ (asm_len _ _) fun i hi => ?_
    rw [asm_len] at hi
    rw [asmK_at bs _ i hi, h0 i hi]
    cases hg : hasL gs (i : Int)
    · simp only [Bool.not_false, if_true]; exact feq_self (hl i hi)
    · simp only [Bool.not_true, Bool.false_eq_true, if_false]
      obtain ⟨s, hs, h1, h2⟩ := hasL_true.1 hg
      obtain ⟨j, hj, rfl⟩ := List.mem_iff_getElem.1 hs
      have e : gs.getD j (0, 0) = gs[j] := by simp [hj]
      have := V.silent j hj i (by rw [e]; exact h1) (by rw [e]; exact h2)
      refine feq_back (hl i hi) ?_
      unfold feqL
      simpa [bne] using this
  · obtain ⟨c1, c2, c3⟩ := str_can ((rsF bs gs l 0).1.map (!·)) bs.length
    have hb := (chkSpans_ok gs V.spans).2.1
    have e : strF ((rsF bs gs l 0).1.map (!·)) bs.length = gs := can_uniq _ _ c1 hC fun t => by
      by_cases h1 : 0 ≤ t ∧ t < (bs.length : Int)
      · obtain ⟨j, rfl⟩ := Int.eq_ofNat_of_zero_le h1.1
        rw [str_has bs _ hT j (by omega), h0 j (by omega), Bool.not_not]
      · have e1 : hasL (strF ((rsF bs gs l 0).1.map (!·)) bs.length) t = false := hasL_false.2 fun s hs hh => h1 ⟨by have := (c2 s hs).1; omega, by have := (c2 s hs).2; omega⟩
        have e2 : hasL gs t = false := hasL_false.2 fun s hs hh => h1 ⟨by have := (hb s hs).1; omega, by
          obtain ⟨j, hj, rfl⟩ := List.mem_iff_getElem.1 hs
          have := V.ends j hj
          have e : gs.getD j (0, 0) = gs[j] := by simp [hj]
          rw [e] at this; omega⟩
        rw [e1, e2]
    rw [e]
    exact sameF_yes (fun x y : Int × Int => x == y) (0, 0) gs gs rfl (fun j _ => by simp)
end
theorem keeps_hf (bs : List Nat) (gs : List (Int × Int)) (l : List Ru) (m : Nat) (hm : m = l.length - 1) (i : Nat) (hi : i < bs.length) :
    0 ≤ (rsF bs gs l m).2.getD i 0 ∧ (0 < (rsF bs gs l m).2.getD i 0 → (rsF bs gs l l.length).2.getD i 0 = (rsF bs gs l m).2.getD i 0) ∧ ((rsF bs gs l m).2.getD i 0 = 0 → (rsF bs gs l l.length).2.getD i 0 = 0 ∨ (rsF bs gs l l.length).2.getD i 0 = (l.length : Int)) := by
  obtain ⟨h1, -, -, -⟩ := rs_reason bs gs l m i hi
  refine ⟨h1, ?_⟩
  by_cases hl : l.length = 0
  · have e : m = l.length := by omega
    rw [e]
    exact ⟨fun _ => rfl, fun h => .inl h⟩
  · have e : l.length = m + 1 := by omega
    rw [e]
    obtain ⟨a, b⟩ := rs_few bs gs l m i hi
    exact ⟨a, fun h => (b h).imp id (fun h => by rw [h]; push_cast; rfl)⟩
end Go.Proofs.YtfmmmpmdnfpofaaGreatDoor
