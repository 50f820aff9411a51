/-
  Plain words on rules and what they remove, and the contract of the reference's Kept. Conditions: written at each.
  Plain words of GaugeKeeps: what the rules have left has nothing that one of them removes. No program.
  Plain words of GaugeKeeps: a cleaned record is valid, and what the law asks of each of its levels. No program.
-/
import Derived.Test.YtkgkpcmokmhakaaGreatDoorK4
import Derived.Test.YtkgkpcmokmhakaaGreatDoorML
import Derived.Test.YtkgkpcmokmhakaaGreatDoorT7
import Derived.Test.YtkgkpcmokmhakaaGreatDoorProg
import Derived.Test.YtkgkpcmokmhakaaGreatDoorOpm
import Derived.Test.YtkgkpcmokmhakaaGreatDoorF0
import Derived.Test.YtkgkpcmokmhakaaGreatDoorQ4
import Derived.Deep.RegionHeld3
import Derived.Deep.Cut
import Derived.OwnWalk

namespace Go.Proofs.YtkgkpcmokmhakaaGreatDoor
open Go.RowKit

/-- That a rule removes a level, of those that are there, and of those that it has left so far. -/
def rmB (x : Ru) (bs : List Nat) (T L : List Bool) (i : Nat) : Bool :=
  bif x.1 == sRange then decide (s16 (bs.getD i 0) < x.2.1) || decide (x.2.2 < s16 (bs.getD i 0))
  else bif x.1 == sJump then decide (0 < i) && L.getD (i - 1) false && decide (x.2.1 < dst (bs.getD i 0) (bs.getD (i - 1) 0))
  else decide (x.2.1 ≤ (i : Int)) && (List.range (i + 1)).all (fun k => decide ((k : Int) < (i : Int) - x.2.1) || (T.getD k false && feqL (bs.getD k 0) (bs.getD i 0)))
/-- What a rule has left of the first i levels. -/
def lfK (x : Ru) (bs : List Nat) (T : List Bool) : Nat → List Bool
  | 0 => T
  | i + 1 => if (T.getD i false && rmB x bs T (lfK x bs T i) i) = true then (lfK x bs T i).set i false else lfK x bs T i
/-- That a rule removes the level i. -/
def gn (x : Ru) (bs : List Nat) (T : List Bool) (i : Nat) : Bool := T.getD i false && rmB x bs T (lfK x bs T i) i
theorem lfK_succ (x : Ru) (bs : List Nat) (T : List Bool) (i : Nat) : lfK x bs T (i + 1) = if gn x bs T i = true then (lfK x bs T i).set i false else lfK x bs T i := rfl
def rnK (x : Ru) (bs : List Nat) (T : List Bool) (v : Int) (R : List Int) : Nat → List Int
  | 0 => R
  | i + 1 => if gn x bs T i = true then (rnK x bs T v R i).set i v else rnK x bs T v R i
theorem rnK_succ (x : Ru) (bs : List Nat) (T : List Bool) (v : Int) (R : List Int) (i : Nat) : rnK x bs T v R (i + 1) = if gn x bs T i = true then (rnK x bs T v R i).set i v else rnK x bs T v R i := rfl
theorem lfK_len (x : Ru) (bs : List Nat) (T : List Bool) : ∀ k, (lfK x bs T k).length = T.length
  | 0 => rfl
  | k + 1 => by
    have := lfK_len x bs T k
    rw [lfK_succ]; split <;> simp [this]
theorem rnK_len (x : Ru) (bs : List Nat) (T : List Bool) (v : Int) (R : List Int) : ∀ k, (rnK x bs T v R k).length = R.length
  | 0 => rfl
  | k + 1 => by
    have := rnK_len x bs T v R k
    rw [rnK_succ]; split <;> simp [this]

theorem getD_set_b (l : List Bool) (i j : Nat) (b : Bool) (hi : i < l.length) : (l.set i b).getD j false = if i = j then b else l.getD j false := by
  rw [List.getD_eq_getElem?_getD, List.getElem?_set]
  by_cases e : i = j
  · subst e; rw [if_pos rfl, if_pos rfl, if_pos hi]; rfl
  · rw [if_neg e, if_neg e, ← List.getD_eq_getElem?_getD]
theorem getD_set_i (l : List Int) (i j : Nat) (b : Int) (hi : i < l.length) : (l.set i b).getD j 0 = if i = j then b else l.getD j 0 := by
  rw [List.getD_eq_getElem?_getD, List.getElem?_set]
  by_cases e : i = j
  · subst e; rw [if_pos rfl, if_pos rfl, if_pos hi]; rfl
  · rw [if_neg e, if_neg e, ← List.getD_eq_getElem?_getD]
theorem getD_off {α : Type} (l : List α) (j : Nat) (d : α) (h : l.length ≤ j) : l.getD j d = d := by
  rw [List.getD_eq_getElem?_getD, List.getElem?_eq_none h]; rfl
theorem ext_getD {α : Type} (l m : List α) (d : α) (h : l.length = m.length) (he : ∀ j, j < l.length → l.getD j d = m.getD j d) : l = m := by
  apply List.ext_getElem h
  intro j h1 h2
  have := he j h1
  rw [List.getD_eq_getElem?_getD, List.getD_eq_getElem?_getD, List.getElem?_eq_getElem h1, List.getElem?_eq_getElem h2] at this
  exact this
theorem gn_lt {x : Ru} {bs : List Nat} {T : List Bool} {i : Nat} (h : gn x bs T i = true) : i < T.length ∧ T.getD i false = true := by
  unfold gn at h
  rw [Bool.and_eq_true] at h
  refine ⟨Nat.lt_of_not_le fun hle => ?_, h.1⟩
  rw [getD_off T i false hle] at h
  cases h.1
theorem lfK_at (x : Ru) (bs : List Nat) (T : List Bool) (j : Nat) : ∀ k, (lfK x bs T k).getD j false = (T.getD j false && !(decide (j < k) && gn x bs T j))
  | 0 => by simp [lfK]
  | k + 1 => by
    have ih := lfK_at x bs T j k
    rw [lfK_succ]
    by_cases hg : gn x bs T k = true
    · rw [if_pos hg, getD_set_b _ _ _ _ (by rw [lfK_len]; exact (gn_lt hg).1), ih]
      by_cases e : k = j
      · subst e; rw [if_pos rfl, hg]; simp
      · rw [if_neg e]
        have : decide (j < k + 1) = decide (j < k) := by rw [decide_eq_decide]; omega
        rw [this]
    · rw [if_neg hg, ih]
      by_cases e : k = j
      · subst e
        rw [Bool.not_eq_true] at hg
        rw [hg]; simp
      · have : decide (j < k + 1) = decide (j < k) := by rw [decide_eq_decide]; omega
        rw [this]
theorem rnK_at (x : Ru) (bs : List Nat) (T : List Bool) (v : Int) (R : List Int) (hR : R.length = T.length) (j : Nat) : ∀ k, (rnK x bs T v R k).getD j 0 = if j < k ∧ gn x bs T j = true then v else R.getD j 0
  | 0 => by simp [rnK]
  | k + 1 => by
    have ih := rnK_at x bs T v R hR j k
    rw [rnK_succ]
    by_cases hg : gn x bs T k = true
    · rw [if_pos hg, getD_set_i _ _ _ _ (by rw [rnK_len, hR]; exact (gn_lt hg).1), ih]
      by_cases e : k = j
      · subst e; rw [if_pos rfl, if_pos ⟨by omega, hg⟩]
      · rw [if_neg e]
        have : (j < k + 1) = (j < k) := propext (by omega)
        simp only [this]
    · rw [if_neg hg, ih]
      by_cases e : k = j
      · subst e; rw [if_neg (fun h => hg h.2), if_neg (fun h => hg h.2)]
      · have : (j < k + 1) = (j < k) := propext (by omega)
        simp only [this]

/-- The indices that a rule removes, of the first k. -/
def gnL (x : Ru) (bs : List Nat) (T : List Bool) (k : Nat) : List Nat := (List.range k).filter (gn x bs T)
theorem gnL_yes {x : Ru} {bs : List Nat} {T : List Bool} {k : Nat} (h : gn x bs T k = true) : gnL x bs T (k + 1) = gnL x bs T k ++ [k] := by simp [gnL, List.range_succ, h]
theorem gnL_no {x : Ru} {bs : List Nat} {T : List Bool} {k : Nat} (h : gn x bs T k = false) : gnL x bs T (k + 1) = gnL x bs T k := by simp [gnL, List.range_succ, h]
def toI (l : List Nat) : List Int := l.map fun i : Nat => (i : Int)

theorem off_at : ∀ (il : List Nat) (ms : List Bool) (j : Nat), (∀ i ∈ il, i < ms.length) → (il.foldl (fun m i => m.set i false) ms).getD j false = (ms.getD j false && !il.contains j)
  | [], ms, j, _ => by simp
  | i :: il, ms, j, h => by
    rw [List.foldl_cons, off_at il _ j (fun k hk => by rw [List.length_set]; exact h k (List.mem_cons_of_mem _ hk)), getD_set_b _ _ _ _ (h i List.mem_cons_self)]
    by_cases e : i = j
    · subst e; rw [if_pos rfl]; simp
    · have e' : (j == i) = false := by simpa using fun h => e h.symm
      rw [if_neg e, List.contains_cons, e', Bool.false_or]
theorem rs_at : ∀ (il : List Nat) (R : List Int) (v : Int) (j : Nat), (∀ i ∈ il, i < R.length) → (il.foldl (fun r i => r.set i v) R).getD j 0 = if j ∈ il then v else R.getD j 0
  | [], R, v, j, _ => by simp
  | i :: il, R, v, j, h => by
    rw [List.foldl_cons, rs_at il _ v j (fun k hk => by rw [List.length_set]; exact h k (List.mem_cons_of_mem _ hk)), getD_set_i _ _ _ _ (h i List.mem_cons_self)]
    by_cases e : i = j
    · subst e; simp
    · have e' : ¬ j = i := fun h => e h.symm
      simp [e, e']
theorem foldl_len {α β : Type} (f : List α → β → List α) (hf : ∀ l b, (f l b).length = l.length) : ∀ (il : List β) (l : List α), (il.foldl f l).length = l.length
  | [], _ => rfl
  | b :: il, l => by rw [List.foldl_cons, foldl_len f hf il, hf]

/-- What is left, and the reasons, once all indices that are removed are taken off. -/
theorem off_gn (x : Ru) (bs : List Nat) (T : List Bool) : offK T (gnL x bs T T.length) (gnL x bs T T.length).length = lfK x bs T T.length := by
  have hm : ∀ i ∈ gnL x bs T T.length, i < T.length := fun i hi => (gn_lt (List.mem_filter.1 hi).2).1
  unfold offK
  rw [List.take_length]
  apply ext_getD _ _ false
  · rw [foldl_len _ (fun l b => by simp), lfK_len]
  · intro j hj
    rw [off_at _ _ _ hm, lfK_at]
    congr 2
    rw [Bool.eq_iff_iff, List.contains_iff_mem, Bool.and_eq_true, decide_eq_true_eq]
    unfold gnL
    rw [List.mem_filter, List.mem_range]
theorem rs_gn (x : Ru) (bs : List Nat) (T : List Bool) (v : Int) (R : List Int) (hR : R.length = T.length) : rsK R (gnL x bs T T.length) v (gnL x bs T T.length).length = rnK x bs T v R T.length := by
  have hm : ∀ i ∈ gnL x bs T T.length, i < R.length := fun i hi => by rw [hR]; exact (gn_lt (List.mem_filter.1 hi).2).1
  unfold rsK
  rw [List.take_length]
  apply ext_getD _ _ 0
  · rw [foldl_len _ (fun l b => by simp), rnK_len]
  · intro j hj
    rw [rs_at _ _ _ _ hm, rnK_at _ _ _ _ _ hR]
    have : (j ∈ gnL x bs T T.length) = (j < T.length ∧ gn x bs T j = true) := by
      unfold gnL
      rw [List.mem_filter, List.mem_range]
    simp only [this]

/-- How many levels before an index are there and equal to it, one before the other. -/
def eqn (bs : List Nat) (T : List Bool) : Nat → Int
  | 0 => 0
  | i + 1 => if (T.getD i false && feqL (bs.getD (i + 1) 0) (bs.getD i 0)) = true then eqn bs T i + 1 else 0
theorem eqn_succ (bs : List Nat) (T : List Bool) (i : Nat) : eqn bs T (i + 1) = if (T.getD i false && feqL (bs.getD (i + 1) 0) (bs.getD i 0)) = true then eqn bs T i + 1 else 0 := rfl
theorem eqn_pos (bs : List Nat) (T : List Bool) : ∀ i, 0 ≤ eqn bs T i
  | 0 => Int.le_refl _
  | i + 1 => by
    have := eqn_pos bs T i
    unfold eqn; split <;> omega
theorem eqn_iff (bs : List Nat) (T : List Bool) (hf : ∀ i, i < bs.length → finB (bs.getD i 0) = true) : ∀ i, i < bs.length → T.getD i false = true → ∀ m : Nat, (m : Int) ≤ eqn bs T i ↔ m ≤ i ∧ ∀ k, i - m ≤ k → k ≤ i → T.getD k false = true ∧ num (bs.getD k 0) = num (bs.getD i 0)
  | 0, hi, hT, m => by
    unfold eqn
    constructor
    · intro h
      exact ⟨by omega, fun k _ hk => by
        have : k = 0 := by omega
        subst this; exact ⟨hT, rfl⟩⟩
    · rintro ⟨h, -⟩; omega
  | i + 1, hi, hT, m => by
    unfold eqn
    by_cases h : (T.getD i false && feqL (bs.getD (i + 1) 0) (bs.getD i 0)) = true
    · rw [if_pos h]
      rw [Bool.and_eq_true] at h
      obtain ⟨hTi, he⟩ := h
      rw [feq_num (hf _ hi) (hf _ (by omega)), decide_eq_true_eq] at he
      have ih := eqn_iff bs T hf i (by omega) hTi
      match m with
      | 0 =>
        have := eqn_pos bs T i
        exact ⟨fun _ => ⟨by omega, fun k h1 h2 => by
          have : k = i + 1 := by omega
          subst this; exact ⟨hT, rfl⟩⟩, fun _ => by omega⟩
      | m + 1 =>
        have ihm := ih m
        constructor
        · intro hle
          obtain ⟨g1, g2⟩ := ihm.1 (by omega)
          refine ⟨by omega, fun k h1 h2 => ?_⟩
          by_cases e : k = i + 1
          · subst e; exact ⟨hT, rfl⟩
          · obtain ⟨g3, g4⟩ := g2 k (by omega) (by omega)
            exact ⟨g3, by rw [g4, he]⟩
        · rintro ⟨g1, g2⟩
          have := ihm.2 ⟨by omega, fun k h1 h2 => by
            obtain ⟨g3, g4⟩ := g2 k (by omega) (by omega)
            exact ⟨g3, by rw [g4, he]⟩⟩
          omega
    · rw [if_neg h]
      constructor
      · intro hm
        exact ⟨by omega, fun k h1 h2 => by
          have : k = i + 1 := by omega
          subst this; exact ⟨hT, rfl⟩⟩
      · rintro ⟨g1, g2⟩
        match m with
        | 0 => omega
        | m + 1 =>
          obtain ⟨g3, g4⟩ := g2 i (by omega) (by omega)
          refine absurd ?_ h
          rw [Bool.and_eq_true]
          exact ⟨g3, by rw [feq_num (hf _ hi) (hf _ (by omega)), decide_eq_true_eq]; exact g4.symm⟩
end Go.Proofs.YtkgkpcmokmhakaaGreatDoor

namespace Go.Proofs.YtkgkpcmokmhakaaGreatDoor
open Go.RowKit

theorem asmK_at (bs : List Nat) (T : List Bool) (j : Nat) (hj : j < bs.length) : (asmK bs T bs.length).getD j 0 = if T.getD j false = true then bs.getD j 0 else 0 := by
  unfold asmK
  rw [List.getD_eq_getElem?_getD, List.getElem?_map, List.getElem?_range hj]
  simp only [Option.map_some, Option.getD_some]
  cases T.getD j false <;> simp [hj]
theorem not_getD (T : List Bool) (j : Nat) (h : j < T.length) : (T.map (!·)).getD j false = !T.getD j false := by simp [h]
theorem cov_str (T : List Bool) (i : Nat) (h : i < T.length) : cov (strF (T.map (!·)) T.length) (i : Int) = !T.getD i false := by
  obtain ⟨h1, -, h3⟩ := str_can (T.map (!·)) T.length
  rw [cov_has _ _ h1, h3]
  have e : ((i : Int)).toNat = i := by omega
  have a1 : (0 : Int) ≤ (i : Int) := by omega
  have a2 : (i : Int) < (T.length : Int) := by omega
  rw [e, not_getD T i h, decide_eq_true a1, decide_eq_true a2]
  simp

section
variable {x : Ru} {bs : List Nat} {T : List Bool}

theorem it_at (hn : bs.length ≤ 100000) (hok : ∀ j, j < bs.length → levOK (bs.getD j 0) = true) (k : Nat) (hk : k < bs.length) (h : T.getD k false = true) : (fLv (asmK bs T bs.length) k).1 = (k, bs.getD k 0) := by
  have hl := asmK_len bs T bs.length
  rw [fLv_at (asmK bs T bs.length) (by rw [hl]; exact hn) (by rw [hl]; exact asmK_ok bs T bs.length hok) k (by rw [hl]; exact hk)]
  rw [← List.getD_eq_getElem?_getD, asmK_at bs T k hk, if_pos h]

theorem gn_off {k : Nat} (h : T.getD k false = false) : gn x bs T k = false := by unfold gn; rw [h]; rfl

theorem sel_gn (hT : T.length = bs.length) (hn : bs.length ≤ 100000) (hok : ∀ j, j < bs.length → levOK (bs.getD j 0) = true) (hx : (x.1 == sRange) = true) : ∀ k, k ≤ bs.length →
    sel (outP x.2.1 x.2.2) (itm (strF (T.map (!·)) T.length) (fLv (asmK bs T bs.length)) k) = toI (gnL x bs T k)
  | 0, _ => rfl
  | k + 1, hk => by
    have ih := sel_gn hT hn hok hx k (by omega)
    have hc := cov_str T k (by omega)
    cases h : T.getD k false
    · rw [h] at hc
      rw [itm_no _ _ k (by rw [hc]; rfl), gnL_no (gn_off h), ih]
    · rw [h] at hc
      have hat := it_at hn hok k (by omega) h
      have hg : gn x bs T k = outP x.2.1 x.2.2 (fLv (asmK bs T bs.length) k) := by
        unfold gn rmB outP
        rw [h, hx, hat]; rfl
      rw [itm_yes _ _ k (by rw [hc]; rfl)]
      cases hp : outP x.2.1 x.2.2 (fLv (asmK bs T bs.length) k)
      · rw [sel_no _ hp, gnL_no (by rw [hg, hp]), ih]
      · rw [sel_yes _ hp, gnL_yes (by rw [hg, hp]), ih, hat]
        simp [toI]

theorem jf_gn (hT : T.length = bs.length) (hn : bs.length ≤ 100000) (hok : ∀ j, j < bs.length → levOK (bs.getD j 0) = true) (hx1 : (x.1 == sRange) = false) (hx : (x.1 == sJump) = true) : ∀ k, k ≤ bs.length →
    (jf x.2.1 (itm (strF (T.map (!·)) T.length) (fLv (asmK bs T bs.length)) k)).2.2 = toI (gnL x bs T k) ∧
    if 0 < k ∧ (lfK x bs T k).getD (k - 1) false = true then (jf x.2.1 (itm (strF (T.map (!·)) T.length) (fLv (asmK bs T bs.length)) k)).1 = (k : Int) ∧ (jf x.2.1 (itm (strF (T.map (!·)) T.length) (fLv (asmK bs T bs.length)) k)).2.1 = bs.getD (k - 1) 0
      else (jf x.2.1 (itm (strF (T.map (!·)) T.length) (fLv (asmK bs T bs.length)) k)).1 < (k : Int)
  | 0, _ => ⟨rfl, by rw [if_neg (fun h => by omega)]; show (-1 : Int) < ((0 : Nat) : Int); omega⟩
  | k + 1, hk => by
    obtain ⟨ih1, ih2⟩ := jf_gn hT hn hok hx1 hx k (by omega)
    have hc := cov_str T k (by omega)
    have hlk := lfK_at x bs T k (k + 1)
    rw [show decide (k < k + 1) = true by simp, Bool.true_and] at hlk
    have e1 : k + 1 - 1 = k := by omega
    cases h : T.getD k false
    · rw [h] at hc hlk
      rw [itm_no _ _ k (by rw [hc]; rfl), gnL_no (gn_off h)]
      refine ⟨ih1, ?_⟩
      rw [e1, hlk, if_neg (by simp)]
      split at ih2 <;> omega
    · rw [h] at hc hlk
      have hat := it_at hn hok k (by omega) h
      rw [itm_yes _ _ k (by rw [hc]; rfl), jf_snoc]
      generalize jf x.2.1 (itm (strF (T.map (!·)) T.length) (fLv (asmK bs T bs.length)) k) = s at ih1 ih2 ⊢
      have hg : gn x bs T k = (decide ((k : Int) = s.1) && decide (x.2.1 < max (s16 (bs.getD k 0) - s16 s.2.1) (s16 s.2.1 - s16 (bs.getD k 0)))) := by
        unfold gn rmB dst
        rw [h, hx1, hx]
        simp only [cond_false, cond_true, Bool.true_and]
        split at ih2
        · rename_i hP
          rw [ih2.1, ih2.2, hP.2, decide_eq_true hP.1]
          simp
        · rename_i hP
          have : ¬ (k : Int) = s.1 := by omega
          rw [decide_eq_false this, Bool.false_and]
          by_cases h0 : 0 < k
          · have : (lfK x bs T k).getD (k - 1) false = false := by
              cases hh : (lfK x bs T k).getD (k - 1) false
              · rfl
              · exact absurd ⟨h0, hh⟩ hP
            rw [this]; simp
          · rw [decide_eq_false h0]; simp
      unfold jstep
      rw [hat]
      simp only
      cases hgk : gn x bs T k
      · rw [hgk] at hg hlk
        rw [← hg, if_neg (by simp), gnL_no hgk]
        refine ⟨ih1, ?_⟩
        rw [e1, hlk, if_pos ⟨by omega, rfl⟩]
        exact ⟨by push_cast; rfl, rfl⟩
      · rw [hgk] at hg hlk
        rw [← hg, if_pos rfl, gnL_yes hgk]
        refine ⟨by simp only [ih1]; simp [toI], ?_⟩
        rw [e1, hlk, if_neg (by simp)]
        simp only
        split at ih2 <;> omega

theorem sf_gn (hT : T.length = bs.length) (hn : bs.length ≤ 100000) (hok : ∀ j, j < bs.length → levOK (bs.getD j 0) = true) (hf : ∀ i, i < bs.length → finB (bs.getD i 0) = true) (hx1 : (x.1 == sRange) = false) (hx2 : (x.1 == sJump) = false) (hA : 1 ≤ x.2.1) : ∀ k, k ≤ bs.length →
    (sf x.2.1 (itm (strF (T.map (!·)) T.length) (fLv (asmK bs T bs.length)) k)).2.2.2 = toI (gnL x bs T k) ∧
    if 0 < k ∧ T.getD (k - 1) false = true then (sf x.2.1 (itm (strF (T.map (!·)) T.length) (fLv (asmK bs T bs.length)) k)).1 = (k : Int) ∧ (sf x.2.1 (itm (strF (T.map (!·)) T.length) (fLv (asmK bs T bs.length)) k)).2.1 = bs.getD (k - 1) 0 ∧ (sf x.2.1 (itm (strF (T.map (!·)) T.length) (fLv (asmK bs T bs.length)) k)).2.2.1 = eqn bs T (k - 1)
      else (sf x.2.1 (itm (strF (T.map (!·)) T.length) (fLv (asmK bs T bs.length)) k)).1 < (k : Int)
  | 0, _ => ⟨rfl, by rw [if_neg (fun h => by omega)]; show (-1 : Int) < ((0 : Nat) : Int); omega⟩
  | k + 1, hk => by
    obtain ⟨ih1, ih2⟩ := sf_gn hT hn hok hf hx1 hx2 hA k (by omega)
    have hc := cov_str T k (by omega)
    have e1 : k + 1 - 1 = k := by omega
    cases h : T.getD k false
    · rw [h] at hc
      rw [itm_no _ _ k (by rw [hc]; rfl), gnL_no (gn_off h)]
      refine ⟨ih1, ?_⟩
      rw [e1, h, if_neg (by simp)]
      split at ih2 <;> omega
    · rw [h] at hc
      have hat := it_at hn hok k (by omega) h
      rw [itm_yes _ _ k (by rw [hc]; rfl), sf_snoc]
      generalize sf x.2.1 (itm (strF (T.map (!·)) T.length) (fLv (asmK bs T bs.length)) k) = s at ih1 ih2 ⊢
      have hq : seq' s (fLv (asmK bs T bs.length) k) = eqn bs T k := by
        unfold seq'
        rw [hat]
        simp only
        split at ih2
        · rename_i hP
          obtain ⟨g1, g2, g3⟩ := ih2
          obtain ⟨j, rfl⟩ : ∃ j, k = j + 1 := ⟨k - 1, by omega⟩
          rw [g1, g2, g3]
          have e2 : j + 1 - 1 = j := by omega
          rw [e2] at hP ⊢
          rw [eqn_succ, hP.2]
          unfold feq feqL
          simp
        · rename_i hP
          have : ¬ (k : Int) = s.1 := by omega
          rw [decide_eq_false this, Bool.false_and, if_neg (by simp)]
          match k, h, hP with
          | 0, _, _ => rfl
          | j + 1, _, hP =>
            have e2 : j + 1 - 1 = j := by omega
            rw [e2] at hP
            have : T.getD j false = false := by
              cases hh : T.getD j false
              · rfl
              · exact absurd ⟨by omega, hh⟩ hP
            rw [eqn_succ, this]; simp
      have hg : gn x bs T k = decide (x.2.1 ≤ eqn bs T k) := by
        have hm := eqn_iff bs T hf k (by omega) h x.2.1.toNat
        rw [show ((x.2.1.toNat : Nat) : Int) = x.2.1 by omega] at hm
        unfold gn rmB
        rw [h, hx1, hx2, Bool.eq_iff_iff]
        simp only [cond_false, Bool.true_and]
        rw [Bool.and_eq_true, decide_eq_true_eq, decide_eq_true_eq, List.all_eq_true, hm]
        constructor
        · rintro ⟨g1, g2⟩
          refine ⟨by omega, fun j h1 h2 => ?_⟩
          have := g2 j (by simp; omega)
          rw [Bool.or_eq_true, decide_eq_true_eq, Bool.and_eq_true] at this
          rcases this with h3 | ⟨h3, h4⟩
          · omega
          · rw [feq_num (hf _ (by omega)) (hf _ (by omega)), decide_eq_true_eq] at h4
            exact ⟨h3, h4⟩
        · rintro ⟨g1, g2⟩
          refine ⟨by omega, fun j hj => ?_⟩
          have hj : j < k + 1 := by simpa using hj
          rw [Bool.or_eq_true, decide_eq_true_eq, Bool.and_eq_true]
          by_cases h3 : (j : Int) < (k : Int) - x.2.1
          · exact .inl h3
          · obtain ⟨h4, h5⟩ := g2 j (by omega) (by omega)
            exact .inr ⟨h4, by rw [feq_num (hf _ (by omega)) (hf _ (by omega)), decide_eq_true_eq]; exact h5⟩
      unfold sstep
      simp only
      rw [hq, hat]
      refine ⟨?_, ?_⟩
      · by_cases hl : x.2.1 ≤ eqn bs T k
        · rw [if_pos hl, gnL_yes (by rw [hg]; exact decide_eq_true hl), ih1]
          simp [toI]
        · rw [if_neg hl, gnL_no (by rw [hg]; exact decide_eq_false hl), ih1]
      · rw [e1, if_pos ⟨by omega, h⟩]
        exact ⟨by push_cast; rfl, rfl, rfl⟩

/-- What a valid rule removes of what is left of a record. -/
theorem rem_is (hT : T.length = bs.length) (hn : bs.length ≤ 100000) (hok : ∀ j, j < bs.length → levOK (bs.getD j 0) = true) (hf : ∀ i, i < bs.length → finB (bs.getD i 0) = true) (hx : chkRule x.1 x.2.1 x.2.2 = 0) :
    remN x (asmK bs T bs.length) (strF (T.map (!·)) T.length) = gnL x bs T T.length := by
  have hl := asmK_len bs T bs.length
  have key : remv x (asmK bs T bs.length) (strF (T.map (!·)) T.length) = toI (gnL x bs T T.length) := by
    unfold remv
    rw [hl]
    unfold chkRule at hx
    cases h1 : x.1 == sRange
    · rw [h1] at hx
      cases h2 : x.1 == sJump
      · rw [h2] at hx
        cases h3 : x.1 == sStuck
        · rw [h3] at hx; cases hx
        · rw [h3] at hx
          simp only [cond_false, cond_true] at hx ⊢
          have hA : 1 ≤ x.2.1 := by
            have h4 := fst0_zero _ hx 0
            simp only [List.getD_cons_zero] at h4
            unfold rng at h4
            split at h4
            · omega
            · cases h4
          rw [hT]
          have := (sf_gn (x := x) hT hn hok hf h1 h2 hA bs.length (Nat.le_refl _)).1
          rwa [hT] at this
      · simp only [cond_false, cond_true]
        rw [hT]
        have := (jf_gn (x := x) hT hn hok h1 h2 bs.length (Nat.le_refl _)).1
        rwa [hT] at this
    · simp only [cond_true]
      rw [hT]
      have := sel_gn (x := x) hT hn hok h1 bs.length (Nat.le_refl _)
      rwa [hT] at this
  unfold remN
  rw [key]
  unfold toI
  rw [List.map_map]
  conv => rhs; rw [← List.map_id (gnL x bs T T.length)]
  apply List.map_congr_left
  intro i _
  simp
end

/-- What is left, and the reasons, behind so many rules. -/
def rsF (bs : List Nat) (gs : List (Int × Int)) (l : List Ru) : Nat → List Bool × List Int
  | 0 => ((List.range bs.length).map (fun i : Nat => !hasL gs (i : Int)), List.replicate bs.length 0)
  | k + 1 => (lfK (l.getD k ru0) bs (rsF bs gs l k).1 bs.length, rnK (l.getD k ru0) bs (rsF bs gs l k).1 ((k : Int) + 1) (rsF bs gs l k).2 bs.length)
theorem rsF_len (bs : List Nat) (gs : List (Int × Int)) (l : List Ru) : ∀ k, (rsF bs gs l k).1.length = bs.length ∧ (rsF bs gs l k).2.length = bs.length
  | 0 => by simp [rsF]
  | k + 1 => by
    obtain ⟨h1, h2⟩ := rsF_len bs gs l k
    exact ⟨by rw [rsF]; simp only; rw [lfK_len, h1], by rw [rsF]; simp only; rw [rnK_len, h2]⟩
theorem misK_not (T : List Bool) (n : Nat) (h : T.length = n) : misK T n n = T.map (!·) := by
  apply ext_getD _ _ false
  · rw [misK_len, List.length_map, h]
  · intro j hj
    rw [misK_len] at hj
    rw [not_getD T j (by omega)]
    simp [misK, hj]
theorem knL_str (T : List Bool) : knL (strF (T.map (!·)) T.length) T.length = T := by
  apply ext_getD _ _ false
  · rw [knL_len]
  · intro j hj
    rw [knL_len] at hj
    rw [knL_at _ _ j hj, cov_str T j hj, Bool.not_not]
theorem asm_asm (bs : List Nat) (T T' : List Bool) (h : ∀ j, j < bs.length → T'.getD j false = true → T.getD j false = true) : asmK (asmK bs T bs.length) T' bs.length = asmK bs T' bs.length := by
  apply ext_getD _ _ 0
  · rw [asmK_len, asmK_len, asmK_len]
  · intro j hj
    rw [asmK_len, asmK_len] at hj
    have e := asmK_at (asmK bs T bs.length) T' j (by rw [asmK_len]; exact hj)
    rw [asmK_len] at e
    rw [e, asmK_at bs T' j hj]
    by_cases h' : T'.getD j false = true
    · rw [if_pos h', if_pos h', asmK_at bs T j hj, if_pos (h j hj h')]
    · rw [if_neg h', if_neg h']

/-- What the project has behind so many valid rules is what the reference has. -/
theorem apF_is (bs : List Nat) (gs : List (Int × Int)) (l : List Ru) (hC : Can gs) (hn : bs.length ≤ 100000) (hl : ∀ i, i < bs.length → chkLev (bs.getD i 0) = 0) (hr : ∀ j, j < l.length → chkRule (l.getD j ru0).1 (l.getD j ru0).2.1 (l.getD j ru0).2.2 = 0) : ∀ k, k ≤ l.length →
    apF bs gs l k = (asmK bs (rsF bs gs l k).1 bs.length, strF ((rsF bs gs l k).1.map (!·)) bs.length, (rsF bs gs l k).2)
  | 0, _ => by
    have e : wout bs gs [] = (rsF bs gs l 0).1 := by
      unfold wout offK rsF knL
      simp only [List.take_nil, List.foldl_nil]
      apply List.map_congr_left
      intro i _
      rw [cov_has gs i hC]
    have e2 := (rsF_len bs gs l 0).1
    unfold apF woB woG
    rw [e, misK_not _ _ e2]
    rfl
  | k + 1, hk => by
    have ih := apF_is bs gs l hC hn hl hr k (by omega)
    obtain ⟨e1, e2⟩ := rsF_len bs gs l k
    have hok : ∀ j, j < bs.length → levOK (bs.getD j 0) = true := fun j hj => by rw [levOK_iff]; simpa using hl j hj
    have hrem := rem_is (x := l.getD k ru0) (T := (rsF bs gs l k).1) e1 hn hok (fun i hi => fin_lev (hl i hi)) (hr k (by omega))
    rw [e1] at hrem
    have hw : wout (asmK bs (rsF bs gs l k).1 bs.length) (strF ((rsF bs gs l k).1.map (!·)) bs.length) (gnL (l.getD k ru0) bs (rsF bs gs l k).1 bs.length) = lfK (l.getD k ru0) bs (rsF bs gs l k).1 bs.length := by
      unfold wout
      rw [asmK_len]
      have h1 := knL_str (rsF bs gs l k).1
      rw [e1] at h1
      have h2 := off_gn (l.getD k ru0) bs (rsF bs gs l k).1
      rw [e1] at h2
      rw [h1, h2]
    have hT' : (lfK (l.getD k ru0) bs (rsF bs gs l k).1 bs.length).length = bs.length := by rw [lfK_len, e1]
    rw [apF]
    rw [ih]
    simp only
    rw [hrem]
    unfold woB woG
    rw [hw, asmK_len, misK_not _ _ hT', asm_asm bs _ _ (fun j hj h => by rw [lfK_at, Bool.and_eq_true] at h; exact h.1)]
    have h3 := rs_gn (l.getD k ru0) bs (rsF bs gs l k).1 ((k : Int) + 1) (rsF bs gs l k).2 (by rw [e2, e1])
    rw [e1] at h3
    rw [h3]
    rfl

end Go.Proofs.YtkgkpcmokmhakaaGreatDoor

namespace Go.Proofs.YtkgkpcmokmhakaaGreatDoor
open Go.RowKit
attribute [local go_sem] Oper.semAt_some

section
variable {w W1 V : World} {REC Z : Array Value} {nm : ByteArray} {st : Int} {R L : Nat} {gv : Value} {n : Nat} {ls : List Nat} {G : List (Int × Int)}
end

end Go.Proofs.YtkgkpcmokmhakaaGreatDoor

namespace Go.Proofs.YtkgkpcmokmhakaaGreatDoor
open Go.RowKit

/-- That a rule finds nothing to remove, of those that are there. -/
def Calm (x : Ru) (bs : List Nat) (T : List Bool) : Prop := ∀ i, T.getD i false = true → rmB x bs T T i = false
/-- All that is in one list of marks is in another one. -/
def Sub (T' T : List Bool) : Prop := ∀ i, T'.getD i false = true → T.getD i false = true
theorem Sub.refl (T : List Bool) : Sub T T := fun _ h => h
theorem Sub.trans {T T' T'' : List Bool} (h : Sub T T') (h' : Sub T' T'') : Sub T T'' := fun i hi => h' i (h i hi)

theorem rm_mono {x : Ru} {bs : List Nat} {T T' : List Bool} (hs : Sub T' T) (i : Nat) (h : rmB x bs T' T' i = true) : rmB x bs T T i = true := by
  unfold rmB at h ⊢
  cases h1 : x.1 == sRange
  · rw [h1] at h
    simp only [cond_false] at h ⊢
    cases h2 : x.1 == sJump
    · rw [h2] at h
      simp only [cond_false, Bool.and_eq_true, List.all_eq_true] at h ⊢
      refine ⟨h.1, fun k hk => ?_⟩
      have := h.2 k hk
      rw [Bool.or_eq_true] at this ⊢
      rcases this with h3 | h3
      · exact .inl h3
      · rw [Bool.and_eq_true] at h3 ⊢
        exact .inr ⟨hs k h3.1, h3.2⟩
    · rw [h2] at h
      simp only [cond_true, Bool.and_eq_true] at h ⊢
      exact ⟨⟨h.1.1, hs _ h.1.2⟩, h.2⟩
  · rw [h1] at h
    exact h
theorem Calm.sub {x : Ru} {bs : List Nat} {T T' : List Bool} (h : Calm x bs T) (hs : Sub T' T) : Calm x bs T' := fun i hi => by
  cases hr : rmB x bs T' T' i
  · rfl
  · have h1 := h i (hs i hi)
    rw [rm_mono hs i hr] at h1
    cases h1
theorem lf_sub (x : Ru) (bs : List Nat) (T : List Bool) (k : Nat) : Sub (lfK x bs T k) T := fun j h => by
  rw [lfK_at] at h
  rw [Bool.and_eq_true] at h
  exact h.1
/-- What a rule has left is calm. -/
theorem lf_calm (x : Ru) (bs : List Nat) (T : List Bool) (n : Nat) (hn : T.length = n) : Calm x bs (lfK x bs T n) := by
  intro i hi
  have hl := hi
  rw [lfK_at, Bool.and_eq_true] at hl
  obtain ⟨hT, hg⟩ := hl
  have hin : i < n := by
    rw [← hn]
    rcases Nat.lt_or_ge i T.length with h | h
    · exact h
    · rw [getD_off T i false h] at hT; cases hT
  have hgn : gn x bs T i = false := by
    cases h : gn x bs T i
    · rfl
    · rw [h] at hg; simp [hin] at hg
  unfold gn at hgn
  rw [hT, Bool.true_and] at hgn
  cases hr : rmB x bs (lfK x bs T n) (lfK x bs T n) i
  · rfl
  · exfalso
    have : rmB x bs T (lfK x bs T i) i = true := by
      unfold rmB at hr ⊢
      cases h1 : x.1 == sRange
      · rw [h1] at hr
        simp only [cond_false] at hr ⊢
        cases h2 : x.1 == sJump
        · rw [h2] at hr
          simp only [cond_false, Bool.and_eq_true, List.all_eq_true] at hr ⊢
          refine ⟨hr.1, fun k hk => ?_⟩
          have := hr.2 k hk
          rw [Bool.or_eq_true] at this ⊢
          rcases this with h3 | h3
          · exact .inl h3
          · rw [Bool.and_eq_true] at h3 ⊢
            exact .inr ⟨lf_sub x bs T n k h3.1, h3.2⟩
        · rw [h2] at hr
          simp only [cond_true, Bool.and_eq_true, decide_eq_true_eq] at hr ⊢
          refine ⟨⟨hr.1.1, ?_⟩, hr.2⟩
          have h3 := hr.1.2
          have h0 := hr.1.1
          rw [lfK_at, Bool.and_eq_true] at h3 ⊢
          refine ⟨h3.1, ?_⟩
          have h4 := h3.2
          have e1 : decide (i - 1 < n) = true := by simp; omega
          have e2 : decide (i - 1 < i) = true := by simp; omega
          rw [e1] at h4
          rw [e2]
          exact h4
      · rw [h1] at hr
        exact hr
    rw [this] at hgn
    cases hgn
/-- A calm rule removes nothing. -/
theorem calm_lf {x : Ru} {bs : List Nat} {T : List Bool} (h : Calm x bs T) : ∀ k, lfK x bs T k = T
  | 0 => rfl
  | k + 1 => by
    rw [lfK_succ, calm_lf h k, if_neg]
    unfold gn
    rw [calm_lf h k]
    cases hT : T.getD k false
    · simp
    · rw [h k hT]; simp
theorem calm_gn {x : Ru} {bs : List Nat} {T : List Bool} (h : Calm x bs T) (k : Nat) : gn x bs T k = false := by
  unfold gn
  rw [calm_lf h k]
  cases hT : T.getD k false
  · rfl
  · rw [h k hT]; rfl
theorem calm_rn {x : Ru} {bs : List Nat} {T : List Bool} (h : Calm x bs T) (v : Int) (R : List Int) : ∀ k, rnK x bs T v R k = R
  | 0 => rfl
  | k + 1 => by rw [rnK_succ, calm_gn h k, calm_rn h v R k]; simp
section
variable (bs : List Nat) (gs : List (Int × Int)) (l : List Ru)
theorem rs_sub : ∀ k m, k ≤ m → Sub (rsF bs gs l m).1 (rsF bs gs l k).1
  | k, 0, h => by rw [Nat.le_zero.1 h]; exact Sub.refl _
  | k, m + 1, h => by
    by_cases e : k = m + 1
    · rw [e]; exact Sub.refl _
    · exact (lf_sub (l.getD m ru0) bs (rsF bs gs l m).1 bs.length).trans (rs_sub k m (by omega))
/-- Behind all rules each of them is calm. -/
theorem rs_calm (k m : Nat) (h : k < m) : Calm (l.getD k ru0) bs (rsF bs gs l m).1 :=
  (lf_calm (l.getD k ru0) bs (rsF bs gs l k).1 bs.length (rsF_len bs gs l k).1).sub (rs_sub bs gs l (k + 1) m h)
/-- The reasons behind so many rules: whose they are, and that they are just of what has been removed. -/
theorem rs_reason : ∀ k j, j < bs.length → 0 ≤ (rsF bs gs l k).2.getD j 0 ∧ (rsF bs gs l k).2.getD j 0 ≤ (k : Int) ∧ (rsF bs gs l k).1.getD j false = (!hasL gs (j : Int) && decide ((rsF bs gs l k).2.getD j 0 = 0)) ∧ (0 < (rsF bs gs l k).2.getD j 0 → hasL gs (j : Int) = false)
  | 0, j, hj => by
    have e1 : (rsF bs gs l 0).2.getD j 0 = 0 := by simp [rsF, hj]
    have e2 : (rsF bs gs l 0).1.getD j false = !hasL gs (j : Int) := by simp [rsF, hj]
    rw [e1, e2]
    simp
  | k + 1, j, hj => by
    obtain ⟨h1, h2, h3, h4⟩ := rs_reason k j hj
    have e1 := rnK_at (l.getD k ru0) bs (rsF bs gs l k).1 ((k : Int) + 1) (rsF bs gs l k).2 (by rw [(rsF_len bs gs l k).1, (rsF_len bs gs l k).2]) j bs.length
    have e2 := lfK_at (l.getD k ru0) bs (rsF bs gs l k).1 j bs.length
    have g1 : (rsF bs gs l (k + 1)).2.getD j 0 = _ := e1
    have g2 : (rsF bs gs l (k + 1)).1.getD j false = _ := e2
    rw [g1, g2]
    cases hg : gn (l.getD k ru0) bs (rsF bs gs l k).1 j
    · rw [if_neg (fun h => absurd h.2 (by decide))]
      simp only [Bool.and_false, Bool.not_false, Bool.and_true]
      exact ⟨h1, by omega, h3, h4⟩
    · have hT : (rsF bs gs l k).1.getD j false = true := by unfold gn at hg; rw [Bool.and_eq_true] at hg; exact hg.1
      rw [hT] at h3
      have h5 := h3.symm
      rw [Bool.and_eq_true, decide_eq_true_eq] at h5
      have h6 : hasL gs (j : Int) = false := by simpa using h5.1
      rw [if_pos ⟨hj, rfl⟩]
      refine ⟨by omega, by omega, ?_, fun _ => h6⟩
      rw [h6]
      have h7 : ¬ (k : Int) + 1 = 0 := by omega
      simp [h7, hj]
end
theorem rm_same {x : Ru} {bs bs' : List Nat} {T : List Bool} (he : ∀ j, T.getD j false = true → bs'.getD j 0 = bs.getD j 0) (i : Nat) (hi : T.getD i false = true) : rmB x bs' T T i = rmB x bs T T i := by
  unfold rmB
  rw [he i hi]
  cases h1 : x.1 == sRange
  · simp only [cond_false]
    cases h2 : x.1 == sJump
    · simp only [cond_false]
      congr 1
      rw [Bool.eq_iff_iff, List.all_eq_true, List.all_eq_true]
      constructor
      · intro h k hk
        have := h k hk
        cases hT : T.getD k false
        · rw [hT] at this; exact this
        · rw [hT, he k hT] at this; exact this
      · intro h k hk
        have := h k hk
        cases hT : T.getD k false
        · rw [hT] at this; exact this
        · rw [hT] at this; rw [he k hT]; exact this
    · simp only [cond_true]
      cases hT : T.getD (i - 1) false
      · simp
      · rw [he _ hT]
  · rfl
theorem asm_lev_at (bs : List Nat) (T : List Bool) (hT : T.length = bs.length) (j : Nat) (h : T.getD j false = true) : (asmK bs T bs.length).getD j 0 = bs.getD j 0 := by
  have hj : j < bs.length := by
    rcases Nat.lt_or_ge j T.length with h1 | h1
    · omega
    · rw [getD_off T j false h1] at h; cases h
  rw [asmK_at bs T j hj, if_pos h]
/-- What calm rules find as it is stays as it is, without a reason. -/
theorem rs_still (bs : List Nat) (T : List Bool) (l : List Ru) (hl : T.length = bs.length) (m : Nat) (hc : ∀ k, k < m → Calm (l.getD k ru0) bs T) : ∀ k, k ≤ m →
    rsF (asmK bs T bs.length) (strF (T.map (!·)) bs.length) l k = (T, List.replicate bs.length 0)
  | 0, _ => by
    unfold rsF
    rw [asmK_len]
    refine Prod.ext ?_ rfl
    apply ext_getD _ _ false
    · simp [hl]
    · intro j hj
      have hj : j < bs.length := by simpa using hj
      have h3 := (str_can (T.map (!·)) bs.length).2.2 (j : Int)
      have e1 : decide ((0 : Int) ≤ (j : Int)) = true := by simp
      have e2 : decide ((j : Int) < (bs.length : Int)) = true := by simp; omega
      rw [e1, e2, Int.toNat_natCast, not_getD _ j (by omega)] at h3
      have e4 : ((List.range bs.length).map (fun i : Nat => !hasL (strF (T.map (!·)) bs.length) (i : Int))).getD j false = !hasL (strF (T.map (!·)) bs.length) (j : Int) := by simp [hj]
      show ((List.range bs.length).map (fun i : Nat => !hasL (strF (T.map (!·)) bs.length) (i : Int))).getD j false = _
      rw [e4, h3]
      simp
  | k + 1, hk => by
    have ih := rs_still bs T l hl m hc k (by omega)
    have hc' : Calm (l.getD k ru0) (asmK bs T bs.length) T := fun i hi => by
      rw [rm_same (fun j hj => asm_lev_at bs _ hl j hj) i hi]
      exact hc k (by omega) i hi
    unfold rsF
    rw [ih]
    simp only
    rw [calm_lf hc', calm_rn hc']
/-- What has been cleaned is cleaned again as it is, without a reason. -/
theorem rs_again (bs : List Nat) (gs : List (Int × Int)) (l : List Ru) (m : Nat) : rsF (asmK bs (rsF bs gs l m).1 bs.length) (strF ((rsF bs gs l m).1.map (!·)) bs.length) l m = ((rsF bs gs l m).1, List.replicate bs.length 0) :=
  rs_still bs _ l (rsF_len bs gs l m).1 m (fun k hk => rs_calm bs gs l k m hk) m (Nat.le_refl _)
theorem asm_twice (bs : List Nat) (T : List Bool) : asmK (asmK bs T bs.length) T bs.length = asmK bs T bs.length := asm_asm bs T T (fun _ _ h => h)
end Go.Proofs.YtkgkpcmokmhakaaGreatDoor

namespace Go.Proofs.YtkgkpcmokmhakaaGreatDoor
open Go.RowKit

theorem can_count : ∀ (l : List (Int × Int)) (lo hi : Int), Can l → (∀ s ∈ l, lo ≤ s.1 ∧ s.2 ≤ hi) → l ≠ [] → lo + 2 * (l.length : Int) ≤ hi + 1
  | [], _, _, _, _, h => absurd rfl h
  | [s], lo, hi, hC, hb, _ => by
    have h1 := hb s (List.mem_cons_self ..)
    have h2 := hC.2 s (List.mem_cons_self ..)
    simp only [List.length_cons, List.length_nil]
    omega
  | s :: r :: l, lo, hi, hC, hb, _ => by
    obtain ⟨c1, c2, c3⟩ := can_tail hC
    have h1 := hb s (List.mem_cons_self ..)
    have ih := can_count (r :: l) (s.2 + 1) hi c1 (fun x hx => ⟨by have := c2 x hx; omega, (hb x (List.mem_cons_of_mem _ hx)).2⟩) (by simp)
    simp only [List.length_cons] at ih ⊢
    push_cast at ih ⊢
    omega
theorem str_few (bs : List Bool) (n : Nat) (hn : n ≤ 4096) : (strF bs n).length ≤ 2048 := by
  by_cases h : strF bs n = []
  · rw [h]; simp
  · obtain ⟨h1, h2, -⟩ := str_can bs n
    have := can_count _ 0 (n : Int) h1 h2 h
    omega
theorem lev_zeroK : chkLev 0 = 0 := by decide +kernel
theorem asm_levK (bs : List Nat) (T : List Bool) (hl : ∀ i, i < bs.length → chkLev (bs.getD i 0) = 0) (j : Nat) (hj : j < bs.length) : chkLev ((asmK bs T bs.length).getD j 0) = 0 := by
  rw [asmK_at bs T j hj]
  split
  · exact hl j hj
  · exact lev_zeroK
/-- In the gaps of what has been cleaned there is nothing. -/
theorem str_has (bs : List Nat) (T : List Bool) (hT : T.length = bs.length) (j : Nat) (hj : j < bs.length) : hasL (strF (T.map (!·)) bs.length) (j : Int) = !T.getD j false := by
  have h3 := (str_can (T.map (!·)) bs.length).2.2 (j : Int)
  have e1 : decide ((0 : Int) ≤ (j : Int)) = true := by simp
  have e2 : decide ((j : Int) < (bs.length : Int)) = true := by simp; omega
  rw [e1, e2, Int.toNat_natCast, not_getD _ j (by omega)] at h3
  simpa using h3
theorem asm_len (bs : List Nat) (T : List Bool) : (asmK bs T bs.length).length = bs.length := by rw [asmK_len]
theorem fst0_all : ∀ (l : List Int), (∀ j, j < l.length → l.getD j 0 = 0) → fst0 l = 0
  | [], _ => rfl
  | x :: l, h => by
    have h0 := h 0 (by simp)
    have : x = 0 := by simpa using h0
    unfold fst0
    rw [if_pos this]
    exact fst0_all l (fun j hj => by have := h (j + 1) (by simpa using hj); simpa using this)
theorem cleaned_ok (nm : ByteArray) (st : Int) (bs : List Nat) (gs : List (Int × Int)) (T : List Bool) (hT : T.length = bs.length) (hn : bs.length ≤ 4096) (h : chkRec nm st bs gs = 0) (hl : ∀ i, i < bs.length → chkLev (bs.getD i 0) = 0) :
    chkRec nm st (asmK bs T bs.length) (strF (T.map (!·)) bs.length) = 0 := by
  have h1 : rec1 nm st bs.length = 0 := by
    unfold chkRec at h
    by_cases h1 : rec1 nm st bs.length = 0
    · exact h1
    · rw [if_neg h1] at h; exact absurd h h1
  obtain ⟨c1, c2, -⟩ := str_can (T.map (!·)) bs.length
  have hch : chkSpans (strF (T.map (!·)) bs.length) = 0 := chk_can _ c1 (fun s hs => ⟨(c2 s hs).1, by have := (c2 s hs).2; omega⟩) (str_few _ _ hn)
  have hlev : fst0 (levErr (asmK bs T bs.length)) = 0 := by
    apply fst0_all
    intro j hj
    have hj : j < (asmK bs T bs.length).length := by simpa [levErr] using hj
    rw [levErr_at _ j hj]
    exact asm_levK bs T hl j (by rwa [asm_len] at hj)
  have hend : ∀ j, j < (strF (T.map (!·)) bs.length).length → ((strF (T.map (!·)) bs.length).getD j (0, 0)).2 ≤ ((asmK bs T bs.length).length : Int) := fun j hj => by
    rw [asm_len]
    exact (c2 _ (getD_mem _ j hj)).2
  have h2 := rec2_fine hlev hch hend
  have h3 : silB (asmK bs T bs.length) (strF (T.map (!·)) bs.length) = true := by
    refine (silB_true _ _ (fun s hs => by rw [asm_len]; exact (c2 s hs).2)).2 ?_
    intro j hj i hi1 hi2
    have hm := getD_mem (strF (T.map (!·)) bs.length) j hj
    have hb := c2 _ hm
    have hi : i < bs.length := by omega
    have hh : hasL (strF (T.map (!·)) bs.length) (i : Int) = true := hasL_true.2 ⟨_, hm, hi1, hi2⟩
    rw [str_has bs T hT i hi] at hh
    rw [asmK_at bs T i hi, if_neg (by simpa using hh)]
    decide +kernel
  unfold chkRec
  rw [asm_len, if_pos h1, if_pos h2, h3]
  rfl
end Go.Proofs.YtkgkpcmokmhakaaGreatDoor
