/-
  Plain words on rules and what they remove, and the contract of the reference's Kept. Conditions: written at each.
-/
import Derived.Test.YtnncmaegmlaabaaGreatDoorK4
import Derived.Test.YtnncmaegmlaabaaGreatDoorML
import Derived.Test.YtnncmaegmlaabaaGreatDoorT0
import Derived.Test.YtnncmaegmlaabaaGreatDoorT1
import Derived.Test.YtnncmaegmlaabaaGreatDoorP0
import Derived.Test.YtnncmaegmlaabaaGreatDoorProg
import Derived.Test.YtnncmaegmlaabaaGreatDoorT2
import Derived.Test.YtnncmaegmlaabaaGreatDoorMS
import Derived.Deep.RegionHeld3
import Derived.Deep.Cut
import Derived.OwnWalk
import Derived.Test.YtnncmaegmlaabaaGreatDoorQ7
import Derived.Test.YtnncmaegmlaabaaGreatDoorQ4

namespace Go.Proofs.YtnncmaegmlaabaaGreatDoor
open Go.RowKit

/-- That a rule removes a level, of those that are there, and of those that it has left so far. -/
def rmB (x : Ru) (bs : List Nat) (T L : List Bool) (i : Nat) : Bool :=
  bif x.1 == sRange then decide (s16 (bs.getD i 0) < x.2.1) || decide (x.2.2 < s16 (bs.getD i 0))
  else bif x.1 == sJump then decide (0 < i) && L.getD (i - 1) false && decide (x.2.1 < dst (bs.getD i 0) (bs.getD (i - 1) 0))
  else decide (x.2.1 ≤ (i : Int)) && (List.range (i + 1)).all (fun k => decide ((k : Int) < (i : Int) - x.2.1) || (T.getD k false && feqL (bs.getD k 0) (bs.getD i 0)))
/-- What a rule has left of the first i levels. -/
def lfK (x : Ru) (bs : List Nat) (T : List Bool) : Nat → List Bool
  | 0 => T
  | i + 1 => if (T.getD i false && rmB x bs T (lfK x bs T i) i) = true then (lfK x bs T i).set i false else lfK x bs T i
/-- That a rule removes the level i. -/
def gn (x : Ru) (bs : List Nat) (T : List Bool) (i : Nat) : Bool := T.getD i false && rmB x bs T (lfK x bs T i) i
theorem lfK_succ (x : Ru) (bs : List Nat) (T : List Bool) (i : Nat) : lfK x bs T (i + 1) = if gn x bs T i = true then (lfK x bs T i).set i false else lfK x bs T i := rfl
def rnK (x : Ru) (bs : List Nat) (T : List Bool) (v : Int) (R : List Int) : Nat → List Int
  | 0 => R
  | i + 1 => if gn x bs T i = true then (rnK x bs T v R i).set i v else rnK x bs T v R i
theorem rnK_succ (x : Ru) (bs : List Nat) (T : List Bool) (v : Int) (R : List Int) (i : Nat) : rnK x bs T v R (i + 1) = if gn x bs T i = true then (rnK x bs T v R i).set i v else rnK x bs T v R i := rfl
theorem lfK_len (x : Ru) (bs : List Nat) (T : List Bool) : ∀ k, (lfK x bs T k).length = T.length
  | 0 => rfl
  | k + 1 => by
    have := lfK_len x bs T k
    rw [lfK_succ]; split <;> simp [this]
theorem rnK_len (x : Ru) (bs : List Nat) (T : List Bool) (v : Int) (R : List Int) : ∀ k, (rnK x bs T v R k).length = R.length
  | 0 => rfl
  | k + 1 => by
    have := rnK_len x bs T v R k
    rw [rnK_succ]; split <;> simp [this]

theorem getD_set_b (l : List Bool) (i j : Nat) (b : Bool) (hi : i < l.length) : (l.set i b).getD j false = if i = j then b else l.getD j false := by
  rw [List.getD_eq_getElem?_getD, List.getElem?_set]
  by_cases e : i = j
  · subst e; rw [if_pos rfl, if_pos rfl, if_pos hi]; rfl
  · rw [if_neg e, if_neg e, ← List.getD_eq_getElem?_getD]
theorem getD_set_i (l : List Int) (i j : Nat) (b : Int) (hi : i < l.length) : (l.set i b).getD j 0 = if i = j then b else l.getD j 0 := by
  rw [List.getD_eq_getElem?_getD, List.getElem?_set]
  by_cases e : i = j
  · subst e; rw [if_pos rfl, if_pos rfl, if_pos hi]; rfl
  · rw [if_neg e, if_neg e, ← List.getD_eq_getElem?_getD]
theorem getD_off {α : Type} (l : List α) (j : Nat) (d : α) (h : l.length ≤ j) : l.getD j d = d := by
  rw [List.getD_eq_getElem?_getD, List.getElem?_eq_none h]; rfl
theorem ext_getD {α : Type} (l m : List α) (d : α) (h : l.length = m.length) (he : ∀ j, j < l.length → l.getD j d = m.getD j d) : l = m := by
  apply List.ext_getElem h
  intro j h1 h2
  have := he j h1
  rw [List.getD_eq_getElem?_getD, List.getD_eq_getElem?_getD, List.getElem?_eq_getElem h1, List.getElem?_eq_getElem h2] at this
  exact this
theorem gn_lt {x : Ru} {bs : List Nat} {T : List Bool} {i : Nat} (h : gn x bs T i = true) : i < T.length ∧ T.getD i false = true := by
  unfold gn at h
  rw [Bool.and_eq_true] at h
  refine ⟨Nat.lt_of_not_le fun hle => ?_, h.1⟩
  rw [getD_off T i false hle] at h
  cases h.1
theorem lfK_at (x : Ru) (bs : List Nat) (T : List Bool) (j : Nat) : ∀ k, (lfK x bs T k).getD j false = (T.getD j false && !(decide (j < k) && gn x bs T j))
  | 0 => by simp [lfK]
  | k + 1 => by
    have ih := lfK_at x bs T j k
    rw [lfK_succ]
    by_cases hg : gn x bs T k = true
    · rw [if_pos hg, getD_set_b _ _ _ _ (by rw [lfK_len]; exact (gn_lt hg).1), ih]
      by_cases e : k = j
      · subst e; rw [if_pos rfl, hg]; simp
      · rw [if_neg e]
        have : decide (j < k + 1) = decide (j < k) := by rw [decide_eq_decide]; omega
        rw [this]
    · rw [if_neg hg, ih]
      by_cases e : k = j
      · subst e
        rw [Bool.not_eq_true] at hg
        rw [hg]; simp
      · have : decide (j < k + 1) = decide (j < k) := by rw [decide_eq_decide]; omega
        rw [this]
theorem rnK_at (x : Ru) (bs : List Nat) (T : List Bool) (v : Int) (R : List Int) (hR : R.length = T.length) (j : Nat) : ∀ k, (rnK x bs T v R k).getD j 0 = if j < k ∧ gn x bs T j = true then v else R.getD j 0
  | 0 => by simp [rnK]
  | k + 1 => by
    have ih := rnK_at x bs T v R hR j k
    rw [rnK_succ]
    by_cases hg : gn x bs T k = true
    · rw [if_pos hg, getD_set_i _ _ _ _ (by rw [rnK_len, hR]; exact (gn_lt hg).1), ih]
      by_cases e : k = j
      · subst e; rw [if_pos rfl, if_pos ⟨by omega, hg⟩]
      · rw [if_neg e]
        have : (j < k + 1) = (j < k) := propext (by omega)
        simp only [this]
    · rw [if_neg hg, ih]
      by_cases e : k = j
      · subst e; rw [if_neg (fun h => hg h.2), if_neg (fun h => hg h.2)]
      · have : (j < k + 1) = (j < k) := propext (by omega)
        simp only [this]

/-- The indices that a rule removes, of the first k. -/
def gnL (x : Ru) (bs : List Nat) (T : List Bool) (k : Nat) : List Nat := (List.range k).filter (gn x bs T)
theorem gnL_yes {x : Ru} {bs : List Nat} {T : List Bool} {k : Nat} (h : gn x bs T k = true) : gnL x bs T (k + 1) = gnL x bs T k ++ [k] := by simp [gnL, List.range_succ, h]
theorem gnL_no {x : Ru} {bs : List Nat} {T : List Bool} {k : Nat} (h : gn x bs T k = false) : gnL x bs T (k + 1) = gnL x bs T k := by simp [gnL, List.range_succ, h]
def toI (l : List Nat) : List Int := l.map fun i : Nat => (i : Int)

theorem off_at : ∀ (il : List Nat) (ms : List Bool) (j : Nat), (∀ i ∈ il, i < ms.length) → (il.foldl (fun m i => m.set i false) ms).getD j false = (ms.getD j false && !il.contains j)
  | [], ms, j, _ => by simp
  | i :: il, ms, j, h => by
    rw [List.foldl_cons, off_at il _ j (fun k hk => by rw [List.length_set]; exact h k (List.mem_cons_of_mem _ hk)), getD_set_b _ _ _ _ (h i List.mem_cons_self)]
    by_cases e : i = j
    · subst e; rw [if_pos rfl]; simp
    · have e' : (j == i) = false := by simpa using fun h => e h.symm
      rw [if_neg e, List.contains_cons, e', Bool.false_or]
theorem rs_at : ∀ (il : List Nat) (R : List Int) (v : Int) (j : Nat), (∀ i ∈ il, i < R.length) → (il.foldl (fun r i => r.set i v) R).getD j 0 = if j ∈ il then v else R.getD j 0
  | [], R, v, j, _ => by simp
  | i :: il, R, v, j, h => by
    rw [List.foldl_cons, rs_at il _ v j (fun k hk => by rw [List.length_set]; exact h k (List.mem_cons_of_mem _ hk)), getD_set_i _ _ _ _ (h i List.mem_cons_self)]
    by_cases e : i = j
    · subst e; simp
    · have e' : ¬ j = i := fun h => e h.symm
      simp [e, e']
theorem foldl_len {α β : Type} (f : List α → β → List α) (hf : ∀ l b, (f l b).length = l.length) : ∀ (il : List β) (l : List α), (il.foldl f l).length = l.length
  | [], _ => rfl
  | b :: il, l => by rw [List.foldl_cons, foldl_len f hf il, hf]

/-- What is left, and the reasons, once all indices that are removed are taken off. -/
theorem off_gn (x : Ru) (bs : List Nat) (T : List Bool) : offK T (gnL x bs T T.length) (gnL x bs T T.length).length = lfK x bs T T.length := by
  have hm : ∀ i ∈ gnL x bs T T.length, i < T.length := fun i hi => (gn_lt (List.mem_filter.1 hi).2).1
  unfold offK
  rw [List.take_length]
  apply ext_getD _ _ false
  · rw [foldl_len _ (fun l b => by simp), lfK_len]
  · intro j hj
    rw [off_at _ _ _ hm, lfK_at]
    congr 2
    rw [Bool.eq_iff_iff, List.contains_iff_mem, Bool.and_eq_true, decide_eq_true_eq]
    unfold gnL
    rw [List.mem_filter, List.mem_range]
theorem rs_gn (x : Ru) (bs : List Nat) (T : List Bool) (v : Int) (R : List Int) (hR : R.length = T.length) : rsK R (gnL x bs T T.length) v (gnL x bs T T.length).length = rnK x bs T v R T.length := by
  have hm : ∀ i ∈ gnL x bs T T.length, i < R.length := fun i hi => by rw [hR]; exact (gn_lt (List.mem_filter.1 hi).2).1
  unfold rsK
  rw [List.take_length]
  apply ext_getD _ _ 0
  · rw [foldl_len _ (fun l b => by simp), rnK_len]
  · intro j hj
    rw [rs_at _ _ _ _ hm, rnK_at _ _ _ _ _ hR]
    have : (j ∈ gnL x bs T T.length) = (j < T.length ∧ gn x bs T j = true) := by
      unfold gnL
      rw [List.mem_filter, List.mem_range]
    simp only [this]

/-- How many levels before an index are there and equal to it, one before the other. -/
def eqn (bs : List Nat) (T : List Bool) : Nat → Int
  | 0 => 0
  | i + 1 => if (T.getD i false && feqL (bs.getD (i + 1) 0) (bs.getD i 0)) = true then eqn bs T i + 1 else 0
theorem eqn_succ (bs : List Nat) (T : List Bool) (i : Nat) : eqn bs T (i + 1) = if (T.getD i false && feqL (bs.getD (i + 1) 0) (bs.getD i 0)) = true then eqn bs T i + 1 else 0 := rfl
theorem eqn_pos (bs : List Nat) (T : List Bool) : ∀ i, 0 ≤ eqn bs T i
  | 0 => Int.le_refl _
  | i + 1 => by
    have := eqn_pos bs T i
    unfold eqn; split <;> omega
theorem eqn_iff (bs : List Nat) (T : List Bool) (hf : ∀ i, i < bs.length → finB (bs.getD i 0) = true) : ∀ i, i < bs.length → T.getD i false = true → ∀ m : Nat, (m : Int) ≤ eqn bs T i ↔ m ≤ i ∧ ∀ k, i - m ≤ k → k ≤ i → T.getD k false = true ∧ num (bs.getD k 0) = num (bs.getD i 0)
  | 0, hi, hT, m => by
    unfold eqn
    constructor
    · intro h
      exact ⟨by omega, fun k _ hk => by
        have : k = 0 := by omega
        subst this; exact ⟨hT, rfl⟩⟩
    · rintro ⟨h, -⟩; omega
  | i + 1, hi, hT, m => by
    unfold eqn
    by_cases h : (T.getD i false && feqL (bs.getD (i + 1) 0) (bs.getD i 0)) = true
    · rw [if_pos h]
      rw [Bool.and_eq_true] at h
      obtain ⟨hTi, he⟩ := h
      rw [feq_num (hf _ hi) (hf _ (by omega)), decide_eq_true_eq] at he
      have ih := eqn_iff bs T hf i (by omega) hTi
      match m with
      | 0 =>
        have := eqn_pos bs T i
        exact ⟨fun _ => ⟨by omega, fun k h1 h2 => by
          have : k = i + 1 := by omega
          subst this; exact ⟨hT, rfl⟩⟩, fun _ => by omega⟩
      | m + 1 =>
        have ihm := ih m
        constructor
        · intro hle
          obtain ⟨g1, g2⟩ := ihm.1 (by omega)
          refine ⟨by omega, fun k h1 h2 => ?_⟩
          by_cases e : k = i + 1
          · subst e; exact ⟨hT, rfl⟩
          · obtain ⟨g3, g4⟩ := g2 k (by omega) (by omega)
            exact ⟨g3, by rw [g4, he]⟩
        · rintro ⟨g1, g2⟩
          have := ihm.2 ⟨by omega, fun k h1 h2 => by
            obtain ⟨g3, g4⟩ := g2 k (by omega) (by omega)
            exact ⟨g3, by rw [g4, he]⟩⟩
          omega
    · rw [if_neg h]
      constructor
      · intro hm
        exact ⟨by omega, fun k h1 h2 => by
          have : k = i + 1 := by omega
          subst this; exact ⟨hT, rfl⟩⟩
      · rintro ⟨g1, g2⟩
        match m with
        | 0 => omega
        | m + 1 =>
          obtain ⟨g3, g4⟩ := g2 i (by omega) (by omega)
          refine absurd ?_ h
          rw [Bool.and_eq_true]
          exact ⟨g3, by rw [feq_num (hf _ hi) (hf _ (by omega)), decide_eq_true_eq]; exact g4.symm⟩
end Go.Proofs.YtnncmaegmlaabaaGreatDoor

namespace Go.Proofs.YtnncmaegmlaabaaGreatDoor
open Go.RowKit

theorem asmK_at (bs : List Nat) (T : List Bool) (j : Nat) (hj : j < bs.length) : (asmK bs T bs.length).getD j 0 = if T.getD j false = true then bs.getD j 0 else 0 := by
  unfold asmK
  rw [List.getD_eq_getElem?_getD, List.getElem?_map, List.getElem?_range hj]
  simp only [Option.map_some, Option.getD_some]
  cases T.getD j false <;> simp [hj]
theorem not_getD (T : List Bool) (j : Nat) (h : j < T.length) : (T.map (!·)).getD j false = !T.getD j false := by simp [h]
theorem cov_str (T : List Bool) (i : Nat) (h : i < T.length) : cov (strF (T.map (!·)) T.length) (i : Int) = !T.getD i false := by
  obtain ⟨h1, -, h3⟩ := str_can (T.map (!·)) T.length
  rw [cov_has _ _ h1, h3]
  have e : ((i : Int)).toNat = i := by omega
  have a1 : (0 : Int) ≤ (i : Int) := by omega
  have a2 : (i : Int) < (T.length : Int) := by omega
  rw [e, not_getD T i h, decide_eq_true a1, decide_eq_true a2]
  simp

section
variable {x : Ru} {bs : List Nat} {T : List Bool}

theorem it_at (hn : bs.length ≤ 100000) (hok : ∀ j, j < bs.length → levOK (bs.getD j 0) = true) (k : Nat) (hk : k < bs.length) (h : T.getD k false = true) : (fLv (asmK bs T bs.length) k).1 = (k, bs.getD k 0) := by
  have hl := asmK_len bs T bs.length
  rw [fLv_at (asmK bs T bs.length) (by rw [hl]; exact hn) (by rw [hl]; exact asmK_ok bs T bs.length hok) k (by rw [hl]; exact hk)]
  rw [← List.getD_eq_getElem?_getD, asmK_at bs T k hk, if_pos h]

theorem gn_off {k : Nat} (h : T.getD k false = false) : gn x bs T k = false := by unfold gn; rw [h]; rfl

theorem sel_gn (hT : T.length = bs.length) (hn : bs.length ≤ 100000) (hok : ∀ j, j < bs.length → levOK (bs.getD j 0) = true) (hx : (x.1 == sRange) = true) : ∀ k, k ≤ bs.length →
    sel (outP x.2.1 x.2.2) (itm (strF (T.map (!·)) T.length) (fLv (asmK bs T bs.length)) k) = toI (gnL x bs T k)
  | 0, _ => rfl
  | k + 1, hk => by
    have ih := sel_gn hT hn hok hx k (by omega)
    have hc := cov_str T k (by omega)
    cases h : T.getD k false
    · rw [h] at hc
      rw [itm_no _ _ k (by rw [hc]; rfl), gnL_no (gn_off h), ih]
    · rw [h] at hc
      have hat := it_at hn hok k (by omega) h
      have hg : gn x bs T k = outP x.2.1 x.2.2 (fLv (asmK bs T bs.length) k) := by
        unfold gn rmB outP
        rw [h, hx, hat]; rfl
      rw [itm_yes _ _ k (by rw [hc]; rfl)]
      cases hp : outP x.2.1 x.2.2 (fLv (asmK bs T bs.length) k)
      · rw [sel_no _ hp, gnL_no (by rw [hg, hp]), ih]
      · rw [sel_yes _ hp, gnL_yes (by rw [hg, hp]), ih, hat]
        simp [toI]

theorem jf_gn (hT : T.length = bs.length) (hn : bs.length ≤ 100000) (hok : ∀ j, j < bs.length → levOK (bs.getD j 0) = true) (hx1 : (x.1 == sRange) = false) (hx : (x.1 == sJump) = true) : ∀ k, k ≤ bs.length →
    (jf x.2.1 (itm (strF (T.map (!·)) T.length) (fLv (asmK bs T bs.length)) k)).2.2 = toI (gnL x bs T k) ∧
    if 0 < k ∧ (lfK x bs T k).getD (k - 1) false = true then (jf x.2.1 (itm (strF (T.map (!·)) T.length) (fLv (asmK bs T bs.length)) k)).1 = (k : Int) ∧ (jf x.2.1 (itm (strF (T.map (!·)) T.length) (fLv (asmK bs T bs.length)) k)).2.1 = bs.getD (k - 1) 0
      else (jf x.2.1 (itm (strF (T.map (!·)) T.length) (fLv (asmK bs T bs.length)) k)).1 < (k : Int)
  | 0, _ => ⟨rfl, by rw [if_neg (fun h => by omega)]; show (-1 : Int) < ((0 : Nat) : Int); omega⟩
  | k + 1, hk => by
    obtain ⟨ih1, ih2⟩ := jf_gn hT hn hok hx1 hx k (by omega)
    have hc := cov_str T k (by omega)
    have hlk := lfK_at x bs T k (k + 1)
    rw [show decide (k < k + 1) = true by simp, Bool.true_and] at hlk
    have e1 : k + 1 - 1 = k := by omega
    cases h : T.getD k false
    · rw [h] at hc hlk
      rw [itm_no _ _ k (by rw [hc]; rfl), gnL_no (gn_off h)]
      refine ⟨ih1, ?_⟩
      rw [e1, hlk, if_neg (by simp)]
      split at ih2 <;> omega
    · rw [h] at hc hlk
      have hat := it_at hn hok k (by omega) h
      rw [itm_yes _ _ k (by rw [hc]; rfl), jf_snoc]
      generalize jf x.2.1 (itm (strF (T.map (!·)) T.length) (fLv (asmK bs T bs.length)) k) = s at ih1 ih2 ⊢
      have hg : gn x bs T k = (decide ((k : Int) = s.1) && decide (x.2.1 < max (s16 (bs.getD k 0) - s16 s.2.1) (s16 s.2.1 - s16 (bs.getD k 0)))) := by
        unfold gn rmB dst
        rw [h, hx1, hx]
        simp only [cond_false, cond_true, Bool.true_and]
        split at ih2
        · rename_i hP
          rw [ih2.1, ih2.2, hP.2, decide_eq_true hP.1]
          simp
        · rename_i hP
          have : ¬ (k : Int) = s.1 := by omega
          rw [decide_eq_false this, Bool.false_and]
          by_cases h0 : 0 < k
          · have : (lfK x bs T k).getD (k - 1) false = false := by
              cases hh : (lfK x bs T k).getD (k - 1) false
              · rfl
              · exact absurd ⟨h0, hh⟩ hP
            rw [this]; simp
          · rw [decide_eq_false h0]; simp
      unfold jstep
      rw [hat]
      simp only
      cases hgk : gn x bs T k
      · rw [hgk] at hg hlk
        rw [← hg, if_neg (by simp), gnL_no hgk]
        refine ⟨ih1, ?_⟩
        rw [e1, hlk, if_pos ⟨by omega, rfl⟩]
        exact ⟨by push_cast; rfl, rfl⟩
      · rw [hgk] at hg hlk
        rw [← hg, if_pos rfl, gnL_yes hgk]
        refine ⟨by simp only [ih1]; simp [toI], ?_⟩
        rw [e1, hlk, if_neg (by simp)]
        simp only
        split at ih2 <;> omega

theorem sf_gn (hT : T.length = bs.length) (hn : bs.length ≤ 100000) (hok : ∀ j, j < bs.length → levOK (bs.getD j 0) = true) (hf : ∀ i, i < bs.length → finB (bs.getD i 0) = true) (hx1 : (x.1 == sRange) = false) (hx2 : (x.1 == sJump) = false) (hA : 1 ≤ x.2.1) : ∀ k, k ≤ bs.length →
    (sf x.2.1 (itm (strF (T.map (!·)) T.length) (fLv (asmK bs T bs.length)) k)).2.2.2 = toI (gnL x bs T k) ∧
    if 0 < k ∧ T.getD (k - 1) false = true then (sf x.2.1 (itm (strF (T.map (!·)) T.length) (fLv (asmK bs T bs.length)) k)).1 = (k : Int) ∧ (sf x.2.1 (itm (strF (T.map (!·)) T.length) (fLv (asmK bs T bs.length)) k)).2.1 = bs.getD (k - 1) 0 ∧ (sf x.2.1 (itm (strF (T.map (!·)) T.length) (fLv (asmK bs T bs.length)) k)).2.2.1 = eqn bs T (k - 1)
      else (sf x.2.1 (itm (strF (T.map (!·)) T.length) (fLv (asmK bs T bs.length)) k)).1 < (k : Int)
  | 0, _ => ⟨rfl, by rw [if_neg (fun h => by omega)]; show (-1 : Int) < ((0 : Nat) : Int); omega⟩
  | k + 1, hk => by
    obtain ⟨ih1, ih2⟩ := sf_gn hT hn hok hf hx1 hx2 hA k (by omega)
    have hc := cov_str T k (by omega)
    have e1 : k + 1 - 1 = k := by omega
    cases h : T.getD k false
    · rw [h] at hc
      rw [itm_no _ _ k (by rw [hc]; rfl), gnL_no (gn_off h)]
      refine ⟨ih1, ?_⟩
      rw [e1, h, if_neg (by simp)]
      split at ih2 <;> omega
    · rw [h] at hc
      have hat := it_at hn hok k (by omega) h
      rw [itm_yes _ _ k (by rw [hc]; rfl), sf_snoc]
      generalize sf x.2.1 (itm (strF (T.map (!·)) T.length) (fLv (asmK bs T bs.length)) k) = s at ih1 ih2 ⊢
      have hq : seq' s (fLv (asmK bs T bs.length) k) = eqn bs T k := by
        unfold seq'
        rw [hat]
        simp only
        split at ih2
        · rename_i hP
          obtain ⟨g1, g2, g3⟩ := ih2
          obtain ⟨j, rfl⟩ : ∃ j, k = j + 1 := ⟨k - 1, by omega⟩
          rw [g1, g2, g3]
          have e2 : j + 1 - 1 = j := by omega
          rw [e2] at hP ⊢
          rw [eqn_succ, hP.2]
          unfold feq feqL
          simp
        · rename_i hP
          have : ¬ (k : Int) = s.1 := by omega
          rw [decide_eq_false this, Bool.false_and, if_neg (by simp)]
          match k, h, hP with
          | 0, _, _ => rfl
          | j + 1, _, hP =>
            have e2 : j + 1 - 1 = j := by omega
            rw [e2] at hP
            have : T.getD j false = false := by
              cases hh : T.getD j false
              · rfl
              · exact absurd ⟨by omega, hh⟩ hP
            rw [eqn_succ, this]; simp
      have hg : gn x bs T k = decide (x.2.1 ≤ eqn bs T k) := by
        have hm := eqn_iff bs T hf k (by omega) h x.2.1.toNat
        rw [show ((x.2.1.toNat : Nat) : Int) = x.2.1 by omega] at hm
        unfold gn rmB
        rw [h, hx1, hx2, Bool.eq_iff_iff]
        simp only [cond_false, Bool.true_and]
        rw [Bool.and_eq_true, decide_eq_true_eq, decide_eq_true_eq, List.all_eq_true, hm]
        constructor
        · rintro ⟨g1, g2⟩
          refine ⟨by omega, fun j h1 h2 => ?_⟩
          have := g2 j (by simp; omega)
          rw [Bool.or_eq_true, decide_eq_true_eq, Bool.and_eq_true] at this
          rcases this with h3 | ⟨h3, h4⟩
          · omega
          · rw [feq_num (hf _ (by omega)) (hf _ (by omega)), decide_eq_true_eq] at h4
            exact ⟨h3, h4⟩
        · rintro ⟨g1, g2⟩
          refine ⟨by omega, fun j hj => ?_⟩
          have hj : j < k + 1 := by simpa using hj
          rw [Bool.or_eq_true, decide_eq_true_eq, Bool.and_eq_true]
          by_cases h3 : (j : Int) < (k : Int) - x.2.1
          · exact .inl h3
          · obtain ⟨h4, h5⟩ := g2 j (by omega) (by omega)
            exact .inr ⟨h4, by rw [feq_num (hf _ (by omega)) (hf _ (by omega)), decide_eq_true_eq]; exact h5⟩
      unfold sstep
      simp only
      rw [hq, hat]
      refine ⟨?_, ?_⟩
      · by_cases hl : x.2.1 ≤ eqn bs T k
        · rw [if_pos hl, gnL_yes (by rw [hg]; exact decide_eq_true hl), ih1]
          simp [toI]
        · rw [if_neg hl, gnL_no (by rw [hg]; exact decide_eq_false hl), ih1]
      · rw [e1, if_pos ⟨by omega, h⟩]
        exact ⟨by push_cast; rfl, rfl, rfl⟩

/-- What a valid rule removes of what is left of a record. -/
theorem rem_is (hT : T.length = bs.length) (hn : bs.length ≤ 100000) (hok : ∀ j, j < bs.length → levOK (bs.getD j 0) = true) (hf : ∀ i, i < bs.length → finB (bs.getD i 0) = true) (hx : chkRule x.1 x.2.1 x.2.2 = 0) :
    remN x (asmK bs T bs.length) (strF (T.map (!·)) T.length) = gnL x bs T T.length := by
  have hl := asmK_len bs T bs.length
  have key : remv x (asmK bs T bs.length) (strF (T.map (!·)) T.length) = toI (gnL x bs T T.length) := by
    unfold remv
    rw [hl]
    unfold chkRule at hx
    cases h1 : x.1 == sRange
    · rw [h1] at hx
      cases h2 : x.1 == sJump
      · rw [h2] at hx
        cases h3 : x.1 == sStuck
        · rw [h3] at hx; cases hx
        · rw [h3] at hx
          simp only [cond_false, cond_true] at hx ⊢
          have hA : 1 ≤ x.2.1 := by
            have h4 := fst0_zero _ hx 0
            simp only [List.getD_cons_zero] at h4
            unfold rng at h4
            split at h4
            · omega
            · cases h4
          rw [hT]
          have := (sf_gn (x := x) hT hn hok hf h1 h2 hA bs.length (Nat.le_refl _)).1
          rwa [hT] at this
      · simp only [cond_false, cond_true]
        rw [hT]
        have := (jf_gn (x := x) hT hn hok h1 h2 bs.length (Nat.le_refl _)).1
        rwa [hT] at this
    · simp only [cond_true]
      rw [hT]
      have := sel_gn (x := x) hT hn hok h1 bs.length (Nat.le_refl _)
      rwa [hT] at this
  unfold remN
  rw [key]
  unfold toI
  rw [List.map_map]
  conv => rhs; rw [← List.map_id (gnL x bs T T.length)]
  apply List.map_congr_left
  intro i _
  simp
end

/-- What is left, and the reasons, behind so many rules. -/
def rsF (bs : List Nat) (gs : List (Int × Int)) (l : List Ru) : Nat → List Bool × List Int
  | 0 => ((List.range bs.length).map (fun i : Nat => !hasL gs (i : Int)), List.replicate bs.length 0)
  | k + 1 => (lfK (l.getD k ru0) bs (rsF bs gs l k).1 bs.length, rnK (l.getD k ru0) bs (rsF bs gs l k).1 ((k : Int) + 1) (rsF bs gs l k).2 bs.length)
theorem rsF_len (bs : List Nat) (gs : List (Int × Int)) (l : List Ru) : ∀ k, (rsF bs gs l k).1.length = bs.length ∧ (rsF bs gs l k).2.length = bs.length
  | 0 => by simp [rsF]
  | k + 1 => by
    obtain ⟨h1, h2⟩ := rsF_len bs gs l k
    exact ⟨by rw [rsF]; simp only; rw [lfK_len, h1], by rw [rsF]; simp only; rw [rnK_len, h2]⟩
theorem misK_not (T : List Bool) (n : Nat) (h : T.length = n) : misK T n n = T.map (!·) := by
  apply ext_getD _ _ false
  · rw [misK_len, List.length_map, h]
  · intro j hj
    rw [misK_len] at hj
    rw [not_getD T j (by omega)]
    simp [misK, hj]
theorem knL_str (T : List Bool) : knL (strF (T.map (!·)) T.length) T.length = T := by
  apply ext_getD _ _ false
  · rw [knL_len]
  · intro j hj
    rw [knL_len] at hj
    rw [knL_at _ _ j hj, cov_str T j hj, Bool.not_not]
theorem asm_asm (bs : List Nat) (T T' : List Bool) (h : ∀ j, j < bs.length → T'.getD j false = true → T.getD j false = true) : asmK (asmK bs T bs.length) T' bs.length = asmK bs T' bs.length := by
  apply ext_getD _ _ 0
  · rw [asmK_len, asmK_len, asmK_len]
  · intro j hj
    rw [asmK_len, asmK_len] at hj
    have e := asmK_at (asmK bs T bs.length) T' j (by rw [asmK_len]; exact hj)
    rw [asmK_len] at e
    rw [e, asmK_at bs T' j hj]
    by_cases h' : T'.getD j false = true
    · rw [if_pos h', if_pos h', asmK_at bs T j hj, if_pos (h j hj h')]
    · rw [if_neg h', if_neg h']

/-- What the project has behind so many valid rules is what the reference has. -/
theorem apF_is (bs : List Nat) (gs : List (Int × Int)) (l : List Ru) (hC : Can gs) (hn : bs.length ≤ 100000) (hl : ∀ i, i < bs.length → chkLev (bs.getD i 0) = 0) (hr : ∀ j, j < l.length → chkRule (l.getD j ru0).1 (l.getD j ru0).2.1 (l.getD j ru0).2.2 = 0) : ∀ k, k ≤ l.length →
    apF bs gs l k = (asmK bs (rsF bs gs l k).1 bs.length, strF ((rsF bs gs l k).1.map (!·)) bs.length, (rsF bs gs l k).2)
  | 0, _ => by
    have e : wout bs gs [] = (rsF bs gs l 0).1 := by
      unfold wout offK rsF knL
      simp only [List.take_nil, List.foldl_nil]
      apply List.map_congr_left
      intro i _
      rw [cov_has gs i hC]
    have e2 := (rsF_len bs gs l 0).1
    unfold apF woB woG
    rw [e, misK_not _ _ e2]
    rfl
  | k + 1, hk => by
    have ih := apF_is bs gs l hC hn hl hr k (by omega)
    obtain ⟨e1, e2⟩ := rsF_len bs gs l k
    have hok : ∀ j, j < bs.length → levOK (bs.getD j 0) = true := fun j hj => by rw [levOK_iff]; simpa using hl j hj
    have hrem := rem_is (x := l.getD k ru0) (T := (rsF bs gs l k).1) e1 hn hok (fun i hi => fin_lev (hl i hi)) (hr k (by omega))
    rw [e1] at hrem
    have hw : wout (asmK bs (rsF bs gs l k).1 bs.length) (strF ((rsF bs gs l k).1.map (!·)) bs.length) (gnL (l.getD k ru0) bs (rsF bs gs l k).1 bs.length) = lfK (l.getD k ru0) bs (rsF bs gs l k).1 bs.length := by
      unfold wout
      rw [asmK_len]
      have h1 := knL_str (rsF bs gs l k).1
      rw [e1] at h1
      have h2 := off_gn (l.getD k ru0) bs (rsF bs gs l k).1
      rw [e1] at h2
      rw [h1, h2]
    have hT' : (lfK (l.getD k ru0) bs (rsF bs gs l k).1 bs.length).length = bs.length := by rw [lfK_len, e1]
    rw [apF]
    rw [ih]
    simp only
    rw [hrem]
    unfold woB woG
    rw [hw, asmK_len, misK_not _ _ hT', asm_asm bs _ _ (fun j hj h => by rw [lfK_at, Bool.and_eq_true] at h; exact h.1)]
    have h3 := rs_gn (l.getD k ru0) bs (rsF bs gs l k).1 ((k : Int) + 1) (rsF bs gs l k).2 (by rw [e2, e1])
    rw [e1] at h3
    rw [h3]
    rfl

/-- What is left is what was there and has no reason. -/
theorem rsF_left (bs : List Nat) (gs : List (Int × Int)) (l : List Ru) (i : Nat) (hi : i < bs.length) : ∀ k, (rsF bs gs l k).1.getD i false = (!hasL gs (i : Int) && decide ((rsF bs gs l k).2.getD i 0 = 0))
  | 0 => by simp [rsF, hi]
  | k + 1 => by
    have ih := rsF_left bs gs l i hi k
    obtain ⟨e1, e2⟩ := rsF_len bs gs l k
    rw [rsF]
    simp only
    rw [lfK_at, rnK_at _ _ _ _ _ (by rw [e1, e2]), ih, decide_eq_true hi, Bool.true_and]
    cases hg : gn (l.getD k ru0) bs (rsF bs gs l k).1 i
    · rw [if_neg (by simp)]; simp
    · rw [if_pos ⟨hi, rfl⟩]
      have : ¬ ((k : Int) + 1 = 0) := by omega
      rw [decide_eq_false this]
      simp
end Go.Proofs.YtnncmaegmlaabaaGreatDoor

namespace Go.Proofs.YtnncmaegmlaabaaGreatDoor
open Go.RowKit
attribute [local go_sem] Oper.semAt_some

/-- The levels that are kept so far, the others 0. -/
def kpK (bs : List Nat) (ts : List Bool) (k : Nat) : List Nat := (List.range bs.length).map (fun i => if i < k ∧ ts.getD i false = true then bs.getD i 0 else 0)
theorem kpK_len (bs : List Nat) (ts : List Bool) (k : Nat) : (kpK bs ts k).length = bs.length := by simp [kpK]
theorem kpK_zero (bs : List Nat) (ts : List Bool) : flc (kpK bs ts 0) = List.replicate bs.length (Value.float .f32 0) := by
  apply List.ext_getElem
  · simp [kpK, flc]
  · intro i h1 h2
    simp [kpK, flc]
theorem kpK_no (bs : List Nat) (ts : List Bool) (k : Nat) (h : ts.getD k false = false) : kpK bs ts (k + 1) = kpK bs ts k := by
  unfold kpK
  apply List.map_congr_left
  intro i _
  by_cases e : i = k
  · subst e; rw [if_neg (by rw [h]; simp), if_neg (by omega)]
  · have : (i < k + 1) = (i < k) := propext (by omega)
    simp only [this]
theorem kpK_yes (bs : List Nat) (ts : List Bool) (k : Nat) (h : ts.getD k false = true) : (flc (kpK bs ts k)).set k (.float .f32 (bs.getD k 0)) = flc (kpK bs ts (k + 1)) := by
  apply List.ext_getElem
  · simp [kpK, flc]
  · intro i h1 h2
    rw [List.getElem_set]
    by_cases e : k = i
    · subst e
      rw [if_pos rfl]
      have h' : ts[k]?.getD false = true := by simpa using h
      simp [kpK, flc, h']
    · rw [if_neg e]
      have : (i < k + 1) = (i < k) := propext (by omega)
      simp [kpK, flc, this]
theorem kpK_end (bs : List Nat) (ts : List Bool) : kpK bs ts bs.length = asmK bs ts bs.length := by
  unfold kpK asmK
  apply List.map_congr_left
  intro i hi
  have hi : i < bs.length := by simpa using hi
  cases ts.getD i false <;> simp [hi]

/-- What Kept holds: its result's block, the levels, the gaps, the boxes of its argument and of its result. -/
structure KI (w : World) (REC Z : Array Value) (nm : ByteArray) (st : Int) (R L : Nat) (gv : Value) (n : Nat) (ls : List Nat) (G : List (Int × Int)) (W : World) : Prop where
  out : W.heap[R]? = some (.cells #[.string nm, .int .i64 st, .slice (some ⟨L, 0, none⟩) n n, gv] 25 (0, 0))
  lev : W.ownsRow (w.heap.size + 2) 65 1 (.slice (some ⟨L, 0, none⟩) n n) n (flc ls)
  gap : W.ownsRow (w.heap.size + 2) 63 2 gv G.length (spc G)
  rcd : W.heap[w.heap.size]? = some (.cells REC 25 (0, 0))
  res : W.heap[w.heap.size + 1]? = some (.cells Z 25 (0, 0))
  big : w.heap.size + 1 < R
  bel : Below w.heap.size w W
section
variable {w W1 V : World} {REC Z : Array Value} {nm : ByteArray} {st : Int} {R L : Nat} {gv : Value} {n : Nat} {ls : List Nat} {G : List (Int × Int)}
theorem ki_stored (hs : W1.heap.size = w.heap.size + 2) (hB : Below w.heap.size w W1) (hQ : W1.heap[w.heap.size]? = some (.cells REC 25 (0, 0))) (hZ : W1.heap[w.heap.size + 1]? = some (.cells Z 25 (0, 0)))
    (hV : Below W1.heap.size W1 V) {z0 z1 z2 z3 : Value} (hR : V.heap[R]? = some (.cells #[z0, z1, z2, z3] 25 (0, 0))) (hb : W1.heap.size ≤ R) {b c : Nat}
    (hl : V.ownsRow b 65 1 (.slice (some ⟨L, 0, none⟩) n n) n (flc ls)) (hb1 : W1.heap.size ≤ b) (hg : V.ownsRow c 63 2 gv G.length (spc G)) (hb2 : W1.heap.size ≤ c) :
    KI w REC Z nm st R L gv n ls G (set4 V R (.string nm) (.int .i64 st) (.slice (some ⟨L, 0, none⟩) n n) gv) :=
  ⟨set4_blk hR _ _ _ _, own_base (own_far4 hl (own_box hl hR (by decide))) (by omega), own_base (own_far4 hg (own_box hg hR (by decide))) (by omega),
    (set4_other V (R := R) (D := w.heap.size) (by omega) _ _ _ _).trans ((hV.block _ (by omega)).trans hQ), (set4_other V (R := R) (D := w.heap.size + 1) (by omega) _ _ _ _).trans ((hV.block _ (by omega)).trans hZ), by omega,
    set4_below (hB.trans (hV.mono hB.size)) (R := R) (by omega) _ _ _ _⟩
theorem ki_alloc (hs : W1.heap.size = w.heap.size + 2) (hB : Below w.heap.size w W1) (hQ : W1.heap[w.heap.size]? = some (.cells REC 25 (0, 0))) (hZ : W1.heap[w.heap.size + 1]? = some (.cells Z 25 (0, 0)))
    (hV : Below W1.heap.size W1 V) {b c : Nat} (hl : V.ownsRow b 65 1 (.slice (some ⟨L, 0, none⟩) n n) n (flc ls)) (hb1 : W1.heap.size ≤ b) (hg : V.ownsRow c 63 2 gv G.length (spc G)) (hb2 : W1.heap.size ≤ c) :
    KI w REC Z nm st V.heap.size L gv n ls G (V.alloc (.cells #[.string nm, .int .i64 st, .slice (some ⟨L, 0, none⟩) n n, gv] 25)) := by
  have hsz := hV.size
  exact ⟨blk_new _ _ _, own_base (hl.alloc _) (by omega), own_base (hg.alloc _) (by omega), (Below.heap_alloc _ _ _ (by omega)).trans ((hV.block _ (by omega)).trans hQ), (Below.heap_alloc _ _ _ (by omega)).trans ((hV.block _ (by omega)).trans hZ), by omega, (hB.trans (hV.mono hB.size)).alloc (by have := hB.size; omega) _⟩
theorem KI.put (h : KI w REC Z nm st R L gv n ls G V) (i v : Nat) {ls' : List Nat} (e : (flc ls).set i (.float .f32 v) = flc ls') : KI w REC Z nm st R L gv n ls' G (V.setCell ⟨L, i, none⟩ (.float .f32 v)) := by
  have hL := (h.lev.lt L rfl).1
  have hne : R ≠ L := fun h' => by
    have h1 := own_box h.lev h.out (by decide)
    rcases h1 with h1 | h1
    · cases h1
    · exact h1 (by rw [h']; rfl)
  exact ⟨(Below.heap_setCell _ ⟨L, i, none⟩ _ R hne).trans h.out, by rw [← e]; exact (h.lev.stored i _).1, own_far h.gap (by
      rcases own_types h.gap h.lev (by decide) with h2 | h2
      · exact .inl h2
      · exact .inr h2), (Below.heap_setCell _ ⟨L, i, none⟩ _ _ (by show w.heap.size ≠ L; omega)).trans h.rcd, (Below.heap_setCell _ ⟨L, i, none⟩ _ _ (by show w.heap.size + 1 ≠ L; omega)).trans h.res, h.big, h.bel.setCell (p := ⟨L, i, none⟩) (by show w.heap.size ≤ L; omega) _⟩
theorem KI.drew (h : KI w REC Z nm st R L gv n ls G V) : KI w REC Z nm st R L gv n ls G V.drew := ⟨h.out, h.lev, h.gap, h.rcd, h.res, h.big, h.bel.drew⟩
end

set_option maxRecDepth 1000000 in
set_option maxHeartbeats 16000000 in
theorem refKept_any (nm : ByteArray) (st : Int) (lv gv sl : Value) (bs : List Nat) (m : Nat) (ys : List Value) (ts : List Bool) (w : World) (hl : Rd w w.heap.size lv bs.length (flc bs)) (hg : Rd w w.heap.size gv m ys) (ht : Rd w w.heap.size sl ts.length (ts.map Value.bool)) (he : ts.length = bs.length) (hn : bs.length ≤ 100000) :
    Calls Tryz.prog 66 #[.agg #[.string nm, .int .i64 st, lv, gv], sl] w (OwnsRec w.heap.size nm st (asmK bs ts bs.length) (strF (ts.map (!·)) ts.length) w) := by
  obtain ⟨i0, hi, hz0, hz1, hz2⟩ := info_parts floatInfo
  have HL := hd hl
  have HT := hd ht
  have HE := hd he
  have HN := hd hn
  obtain ⟨A, c, rfl, hc1, hc2, -⟩ := hl
  obtain ⟨A2, c2, rfl, -⟩ := hg
  obtain ⟨A3, c3, rfl, hc3, hc4, -⟩ := ht
  unfold maxLen at hc2 hc4
  have hMK := Classical.axiomOfChoice (fun W : World => run_make_full (P := Tryz.prog) W W.heap.size 22 65 i0 (.float .f32 0) 1 Tryz.underlying22 hi hz0 hz1 .i64 .i64 bs.length (by rw [hz2]; omega) (by unfold maxLen; omega) (Nat.le_refl _))
  obtain ⟨mk, hmk⟩ := hMK
  have hm1 := fun W => (hmk W).1
  have HM := hd (fun (W : World) => show (mk W).ownsRow W.heap.size 65 1 (.slice (some ⟨W.heap.size, 0, none⟩) bs.length bs.length) bs.length (flc (kpK bs ts 0)) ∧ Below W.heap.size W (mk W) from by
    obtain ⟨h1, h2⟩ := (hmk W).2
    refine ⟨?_, (Below.refl _ W).grown h2 (Nat.le_refl _) (fun _ h => by cases h)⟩
    have e : (madeCells (Value.float .f32 0).cells (bs.length * 1)).toList = List.replicate bs.length (Value.float .f32 0) := by
      rw [show (Value.float .f32 0).cells = #[Value.float .f32 0] from rfl, toList_madeCells_one]; simp
    rw [kpK_zero, ← e]; exact h1)
  clear hmk hn he hz0 hz1 hz2 hi
  obtain ⟨W1, hW1⟩ : ∃ W1, W1 = ((w.alloc (Obj.cells #[.string nm, .int .i64 st, .slice A bs.length c, .slice A2 m c2] 25)).alloc (Obj.cells #[.string ⟨#[]⟩, .int .i64 0, .slice none 0 0, .slice none 0 0] 25)) := ⟨_, rfl⟩
  have hs1 : W1.heap.size = w.heap.size + 2 := by rw [hW1]; simp
  have hB : Below w.heap.size w W1 := by rw [hW1]; exact ((Below.refl _ w).alloc (Nat.le_refl _) _).alloc (by simp) _
  have hq : W1.heap[w.heap.size]? = some (.cells #[.string nm, .int .i64 st, .slice A bs.length c, .slice A2 m c2] 25 (0, 0)) := by
    rw [hW1, Below.heap_alloc _ _ _ (by simp)]; exact blk_new _ _ _
  have hr : W1.heap[w.heap.size + 1]? = some (.cells #[.string ⟨#[]⟩, .int .i64 0, .slice none 0 0, .slice none 0 0] 25 (0, 0)) := by
    have h1 := blk_new (w.alloc (Obj.cells #[.string nm, .int .i64 st, .slice A bs.length c, .slice A2 m c2] 25)) #[.string ⟨#[]⟩, .int .i64 0, .slice none 0 0, .slice none 0 0] 25
    simp only [World.size_alloc] at h1
    rw [hW1]; exact h1
  have HB := hd hB
  have HQ := hd hq
  have HR := hd hr
  have HS := hd hs1
  have q0 := blk_cell hq 0
  have q1 := blk_cell hq 1
  have q2 := blk_cell hq 2
  simp at q0 q1 q2
  have HG := hd (fun (W : World) (hb : Below w.heap.size w W) => refGaps_any (.slice A3 ts.length c3) ts W ((HT.out.below hb (Nat.le_refl _)).mono hb.size) (by rw [HE.out]; exact HN.out))
  clear hB hq hr hs1
  go_enter Tryz.func66, Tryz.ntmps66
  go_wp2_with fail
  rw [← hW1]
  clear hW1
  have hW1s := hd (Nat.le_refl W1.heap.size)
  have b0 := hd ((Below.refl W1.heap.size W1).drew)
  have hmc : ∀ (W : World) (a : Addr), (W.cell? a).isSome = true → (mk W).cell? a = W.cell? a := fun W a h => by
    obtain ⟨u, hu⟩ := Option.isSome_iff_exists.1 h
    exact (HM.out W).2.cell (World.block_lt_of_cell? _ _ hu)
  have hmf : ∀ (W : World) (a : Addr), (W.cell? a).isSome = true → (mk W).frozen? a = W.frozen? a := fun W a h => by
    obtain ⟨u, hu⟩ := Option.isSome_iff_exists.1 h
    exact World.frozen?_of_block ((HM.out W).2.block _ (World.block_lt_of_cell? _ _ hu))
  have HG1 := hd (fun (W : World) (hb : Below W1.heap.size W1 W) => HG.out W (HB.out.trans (hb.mono HB.out.size)))
  have hnB : W1.heap.size ≠ w.heap.size := by have := HS.out; omega
  have hnB' := hnB.symm
  have hnA : (mk W1.drew).heap.size ≠ w.heap.size := by have h1 := (HM.out W1.drew).2.size; have h2 : W1.drew.heap.size = W1.heap.size := rfl; have := HS.out; omega
  have hnA' := hnA.symm
  go_cut [5] from 7 (fun s5 wx => ∃ (R L : Nat) (gv : Value), s5 = .pointer (some ⟨R, 0, none⟩) ∧ Hid (KI w #[.string nm, .int .i64 st, .slice A bs.length c, .slice A2 m c2] #[.string ⟨#[]⟩, .int .i64 0, .slice none 0 0, .slice none 0 0] nm st R L gv bs.length (kpK bs ts 0) (strF (ts.map (!·)) ts.length) wx))
  case first =>
    go_region_held3 (fun x => x.cell? ⟨w.heap.size, 0, none⟩ = some (.string nm) ∧ x.cell? ⟨w.heap.size, 1, none⟩ = some (.int .i64 st) ∧ x.cell? ⟨w.heap.size, 2, none⟩ = some (.slice A bs.length c)) (go_keep)
      (first | (go_at_call 112; refine (HG1.out _ (by first | exact b0.out | exact b0.out.alloc (Nat.le_refl _) _ | exact b0.out.trans (HM.out W1.drew).2 | exact (b0.out.alloc (Nat.le_refl _) _).trans ((HM.out (W1.drew.alloc (Obj.cells #[.string ⟨#[]⟩, .int .i64 0, .slice none 0 0, .slice none 0 0] 25))).2.mono (by simp)) | exact (b0.out.trans (HM.out W1.drew).2).alloc (HM.out W1.drew).2.size _)).mono ?_; rintro e w4 ⟨gv4, rfl, hown4, hb4⟩; obtain ⟨A4, c4, hv4, -⟩ := own_form hown4; subst hv4; have hW4 : Below W1.heap.size W1 w4 := (by first | exact b0.out.trans hb4 | exact (b0.out.alloc (Nat.le_refl _) (Obj.cells #[.string ⟨#[]⟩, .int .i64 0, .slice none 0 0, .slice none 0 0] 25)).trans (hb4.mono (by simp)) | exact (b0.out.trans (HM.out W1.drew).2).trans (hb4.mono (HM.out W1.drew).2.size) | exact ((b0.out.alloc (Nat.le_refl _) _).trans ((HM.out (W1.drew.alloc (Obj.cells #[.string ⟨#[]⟩, .int .i64 0, .slice none 0 0, .slice none 0 0] 25))).2.mono (by simp))).trans (hb4.mono (Nat.le_trans (by simp) (HM.out (W1.drew.alloc (Obj.cells #[.string ⟨#[]⟩, .int .i64 0, .slice none 0 0, .slice none 0 0] 25))).2.size)) | exact ((b0.out.trans (HM.out W1.drew).2).alloc (HM.out W1.drew).2.size _).trans (hb4.mono (Nat.le_trans (HM.out W1.drew).2.size (by simp)))); have hq4 := (hW4.block _ (blk_lt HQ.out)).trans HQ.out; have N0 := blk_cell hq4 0; have N1 := blk_cell hq4 1; have N2 := blk_cell hq4 2; simp at N0 N1 N2; (first | (have hP : w4.heap[(mk W1.drew).heap.size]? = _ := (hb4.block _ (by simp)).trans (blk_new (mk W1.drew) #[.string ⟨#[]⟩, .int .i64 0, .slice none 0 0, .slice none 0 0] 25); have p0 := blk_cell hP 0; have p1 := blk_cell hP 1; have p2 := blk_cell hP 2; have p3 := blk_cell hP 3; simp at p0 p1 p2 p3; have f0 := blk_frozen hP 0; have f1 := blk_frozen hP 1; have f2 := blk_frozen hP 2; have f3 := blk_frozen hP 3; have HP := hd hP; clear hP) | (have hP : w4.heap[W1.heap.size]? = _ := (hb4.block W1.heap.size (Nat.lt_of_lt_of_le (by simp) (HM.out (W1.drew.alloc (Obj.cells #[.string ⟨#[]⟩, .int .i64 0, .slice none 0 0, .slice none 0 0] 25))).2.size)).trans (((HM.out (W1.drew.alloc (Obj.cells #[.string ⟨#[]⟩, .int .i64 0, .slice none 0 0, .slice none 0 0] 25))).2.block W1.heap.size (by simp)).trans (blk_new W1.drew #[.string ⟨#[]⟩, .int .i64 0, .slice none 0 0, .slice none 0 0] 25)); have p0 := blk_cell hP 0; have p1 := blk_cell hP 1; have p2 := blk_cell hP 2; have p3 := blk_cell hP 3; simp at p0 p1 p2 p3; have f0 := blk_frozen hP 0; have f1 := blk_frozen hP 1; have f2 := blk_frozen hP 2; have f3 := blk_frozen hP 3; have HP := hd hP; clear hP) | (have hP : w4.heap[W1.heap.size]? = _ := (hb4.block W1.heap.size (by simp)).trans (blk_new W1.drew #[.string ⟨#[]⟩, .int .i64 0, .slice none 0 0, .slice none 0 0] 25); have p0 := blk_cell hP 0; have p1 := blk_cell hP 1; have p2 := blk_cell hP 2; have p3 := blk_cell hP 3; simp at p0 p1 p2 p3; have f0 := blk_frozen hP 0; have f1 := blk_frozen hP 1; have f2 := blk_frozen hP 2; have f3 := blk_frozen hP 3; have HP := hd hP; clear hP) | skip); have hs4 := hW4.size; have hnC : w4.heap.size ≠ w.heap.size := (by have := HS.out; omega); have hnC' := hnC.symm; have hnD : (mk w4).heap.size ≠ w.heap.size := (by have := HS.out; have := (HM.out w4).2.size; omega); have hnD' := hnD.symm; have HO4 := hd hown4; have HB4 := hd hb4; have HW4 := hd hW4; clear hown4 hb4 hW4 hq4))
    all_goals
      go_wp2_with fail
      go_meet
      have hg0 := HB4.out.size
      have hm0 := (HM.out W1.drew).2.size
      have hm0' : W1.heap.size ≤ (mk W1.drew).heap.size := hm0
      have hm4 := (HM.out w4).2
      have hm4s := hm4.size
      have hlA : (mk (W1.drew.alloc (Obj.cells #[.string ⟨#[]⟩, .int .i64 0, .slice none 0 0, .slice none 0 0] 25))).ownsRow (W1.heap.size + 1) 65 1 (.slice (some ⟨W1.heap.size + 1, 0, none⟩) bs.length bs.length) bs.length (flc (kpK bs ts 0)) := by
        have := (HM.out (W1.drew.alloc (Obj.cells #[.string ⟨#[]⟩, .int .i64 0, .slice none 0 0, .slice none 0 0] 25))).1; rw [World.size_alloc] at this; exact this
      have hlB : (mk (w4.alloc (Obj.cells #[.string ⟨#[]⟩, .int .i64 0, .slice none 0 0, .slice none 0 0] 25))).ownsRow (w4.heap.size + 1) 65 1 (.slice (some ⟨w4.heap.size + 1, 0, none⟩) bs.length bs.length) bs.length (flc (kpK bs ts 0)) := by
        have := (HM.out (w4.alloc (Obj.cells #[.string ⟨#[]⟩, .int .i64 0, .slice none 0 0, .slice none 0 0] 25))).1; rw [World.size_alloc] at this; exact this
      first
        | exact ⟨_, _, _, rfl, hd (ki_stored HS.out HB.out HQ.out HR.out HW4.out HP.out (by first | exact hm0' | exact Nat.le_refl _) (own_bel ((HM.out W1.drew).1.alloc _) HB4.out) (Nat.le_refl _) HO4.out (by first | exact hm0' | (simp; done) | (simp; omega)))⟩
        | exact ⟨_, _, _, rfl, hd (ki_stored HS.out HB.out HQ.out HR.out HW4.out HP.out (Nat.le_refl _) (own_bel hlA HB4.out) (by omega) HO4.out (Nat.le_trans (by simp) (HM.out (W1.drew.alloc (Obj.cells #[.string ⟨#[]⟩, .int .i64 0, .slice none 0 0, .slice none 0 0] 25))).2.size))⟩
        | exact ⟨_, _, _, rfl, hd (ki_stored HS.out HB.out HQ.out HR.out (HW4.out.trans (hm4.mono hs4)) ((hm4.block _ (blk_lt HP.out)).trans HP.out) (Nat.le_refl _) (HM.out w4).1 hs4 (own_bel HO4.out hm4) (by simp))⟩
        | exact ⟨_, _, _, rfl, hd (ki_stored HS.out HB.out HQ.out HR.out ((HW4.out.alloc hs4 _).trans ((HM.out (w4.alloc (Obj.cells #[.string ⟨#[]⟩, .int .i64 0, .slice none 0 0, .slice none 0 0] 25))).2.mono (Nat.le_trans hs4 (by simp)))) (((HM.out (w4.alloc (Obj.cells #[.string ⟨#[]⟩, .int .i64 0, .slice none 0 0, .slice none 0 0] 25))).2.block _ (by simp)).trans (blk_new w4 #[.string ⟨#[]⟩, .int .i64 0, .slice none 0 0, .slice none 0 0] 25)) hs4 hlB (by omega) (own_bel (HO4.out.alloc _) (HM.out (w4.alloc (Obj.cells #[.string ⟨#[]⟩, .int .i64 0, .slice none 0 0, .slice none 0 0] 25))).2) (Nat.le_refl _))⟩
        | exact ⟨_, _, _, rfl, hd (ki_alloc HS.out HB.out HQ.out HR.out HW4.out (own_bel (HM.out W1.drew).1 HB4.out) (Nat.le_refl _) HO4.out hm0')⟩
        | exact ⟨_, _, _, rfl, hd (ki_alloc HS.out HB.out HQ.out HR.out (HW4.out.trans (hm4.mono hs4)) (HM.out w4).1 hs4 (own_bel HO4.out hm4) (Nat.le_refl _))⟩
  case rest =>
    obtain ⟨R, L, gv, rfl, HK⟩ := hcut
    obtain ⟨A4, c4, hv4, -⟩ := own_form HK.out.gap
    subst hv4
    clear hm1 HM hmc hmf HG1 HG b0 hnA hnA' hnB hnB' q0 q1 q2 hW1s
    have HTR := hd (fun W (h : Below w.heap.size w W) => HT.out.below h (Nat.le_refl _))
    have HLR := hd (fun W (h : Below w.heap.size w W) => HL.out.below h (Nat.le_refl _))
    clear HB HQ HR
    go_wp2
    go_loopw [6] (fun i wr => ∃ k : Nat, k ≤ bs.length ∧ i = .int .i64 k ∧ Hid (KI w #[.string nm, .int .i64 st, .slice A bs.length c, .slice A2 m c2] #[.string ⟨#[]⟩, .int .i64 0, .slice none 0 0, .slice none 0 0] nm st R L (.slice A4 (strF (ts.map (!·)) ts.length).length c4) bs.length (kpK bs ts k) (strF (ts.map (!·)) ts.length) wr)) (fun i _ => bs.length - (intOf i).toNat)
    case atStart => exact ⟨0, Nat.zero_le _, rfl, HK⟩
    case round =>
      obtain ⟨k, hk, rfl, HI⟩ := hrel
      clear HK
      by_cases hlt : k < bs.length
      · have hki : (k : Int) < (bs.length : Int) := by omega
        have hkt : k < ts.length := by rw [HE.out]; exact hlt
        have hti : (k : Int) < (ts.length : Int) := by omega
        obtain ⟨A', c', e', -, -, hx⟩ := HTR.out _ HI.out.bel
        cases e'
        obtain ⟨b, off, rfl, hbb, hcell⟩ := hx (by omega)
        have ht0 : wr.cell? ⟨b, off + k, none⟩ = some (.bool (ts.getD k false)) := by rw [hcell k (by simpa using hkt)]; simp [hkt]
        clear hcell hx
        cases htk : ts.getD k false
        · rw [htk] at ht0
          have HS2 := hd (kpK_no bs ts k htk)
          clear htk
          go_wp2
          go_roundw
          case rel => exact ⟨k + 1, by omega, by go_num, by rw [HS2.out]; exact HI⟩
          case measure => simp [intOf]; omega
        · rw [htk] at ht0
          have HS2 := hd (kpK_yes bs ts k htk)
          obtain ⟨A', c', e', -, -, hx⟩ := HLR.out _ HI.out.bel
          cases e'
          obtain ⟨b2, off2, rfl, hbb2, hcell⟩ := hx (by omega)
          have hl0 : wr.cell? ⟨b2, off2 + k, none⟩ = some (.float .f32 (bs.getD k 0)) := by rw [hcell k (by simpa [flc] using hlt)]; simp [flc, hlt]
          have r2 := blk_cell HI.out.out 2
          have q2 := blk_cell HI.out.rcd 2
          simp at r2 q2
          have s1 := HI.out.lev.cellAt k (by omega)
          have s2 := HI.out.lev.frozenAt k
          rw [show (flc (kpK bs ts k))[k]? = some (.float .f32 ((kpK bs ts k).getD k 0)) by simp [flc, kpK, hlt]] at s1
          generalize (kpK bs ts k).getD k 0 = y at s1
          have HI2 := hd (HI.out.drew.put k (bs.getD k 0) HS2.out)
          clear hcell hx htk
          generalize bs.getD k 0 = x at hl0 HI2 HS2
          go_wp2_with fail
          go_big_region
          go_wp2
          go_roundw
          case rel => exact ⟨k + 1, by omega, by go_num, HI2⟩
          case measure => simp [intOf]; omega
      · have hke : k = bs.length := by omega
        have HI2 := hd (show KI w #[.string nm, .int .i64 st, .slice A bs.length c, .slice A2 m c2] #[.string ⟨#[]⟩, .int .i64 0, .slice none 0 0, .slice none 0 0] nm st R L (.slice A4 (strF (ts.map (!·)) ts.length).length c4) bs.length (asmK bs ts bs.length) (strF (ts.map (!·)) ts.length) wr from by
          have := HI.out; rw [hke, kpK_end] at this; exact this)
        have hnt : ¬ (k : Int) < (ts.length : Int) := by rw [HE.out]; omega
        clear HI hke hlt
        have x0 := blk_cell HI2.out.out 0
        have x1 := blk_cell HI2.out.out 1
        have x2 := blk_cell HI2.out.out 2
        have x3 := blk_cell HI2.out.out 3
        have y0 := blk_cell HI2.out.res 0
        have y1 := blk_cell HI2.out.res 1
        have y2 := blk_cell HI2.out.res 2
        have y3 := blk_cell HI2.out.res 3
        have f0 := blk_frozen HI2.out.res 0
        have f1 := blk_frozen HI2.out.res 1
        have f2 := blk_frozen HI2.out.res 2
        have f3 := blk_frozen HI2.out.res 3
        simp at x0 x1 x2 x3 y0 y1 y2 y3
        obtain ⟨W7, hW7⟩ : ∃ W7, W7 = set4 wr (w.heap.size + 1) (.string nm) (.int .i64 st) (.slice (some ⟨L, 0, none⟩) bs.length bs.length) (.slice A4 (strF (ts.map (!·)) ts.length).length c4) := ⟨_, rfl⟩
        have h7 := set4_blk HI2.out.res (.string nm) (.int .i64 st) (.slice (some ⟨L, 0, none⟩) bs.length bs.length) (.slice A4 (strF (ts.map (!·)) ts.length).length c4)
        have l7 := own_base (own_set4 (R := w.heap.size + 1) (a := .string nm) (b := .int .i64 st) (c := .slice (some ⟨L, 0, none⟩) bs.length bs.length) (d := (.slice A4 (strF (ts.map (!·)) ts.length).length c4)) HI2.out.lev (by omega)) (show w.heap.size ≤ w.heap.size + 2 by omega)
        have g7 := own_base (own_set4 (R := w.heap.size + 1) (a := .string nm) (b := .int .i64 st) (c := .slice (some ⟨L, 0, none⟩) bs.length bs.length) (d := (.slice A4 (strF (ts.map (!·)) ts.length).length c4)) HI2.out.gap (by omega)) (show w.heap.size ≤ w.heap.size + 2 by omega)
        have b7 := set4_below HI2.out.bel (R := w.heap.size + 1) (by omega) (.string nm) (.int .i64 st) (.slice (some ⟨L, 0, none⟩) bs.length bs.length) (.slice A4 (strF (ts.map (!·)) ts.length).length c4)
        rw [← hW7] at h7 l7 g7 b7
        have z0 := blk_cell h7 0
        have z1 := blk_cell h7 1
        have z2 := blk_cell h7 2
        have z3 := blk_cell h7 3
        simp at z0 z1 z2 z3
        have HZ := hd (And.intro z0 (And.intro z1 (And.intro z2 z3)))
        have HW7 := hd (show (((wr.setCell ⟨w.heap.size + 1, 0, none⟩ (.string nm)).setCell ⟨w.heap.size + 1, 1, none⟩ (.int .i64 st)).setCell ⟨w.heap.size + 1, 2, none⟩ (.slice (some ⟨L, 0, none⟩) bs.length bs.length)).setCell ⟨w.heap.size + 1, 3, none⟩ (.slice A4 (strF (ts.map (!·)) ts.length).length c4) = W7 from hW7.symm)
        have H7 := hd (And.intro l7 (And.intro g7 b7))
        clear h7 l7 g7 b7 z0 z1 z2 z3 hW7
        go_wp2
        rw [HW7.out]
        obtain ⟨z0, z1, z2, z3⟩ := HZ.out
        exact bodyPost_ret (v := .agg #[.string nm, .int .i64 st, .slice (some ⟨L, 0, none⟩) bs.length bs.length, (.slice A4 (strF (ts.map (!·)) ts.length).length c4)]) (by simp [results, Tryz.results66, go_sem, z0, z1, z2, z3]) rfl ⟨_, _, rfl, by rw [asmK_len]; exact H7.out.1, H7.out.2.1, H7.out.2.2⟩
end Go.Proofs.YtnncmaegmlaabaaGreatDoor
