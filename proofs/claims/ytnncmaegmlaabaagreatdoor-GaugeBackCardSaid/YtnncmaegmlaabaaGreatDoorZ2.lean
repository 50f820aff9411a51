/-
  Plain words on lists of spans: canonical lists with the same ticks are one list; what Join, Meet and Minus choose is canonical, and has just the ticks that the choice says. No program.
  Plain words on the reference's sweep over marked ticks: the spans that it finds are canonical, and have just the marked ticks. No program.
-/

import Derived.Test.YtnncmaegmlaabaaGreatDoorMN
namespace Go.Proofs.YtnncmaegmlaabaaGreatDoor
open Go.RowKit

/-- Ticks of a list of spans. -/
def hasL (l : List (Int × Int)) (t : Int) : Bool := l.any fun s => decide (s.1 ≤ t) && decide (t < s.2)
theorem hasL_true {l : List (Int × Int)} {t : Int} : hasL l t = true ↔ ∃ s ∈ l, s.1 ≤ t ∧ t < s.2 := by simp [hasL]
theorem hasL_false {l : List (Int × Int)} {t : Int} : hasL l t = false ↔ ∀ s ∈ l, ¬ (s.1 ≤ t ∧ t < s.2) := by
  rw [Bool.eq_false_iff, ne_eq, hasL_true]
  exact ⟨fun h s hs hh => h ⟨s, hs, hh⟩, fun h ⟨s, hs, hh⟩ => h s hs hh⟩
theorem hasL_append (l m : List (Int × Int)) (t : Int) : hasL (l ++ m) t = (hasL l t || hasL m t) := by simp [hasL]
theorem hasL_cons (s : Int × Int) (m : List (Int × Int)) (t : Int) : hasL (s :: m) t = ((decide (s.1 ≤ t) && decide (t < s.2)) || hasL m t) := by simp [hasL]

/-- Canonical, whatever the bounds. -/
def Can (l : List (Int × Int)) : Prop := l.Pairwise (fun a b => a.2 < b.1) ∧ ∀ s ∈ l, s.1 < s.2
theorem can_tail {s : Int × Int} {l : List (Int × Int)} (h : Can (s :: l)) : Can l ∧ (∀ x ∈ l, s.2 < x.1) ∧ s.1 < s.2 := by
  obtain ⟨h1, h2⟩ := h
  rw [List.pairwise_cons] at h1
  exact ⟨⟨h1.2, fun x hx => h2 x (List.mem_cons_of_mem _ hx)⟩, h1.1, h2 s (List.mem_cons_self ..)⟩
theorem can_first {s r : Int × Int} {l m : List (Int × Int)} (hl : Can (s :: l)) (hm : Can (r :: m)) (h : ∀ t, hasL (s :: l) t = hasL (r :: m) t) : r.1 ≤ s.1 := by
  obtain ⟨_, _, pl⟩ := can_tail hl
  obtain ⟨_, gm, pm⟩ := can_tail hm
  obtain ⟨x, hx, h1, _⟩ := hasL_true.1 ((h s.1).symm.trans (hasL_true.2 ⟨s, List.mem_cons_self .., by omega, pl⟩))
  rcases List.mem_cons.1 hx with rfl | hx
  · exact h1
  · have := gm x hx; omega
theorem can_end {s r : Int × Int} {l m : List (Int × Int)} (hl : Can (s :: l)) (hm : Can (r :: m)) (he : s.1 = r.1) (h : ∀ t, hasL (s :: l) t = hasL (r :: m) t) : r.2 ≤ s.2 := by
  obtain ⟨_, gl, pl⟩ := can_tail hl
  obtain ⟨_, gm, pm⟩ := can_tail hm
  rcases Int.lt_or_le s.2 r.2 with hlt | hle
  · have h1 : hasL (s :: l) s.2 = true := (h s.2).trans (hasL_true.2 ⟨r, List.mem_cons_self .., by omega, hlt⟩)
    obtain ⟨x, hx, h2, h3⟩ := hasL_true.1 h1
    rcases List.mem_cons.1 hx with rfl | hx
    · omega
    · have := gl x hx; omega
  · exact hle
theorem can_uniq : ∀ (l m : List (Int × Int)), Can l → Can m → (∀ t, hasL l t = hasL m t) → l = m
  | [], [], _, _, _ => rfl
  | [], s :: m, _, hm, h => by
    have h2 := (can_tail hm).2.2
    have h1 := h s.1
    rw [hasL_true.2 ⟨s, List.mem_cons_self .., by omega, h2⟩] at h1
    simp [hasL] at h1
  | s :: l, [], hl, _, h => by
    have h2 := (can_tail hl).2.2
    have h1 := h s.1
    rw [hasL_true.2 ⟨s, List.mem_cons_self .., by omega, h2⟩] at h1
    simp [hasL] at h1
  | s :: l, r :: m, hl, hm, h => by
    have e1 : s.1 = r.1 := Int.le_antisymm (can_first hm hl fun t => (h t).symm) (can_first hl hm h)
    have e2 : s.2 = r.2 := Int.le_antisymm (can_end hm hl e1.symm fun t => (h t).symm) (can_end hl hm e1 h)
    obtain ⟨cl, gl, pl⟩ := can_tail hl
    obtain ⟨cm, gm, pm⟩ := can_tail hm
    have e : s = r := Prod.ext e1 e2
    subst e
    rw [can_uniq l m cl cm fun t => ?_]
    have ht := h t
    rw [hasL_cons, hasL_cons] at ht
    rcases Int.lt_or_le t s.2 with hlt | hle
    · have a1 : hasL l t = false := hasL_false.2 fun x hx => by have := gl x hx; omega
      have a2 : hasL m t = false := hasL_false.2 fun x hx => by have := gm x hx; omega
      rw [a1, a2]
    · have : ¬ t < s.2 := by omega
      simpa [this] using ht

theorem ix_cons (s : Int × Int) (l : List (Int × Int)) (t : Int) : ix (s :: l) t = ix l t + if t < s.2 then 0 else 1 := by
  unfold ix
  rw [List.length_cons, List.range_succ_eq_map, List.countP_cons, List.countP_map]
  congr 1
  by_cases h : t < s.2 <;> simp [h]
theorem ix_zero (l : List (Int × Int)) (t : Int) (h : ∀ s ∈ l, t < s.2) : ix l t = 0 := by
  induction l with
  | nil => rfl
  | cons s l ih => rw [ix_cons, ih fun x hx => h x (List.mem_cons_of_mem _ hx), if_pos (h s (List.mem_cons_self ..))]
theorem cov_has (l : List (Int × Int)) (t : Int) (h : Can l) : cov l t = hasL l t := by
  induction l with
  | nil => rfl
  | cons s l ih =>
    obtain ⟨cl, gl, pl⟩ := can_tail h
    have ih := ih cl
    rw [hasL_cons]
    unfold cov
    rw [ix_cons]
    by_cases hlt : t < s.2
    · have a1 : hasL l t = false := hasL_false.2 fun x hx => by have := gl x hx; omega
      rw [ix_zero l t fun x hx => by have := gl x hx; have := cl.2 x hx; omega, a1]
      simp [hlt]
    · rw [← ih]
      unfold cov
      simp [hlt]

theorem ext_can (l : List (Int × Int)) (f t : Int) (hC : Can l) (hle : ∀ s ∈ l, s.2 ≤ f) (hft : f < t) :
    Can (ext l f t) ∧ (∀ x, hasL (ext l f t) x = (hasL l x || (decide (f ≤ x) && decide (x < t)))) ∧ ∀ s ∈ ext l f t, (s.1 = f ∨ ∃ s' ∈ l, s.1 = s'.1) ∧ s.2 ≤ t := by
  rcases List.eq_nil_or_concat l with rfl | ⟨l', ⟨a, b⟩, rfl⟩
  · rw [ext_nil]
    refine ⟨⟨by simp, by simpa using hft⟩, fun x => by simp [hasL], fun s hs => ?_⟩
    rw [List.mem_singleton] at hs
    subst hs
    exact ⟨.inl rfl, Int.le_refl _⟩
  · rw [List.concat_eq_append] at *
    rw [ext_snoc]
    obtain ⟨hp, hs⟩ := hC
    rw [List.pairwise_append] at hp
    obtain ⟨hp1, -, hp2⟩ := hp
    have hab : a < b := hs (a, b) (by simp)
    have hbf : b ≤ f := hle (a, b) (by simp)
    have hl' : ∀ s ∈ l', s.2 < a := fun s h => hp2 s h (a, b) (by simp)
    by_cases hb : b = f
    · subst hb
      rw [if_pos rfl]
      refine ⟨⟨?_, ?_⟩, fun x => ?_, fun s h => ?_⟩
      · rw [List.pairwise_append]
        exact ⟨hp1, by simp, fun s h r hr => by rw [List.mem_singleton] at hr; subst hr; exact hl' s h⟩
      · intro s h
        rcases List.mem_append.1 h with h | h
        · exact hs s (List.mem_append_left _ h)
        · rw [List.mem_singleton] at h; subst h; show a < t; omega
      · rw [hasL_append, hasL_append, Bool.or_assoc]
        congr 1
        rw [Bool.eq_iff_iff]
        simp [hasL]
        omega
      · rcases List.mem_append.1 h with h' | h'
        · refine ⟨.inr ⟨s, List.mem_append_left _ h', rfl⟩, ?_⟩
          have := hle s (List.mem_append_left _ h'); omega
        · rw [List.mem_singleton] at h'; subst h'
          exact ⟨.inr ⟨(a, b), by simp, rfl⟩, Int.le_refl _⟩
    · rw [if_neg hb]
      refine ⟨⟨?_, ?_⟩, fun x => ?_, fun s h => ?_⟩
      · rw [List.pairwise_append, List.pairwise_append]
        refine ⟨⟨hp1, by simp, fun s h r hr => by rw [List.mem_singleton] at hr; subst hr; exact hl' s h⟩, by simp, fun s h r hr => ?_⟩
        rw [List.mem_singleton] at hr; subst hr
        rcases List.mem_append.1 h with h | h
        · have := hl' s h; show s.2 < f; omega
        · rw [List.mem_singleton] at h; subst h; show b < f; omega
      · intro s h
        rcases List.mem_append.1 h with h | h
        · exact hs s h
        · rw [List.mem_singleton] at h; subst h; exact hft
      · rw [hasL_append]
        congr 1
        simp [hasL]
      · rcases List.mem_append.1 h with h' | h'
        · refine ⟨.inr ⟨s, h', rfl⟩, ?_⟩
          have := hle s h'; omega
        · rw [List.mem_singleton] at h'; subst h'
          exact ⟨.inl rfl, Int.le_refl _⟩

/-- Ascending cuts. -/
def Up (cl : List Int) : Prop := ∀ i j, i < j → j < cl.length → cl.getD i 0 < cl.getD j 0
theorem sweep (a b : List (Int × Int)) (kp : Bool → Bool → Bool) (cl : List Int) (P : Int → Bool) (hcl : Up cl)
    (hP : ∀ k, k + 1 < cl.length → ∀ t, cl.getD k 0 ≤ t → t < cl.getD (k + 1) 0 → P t = kp (cov a (cl.getD k 0)) (cov b (cl.getD k 0))) :
    ∀ k, k < cl.length → Can (combK a b kp cl k) ∧ (∀ s ∈ combK a b kp cl k, cl.getD 0 0 ≤ s.1 ∧ s.2 ≤ cl.getD k 0) ∧ (∀ t, hasL (combK a b kp cl k) t = (decide (cl.getD 0 0 ≤ t) && decide (t < cl.getD k 0) && P t))
  | 0, _ => by
    refine ⟨⟨.nil, fun s hs => by cases hs⟩, fun s hs => (by cases hs), fun t => ?_⟩
    have : (decide (cl.getD 0 0 ≤ t) && decide (t < cl.getD 0 0)) = false := by simp
    rw [this]; rfl
  | k + 1, hk => by
    obtain ⟨h1, h2, h3⟩ := sweep a b kp cl P hcl hP k (by omega)
    have hlt := hcl k (k + 1) (by omega) hk
    have h0 : cl.getD 0 0 ≤ cl.getD k 0 := by
      rcases Nat.eq_zero_or_pos k with rfl | h
      · exact Int.le_refl _
      · exact Int.le_of_lt (hcl 0 k h (by omega))
    have hp := hP k hk
    rw [combK]
    by_cases hq : kp (cov a (cl.getD k 0)) (cov b (cl.getD k 0)) = true
    · rw [if_pos hq]
      obtain ⟨e1, e2, e3⟩ := ext_can _ (cl.getD k 0) (cl.getD (k + 1) 0) h1 (fun s hs => (h2 s hs).2) hlt
      refine ⟨e1, fun s hs => ?_, fun t => ?_⟩
      · obtain ⟨e4, e5⟩ := e3 s hs
        refine ⟨?_, e5⟩
        rcases e4 with e4 | ⟨s', hs', e4⟩
        · omega
        · rw [e4]; exact (h2 s' hs').1
      · rw [e2, h3]
        rcases Int.lt_or_le t (cl.getD k 0) with h | h
        · have a1 : ¬ cl.getD k 0 ≤ t := by omega
          have a2 : t < cl.getD (k + 1) 0 := by omega
          simp only [h, a1, a2, decide_true, decide_false, Bool.or_false, Bool.and_true]
        · rcases Int.lt_or_le t (cl.getD (k + 1) 0) with h' | h'
          · have a1 : ¬ t < cl.getD k 0 := by omega
            have a2 : cl.getD 0 0 ≤ t := by omega
            rw [hp t h h', hq]
            simp only [h, h', a1, a2, decide_true, decide_false, Bool.and_false, Bool.false_or, Bool.and_true]
          · have a1 : ¬ t < cl.getD k 0 := by omega
            have a2 : ¬ t < cl.getD (k + 1) 0 := by omega
            simp only [a1, a2, decide_false, Bool.false_and, Bool.and_false, Bool.or_false]
    · have hq' : kp (cov a (cl.getD k 0)) (cov b (cl.getD k 0)) = false := by simpa using hq
      rw [if_neg hq]
      refine ⟨h1, fun s hs => ⟨(h2 s hs).1, by have := (h2 s hs).2; omega⟩, fun t => ?_⟩
      rw [h3]
      rcases Int.lt_or_le t (cl.getD k 0) with h | h
      · have a2 : t < cl.getD (k + 1) 0 := by omega
        simp only [h, a2]
      · rcases Int.lt_or_le t (cl.getD (k + 1) 0) with h' | h'
        · have a1 : ¬ t < cl.getD k 0 := by omega
          rw [hp t h h', hq']
          simp
        · have a1 : ¬ t < cl.getD k 0 := by omega
          have a2 : ¬ t < cl.getD (k + 1) 0 := by omega
          simp only [a1, a2]

theorem can_of (l : List (Int × Int)) (h : chkSpans l = 0) : Can l :=
  ⟨(chkSpans_ok l h).2.2, fun s hs => ((chkSpans_ok l h).2.1 s hs).2.1⟩

theorem chkFrom_can (l : List (Int × Int)) : ∀ e : Int, Can l → (∀ s ∈ l, e < s.1 ∧ 0 ≤ s.1 ∧ s.2 ≤ 100000) → chkFrom e l = 0 := by
  induction l with
  | nil => intro e _ _; rfl
  | cons s l ih =>
    intro e hC h
    obtain ⟨c1, c2, c3⟩ := can_tail hC
    obtain ⟨h1, h2, h3⟩ := h s (List.mem_cons_self ..)
    have hs : chkSpan s.1 s.2 = 0 := by simp [chkSpan, h2, c3, h3]
    rw [chkFrom, hs]
    simp only [ne_eq, not_true, if_false, h1, if_true]
    exact ih _ c1 fun x hx => ⟨c2 x hx, (h x (List.mem_cons_of_mem _ hx)).2⟩
theorem chk_can (l : List (Int × Int)) (hC : Can l) (h : ∀ s ∈ l, 0 ≤ s.1 ∧ s.2 ≤ 100000) (hl : l.length ≤ 2048) : chkSpans l = 0 := by
  unfold chkSpans
  rw [if_neg (by omega)]
  exact chkFrom_can l _ hC fun s hs => ⟨by have := (h s hs).1; omega, h s hs⟩
end Go.Proofs.YtnncmaegmlaabaaGreatDoor

namespace Go.Proofs.YtnncmaegmlaabaaGreatDoor
open Go.RowKit


end Go.Proofs.YtnncmaegmlaabaaGreatDoor
