/-
  Plain words on lists of spans: canonical lists with the same ticks are one list; what Join, Meet and Minus choose is canonical, and has just the ticks that the choice says. No program.
  Plain words on the reference's sweep over marked ticks: the spans that it finds are canonical, and have just the marked ticks. No program.
-/
import Derived.Test.YtnncmaegmlaabaaGreatDoorMN

namespace Go.Proofs.YtnncmaegmlaabaaGreatDoor
open Go.RowKit

/-- Ticks of a list of spans. -/
def hasL (l : List (Int × Int)) (t : Int) : Bool := l.any fun s => decide (s.1 ≤ t) && decide (t < s.2)
theorem hasL_true {l : List (Int × Int)} {t : Int} : hasL l t = true ↔ ∃ s ∈ l, s.1 ≤ t ∧ t < s.2 := by simp [hasL]
theorem hasL_false {l : List (Int × Int)} {t : Int} : hasL l t = false ↔ ∀ s ∈ l, ¬ (s.1 ≤ t ∧ t < s.2) := by
  rw [Bool.eq_false_iff, ne_eq, hasL_true]
  exact ⟨fun h s hs hh => h ⟨s, hs, hh⟩, fun h ⟨s, hs, hh⟩ => h s hs hh⟩
theorem hasL_append (l m : List (Int × Int)) (t : Int) : hasL (l ++ m) t = (hasL l t || hasL m t) := by simp [hasL]
theorem hasL_cons (s : Int × Int) (m : List (Int × Int)) (t : Int) : hasL (s :: m) t = ((decide (s.1 ≤ t) && decide (t < s.2)) || hasL m t) := by simp [hasL]

/-- Canonical, whatever the bounds. -/
def Can (l : List (Int × Int)) : Prop := l.Pairwise (fun a b => a.2 < b.1) ∧ ∀ s ∈ l, s.1 < s.2
theorem can_tail {s : Int × Int} {l : List (Int × Int)} (h : Can (s :: l)) : Can l ∧ (∀ x ∈ l, s.2 < x.1) ∧ s.1 < s.2 := by
  obtain ⟨h1, h2⟩ := h
  rw [List.pairwise_cons] at h1
  exact ⟨⟨h1.2, fun x hx => h2 x (List.mem_cons_of_mem _ hx)⟩, h1.1, h2 s (List.mem_cons_self ..)⟩
theorem can_first {s r : Int × Int} {l m : List (Int × Int)} (hl : Can (s :: l)) (hm : Can (r :: m)) (h : ∀ t, hasL (s :: l) t = hasL (r :: m) t) : r.1 ≤ s.1 := by
  obtain ⟨_, _, pl⟩ := can_tail hl
  obtain ⟨_, gm, pm⟩ := can_tail hm
  obtain ⟨x, hx, h1, _⟩ := hasL_true.1 ((h s.1).symm.trans (hasL_true.2 ⟨s, List.mem_cons_self .., by omega, pl⟩))
  rcases List.mem_cons.1 hx with rfl | hx
  · exact h1
  · have := gm x hx; omega
theorem can_end {s r : Int × Int} {l m : List (Int × Int)} (hl : Can (s :: l)) (hm : Can (r :: m)) (he : s.1 = r.1) (h : ∀ t, hasL (s :: l) t = hasL (r :: m) t) : r.2 ≤ s.2 := by
  obtain ⟨_, gl, pl⟩ := can_tail hl
  obtain ⟨_, gm, pm⟩ := can_tail hm
  rcases Int.lt_or_le s.2 r.2 with hlt | hle
  · have h1 : hasL (s :: l) s.2 = true := (h s.2).trans (hasL_true.2 ⟨r, List.mem_cons_self .., by omega, hlt⟩)
    obtain ⟨x, hx, h2, h3⟩ := hasL_true.1 h1
    rcases List.mem_cons.1 hx with rfl | hx
    · omega
    · have := gl x hx; omega
  · exact hle
theorem can_uniq : ∀ (l m : List (Int × Int)), Can l → Can m → (∀ t, hasL l t = hasL m t) → l = m
  | [], [], _, _, _ => rfl
  | [], s :: m, _, hm, h => by
    have h2 := (can_tail hm).2.2
    have h1 := h s.1
    rw [hasL_true.2 ⟨s, List.mem_cons_self .., by omega, h2⟩] at h1
    simp [hasL] at h1
  | s :: l, [], hl, _, h => by
    have h2 := (can_tail hl).2.2
    have h1 := h s.1
    rw [hasL_true.2 ⟨s, List.mem_cons_self .., by omega, h2⟩] at h1
    simp [hasL] at h1
  | s :: l, r :: m, hl, hm, h => by
    have e1 : s.1 = r.1 := Int.le_antisymm (can_first hm hl fun t => (h t).symm) (can_first hl hm h)
    have e2 : s.2 = r.2 := Int.le_antisymm (can_end hm hl e1.symm fun t => (h t).symm) (can_end hl hm e1 h)
    obtain ⟨cl, gl, pl⟩ := can_tail hl
    obtain ⟨cm, gm, pm⟩ := can_tail hm
    have e : s = r := Prod.ext e1 e2
    subst e
    rw [can_uniq l m cl cm fun t => ?_]
    have ht := h t
    rw [hasL_cons, hasL_cons] at ht
    rcases Int.lt_or_le t s.2 with hlt | hle
    · have a1 : hasL l t = false := hasL_false.2 fun x hx => by have := gl x hx; omega
      have a2 : hasL m t = false := hasL_false.2 fun x hx => by have := gm x hx; omega
      rw [a1, a2]
    · have : ¬ t < s.2 := by omega
      simpa [this] using ht

theorem ix_cons (s : Int × Int) (l : List (Int × Int)) (t : Int) : ix (s :: l) t = ix l t + if t < s.2 then 0 else 1 := by
  unfold ix
  rw [List.length_cons, List.range_succ_eq_map, List.countP_cons, List.countP_map]
  congr 1
  by_cases h : t < s.2 <;> simp [h]
theorem ix_zero (l : List (Int × Int)) (t : Int) (h : ∀ s ∈ l, t < s.2) : ix l t = 0 := by
  induction l with
  | nil => rfl
  | cons s l ih => rw [ix_cons, ih fun x hx => h x (List.mem_cons_of_mem _ hx), if_pos (h s (List.mem_cons_self ..))]
theorem cov_has (l : List (Int × Int)) (t : Int) (h : Can l) : cov l t = hasL l t := by
  induction l with
  | nil => rfl
  | cons s l ih =>
    obtain ⟨cl, gl, pl⟩ := can_tail h
    have ih := ih cl
    rw [hasL_cons]
    unfold cov
    rw [ix_cons]
    by_cases hlt : t < s.2
    · have a1 : hasL l t = false := hasL_false.2 fun x hx => by have := gl x hx; omega
      rw [ix_zero l t fun x hx => by have := gl x hx; have := cl.2 x hx; omega, a1]
      simp [hlt]
    · rw [← ih]
      unfold cov
      simp [hlt]

theorem ext_can (l : List (Int × Int)) (f t : Int) (hC : Can l) (hle : ∀ s ∈ l, s.2 ≤ f) (hft : f < t) :
    Can (ext l f t) ∧ (∀ x, hasL (ext l f t) x = (hasL l x || (decide (f ≤ x) && decide (x < t)))) ∧ ∀ s ∈ ext l f t, (s.1 = f ∨ ∃ s' ∈ l, s.1 = s'.1) ∧ s.2 ≤ t := by
  rcases List.eq_nil_or_concat l with rfl | ⟨l', ⟨a, b⟩, rfl⟩
  · rw [ext_nil]
    refine ⟨⟨by simp, by simpa using hft⟩, fun x => by simp [hasL], fun s hs => ?_⟩
    rw [List.mem_singleton] at hs
    subst hs
    exact ⟨.inl rfl, Int.le_refl _⟩
  · rw [List.concat_eq_append] at *
    rw [ext_snoc]
    obtain ⟨hp, hs⟩ := hC
    rw [List.pairwise_append] at hp
    obtain ⟨hp1, -, hp2⟩ := hp
    have hab : a < b := hs (a, b) (by simp)
    have hbf : b ≤ f := hle (a, b) (by simp)
    have hl' : ∀ s ∈ l', s.2 < a := fun s h => hp2 s h (a, b) (by simp)
    by_cases hb : b = f
    · subst hb
      rw [if_pos rfl]
      refine ⟨⟨?_, ?_⟩, fun x => ?_, fun s h => ?_⟩
      · rw [List.pairwise_append]
        exact ⟨hp1, by simp, fun s h r hr => by rw [List.mem_singleton] at hr; subst hr; exact hl' s h⟩
      · intro s h
        rcases List.mem_append.1 h with h | h
        · exact hs s (List.mem_append_left _ h)
        · rw [List.mem_singleton] at h; subst h; show a < t; omega
      · rw [hasL_append, hasL_append, Bool.or_assoc]
        congr 1
        rw [Bool.eq_iff_iff]
        simp [hasL]
        omega
      · rcases List.mem_append.1 h with h' | h'
        · refine ⟨.inr ⟨s, List.mem_append_left _ h', rfl⟩, ?_⟩
          have := hle s (List.mem_append_left _ h'); omega
        · rw [List.mem_singleton] at h'; subst h'
          exact ⟨.inr ⟨(a, b), by simp, rfl⟩, Int.le_refl _⟩
    · rw [if_neg hb]
      refine ⟨⟨?_, ?_⟩, fun x => ?_, fun s h => ?_⟩
      · rw [List.pairwise_append, List.pairwise_append]
        refine ⟨⟨hp1, by simp, fun s h r hr => by rw [List.mem_singleton] at hr; subst hr; exact hl' s h⟩, by simp, fun s h r hr => ?_⟩
        rw [List.mem_singleton] at hr; subst hr
        rcases List.mem_append.1 h with h | h
        · have := hl' s h; show s.2 < f; omega
        · rw [List.mem_singleton] at h; subst h; show b < f; omega
      · intro s h
        rcases List.mem_append.1 h with h | h
        · exact hs s h
        · rw [List.mem_singleton] at h; subst h; exact hft
      · rw [hasL_append]
        congr 1
        simp [hasL]
      · rcases List.mem_append.1 h with h' | h'
        · refine ⟨.inr ⟨s, h', rfl⟩, ?_⟩
          have := hle s h'; omega
        · rw [List.mem_singleton] at h'; subst h'
          exact ⟨.inl rfl, Int.le_refl _⟩

/-- Ascending cuts. -/
def Up (cl : List Int) : Prop := ∀ i j, i < j → j < cl.length → cl.getD i 0 < cl.getD j 0
theorem sweep (a b : List (Int × Int)) (kp : Bool → Bool → Bool) (cl : List Int) (P : Int → Bool) (hcl : Up cl)
    (hP : ∀ k, k + 1 < cl.length → ∀ t, cl.getD k 0 ≤ t → t < cl.getD (k + 1) 0 → P t = kp (cov a (cl.getD k 0)) (cov b (cl.getD k 0))) :
    ∀ k, k < cl.length → Can (combK a b kp cl k) ∧ (∀ s ∈ combK a b kp cl k, cl.getD 0 0 ≤ s.1 ∧ s.2 ≤ cl.getD k 0) ∧ (∀ t, hasL (combK a b kp cl k) t = (decide (cl.getD 0 0 ≤ t) && decide (t < cl.getD k 0) && P t))
  | 0, _ => by
    refine ⟨⟨.nil, fun s hs => by cases hs⟩, fun s hs => (by cases hs), fun t => ?_⟩
    have : (decide (cl.getD 0 0 ≤ t) && decide (t < cl.getD 0 0)) = false := by simp
    rw [this]; rfl
  | k + 1, hk => by
    obtain ⟨h1, h2, h3⟩ := sweep a b kp cl P hcl hP k (by omega)
    have hlt := hcl k (k + 1) (by omega) hk
    have h0 : cl.getD 0 0 ≤ cl.getD k 0 := by
      rcases Nat.eq_zero_or_pos k with rfl | h
      · exact Int.le_refl _
      · exact Int.le_of_lt (hcl 0 k h (by omega))
    have hp := hP k hk
    rw [combK]
    by_cases hq : kp (cov a (cl.getD k 0)) (cov b (cl.getD k 0)) = true
    · rw [if_pos hq]
      obtain ⟨e1, e2, e3⟩ := ext_can _ (cl.getD k 0) (cl.getD (k + 1) 0) h1 (fun s hs => (h2 s hs).2) hlt
      refine ⟨e1, fun s hs => ?_, fun t => ?_⟩
      · obtain ⟨e4, e5⟩ := e3 s hs
        refine ⟨?_, e5⟩
        rcases e4 with e4 | ⟨s', hs', e4⟩
        · omega
        · rw [e4]; exact (h2 s' hs').1
      · rw [e2, h3]
        rcases Int.lt_or_le t (cl.getD k 0) with h | h
        · have a1 : ¬ cl.getD k 0 ≤ t := by omega
          have a2 : t < cl.getD (k + 1) 0 := by omega
          simp only [h, a1, a2, decide_true, decide_false, Bool.or_false, Bool.and_true]
        · rcases Int.lt_or_le t (cl.getD (k + 1) 0) with h' | h'
          · have a1 : ¬ t < cl.getD k 0 := by omega
            have a2 : cl.getD 0 0 ≤ t := by omega
            rw [hp t h h', hq]
            simp only [h, h', a1, a2, decide_true, decide_false, Bool.and_false, Bool.false_or, Bool.and_true]
          · have a1 : ¬ t < cl.getD k 0 := by omega
            have a2 : ¬ t < cl.getD (k + 1) 0 := by omega
            simp only [a1, a2, decide_false, Bool.false_and, Bool.and_false, Bool.or_false]
    · have hq' : kp (cov a (cl.getD k 0)) (cov b (cl.getD k 0)) = false := by simpa using hq
      rw [if_neg hq]
      refine ⟨h1, fun s hs => ⟨(h2 s hs).1, by have := (h2 s hs).2; omega⟩, fun t => ?_⟩
      rw [h3]
      rcases Int.lt_or_le t (cl.getD k 0) with h | h
      · have a2 : t < cl.getD (k + 1) 0 := by omega
        simp only [h, a2]
      · rcases Int.lt_or_le t (cl.getD (k + 1) 0) with h' | h'
        · have a1 : ¬ t < cl.getD k 0 := by omega
          rw [hp t h h', hq']
          simp
        · have a1 : ¬ t < cl.getD k 0 := by omega
          have a2 : ¬ t < cl.getD (k + 1) 0 := by omega
          simp only [a1, a2]

/-- What is left of a sorted list when equal neighbours are dropped. -/
theorem compact_sorted (d : Array Int) (hd : ∀ i j, i < j → j < d.size → d[i]! ≤ d[j]!) : ∀ m, m ≤ d.size → (Lib.compactUpTo d m).Pairwise (· < ·) ∧ (∀ x ∈ Lib.compactUpTo d m, ∃ j, j < m ∧ x = d[j]!) ∧ (∀ j, j < m → d[j]! ∈ Lib.compactUpTo d m)
  | 0, _ => by
    refine ⟨?_, fun x hx => ?_, fun j hj => absurd hj (by omega)⟩
    · simp [Lib.compactUpTo]
    · simp [Lib.compactUpTo] at hx
  | m + 1, hm => by
    obtain ⟨h1, h2, h3⟩ := compact_sorted d hd m (by omega)
    rw [Lib.compactUpTo_succ]
    by_cases hk : Lib.keeps d m = true
    · rw [if_pos hk]
      refine ⟨?_, fun x hx => ?_, fun j hj => ?_⟩
      · rw [List.pairwise_append]
        refine ⟨h1, by simp, fun x hx y hy => ?_⟩
        rw [List.mem_singleton] at hy
        subst hy
        obtain ⟨j, hj, rfl⟩ := h2 x hx
        have hne : d[m]! ≠ d[m - 1]! := by
          unfold Lib.keeps at hk
          rcases of_decide_eq_true hk with h | h
          · omega
          · exact h
        have h4 : d[m - 1]! ≤ d[m]! := hd _ _ (by omega) (by omega)
        have h5 : d[j]! ≤ d[m - 1]! := by
          rcases Nat.lt_or_ge j (m - 1) with h | h
          · exact hd _ _ h (by omega)
          · have : j = m - 1 := by omega
            rw [this]; exact Int.le_refl _
        omega
      · rcases List.mem_append.1 hx with h | h
        · obtain ⟨j, hj, e⟩ := h2 x h; exact ⟨j, by omega, e⟩
        · rw [List.mem_singleton] at h; exact ⟨m, by omega, h⟩
      · rcases Nat.lt_or_ge j m with h | h
        · exact List.mem_append_left _ (h3 j h)
        · have : j = m := by omega
          subst this; simp
    · rw [if_neg hk, List.append_nil]
      refine ⟨h1, fun x hx => ?_, fun j hj => ?_⟩
      · obtain ⟨j, hj, e⟩ := h2 x hx; exact ⟨j, by omega, e⟩
      · rcases Nat.lt_or_ge j m with h | h
        · exact h3 j h
        · have hjm : j = m := by omega
          subst hjm
          have hk' : ¬ (j = 0 ∨ d[j]! ≠ d[j - 1]!) := fun h => hk (decide_eq_true h)
          have h0 : 0 < j := by rcases Nat.eq_zero_or_pos j with h | h; exact absurd (.inl h) hk'; exact h
          have he : d[j]! = d[j - 1]! := by
            by_cases e : d[j]! = d[j - 1]!
            · exact e
            · exact absurd (.inr e) hk'
          rw [he]
          exact h3 (j - 1) (by omega)

theorem cuts_up (a b : List (Int × Int)) : Up (cutsOf a b) ∧ ∀ x, x ∈ cutsOf a b ↔ x ∈ endAll a b := by
  have hs : ((endAll a b).mergeSort fun x y => decide (x ≤ y)).Pairwise (fun x y => decide (x ≤ y) = true) :=
    List.pairwise_mergeSort (le := fun x y : Int => decide (x ≤ y)) (fun x y z h1 h2 => by simp at *; omega) (fun x y => by simp; omega) _
  have hm : ∀ x, x ∈ ((endAll a b).mergeSort fun x y => decide (x ≤ y)) ↔ x ∈ endAll a b := fun x => List.mem_mergeSort
  unfold cutsOf
  generalize ((endAll a b).mergeSort fun x y => decide (x ≤ y)) = zs at *
  unfold Lib.compact
  have hd : ∀ i j, i < j → j < zs.toArray.size → zs.toArray[i]! ≤ zs.toArray[j]! := by
    intro i j hij hj
    simp only [List.size_toArray] at hj
    have hi : i < zs.length := by omega
    have := (List.pairwise_iff_getElem.1 hs) i j hi hj hij
    simp [hi, hj] at this ⊢
    exact this
  obtain ⟨h1, h2, h3⟩ := compact_sorted zs.toArray hd zs.length (by simp)
  refine ⟨fun i j hij hj => ?_, fun x => ?_⟩
  · have hi : i < (Lib.compactUpTo zs.toArray zs.length).length := by omega
    have := (List.pairwise_iff_getElem.1 h1) i j hi hj hij
    simpa [hi, hj] using this
  · rw [← hm]
    constructor
    · intro hx
      obtain ⟨j, hj, rfl⟩ := h2 x hx
      simp [hj]
    · intro hx
      obtain ⟨j, hj, rfl⟩ := List.mem_iff_getElem.1 hx
      have := h3 j hj
      simpa [hj] using this

theorem end_mem (l : List (Int × Int)) (x : Int) : x ∈ endK l l.length ↔ ∃ s ∈ l, x = s.1 ∨ x = s.2 := by
  unfold endK
  rw [List.take_length]
  simp

/-- Between two cuts nothing begins or ends. -/
theorem has_const (l : List (Int × Int)) (cl : List Int) (hcl : Up cl) (hm : ∀ s ∈ l, s.1 ∈ cl ∧ s.2 ∈ cl) (k : Nat) (hk : k + 1 < cl.length) (t : Int) (h1 : cl.getD k 0 ≤ t) (h2 : t < cl.getD (k + 1) 0) : hasL l t = hasL l (cl.getD k 0) := by
  have key : ∀ x, x ∈ cl → x ≤ cl.getD k 0 ∨ cl.getD (k + 1) 0 ≤ x := by
    intro x hx
    obtain ⟨j, hj, rfl⟩ := List.mem_iff_getElem.1 hx
    have e : cl[j] = cl.getD j 0 := by simp [hj]
    rw [e]
    rcases Nat.lt_trichotomy j k with h | h | h
    · exact .inl (Int.le_of_lt (hcl j k h (by omega)))
    · subst h; exact .inl (Int.le_refl _)
    · rcases Nat.lt_or_ge (k + 1) j with h' | h'
      · exact .inr (Int.le_of_lt (hcl _ _ h' hj))
      · have : j = k + 1 := by omega
        subst this; exact .inr (Int.le_refl _)
  rw [Bool.eq_iff_iff, hasL_true, hasL_true]
  constructor
  · rintro ⟨s, hs, h3, h4⟩
    have k1 := key _ (hm s hs).1
    have k2 := key _ (hm s hs).2
    exact ⟨s, hs, by omega, by omega⟩
  · rintro ⟨s, hs, h3, h4⟩
    have k1 := key _ (hm s hs).1
    have k2 := key _ (hm s hs).2
    exact ⟨s, hs, by omega, by omega⟩

theorem can_of (l : List (Int × Int)) (h : chkSpans l = 0) : Can l :=
  ⟨(chkSpans_ok l h).2.2, fun s hs => ((chkSpans_ok l h).2.1 s hs).2.1⟩

theorem choice_all (kp : Bool → Bool → Bool) (h0 : kp false false = false) (a b : List (Int × Int)) (ha : chkSpans a = 0) (hb : chkSpans b = 0) :
    Can (choice kp a b) ∧ (∀ s ∈ choice kp a b, 0 ≤ s.1 ∧ s.2 ≤ 100000) ∧ ∀ t, hasL (choice kp a b) t = kp (hasL a t) (hasL b t) := by
  obtain ⟨hu, hmem⟩ := cuts_up a b
  have ca := can_of a ha
  have cb := can_of b hb
  have ma : ∀ s ∈ a, s.1 ∈ cutsOf a b ∧ s.2 ∈ cutsOf a b := fun s hs =>
    ⟨(hmem _).2 (List.mem_append_left _ ((end_mem _ _).2 ⟨s, hs, .inl rfl⟩)), (hmem _).2 (List.mem_append_left _ ((end_mem _ _).2 ⟨s, hs, .inr rfl⟩))⟩
  have mb : ∀ s ∈ b, s.1 ∈ cutsOf a b ∧ s.2 ∈ cutsOf a b := fun s hs =>
    ⟨(hmem _).2 (List.mem_append_right _ ((end_mem _ _).2 ⟨s, hs, .inl rfl⟩)), (hmem _).2 (List.mem_append_right _ ((end_mem _ _).2 ⟨s, hs, .inr rfl⟩))⟩
  have hbd : ∀ x ∈ cutsOf a b, 0 ≤ x ∧ x ≤ 100000 := by
    intro x hx
    rcases List.mem_append.1 ((hmem x).1 hx) with h | h
    · obtain ⟨s, hs, e⟩ := (end_mem _ _).1 h
      have := (chkSpans_ok a ha).2.1 s hs
      omega
    · obtain ⟨s, hs, e⟩ := (end_mem _ _).1 h
      have := (chkSpans_ok b hb).2.1 s hs
      omega
  unfold choice
  generalize cutsOf a b = cl at *
  by_cases hn : cl.length = 0
  · have hcl : cl = [] := List.eq_nil_of_length_eq_zero hn
    subst hcl
    refine ⟨⟨.nil, fun s hs => by cases hs⟩, fun s hs => (by cases hs), fun t => ?_⟩
    have na : hasL a t = false := hasL_false.2 fun s hs => by have := (ma s hs).1; cases this
    have nb : hasL b t = false := hasL_false.2 fun s hs => by have := (mb s hs).1; cases this
    rw [na, nb, h0]
    rfl
  · obtain ⟨h1, h2, h3⟩ := sweep a b kp cl (fun t => kp (hasL a t) (hasL b t)) hu (fun k hk t t1 t2 => by
      show kp (hasL a t) (hasL b t) = _
      rw [cov_has a _ ca, cov_has b _ cb, has_const a cl hu ma k hk t t1 t2, has_const b cl hu mb k hk t t1 t2]) (cl.length - 1) (by omega)
    have hlow : ∀ x ∈ cl, cl.getD 0 0 ≤ x ∧ x ≤ cl.getD (cl.length - 1) 0 := by
      intro x hx
      obtain ⟨j, hj, rfl⟩ := List.mem_iff_getElem.1 hx
      have e : cl[j] = cl.getD j 0 := by simp [hj]
      rw [e]
      constructor
      · rcases Nat.eq_zero_or_pos j with h | h
        · rw [h]; exact Int.le_refl _
        · exact Int.le_of_lt (hu 0 j h hj)
      · rcases Nat.lt_or_ge j (cl.length - 1) with h | h
        · exact Int.le_of_lt (hu j _ h (by omega))
        · have : j = cl.length - 1 := by omega
          rw [← this]; exact Int.le_refl _
    have g0 : cl.getD 0 0 ∈ cl := by
      have : 0 < cl.length := by omega
      have e : cl.getD 0 0 = cl[0] := by simp [this]
      rw [e]; exact List.getElem_mem _
    have g1 : cl.getD (cl.length - 1) 0 ∈ cl := by
      have : cl.length - 1 < cl.length := by omega
      have e : cl.getD (cl.length - 1) 0 = cl[cl.length - 1] := by simp [this]
      rw [e]; exact List.getElem_mem _
    refine ⟨h1, fun s hs => ?_, fun t => ?_⟩
    · have := h2 s hs
      have := hbd _ g0
      have := hbd _ g1
      omega
    · rw [h3]
      by_cases hr : cl.getD 0 0 ≤ t ∧ t < cl.getD (cl.length - 1) 0
      · simp only [hr.1, hr.2, decide_true, Bool.true_and]
      · have na : hasL a t = false := hasL_false.2 fun s hs => by
          have := hlow _ (ma s hs).1; have := hlow _ (ma s hs).2; omega
        have nb : hasL b t = false := hasL_false.2 fun s hs => by
          have := hlow _ (mb s hs).1; have := hlow _ (mb s hs).2; omega
        rw [na, nb, h0, Bool.and_false]

theorem chkFrom_can (l : List (Int × Int)) : ∀ e : Int, Can l → (∀ s ∈ l, e < s.1 ∧ 0 ≤ s.1 ∧ s.2 ≤ 100000) → chkFrom e l = 0 := by
  induction l with
  | nil => intro e _ _; rfl
  | cons s l ih =>
    intro e hC h
    obtain ⟨c1, c2, c3⟩ := can_tail hC
    obtain ⟨h1, h2, h3⟩ := h s (List.mem_cons_self ..)
    have hs : chkSpan s.1 s.2 = 0 := by simp [chkSpan, h2, c3, h3]
    rw [chkFrom, hs]
    simp only [ne_eq, not_true, if_false, h1, if_true]
    exact ih _ c1 fun x hx => ⟨c2 x hx, (h x (List.mem_cons_of_mem _ hx)).2⟩
theorem chk_can (l : List (Int × Int)) (hC : Can l) (h : ∀ s ∈ l, 0 ≤ s.1 ∧ s.2 ≤ 100000) (hl : l.length ≤ 2048) : chkSpans l = 0 := by
  unfold chkSpans
  rw [if_neg (by omega)]
  exact chkFrom_can l _ hC fun s hs => ⟨by have := (h s hs).1; omega, h s hs⟩
theorem choice_len (kp : Bool → Bool → Bool) (a b : List (Int × Int)) : (choice kp a b).length ≤ 2 * a.length + 2 * b.length := by
  unfold choice
  have := combK_len a b kp (cutsOf a b) ((cutsOf a b).length - 1)
  have := cuts_len a b
  omega
/-- Two canonical lists with the same ticks are one list. -/
theorem choice_is (kp : Bool → Bool → Bool) (h0 : kp false false = false) (a b l : List (Int × Int)) (ha : chkSpans a = 0) (hb : chkSpans b = 0) (hl : Can l) (h : ∀ t, hasL l t = kp (hasL a t) (hasL b t)) : l = choice kp a b := by
  obtain ⟨h1, h2, h3⟩ := choice_all kp h0 a b ha hb
  exact can_uniq _ _ hl h1 fun t => (h t).trans (h3 t).symm
theorem choice_comm (kp : Bool → Bool → Bool) (h0 : kp false false = false) (hc : ∀ x y, kp x y = kp y x) (a b : List (Int × Int)) (ha : chkSpans a = 0) (hb : chkSpans b = 0) : choice kp a b = choice kp b a := by
  obtain ⟨h1, _, h3⟩ := choice_all kp h0 a b ha hb
  exact choice_is kp h0 b a _ hb ha h1 fun t => (h3 t).trans (hc _ _)
theorem choice_none (a : List (Int × Int)) (ha : chkSpans a = 0) : choice (fun x y => x && !y) a a = [] := by
  refine (choice_is (fun x y => x && !y) rfl a a [] ha ha ⟨.nil, fun s hs => by cases hs⟩ fun t => ?_).symm
  show false = _
  cases hasL a t <;> rfl
end Go.Proofs.YtnncmaegmlaabaaGreatDoor

namespace Go.Proofs.YtnncmaegmlaabaaGreatDoor
open Go.RowKit


/-- One tick of a sweep: the spans so far, and where an open one begins (-1: none is open). -/
def stp (b : Bool) (t : Int) (p : List (Int × Int) × Int) : List (Int × Int) × Int :=
  if b = true then (if p.2 < 0 then (p.1, t) else p) else if p.2 < 0 then p else (p.1 ++ [(p.2, t)], -1)
/-- The spans of the marked ticks below n. -/
def pk (f : Nat → Bool) : Nat → List (Int × Int) × Int
  | 0 => ([], -1)
  | t + 1 => stp (f t) t (pk f t)
theorem stp_len (b : Bool) (t : Int) (p : List (Int × Int) × Int) : (stp b t p).1.length ≤ p.1.length + 1 := by
  unfold stp
  split
  · split <;> simp
  · split <;> simp
theorem pk_len (f : Nat → Bool) : ∀ t, (pk f t).1.length ≤ t
  | 0 => Nat.le_refl _
  | t + 1 => by
    have := pk_len f t
    have := stp_len (f t) t (pk f t)
    rw [pk]; omega
def PkOk (f : Nat → Bool) (t : Nat) (o : List (Int × Int)) (fr : Int) : Prop :=
  Can o ∧ (∀ s ∈ o, s.2 < t) ∧ fr < t ∧ -1 ≤ fr ∧ (∀ s ∈ o, 0 ≤ fr → s.2 < fr) ∧
    ∀ x : Int, (hasL o x || (decide (0 ≤ fr) && decide (fr ≤ x) && decide (x < t))) = (decide (0 ≤ x) && decide (x < t) && f x.toNat)
theorem pkOk_step (f : Nat → Bool) (t : Nat) (o : List (Int × Int)) (fr : Int) (h : PkOk f t o fr) : PkOk f (t + 1) (stp (f t) t (o, fr)).1 (stp (f t) t (o, fr)).2 := by
  obtain ⟨h1, h2, h3, h4, h5, h6⟩ := h
  have key : ∀ x : Int, x ≠ t → (decide (0 ≤ x) && decide (x < ((t + 1 : Nat) : Int)) && f x.toNat) = (decide (0 ≤ x) && decide (x < (t : Int)) && f x.toNat) := by
    intro x hx
    have : x < ((t + 1 : Nat) : Int) ↔ x < (t : Int) := by omega
    simp only [this]
  have hno : hasL o t = false := hasL_false.2 fun s hs => by have := h2 s hs; omega
  unfold stp
  by_cases hf : f t = true
  · rw [if_pos hf]
    by_cases hn : fr < 0
    · rw [if_pos hn]
      refine ⟨h1, fun s hs => by have := h2 s hs; omega, by show (t : Int) < _; omega, by show (-1 : Int) ≤ t; omega, fun s hs _ => h2 s hs, fun x => ?_⟩
      show (hasL o x || (decide (0 ≤ (t : Int)) && decide ((t : Int) ≤ x) && decide (x < ((t + 1 : Nat) : Int)))) = _
      by_cases hx : x = t
      · subst hx
        rw [hno]
        simp [hf]
      · rw [key x hx, ← h6 x]
        congr 1
        rw [Bool.eq_iff_iff]
        simp; omega
    · rw [if_neg hn]
      refine ⟨h1, fun s hs => by have := h2 s hs; omega, by show fr < _; omega, h4, h5, fun x => ?_⟩
      show (hasL o x || (decide (0 ≤ fr) && decide (fr ≤ x) && decide (x < ((t + 1 : Nat) : Int)))) = _
      by_cases hx : x = t
      · subst hx
        have a1 : 0 ≤ fr := by omega
        have a2 : fr ≤ (t : Int) := by omega
        rw [hno]
        simp [hf, a1, a2]
      · rw [key x hx, ← h6 x]
        congr 1
        rw [Bool.eq_iff_iff]
        simp; omega
  · have hf' : f t = false := by simpa using hf
    rw [if_neg hf]
    by_cases hn : fr < 0
    · rw [if_pos hn]
      refine ⟨h1, fun s hs => by have := h2 s hs; omega, by show fr < _; omega, h4, h5, fun x => ?_⟩
      show (hasL o x || (decide (0 ≤ fr) && decide (fr ≤ x) && decide (x < ((t + 1 : Nat) : Int)))) = _
      have a1 : ¬ 0 ≤ fr := by omega
      by_cases hx : x = t
      · subst hx
        rw [hno]
        simp [hf', a1]
      · rw [key x hx, ← h6 x]
        simp [a1]
    · rw [if_neg hn]
      have h5' := fun s hs => h5 s hs (by omega)
      show Can (o ++ [(fr, (t : Int))]) ∧ (∀ s ∈ o ++ [(fr, (t : Int))], s.2 < ((t + 1 : Nat) : Int)) ∧ (-1 : Int) < ((t + 1 : Nat) : Int) ∧ (-1 : Int) ≤ -1 ∧ (∀ s ∈ o ++ [(fr, (t : Int))], (0 : Int) ≤ -1 → s.2 < -1) ∧
        ∀ x : Int, (hasL (o ++ [(fr, (t : Int))]) x || (decide (0 ≤ (-1 : Int)) && decide ((-1 : Int) ≤ x) && decide (x < ((t + 1 : Nat) : Int)))) = (decide (0 ≤ x) && decide (x < ((t + 1 : Nat) : Int)) && f x.toNat)
      refine ⟨⟨?_, ?_⟩, ?_, by omega, by omega, fun s hs h => absurd h (by omega), fun x => ?_⟩
      · rw [List.pairwise_append]
        exact ⟨h1.1, by simp, fun s hs r hr => by rw [List.mem_singleton] at hr; subst hr; exact h5' s hs⟩
      · intro s hs
        rcases List.mem_append.1 hs with h | h
        · exact h1.2 s h
        · rw [List.mem_singleton] at h; subst h; exact h3
      · intro s hs
        rcases List.mem_append.1 hs with h | h
        · have := h2 s h; omega
        · rw [List.mem_singleton] at h; subst h; show (t : Int) < _; omega
      · rw [hasL_append]
        have e : hasL [(fr, (t : Int))] x = (decide (fr ≤ x) && decide (x < (t : Int))) := by simp [hasL]
        rw [e]
        by_cases hx : x = t
        · subst hx
          rw [hno]
          simp [hf']
        · rw [key x hx, ← h6 x]
          have a1 : 0 ≤ fr := by omega
          simp [a1]
theorem pk_ok (f : Nat → Bool) : ∀ t : Nat, PkOk f t (pk f t).1 (pk f t).2
  | 0 => by
    refine ⟨⟨.nil, fun s hs => by cases hs⟩, fun s hs => (by cases hs), by show (-1 : Int) < 0; decide, by show (-1 : Int) ≤ -1; decide, fun s hs => (by cases hs), fun x => ?_⟩
    show (hasL [] x || (decide (0 ≤ (-1 : Int)) && decide ((-1 : Int) ≤ x) && decide (x < ((0 : Nat) : Int)))) = _
    by_cases h : x < 0
    · have : ¬ 0 ≤ x := by omega
      simp [hasL, this]
    · simp [hasL, h]
  | t + 1 => by
    have h := pkOk_step f t (pk f t).1 (pk f t).2 (pk_ok f t)
    exact h
/-- A sweep that ends at a tick that is not marked has closed all. -/
theorem pk_end (f : Nat → Bool) (n : Nat) (h : f n = false) : Can (pk f (n + 1)).1 ∧ ∀ x : Int, hasL (pk f (n + 1)).1 x = (decide (0 ≤ x) && decide (x < n) && f x.toNat) := by
  obtain ⟨h1, h2, h3, h4, h5, h6⟩ := pk_ok f (n + 1)
  have hfr : (pk f (n + 1)).2 = -1 ∨ (pk f (n + 1)).2 < 0 := by
    rw [pk]
    unfold stp
    simp only [h]
    by_cases hn : (pk f n).2 < 0
    · simp [hn]
    · simp [hn]
  have hneg : ¬ 0 ≤ (pk f (n + 1)).2 := by omega
  refine ⟨h1, fun x => ?_⟩
  have := h6 x
  simp only [hneg, decide_false, Bool.false_and, Bool.or_false] at this
  rw [this]
  by_cases hx : x = n
  · subst hx
    simp [h]
  · have : x < ((n + 1 : Nat) : Int) ↔ x < (n : Int) := by omega
    simp only [this]
end Go.Proofs.YtnncmaegmlaabaaGreatDoor
