/-
  Plain words on lists of spans: canonical lists with the same ticks are one list; what Join, Meet and Minus choose is canonical, and has just the ticks that the choice says. No program.
  Plain words on the reference's sweep over marked ticks: the spans that it finds are canonical, and have just the marked ticks. No program.
  Contracts of the reference: SameInts, SameLevels, SameSpans, First, CheckRange. No condition but that the lists are read.
  Contracts of the reference's First and of the statements' first. No condition but that the numbers are read.
-/
import Derived.Test.YtkgkpcmokmhakaaGreatDoorMN
import Derived.Test.YtkgkpcmokmhakaaGreatDoorProg
import Derived.Test.YtkgkpcmokmhakaaGreatDoorMF

namespace Go.Proofs.YtkgkpcmokmhakaaGreatDoor
open Go.RowKit

/-- Ticks of a list of spans. -/
def hasL (l : List (Int × Int)) (t : Int) : Bool := l.any fun s => decide (s.1 ≤ t) && decide (t < s.2)
theorem hasL_true {l : List (Int × Int)} {t : Int} : hasL l t = true ↔ ∃ s ∈ l, s.1 ≤ t ∧ t < s.2 := by simp [hasL]
theorem hasL_false {l : List (Int × Int)} {t : Int} : hasL l t = false ↔ ∀ s ∈ l, ¬ (s.1 ≤ t ∧ t < s.2) := by
  rw [Bool.eq_false_iff, ne_eq, hasL_true]
  exact ⟨fun h s hs hh => h ⟨s, hs, hh⟩, fun h ⟨s, hs, hh⟩ => h s hs hh⟩
theorem hasL_append (l m : List (Int × Int)) (t : Int) : hasL (l ++ m) t = (hasL l t || hasL m t) := by simp [hasL]
theorem hasL_cons (s : Int × Int) (m : List (Int × Int)) (t : Int) : hasL (s :: m) t = ((decide (s.1 ≤ t) && decide (t < s.2)) || hasL m t) := by simp [hasL]

/-- Canonical, whatever the bounds. -/
def Can (l : List (Int × Int)) : Prop := l.Pairwise (fun a b => a.2 < b.1) ∧ ∀ s ∈ l, s.1 < s.2
theorem can_tail {s : Int × Int} {l : List (Int × Int)} (h : Can (s :: l)) : Can l ∧ (∀ x ∈ l, s.2 < x.1) ∧ s.1 < s.2 := by
  obtain ⟨h1, h2⟩ := h
  rw [List.pairwise_cons] at h1
  exact ⟨⟨h1.2, fun x hx => h2 x (List.mem_cons_of_mem _ hx)⟩, h1.1, h2 s (List.mem_cons_self ..)⟩
theorem can_first {s r : Int × Int} {l m : List (Int × Int)} (hl : Can (s :: l)) (hm : Can (r :: m)) (h : ∀ t, hasL (s :: l) t = hasL (r :: m) t) : r.1 ≤ s.1 := by
  obtain ⟨_, _, pl⟩ := can_tail hl
  obtain ⟨_, gm, pm⟩ := can_tail hm
  obtain ⟨x, hx, h1, _⟩ := hasL_true.1 ((h s.1).symm.trans (hasL_true.2 ⟨s, List.mem_cons_self .., by omega, pl⟩))
  rcases List.mem_cons.1 hx with rfl | hx
  · exact h1
  · have := gm x hx; omega
theorem can_end {s r : Int × Int} {l m : List (Int × Int)} (hl : Can (s :: l)) (hm : Can (r :: m)) (he : s.1 = r.1) (h : ∀ t, hasL (s :: l) t = hasL (r :: m) t) : r.2 ≤ s.2 := by
  obtain ⟨_, gl, pl⟩ := can_tail hl
  obtain ⟨_, gm, pm⟩ := can_tail hm
  rcases Int.lt_or_le s.2 r.2 with hlt | hle
  · have h1 : hasL (s :: l) s.2 = true := (h s.2).trans (hasL_true.2 ⟨r, List.mem_cons_self .., by omega, hlt⟩)
    obtain ⟨x, hx, h2, h3⟩ := hasL_true.1 h1
    rcases List.mem_cons.1 hx with rfl | hx
    · omega
    · have := gl x hx; omega
  · exact hle
theorem can_uniq : ∀ (l m : List (Int × Int)), Can l → Can m → (∀ t, hasL l t = hasL m t) → l = m
  | [], [], _, _, _ => rfl
  | [], s :: m, _, hm, h => by
    have h2 := (can_tail hm).2.2
    have h1 := h s.1
    rw [hasL_true.2 ⟨s, List.mem_cons_self .., by omega, h2⟩] at h1
    simp [hasL] at h1
  | s :: l, [], hl, _, h => by
    have h2 := (can_tail hl).2.2
    have h1 := h s.1
    rw [hasL_true.2 ⟨s, List.mem_cons_self .., by omega, h2⟩] at h1
    simp [hasL] at h1
  | s :: l, r :: m, hl, hm, h => by
    have e1 : s.1 = r.1 := Int.le_antisymm (can_first hm hl fun t => (h t).symm) (can_first hl hm h)
    have e2 : s.2 = r.2 := Int.le_antisymm (can_end hm hl e1.symm fun t => (h t).symm) (can_end hl hm e1 h)
    obtain ⟨cl, gl, pl⟩ := can_tail hl
    obtain ⟨cm, gm, pm⟩ := can_tail hm
    have e : s = r := Prod.ext e1 e2
    subst e
    rw [can_uniq l m cl cm fun t => ?_]
    have ht := h t
    rw [hasL_cons, hasL_cons] at ht
    rcases Int.lt_or_le t s.2 with hlt | hle
    · have a1 : hasL l t = false := hasL_false.2 fun x hx => by have := gl x hx; omega
      have a2 : hasL m t = false := hasL_false.2 fun x hx => by have := gm x hx; omega
      rw [a1, a2]
    · have : ¬ t < s.2 := by omega
      simpa [this] using ht

theorem ix_cons (s : Int × Int) (l : List (Int × Int)) (t : Int) : ix (s :: l) t = ix l t + if t < s.2 then 0 else 1 := by
  unfold ix
  rw [List.length_cons, List.range_succ_eq_map, List.countP_cons, List.countP_map]
  congr 1
  by_cases h : t < s.2 <;> simp [h]
theorem ix_zero (l : List (Int × Int)) (t : Int) (h : ∀ s ∈ l, t < s.2) : ix l t = 0 := by
  induction l with
  | nil => rfl
  | cons s l ih => rw [ix_cons, ih fun x hx => h x (List.mem_cons_of_mem _ hx), if_pos (h s (List.mem_cons_self ..))]
theorem cov_has (l : List (Int × Int)) (t : Int) (h : Can l) : cov l t = hasL l t := by
  induction l with
  | nil => rfl
  | cons s l ih =>
    obtain ⟨cl, gl, pl⟩ := can_tail h
    have ih := ih cl
    rw [hasL_cons]
    unfold cov
    rw [ix_cons]
    by_cases hlt : t < s.2
    · have a1 : hasL l t = false := hasL_false.2 fun x hx => by have := gl x hx; omega
      rw [ix_zero l t fun x hx => by have := gl x hx; have := cl.2 x hx; omega, a1]
      simp [hlt]
    · rw [← ih]
      unfold cov
      simp [hlt]

theorem ext_can (l : List (Int × Int)) (f t : Int) (hC : Can l) (hle : ∀ s ∈ l, s.2 ≤ f) (hft : f < t) :
    Can (ext l f t) ∧ (∀ x, hasL (ext l f t) x = (hasL l x || (decide (f ≤ x) && decide (x < t)))) ∧ ∀ s ∈ ext l f t, (s.1 = f ∨ ∃ s' ∈ l, s.1 = s'.1) ∧ s.2 ≤ t := by
  rcases List.eq_nil_or_concat l with rfl | ⟨l', ⟨a, b⟩, rfl⟩
  · rw [ext_nil]
    refine ⟨⟨by simp, by simpa using hft⟩, fun x => by simp [hasL], fun s hs => ?_⟩
    rw [List.mem_singleton] at hs
    subst hs
    exact ⟨.inl rfl, Int.le_refl _⟩
  · rw [List.concat_eq_append] at *
    rw [ext_snoc]
    obtain ⟨hp, hs⟩ := hC
    rw [List.pairwise_append] at hp
    obtain ⟨hp1, -, hp2⟩ := hp
    have hab : a < b := hs (a, b) (by simp)
    have hbf : b ≤ f := hle (a, b) (by simp)
    have hl' : ∀ s ∈ l', s.2 < a := fun s h => hp2 s h (a, b) (by simp)
    by_cases hb : b = f
    · subst hb
      rw [if_pos rfl]
      refine ⟨⟨?_, ?_⟩, fun x => ?_, fun s h => ?_⟩
      · rw [List.pairwise_append]
        exact ⟨hp1, by simp, fun s h r hr => by rw [List.mem_singleton] at hr; subst hr; exact hl' s h⟩
      · intro s h
        rcases List.mem_append.1 h with h | h
        · exact hs s (List.mem_append_left _ h)
        · rw [List.mem_singleton] at h; subst h; show a < t; omega
      · rw [hasL_append, hasL_append, Bool.or_assoc]
        congr 1
        rw [Bool.eq_iff_iff]
        simp [hasL]
        omega
      · rcases List.mem_append.1 h with h' | h'
        · refine ⟨.inr ⟨s, List.mem_append_left _ h', rfl⟩, ?_⟩
          have := hle s (List.mem_append_left _ h'); omega
        · rw [List.mem_singleton] at h'; subst h'
          exact ⟨.inr ⟨(a, b), by simp, rfl⟩, Int.le_refl _⟩
    · rw [if_neg hb]
      refine ⟨⟨?_, ?_⟩, fun x => ?_, fun s h => ?_⟩
      · rw [List.pairwise_append, List.pairwise_append]
        refine ⟨⟨hp1, by simp, fun s h r hr => by rw [List.mem_singleton] at hr; subst hr; exact hl' s h⟩, by simp, fun s h r hr => ?_⟩
        rw [List.mem_singleton] at hr; subst hr
        rcases List.mem_append.1 h with h | h
        · have := hl' s h; show s.2 < f; omega
        · rw [List.mem_singleton] at h; subst h; show b < f; omega
      · intro s h
        rcases List.mem_append.1 h with h | h
        · exact hs s h
        · rw [List.mem_singleton] at h; subst h; exact hft
      · rw [hasL_append]
        congr 1
        simp [hasL]
      · rcases List.mem_append.1 h with h' | h'
        · refine ⟨.inr ⟨s, h', rfl⟩, ?_⟩
          have := hle s h'; omega
        · rw [List.mem_singleton] at h'; subst h'
          exact ⟨.inl rfl, Int.le_refl _⟩

/-- Ascending cuts. -/
def Up (cl : List Int) : Prop := ∀ i j, i < j → j < cl.length → cl.getD i 0 < cl.getD j 0
theorem sweep (a b : List (Int × Int)) (kp : Bool → Bool → Bool) (cl : List Int) (P : Int → Bool) (hcl : Up cl)
    (hP : ∀ k, k + 1 < cl.length → ∀ t, cl.getD k 0 ≤ t → t < cl.getD (k + 1) 0 → P t = kp (cov a (cl.getD k 0)) (cov b (cl.getD k 0))) :
    ∀ k, k < cl.length → Can (combK a b kp cl k) ∧ (∀ s ∈ combK a b kp cl k, cl.getD 0 0 ≤ s.1 ∧ s.2 ≤ cl.getD k 0) ∧ (∀ t, hasL (combK a b kp cl k) t = (decide (cl.getD 0 0 ≤ t) && decide (t < cl.getD k 0) && P t))
  | 0, _ => by
    refine ⟨⟨.nil, fun s hs => by cases hs⟩, fun s hs => (by cases hs), fun t => ?_⟩
    have : (decide (cl.getD 0 0 ≤ t) && decide (t < cl.getD 0 0)) = false := by simp
    rw [this]; rfl
  | k + 1, hk => by
    obtain ⟨h1, h2, h3⟩ := sweep a b kp cl P hcl hP k (by omega)
    have hlt := hcl k (k + 1) (by omega) hk
    have h0 : cl.getD 0 0 ≤ cl.getD k 0 := by
      rcases Nat.eq_zero_or_pos k with rfl | h
      · exact Int.le_refl _
      · exact Int.le_of_lt (hcl 0 k h (by omega))
    have hp := hP k hk
    rw [combK]
    by_cases hq : kp (cov a (cl.getD k 0)) (cov b (cl.getD k 0)) = true
    · rw [if_pos hq]
      obtain ⟨e1, e2, e3⟩ := ext_can _ (cl.getD k 0) (cl.getD (k + 1) 0) h1 (fun s hs => (h2 s hs).2) hlt
      refine ⟨e1, fun s hs => ?_, fun t => ?_⟩
      · obtain ⟨e4, e5⟩ := e3 s hs
        refine ⟨?_, e5⟩
        rcases e4 with e4 | ⟨s', hs', e4⟩
        · omega
        · rw [e4]; exact (h2 s' hs').1
      · rw [e2, h3]
        rcases Int.lt_or_le t (cl.getD k 0) with h | h
        · have a1 : ¬ cl.getD k 0 ≤ t := by omega
          have a2 : t < cl.getD (k + 1) 0 := by omega
          simp only [h, a1, a2, decide_true, decide_false, Bool.or_false, Bool.and_true]
        · rcases Int.lt_or_le t (cl.getD (k + 1) 0) with h' | h'
          · have a1 : ¬ t < cl.getD k 0 := by omega
            have a2 : cl.getD 0 0 ≤ t := by omega
            rw [hp t h h', hq]
            simp only [h, h', a1, a2, decide_true, decide_false, Bool.and_false, Bool.false_or, Bool.and_true]
          · have a1 : ¬ t < cl.getD k 0 := by omega
            have a2 : ¬ t < cl.getD (k + 1) 0 := by omega
            simp only [a1, a2, decide_false, Bool.false_and, Bool.and_false, Bool.or_false]
    · have hq' : kp (cov a (cl.getD k 0)) (cov b (cl.getD k 0)) = false := by simpa using hq
      rw [if_neg hq]
      refine ⟨h1, fun s hs => ⟨(h2 s hs).1, by have := (h2 s hs).2; omega⟩, fun t => ?_⟩
      rw [h3]
      rcases Int.lt_or_le t (cl.getD k 0) with h | h
      · have a2 : t < cl.getD (k + 1) 0 := by omega
        simp only [h, a2]
      · rcases Int.lt_or_le t (cl.getD (k + 1) 0) with h' | h'
        · have a1 : ¬ t < cl.getD k 0 := by omega
          rw [hp t h h', hq']
          simp
        · have a1 : ¬ t < cl.getD k 0 := by omega
          have a2 : ¬ t < cl.getD (k + 1) 0 := by omega
          simp only [a1, a2]

/-- What is left of a sorted list when equal neighbours are dropped. -/
theorem compact_sorted (d : Array Int) (hd : ∀ i j, i < j → j < d.size → d[i]! ≤ d[j]!) : ∀ m, m ≤ d.size → (Lib.compactUpTo d m).Pairwise (· < ·) ∧ (∀ x ∈ Lib.compactUpTo d m, ∃ j, j < m ∧ x = d[j]!) ∧ (∀ j, j < m → d[j]! ∈ Lib.compactUpTo d m)
  | 0, _ => by
    refine ⟨?_, fun x hx => ?_, fun j hj => absurd hj (by omega)⟩
    · simp [Lib.compactUpTo]
    · simp [Lib.compactUpTo] at hx
  | m + 1, hm => by
    obtain ⟨h1, h2, h3⟩ := compact_sorted d hd m (by omega)
    rw [Lib.compactUpTo_succ]
    by_cases hk : Lib.keeps d m = true
    · rw [if_pos hk]
      refine ⟨?_, fun x hx => ?_, fun j hj => ?_⟩
      · rw [List.pairwise_append]
        refine ⟨h1, by simp, fun x hx y hy => ?_⟩
        rw [List.mem_singleton] at hy
        subst hy
        obtain ⟨j, hj, rfl⟩ := h2 x hx
        have hne : d[m]! ≠ d[m - 1]! := by
          unfold Lib.keeps at hk
          rcases of_decide_eq_true hk with h | h
          · omega
          · exact h
        have h4 : d[m - 1]! ≤ d[m]! := hd _ _ (by omega) (by omega)
        have h5 : d[j]! ≤ d[m - 1]! := by
          rcases Nat.lt_or_ge j (m - 1) with h | h
          · exact hd _ _ h (by omega)
          · have : j = m - 1 := by omega
            rw [this]; exact Int.le_refl _
        omega
      · rcases List.mem_append.1 hx with h | h
        · obtain ⟨j, hj, e⟩ := h2 x h; exact ⟨j, by omega, e⟩
        · rw [List.mem_singleton] at h; exact ⟨m, by omega, h⟩
      · rcases Nat.lt_or_ge j m with h | h
        · exact List.mem_append_left _ (h3 j h)
        · have : j = m := by omega
          subst this; simp
    · rw [if_neg hk, List.append_nil]
      refine ⟨h1, fun x hx => ?_, fun j hj => ?_⟩
      · obtain ⟨j, hj, e⟩ := h2 x hx; exact ⟨j, by omega, e⟩
      · rcases Nat.lt_or_ge j m with h | h
        · exact h3 j h
        · have hjm : j = m := by omega
          subst hjm
          have hk' : ¬ (j = 0 ∨ d[j]! ≠ d[j - 1]!) := fun h => hk (decide_eq_true h)
          have h0 : 0 < j := by rcases Nat.eq_zero_or_pos j with h | h; exact absurd (.inl h) hk'; exact h
          have he : d[j]! = d[j - 1]! := by
            by_cases e : d[j]! = d[j - 1]!
            · exact e
            · exact absurd (.inr e) hk'
          rw [he]
          exact h3 (j - 1) (by omega)

theorem cuts_up (a b : List (Int × Int)) : Up (cutsOf a b) ∧ ∀ x, x ∈ cutsOf a b ↔ x ∈ endAll a b := by
  have hs : ((endAll a b).mergeSort fun x y => decide (x ≤ y)).Pairwise (fun x y => decide (x ≤ y) = true) :=
    List.pairwise_mergeSort (le := fun x y : Int => decide (x ≤ y)) (fun x y z h1 h2 => by simp at *; omega) (fun x y => by simp; omega) _
  have hm : ∀ x, x ∈ ((endAll a b).mergeSort fun x y => decide (x ≤ y)) ↔ x ∈ endAll a b := fun x => List.mem_mergeSort
  unfold cutsOf
  generalize ((endAll a b).mergeSort fun x y => decide (x ≤ y)) = zs at *
  unfold Lib.compact
  have hd : ∀ i j, i < j → j < zs.toArray.size → zs.toArray[i]! ≤ zs.toArray[j]! := by
    intro i j hij hj
    simp only [List.size_toArray] at hj
    have hi : i < zs.length := by omega
    have := (List.pairwise_iff_getElem.1 hs) i j hi hj hij
    simp [hi, hj] at this ⊢
    exact this
  obtain ⟨h1, h2, h3⟩ := compact_sorted zs.toArray hd zs.length (by simp)
  refine ⟨fun i j hij hj => ?_, fun x => ?_⟩
  · have hi : i < (Lib.compactUpTo zs.toArray zs.length).length := by omega
    have := (List.pairwise_iff_getElem.1 h1) i j hi hj hij
    simpa [hi, hj] using this
  · rw [← hm]
    constructor
    · intro hx
      obtain ⟨j, hj, rfl⟩ := h2 x hx
      simp [hj]
    · intro hx
      obtain ⟨j, hj, rfl⟩ := List.mem_iff_getElem.1 hx
      have := h3 j hj
      simpa [hj] using this

theorem end_mem (l : List (Int × Int)) (x : Int) : x ∈ endK l l.length ↔ ∃ s ∈ l, x = s.1 ∨ x = s.2 := by
  unfold endK
  rw [List.take_length]
  simp

/-- Between two cuts nothing begins or ends. -/
theorem has_const (l : List (Int × Int)) (cl : List Int) (hcl : Up cl) (hm : ∀ s ∈ l, s.1 ∈ cl ∧ s.2 ∈ cl) (k : Nat) (hk : k + 1 < cl.length) (t : Int) (h1 : cl.getD k 0 ≤ t) (h2 : t < cl.getD (k + 1) 0) : hasL l t = hasL l (cl.getD k 0) := by
  have key : ∀ x, x ∈ cl → x ≤ cl.getD k 0 ∨ cl.getD (k + 1) 0 ≤ x := by
    intro x hx
    obtain ⟨j, hj, rfl⟩ := List.mem_iff_getElem.1 hx
    have e : cl[j] = cl.getD j 0 := by simp [hj]
    rw [e]
    rcases Nat.lt_trichotomy j k with h | h | h
    · exact .inl (Int.le_of_lt (hcl j k h (by omega)))
    · subst h; exact .inl (Int.le_refl _)
    · rcases Nat.lt_or_ge (k + 1) j with h' | h'
      · exact .inr (Int.le_of_lt (hcl _ _ h' hj))
      · have : j = k + 1 := by omega
        subst this; exact .inr (Int.le_refl _)
  rw [Bool.eq_iff_iff, hasL_true, hasL_true]
  constructor
  · rintro ⟨s, hs, h3, h4⟩
    have k1 := key _ (hm s hs).1
    have k2 := key _ (hm s hs).2
    exact ⟨s, hs, by omega, by omega⟩
  · rintro ⟨s, hs, h3, h4⟩
    have k1 := key _ (hm s hs).1
    have k2 := key _ (hm s hs).2
    exact ⟨s, hs, by omega, by omega⟩

theorem can_of (l : List (Int × Int)) (h : chkSpans l = 0) : Can l :=
  ⟨(chkSpans_ok l h).2.2, fun s hs => ((chkSpans_ok l h).2.1 s hs).2.1⟩

theorem choice_all (kp : Bool → Bool → Bool) (h0 : kp false false = false) (a b : List (Int × Int)) (ha : chkSpans a = 0) (hb : chkSpans b = 0) :
    Can (choice kp a b) ∧ (∀ s ∈ choice kp a b, 0 ≤ s.1 ∧ s.2 ≤ 100000) ∧ ∀ t, hasL (choice kp a b) t = kp (hasL a t) (hasL b t) := by
  obtain ⟨hu, hmem⟩ := cuts_up a b
  have ca := can_of a ha
  have cb := can_of b hb
  have ma : ∀ s ∈ a, s.1 ∈ cutsOf a b ∧ s.2 ∈ cutsOf a b := fun s hs =>
    ⟨(hmem _).2 (List.mem_append_left _ ((end_mem _ _).2 ⟨s, hs, .inl rfl⟩)), (hmem _).2 (List.mem_append_left _ ((end_mem _ _).2 ⟨s, hs, .inr rfl⟩))⟩
  have mb : ∀ s ∈ b, s.1 ∈ cutsOf a b ∧ s.2 ∈ cutsOf a b := fun s hs =>
    ⟨(hmem _).2 (List.mem_append_right _ ((end_mem _ _).2 ⟨s, hs, .inl rfl⟩)), (hmem _).2 (List.mem_append_right _ ((end_mem _ _).2 ⟨s, hs, .inr rfl⟩))⟩
  have hbd : ∀ x ∈ cutsOf a b, 0 ≤ x ∧ x ≤ 100000 := by
    intro x hx
    rcases List.mem_append.1 ((hmem x).1 hx) with h | h
    · obtain ⟨s, hs, e⟩ := (end_mem _ _).1 h
      have := (chkSpans_ok a ha).2.1 s hs
      omega
    · obtain ⟨s, hs, e⟩ := (end_mem _ _).1 h
      have := (chkSpans_ok b hb).2.1 s hs
      omega
  unfold choice
  generalize cutsOf a b = cl at *
  by_cases hn : cl.length = 0
  · have hcl : cl = [] := List.eq_nil_of_length_eq_zero hn
    subst hcl
    refine ⟨⟨.nil, fun s hs => by cases hs⟩, fun s hs => (by cases hs), fun t => ?_⟩
    have na : hasL a t = false := hasL_false.2 fun s hs => by have := (ma s hs).1; cases this
    have nb : hasL b t = false := hasL_false.2 fun s hs => by have := (mb s hs).1; cases this
    rw [na, nb, h0]
    rfl
  · obtain ⟨h1, h2, h3⟩ := sweep a b kp cl (fun t => kp (hasL a t) (hasL b t)) hu (fun k hk t t1 t2 => by
      show kp (hasL a t) (hasL b t) = _
      rw [cov_has a _ ca, cov_has b _ cb, has_const a cl hu ma k hk t t1 t2, has_const b cl hu mb k hk t t1 t2]) (cl.length - 1) (by omega)
    have hlow : ∀ x ∈ cl, cl.getD 0 0 ≤ x ∧ x ≤ cl.getD (cl.length - 1) 0 := by
      intro x hx
      obtain ⟨j, hj, rfl⟩ := List.mem_iff_getElem.1 hx
      have e : cl[j] = cl.getD j 0 := by simp [hj]
      rw [e]
      constructor
      · rcases Nat.eq_zero_or_pos j with h | h
        · rw [h]; exact Int.le_refl _
        · exact Int.le_of_lt (hu 0 j h hj)
      · rcases Nat.lt_or_ge j (cl.length - 1) with h | h
        · exact Int.le_of_lt (hu j _ h (by omega))
        · have : j = cl.length - 1 := by omega
          rw [← this]; exact Int.le_refl _
    have g0 : cl.getD 0 0 ∈ cl := by
      have : 0 < cl.length := by omega
      have e : cl.getD 0 0 = cl[0] := by simp [this]
      rw [e]; exact List.getElem_mem _
    have g1 : cl.getD (cl.length - 1) 0 ∈ cl := by
      have : cl.length - 1 < cl.length := by omega
      have e : cl.getD (cl.length - 1) 0 = cl[cl.length - 1] := by simp [this]
      rw [e]; exact List.getElem_mem _
    refine ⟨h1, fun s hs => ?_, fun t => ?_⟩
    · have := h2 s hs
      have := hbd _ g0
      have := hbd _ g1
      omega
    · rw [h3]
      by_cases hr : cl.getD 0 0 ≤ t ∧ t < cl.getD (cl.length - 1) 0
      · simp only [hr.1, hr.2, decide_true, Bool.true_and]
      · have na : hasL a t = false := hasL_false.2 fun s hs => by
          have := hlow _ (ma s hs).1; have := hlow _ (ma s hs).2; omega
        have nb : hasL b t = false := hasL_false.2 fun s hs => by
          have := hlow _ (mb s hs).1; have := hlow _ (mb s hs).2; omega
        rw [na, nb, h0, Bool.and_false]

theorem chkFrom_can (l : List (Int × Int)) : ∀ e : Int, Can l → (∀ s ∈ l, e < s.1 ∧ 0 ≤ s.1 ∧ s.2 ≤ 100000) → chkFrom e l = 0 := by
  induction l with
  | nil => intro e _ _; rfl
  | cons s l ih =>
    intro e hC h
    obtain ⟨c1, c2, c3⟩ := can_tail hC
    obtain ⟨h1, h2, h3⟩ := h s (List.mem_cons_self ..)
    have hs : chkSpan s.1 s.2 = 0 := by simp [chkSpan, h2, c3, h3]
    rw [chkFrom, hs]
    simp only [ne_eq, not_true, if_false, h1, if_true]
    exact ih _ c1 fun x hx => ⟨c2 x hx, (h x (List.mem_cons_of_mem _ hx)).2⟩
theorem chk_can (l : List (Int × Int)) (hC : Can l) (h : ∀ s ∈ l, 0 ≤ s.1 ∧ s.2 ≤ 100000) (hl : l.length ≤ 2048) : chkSpans l = 0 := by
  unfold chkSpans
  rw [if_neg (by omega)]
  exact chkFrom_can l _ hC fun s hs => ⟨by have := (h s hs).1; omega, h s hs⟩
end Go.Proofs.YtkgkpcmokmhakaaGreatDoor

namespace Go.Proofs.YtkgkpcmokmhakaaGreatDoor
open Go.RowKit


end Go.Proofs.YtkgkpcmokmhakaaGreatDoor

namespace Go.Proofs.YtkgkpcmokmhakaaGreatDoor
open Go.RowKit

def sameF {α : Type} (eq : α → α → Bool) (d : α) (l m : List α) : Bool := decide (l.length = m.length) && (List.range l.length).all fun i => eq (l.getD i d) (m.getD i d)
section
variable {α : Type} (eq : α → α → Bool) (d : α) (l m : List α)
theorem sameF_len (h : ¬ l.length = m.length) : sameF eq d l m = false := by simp [sameF, h]
theorem sameF_no (k : Nat) (hk : k < l.length) (h : eq (l.getD k d) (m.getD k d) = false) : sameF eq d l m = false := by
  unfold sameF
  rw [Bool.and_eq_false_iff]
  exact .inr (List.all_eq_false.2 ⟨k, by simpa using hk, by rw [h]; simp⟩)
theorem sameF_yes (hl : l.length = m.length) (h : ∀ j, j < l.length → eq (l.getD j d) (m.getD j d) = true) : sameF eq d l m = true := by
  unfold sameF
  rw [Bool.and_eq_true]
  exact ⟨by simpa using hl, List.all_eq_true.2 fun i hi => h i (by simpa using hi)⟩
end

theorem refRange_any (n lo hi : Int) (w : World) : Calls Tryz.prog 23 #[.int .i64 n, .int .i64 lo, .int .i64 hi] w fun e w' => e = .returned (.int .i64 (rng n lo hi)) ∧ Below w.heap.size w w' := by
  by_cases h1 : n < lo
  · have E := hd (show rng n lo hi = 3 by simp [rng]; omega)
    go_enter Tryz.func23, Tryz.ntmps23
    go_wp2
    go_ret
    exact ⟨by rw [E.out]; rfl, Below.refl _ _⟩
  · by_cases h2 : hi < n
    · have E := hd (show rng n lo hi = 3 by simp [rng]; omega)
      go_enter Tryz.func23, Tryz.ntmps23
      go_wp2
      go_ret
      exact ⟨by rw [E.out]; rfl, Below.refl _ _⟩
    · have E := hd (show rng n lo hi = 0 by simp [rng]; omega)
      go_enter Tryz.func23, Tryz.ntmps23
      go_wp2
      go_ret
      exact ⟨by rw [E.out]; rfl, Below.refl _ _⟩

/-- That two levels are the same. -/
def feqL (a b : Nat) : Bool := FloatKind.f32.format.order a b == some .eq

set_option maxRecDepth 100000 in
set_option maxHeartbeats 1000000 in
theorem sameLevels_any (s1 s2 : Value) (l m : List Nat) (w : World) (h1 : Rd w w.heap.size s1 l.length (flc l)) (h2 : Rd w w.heap.size s2 m.length (flc m)) :
    Calls Tryz.prog 31 #[s1, s2] w fun e w' => e = .returned (.bool (sameF feqL 0 l m)) ∧ Below w.heap.size w w' := by
  obtain ⟨A1, c1, rfl, hc1, hc2, hq1⟩ := h1
  obtain ⟨A2, c2, rfl, hc3, hc4, hq2⟩ := h2
  have H1 := hd hq1
  have H2 := hd hq2
  unfold maxLen at hc2 hc4
  clear hq1 hq2
  by_cases hlen : l.length = m.length
  · have HN := hd hlen
    generalize hm : m.length = n at *
    have hln : l.length = n := hlen
    have HM := hd hm
    clear hm hlen
    generalize hl2 : l.length = n2 at *
    subst hln
    have HLL := hd hl2
    clear hl2
    go_enter Tryz.func31, Tryz.ntmps31
    go_wp2
    go_loopw [5] (fun i wr => ∃ k : Nat, k ≤ n2 ∧ i = .int .i64 k ∧ Below w.heap.size w wr ∧ Hid (∀ j, j < k → feqL (l.getD j 0) (m.getD j 0) = true)) (fun i _ => n2 - (intOf i).toNat)
    case atStart => exact ⟨0, Nat.zero_le _, rfl, Below.refl _ _, hd (fun j hj => absurd hj (by omega))⟩
    case round =>
      obtain ⟨k, hk, rfl, hb, HZ⟩ := hrel
      by_cases hlt : k < n2
      · obtain ⟨b1, off1, rfl, hb1, hcell1⟩ := H1.out (by omega)
        obtain ⟨b2, off2, rfl, hb2, hcell2⟩ := H2.out (by omega)
        have hkl : k < l.length := by have := HLL.out; omega
        have hkm : k < m.length := by have := HM.out; omega
        have hx : wr.cell? ⟨b1, off1 + k, none⟩ = some (.float .f32 (l.getD k 0)) := by rw [hb.cell (p := ⟨b1, _, none⟩) hb1, hcell1 k (by simpa [flc] using hkl)]; simp [flc, hkl]
        have hy : wr.cell? ⟨b2, off2 + k, none⟩ = some (.float .f32 (m.getD k 0)) := by rw [hb.cell (p := ⟨b2, _, none⟩) hb2, hcell2 k (by simpa [flc] using hkm)]; simp [flc, hkm]
        have HKL := hd hkl
        clear hcell1 hcell2 hkl hkm
        cases hxy : feqL (l.getD k 0) (m.getD k 0)
        · have HE := hd hxy
          have hb3 : (FloatKind.f32.format.order (l.getD k 0) (m.getD k 0) != some .eq) = true := by have := hxy; unfold feqL at this; simp at this; simpa using this
          clear hxy
          generalize l.getD k 0 = x at hx hb3
          generalize m.getD k 0 = y at hy hb3
          go_wp2_with fail
          go_quiet (fail)
          go_wp2
          go_ret
          exact ⟨by rw [sameF_no feqL 0 l m k HKL.out HE.out]; rfl, bel_dn hb⟩
        · have HE := hd hxy
          have hb3 : (FloatKind.f32.format.order (l.getD k 0) (m.getD k 0) != some .eq) = false := by have := hxy; unfold feqL at this; simp at this; simpa using this
          clear hxy
          generalize l.getD k 0 = x at hx hb3
          generalize m.getD k 0 = y at hy hb3
          go_wp2_with fail
          go_quiet (fail)
          go_wp2
          go_roundw
          case rel => exact ⟨k + 1, by omega, by go_num, bel_dn hb, hd (fun j hj => if e : j = k then by rw [e]; exact HE.out else HZ.out j (by omega))⟩
          case measure => simp [intOf]; omega
      · go_wp2
        go_ret
        exact ⟨by rw [sameF_yes feqL 0 l m (by rw [HLL.out, HM.out]) (fun j hj => HZ.out j (by have := HLL.out; omega))]; rfl, hb⟩
  · have E := hd (sameF_len feqL 0 l m hlen)
    go_enter Tryz.func31, Tryz.ntmps31
    go_wp2
    go_ret
    exact ⟨by rw [E.out]; rfl, Below.refl _ _⟩

set_option maxRecDepth 100000 in
set_option maxHeartbeats 1000000 in
theorem sameSpans_any (s1 s2 : Value) (l m : List (Int × Int)) (w : World) (h1 : Rd w w.heap.size s1 l.length (spc l)) (h2 : Rd w w.heap.size s2 m.length (spc m)) :
    Calls Tryz.prog 30 #[s1, s2] w fun e w' => e = .returned (.bool (sameF (fun x y : Int × Int => x == y) (0, 0) l m)) ∧ Below w.heap.size w w' := by
  obtain ⟨A1, c1, rfl, hc1, hc2, hq1⟩ := h1
  obtain ⟨A2, c2, rfl, hc3, hc4, hq2⟩ := h2
  have H1 := hd hq1
  have H2 := hd hq2
  unfold maxLen at hc2 hc4
  clear hq1 hq2
  by_cases hlen : l.length = m.length
  · have HN := hd hlen
    generalize hm : m.length = n at *
    have hln : l.length = n := hlen
    have HM := hd hm
    clear hm hlen
    generalize hl2 : l.length = n2 at *
    subst hln
    have HLL := hd hl2
    clear hl2
    go_enter Tryz.func30, Tryz.ntmps30
    go_wp2
    go_loopw [5] (fun i wr => ∃ k : Nat, k ≤ n2 ∧ i = .int .i64 k ∧ Below w.heap.size w wr ∧ Hid (∀ j, j < k → (fun x y : Int × Int => x == y) (l.getD j (0, 0)) (m.getD j (0, 0)) = true)) (fun i _ => n2 - (intOf i).toNat)
    case atStart => exact ⟨0, Nat.zero_le _, rfl, Below.refl _ _, hd (fun j hj => absurd hj (by omega))⟩
    case round =>
      obtain ⟨k, hk, rfl, hb, HZ⟩ := hrel
      by_cases hlt : k < n2
      · obtain ⟨b1, off1, rfl, hb1, hcell1⟩ := H1.out (by omega)
        obtain ⟨b2, off2, rfl, hb2, hcell2⟩ := H2.out (by omega)
        have hkl : k < l.length := by have := HLL.out; omega
        have hkm : k < m.length := by have := HM.out; omega
        obtain ⟨p1, p2⟩ := spc_getD l k hkl
        obtain ⟨r1, r2⟩ := spc_getD m k hkm
        have hx1 := (hb.cell (p := ⟨b1, _, none⟩) hb1).trans ((hcell1 (k * 2) (by rw [spc_len]; omega)).trans p1)
        have hx2 := (hb.cell (p := ⟨b1, _, none⟩) hb1).trans ((hcell1 (k * 2 + 1) (by rw [spc_len]; omega)).trans p2)
        have hy1 := (hb.cell (p := ⟨b2, _, none⟩) hb2).trans ((hcell2 (k * 2) (by rw [spc_len]; omega)).trans r1)
        have hy2 := (hb.cell (p := ⟨b2, _, none⟩) hb2).trans ((hcell2 (k * 2 + 1) (by rw [spc_len]; omega)).trans r2)
        rw [← Nat.add_assoc] at hx2 hy2
        have HKL := hd hkl
        clear hcell1 hcell2 hkl hkm p1 p2 r1 r2
        by_cases h1 : (l.getD k (0, 0)).1 = (m.getD k (0, 0)).1
        · by_cases h2 : (l.getD k (0, 0)).2 = (m.getD k (0, 0)).2
          · have HE := hd (show (fun x y : Int × Int => x == y) (l.getD k (0, 0)) (m.getD k (0, 0)) = true by simpa using Prod.ext h1 h2)
            rw [← h1] at hy1
            rw [← h2] at hy2
            clear h1 h2
            generalize (l.getD k (0, 0)).1 = x1 at hx1 hy1
            generalize (l.getD k (0, 0)).2 = x2 at hx2 hy2
            go_wp2_with fail
            go_quiet (fail)
            go_wp2
            go_roundw
            case rel => exact ⟨k + 1, by omega, by go_num, bel_dn hb, hd (fun j hj => if e : j = k then by rw [e]; exact HE.out else HZ.out j (by omega))⟩
            case measure => simp [intOf]; omega
          · have HE := hd (show (fun x y : Int × Int => x == y) (l.getD k (0, 0)) (m.getD k (0, 0)) = false from beq_eq_false_iff_ne.2 fun e => h2 (congrArg Prod.snd e))
            rw [← h1] at hy1
            clear h1
            generalize (l.getD k (0, 0)).1 = x1 at hx1 hy1
            generalize (l.getD k (0, 0)).2 = x2 at hx2 h2
            generalize (m.getD k (0, 0)).2 = y2 at hy2 h2
            have hb4 : (x2 == y2) = false := by simpa using h2
            go_wp2_with fail
            go_quiet (fail)
            go_wp2
            go_ret
            exact ⟨by rw [sameF_no (fun x y : Int × Int => x == y) (0, 0) l m k HKL.out HE.out]; rfl, bel_dn hb⟩
        · have HE := hd (show (fun x y : Int × Int => x == y) (l.getD k (0, 0)) (m.getD k (0, 0)) = false from beq_eq_false_iff_ne.2 fun e => h1 (congrArg Prod.fst e))
          generalize (l.getD k (0, 0)).1 = x1 at hx1 h1
          generalize (m.getD k (0, 0)).1 = y1 at hy1 h1
          generalize (l.getD k (0, 0)).2 = x2 at hx2
          generalize (m.getD k (0, 0)).2 = y2 at hy2
          have hb4 : (x1 == y1) = false := by simpa using h1
          go_wp2_with fail
          go_quiet (fail)
          go_wp2
          go_ret
          exact ⟨by rw [sameF_no (fun x y : Int × Int => x == y) (0, 0) l m k HKL.out HE.out]; rfl, bel_dn hb⟩
      · go_wp2
        go_ret
        exact ⟨by rw [sameF_yes (fun x y : Int × Int => x == y) (0, 0) l m (by rw [HLL.out, HM.out]) (fun j hj => HZ.out j (by have := HLL.out; omega))]; rfl, hb⟩
  · have E := hd (sameF_len (fun x y : Int × Int => x == y) (0, 0) l m hlen)
    go_enter Tryz.func30, Tryz.ntmps30
    go_wp2
    go_ret
    exact ⟨by rw [E.out]; rfl, Below.refl _ _⟩

end Go.Proofs.YtkgkpcmokmhakaaGreatDoor

namespace Go.Proofs.YtkgkpcmokmhakaaGreatDoor
open Go.RowKit

set_option maxHeartbeats 400000 in
theorem refFirst_any (sl : Value) (l : List Int) (w : World) (h : Rd w w.heap.size sl l.length (l.map (Value.int .i64))) :
    Calls Tryz.prog 21 #[sl] w fun e w' => e = .returned (.int .i64 (fst0 l)) ∧ w = w' := by
  obtain ⟨A, c, rfl, hc1, hc2, hc⟩ := h
  unfold maxLen at hc2
  have HC := hd hc
  clear hc
  go_enter Tryz.func21, Tryz.ntmps21
  go_wp2
  go_loop [3] (fun i => ∃ k : Nat, k ≤ l.length ∧ i = .int .i64 k ∧ Hid (∀ j, j < k → l.getD j 0 = 0)) (fun i => l.length - (intOf i).toNat)
  case atStart => exact ⟨0, Nat.zero_le _, rfl, hd (fun j hj => absurd hj (by omega))⟩
  case round =>
    obtain ⟨k, hk, rfl, HZ⟩ := hrel
    by_cases hlt : k < l.length
    · obtain ⟨b, off, rfl, _, hcell⟩ := HC.out (by omega)
      have hx : w.cell? ⟨b, off + k, none⟩ = some (.int .i64 (l.getD k 0)) := by rw [hcell k (by simpa using hlt)]; simp [hlt]
      clear hcell
      obtain ⟨x, hxx⟩ : ∃ x, l.getD k 0 = x := ⟨_, rfl⟩
      rw [hxx] at hx
      have HX := hd hxx
      clear hxx
      by_cases h0 : x = 0
      · subst h0
        go_wp2
        go_round
        case rel => exact ⟨k + 1, by omega, by go_num, hd (fun j hj => if e : j = k then by rw [e]; exact HX.out else HZ.out j (by omega))⟩
        case measure => simp [intOf]; omega
      · have hb : (x != 0) = true := by simpa using h0
        go_wp2
        go_ret
        exact ⟨by rw [fst0_at l k hlt HZ.out (by rw [HX.out]; exact h0), HX.out]; rfl, rfl⟩
    · go_wp2
      go_ret
      exact ⟨by rw [fst0_none l (fun j hj => HZ.out j (by omega))]; rfl, rfl⟩

end Go.Proofs.YtkgkpcmokmhakaaGreatDoor
