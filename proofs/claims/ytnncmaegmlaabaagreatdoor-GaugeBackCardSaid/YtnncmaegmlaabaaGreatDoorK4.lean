/-
  Plain facts for gauge.apply: that the stretches' ends ascend; which indices the rules remove; what the rules leave, one by one. Conditions are stated at each.
-/
import Derived.Test.YtnncmaegmlaabaaGreatDoorProg
import Derived.Test.YtnncmaegmlaabaaGreatDoorME
import Derived.Test.YtnncmaegmlaabaaGreatDoorI4
namespace Go.Proofs.YtnncmaegmlaabaaGreatDoor
open Go.RowKit

def Asc2 (l : List (Int × Int)) (t : Int) : Prop := (∀ s ∈ l, s.2 ≤ t) ∧ l.Pairwise (fun a b => a.2 ≤ b.2)
theorem asc2_asc {l : List (Int × Int)} {t : Int} (h : Asc2 l t) : Asc l := by
  intro a b hab hb
  have ha : a < l.length := by omega
  simp only [List.getD_eq_getElem?_getD, List.getElem?_eq_getElem ha, List.getElem?_eq_getElem hb, Option.getD_some]
  rcases Nat.lt_or_ge a b with h1 | h1
  · exact List.pairwise_iff_getElem.1 h.2 a b ha hb h1
  · have e : a = b := by omega
    subst e; exact Int.le_refl _
theorem ext_asc2 {l : List (Int × Int)} {f t : Int} (h : Asc2 l f) (hft : f ≤ t) : Asc2 (ext l f t) t := by
  obtain ⟨h1, h2⟩ := h
  unfold ext
  cases hl : l.getLast? with
  | none => exact ⟨fun s hs => by simp only [List.mem_singleton] at hs; subst hs; exact Int.le_refl _, List.pairwise_singleton _ _⟩
  | some s =>
    simp only
    split
    · refine ⟨fun x hx => ?_, List.pairwise_append.2 ⟨h2.sublist (List.dropLast_sublist _), List.pairwise_singleton _ _, fun a ha b hb => ?_⟩⟩
      · rcases List.mem_append.1 hx with hx | hx
        · exact Int.le_trans (h1 x ((List.dropLast_sublist _).subset hx)) hft
        · simp only [List.mem_singleton] at hx; subst hx; exact Int.le_refl _
      · simp only [List.mem_singleton] at hb; subst hb
        exact Int.le_trans (h1 a ((List.dropLast_sublist _).subset ha)) hft
    · refine ⟨fun x hx => ?_, List.pairwise_append.2 ⟨h2, List.pairwise_singleton _ _, fun a ha b hb => ?_⟩⟩
      · rcases List.mem_append.1 hx with hx | hx
        · exact Int.le_trans (h1 x hx) hft
        · simp only [List.mem_singleton] at hx; subst hx; exact Int.le_refl _
      · simp only [List.mem_singleton] at hb; subst hb
        exact Int.le_trans (h1 a ha) hft
theorem strF_asc2 (bs : List Bool) : ∀ k : Nat, Asc2 (strF bs k) k
  | 0 => ⟨by simp [strF], by simp [strF]⟩
  | k + 1 => by
    have ih := strF_asc2 bs k
    rw [strF]
    split
    · have := ext_asc2 ih (show (k : Int) ≤ k + 1 by omega)
      simpa using this
    · exact ⟨fun s hs => Int.le_trans (ih.1 s hs) (by simp; omega), ih.2⟩
theorem strF_asc (bs : List Bool) (k : Nat) : Asc (strF bs k) := asc2_asc (strF_asc2 bs k)

theorem itm_idx (bs : List Nat) (gs : List (Int × Int)) (hn : bs.length ≤ 100000) (hok : ∀ j, j < bs.length → levOK (bs.getD j 0) = true) : ∀ x ∈ itm gs (fLv bs) bs.length, x.1.1 < bs.length := by
  intro x hx
  unfold itm at hx
  obtain ⟨i, hi, rfl⟩ := List.mem_map.1 hx
  have hi2 : i < bs.length := by simpa using (List.mem_filter.1 hi).1
  rw [fLv_at bs hn hok i hi2]
  exact hi2
theorem sel_idx (p : Lv → Bool) (l : List Lv) : ∀ y ∈ sel p l, ∃ x ∈ l, y = (x.1.1 : Int) := by
  intro y hy
  unfold sel at hy
  obtain ⟨x, hx, rfl⟩ := List.mem_map.1 hy
  exact ⟨x, (List.mem_filter.1 hx).1, rfl⟩
theorem jf_idx (A : Int) : ∀ (l : List Lv) (s : Int × Nat × List Int), ∀ y ∈ (l.foldl (jstep A) s).2.2, y ∈ s.2.2 ∨ ∃ x ∈ l, y = (x.1.1 : Int)
  | [], _, _, hy => .inl hy
  | a :: l, s, y, hy => by
    rcases jf_idx A l (jstep A s a) y hy with h | ⟨x, hx, e⟩
    · unfold jstep at h
      split at h
      · rcases List.mem_append.1 h with h | h
        · exact .inl h
        · exact .inr ⟨a, List.mem_cons_self, by simpa using h⟩
      · exact .inl h
    · exact .inr ⟨x, List.mem_cons_of_mem _ hx, e⟩
theorem sf_idx (A : Int) : ∀ (l : List Lv) (s : Int × Nat × Int × List Int), ∀ y ∈ (l.foldl (sstep A) s).2.2.2, y ∈ s.2.2.2 ∨ ∃ x ∈ l, y = (x.1.1 : Int)
  | [], _, _, hy => .inl hy
  | a :: l, s, y, hy => by
    rcases sf_idx A l (sstep A s a) y hy with h | ⟨x, hx, e⟩
    · unfold sstep at h
      simp only at h
      split at h
      · rcases List.mem_append.1 h with h | h
        · exact .inl h
        · exact .inr ⟨a, List.mem_cons_self, by simpa using h⟩
      · exact .inl h
    · exact .inr ⟨x, List.mem_cons_of_mem _ hx, e⟩

/-- What a rule removes. -/
def remv (x : Ru) (bs : List Nat) (gs : List (Int × Int)) : List Int :=
  bif x.1 == sRange then sel (outP x.2.1 x.2.2) (itm gs (fLv bs) bs.length) else bif x.1 == sJump then (jf x.2.1 (itm gs (fLv bs) bs.length)).2.2 else bif x.1 == sStuck then (sf x.2.1 (itm gs (fLv bs) bs.length)).2.2.2 else []
theorem remv_idx (x : Ru) (bs : List Nat) (gs : List (Int × Int)) (hn : bs.length ≤ 100000) (hok : ∀ j, j < bs.length → levOK (bs.getD j 0) = true) : ∀ y ∈ remv x bs gs, ∃ i : Nat, y = (i : Int) ∧ i < bs.length := by
  have key : ∀ y, (∃ z ∈ itm gs (fLv bs) bs.length, y = (z.1.1 : Int)) → ∃ i : Nat, y = (i : Int) ∧ i < bs.length := fun y ⟨z, hz, e⟩ => ⟨_, e, itm_idx bs gs hn hok z hz⟩
  intro y hy
  unfold remv at hy
  cases h1 : x.1 == sRange
  · cases h2 : x.1 == sJump
    · cases h3 : x.1 == sStuck
      · rw [h1, h2, h3] at hy; simp at hy
      · rw [h1, h2, h3] at hy
        rcases sf_idx _ _ _ y hy with h | h
        · cases h
        · exact key y h
    · rw [h1, h2] at hy
      rcases jf_idx _ _ _ y hy with h | h
      · cases h
      · exact key y h
  · rw [h1] at hy
    exact key y (sel_idx _ _ y hy)
theorem remv_len (x : Ru) (bs : List Nat) (gs : List (Int × Int)) : (remv x bs gs).length ≤ bs.length := by
  have h0 := itm_len gs (fLv bs) bs.length
  unfold remv
  cases x.1 == sRange
  · cases x.1 == sJump
    · cases x.1 == sStuck
      · exact Nat.zero_le _
      · exact Nat.le_trans (sf_ok _ _).2.2 h0
    · exact Nat.le_trans (jf_ok _ _).2.2.2 h0
  · exact Nat.le_trans (sel_len _ _) h0

def remN (x : Ru) (bs : List Nat) (gs : List (Int × Int)) : List Nat := (remv x bs gs).map Int.toNat
theorem remN_len (x : Ru) (bs : List Nat) (gs : List (Int × Int)) : (remN x bs gs).length = (remv x bs gs).length := by simp [remN]
theorem remN_lt (x : Ru) (bs : List Nat) (gs : List (Int × Int)) (hn : bs.length ≤ 100000) (hok : ∀ j, j < bs.length → levOK (bs.getD j 0) = true) : ∀ j, j < (remN x bs gs).length → (remN x bs gs).getD j 0 < bs.length := by
  intro j hj
  have hm : (remN x bs gs)[j] ∈ remN x bs gs := List.getElem_mem hj
  unfold remN at hm
  obtain ⟨y, hy, e⟩ := List.mem_map.1 hm
  obtain ⟨i, rfl, hi⟩ := remv_idx x bs gs hn hok y hy
  simp only [List.getD_eq_getElem?_getD, List.getElem?_eq_getElem hj, Option.getD_some]
  unfold remN at *
  rw [← e]; simpa using hi
theorem remN_inc (x : Ru) (bs : List Nat) (gs : List (Int × Int)) (hn : bs.length ≤ 100000) (hok : ∀ j, j < bs.length → levOK (bs.getD j 0) = true) : (remv x bs gs).map (Value.int .i64) = inc (remN x bs gs) := by
  unfold inc remN
  rw [List.map_map]
  apply List.map_congr_left
  intro y hy
  obtain ⟨i, rfl, hi⟩ := remv_idx x bs gs hn hok y hy
  simp

/-- What is left of a record, and its reasons, after k rules. -/
abbrev AS := List Nat × List (Int × Int) × List Int
def woB (bs : List Nat) (gs : List (Int × Int)) (il : List Nat) : List Nat := asmK bs (wout bs gs il) bs.length
def woG (bs : List Nat) (gs : List (Int × Int)) (il : List Nat) : List (Int × Int) := strF (misK (wout bs gs il) bs.length bs.length) bs.length
def rsK (rs : List Int) (il : List Nat) (v : Int) (k : Nat) : List Int := (il.take k).foldl (fun r i => r.set i v) rs
def apF (bs : List Nat) (gs : List (Int × Int)) (l : List Ru) : Nat → AS
  | 0 => (woB bs gs [], woG bs gs [], List.replicate bs.length 0)
  | k + 1 => let s := apF bs gs l k; let il := remN (l.getD k ru0) s.1 s.2.1; (woB s.1 s.2.1 il, woG s.1 s.2.1 il, rsK s.2.2 il ((k : Int) + 1) il.length)
theorem rsK_succ (rs : List Int) (il : List Nat) (v : Int) (k : Nat) (h : k < il.length) : rsK rs il v (k + 1) = (rsK rs il v k).set (il.getD k 0) v := by
  unfold rsK
  rw [List.take_add_one, List.foldl_append, List.getElem?_eq_getElem h]
  simp only [Option.toList_some, List.foldl_cons, List.foldl_nil, List.getD_eq_getElem?_getD, List.getElem?_eq_getElem h, Option.getD_some]
theorem rsK_len (rs : List Int) (il : List Nat) (v : Int) : ∀ k, k ≤ il.length → (rsK rs il v k).length = rs.length
  | 0, _ => rfl
  | k + 1, h => by rw [rsK_succ rs il v k (by omega), List.length_set, rsK_len rs il v k (by omega)]
theorem asmK_ok (bs : List Nat) (ms : List Bool) (k : Nat) (hok : ∀ j, j < bs.length → levOK (bs.getD j 0) = true) : ∀ j, j < bs.length → levOK ((asmK bs ms k).getD j 0) = true := by
  intro j hj
  have e : (asmK bs ms k).getD j 0 = if j < k ∧ ms.getD j false = false then 0 else bs.getD j 0 := by
    unfold asmK
    rw [List.getD_eq_getElem?_getD, List.getElem?_map, List.getElem?_range hj]
    rfl
  rw [e]
  split
  · exact lv0
  · exact hok j hj
theorem apF_ok (bs : List Nat) (gs : List (Int × Int)) (l : List Ru) (hok : ∀ j, j < bs.length → levOK (bs.getD j 0) = true) (k : Nat) :
    (apF bs gs l k).1.length = bs.length ∧ (∀ j, j < bs.length → levOK ((apF bs gs l k).1.getD j 0) = true) ∧ Asc (apF bs gs l k).2.1 ∧ (apF bs gs l k).2.1.length ≤ bs.length ∧ (apF bs gs l k).2.2.length = bs.length := by
  induction k with
  | zero => exact ⟨asmK_len _ _ _, asmK_ok _ _ _ hok, strF_asc _ _, strF_len _ _, by simp [apF]⟩
  | succ k ih =>
    obtain ⟨h1, h2, h3, h4, h5⟩ := ih
    simp only [apF]
    refine ⟨by rw [woB, asmK_len, h1], ?_, strF_asc _ _, by rw [woG]; exact Nat.le_trans (strF_len _ _) (by omega), by rw [rsK_len _ _ _ _ (Nat.le_refl _), h5]⟩
    have := asmK_ok (apF bs gs l k).1 (wout (apF bs gs l k).1 (apF bs gs l k).2.1 (remN (l.getD k ru0) (apF bs gs l k).1 (apF bs gs l k).2.1)) (apF bs gs l k).1.length (by rw [h1]; exact h2)
    rw [h1] at this
    simpa [woB, h1] using this

end Go.Proofs.YtnncmaegmlaabaaGreatDoor
