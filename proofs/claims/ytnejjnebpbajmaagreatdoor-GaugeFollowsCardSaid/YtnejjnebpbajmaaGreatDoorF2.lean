/-
  Plain words of GaugeFollows: what Fill keeps and fills. No program. Conditions: written at each.
  Plain words of GaugeFollows: what is checked of a filled record and of both parts of one; their statistics; waters of the opposite levels; the highest high water. No program.
  Plain words of GaugeFollows: statistics of both parts; waters of the opposite levels; the highest high water; which gaps take all. No program.
-/
import Derived.Test.YtnejjnebpbajmaaGreatDoorMS
import Derived.Test.YtnejjnebpbajmaaGreatDoorZ2
import Derived.Test.YtnejjnebpbajmaaGreatDoorT7
import Derived.Test.YtnejjnebpbajmaaGreatDoorKB
import Derived.Test.YtnejjnebpbajmaaGreatDoorQ4
import Derived.Test.YtnejjnebpbajmaaGreatDoorT1

namespace Go.Proofs.YtnejjnebpbajmaaGreatDoor
open Go Go.RowKit

theorem mem_filt {α : Type} {p : α → Bool} {x : α} {l : List α} (h : x ∈ l.filter p) : x ∈ l := (List.mem_filter.1 h).1
/-- Gaps that stay. -/
def kpG (mo : Int) (g : Int × Int) : Bool := decide (g.1 = 0) || decide (g.2 - g.1 > mo)
theorem take_next (gs : List (Int × Int)) (k : Nat) (h : k < gs.length) : gs.take (k + 1) = gs.take k ++ [gs.getD k (0, 0)] := by
  rw [List.take_add_one]
  simp [List.getElem?_eq_getElem h, List.getD]
theorem fillF_gf (bs : List Nat) (gs : List (Int × Int)) (mo : Int) : ∀ k, k ≤ gs.length → (fillF bs gs mo k).gap = (gs.take k).filter (kpG mo) ∧ (fillF bs gs mo k).fil = (gs.take k).filter (fun g => !kpG mo g)
  | 0, _ => by simp [fillF]
  | k + 1, h => by
    obtain ⟨h1, h2⟩ := fillF_gf bs gs mo k (by omega)
    rw [take_next gs k (by omega), List.filter_append, List.filter_append]
    unfold fillF fStep
    generalize gs.getD k (0, 0) = g' at *
    by_cases c : g'.1 = 0 ∨ g'.2 - g'.1 > mo
    · have hk : kpG mo g' = true := by unfold kpG; simpa using c
      rw [if_pos c]
      simp only [h1, h2, hk, List.filter_cons, List.filter_nil, if_true, Bool.not_true, Bool.false_eq_true, if_false, List.append_nil, and_self]
    · have hk : kpG mo g' = false := by unfold kpG; simpa using c
      rw [if_neg c]
      simp only [h1, h2, hk, List.filter_cons, List.filter_nil, if_true, Bool.not_false, Bool.false_eq_true, if_false, List.append_nil, and_self]
theorem setK_at (ls : List Nat) (f k v i : Nat) (hi : i < ls.length) : (setK ls f k v).getD i 0 = if f ≤ i ∧ i < k then v else ls.getD i 0 := by simp [setK, hi]
theorem fillF_lev (bs : List Nat) (gs : List (Int × Int)) (mo : Int) (hC : Can gs) (hb : ∀ g ∈ gs, 0 ≤ g.1) : ∀ k, k ≤ gs.length → ∀ i : Nat, i < bs.length →
    (hasL ((gs.take k).filter (fun g => !kpG mo g)) (i : Int) = false → (fillF bs gs mo k).lev.getD i 0 = bs.getD i 0) ∧
    (∀ g ∈ (gs.take k).filter (fun g => !kpG mo g), g.1 ≤ (i : Int) → (i : Int) < g.2 → (fillF bs gs mo k).lev.getD i 0 = bs.getD (g.1.toNat - 1) 0)
  | 0, _, i, _ => by simp [fillF]
  | k + 1, h, i, hi => by
    obtain ⟨h1, h2⟩ := fillF_lev bs gs mo hC hb k (by omega) i hi
    have hlen := (fillF_len bs gs mo k).1
    have hm : gs.getD k (0, 0) ∈ gs := by rw [List.getD_eq_getElem?_getD, List.getElem?_eq_getElem (show k < gs.length by omega)]; exact List.getElem_mem _
    have hb0 := hb _ hm
    have hp : ∀ g ∈ gs.take k, g.2 < (gs.getD k (0, 0)).1 := by
      have h3 := hC.1
      rw [← List.take_append_drop (k + 1) gs, take_next gs k (by omega)] at h3
      rw [List.pairwise_append, List.pairwise_append] at h3
      exact fun g hg => h3.1.2.2 g hg _ (by simp)
    rw [take_next gs k (by omega), List.filter_append]
    unfold fillF fStep
    generalize hgd : gs.getD k (0, 0) = g' at *
    by_cases c : g'.1 = 0 ∨ g'.2 - g'.1 > mo
    · have hk : kpG mo g' = true := by unfold kpG; simpa using c
      rw [if_pos c]
      simp only [hk, List.filter_cons, List.filter_nil, Bool.not_true, Bool.false_eq_true, if_false, List.append_nil]
      exact ⟨h1, h2⟩
    · have hk : kpG mo g' = false := by unfold kpG; simpa using c
      rw [if_neg c]
      simp only [hk, List.filter_cons, List.filter_nil, Bool.not_false, if_true]
      rw [setK_at _ _ _ _ _ (by omega)]
      by_cases hin : g'.1.toNat ≤ i ∧ i < g'.2.toNat
      · rw [if_pos hin]
        refine ⟨fun hf => ?_, fun g hg a b => ?_⟩
        · exact absurd ⟨by omega, by omega⟩ (hasL_false.1 hf g' (by simp))
        · rcases List.mem_append.1 hg with hg | hg
          · have := hp g (mem_filt hg)
            omega
          · simp only [List.mem_singleton] at hg
            subst hg; rfl
      · rw [if_neg hin]
        refine ⟨fun hf => h1 (by rw [hasL_append] at hf; exact (Bool.or_eq_false_iff.1 hf).1), fun g hg a b => ?_⟩
        rcases List.mem_append.1 hg with hg | hg
        · exact h2 g hg a b
        · simp only [List.mem_singleton] at hg
          subst hg
          exact absurd ⟨by omega, by omega⟩ hin

/-- What Fill leaves of the record: the levels, gaps and filled spans beside the record's. -/
theorem fill_plain (bs : List Nat) (gs : List (Int × Int)) (mo : Int) (hC : Can gs) (hb : ∀ g ∈ gs, 0 ≤ g.1) (i : Nat) (hi : i < bs.length) :
    (hasL gs (i : Int) = false → (fillF bs gs mo gs.length).lev.getD i 0 = bs.getD i 0 ∧ hasL (fillF bs gs mo gs.length).gap (i : Int) = false ∧ hasL (fillF bs gs mo gs.length).fil (i : Int) = false) ∧
    (hasL gs (i : Int) = true → hasL (fillF bs gs mo gs.length).gap (i : Int) = !hasL (fillF bs gs mo gs.length).fil (i : Int)) ∧
    (hasL (fillF bs gs mo gs.length).fil (i : Int) = true → (fillF bs gs mo gs.length).lev.getD i 0 = (fillF bs gs mo gs.length).lev.getD (i - 1) 0) ∧
    (hasL (fillF bs gs mo gs.length).gap (i : Int) = true → (fillF bs gs mo gs.length).lev.getD i 0 = bs.getD i 0) := by
  obtain ⟨e1, e2⟩ := fillF_gf bs gs mo gs.length (Nat.le_refl _)
  obtain ⟨l1, l2⟩ := fillF_lev bs gs mo hC hb gs.length (Nat.le_refl _) i hi
  rw [List.take_length] at e1 e2 l1 l2
  rw [e1, e2]
  have hsub : ∀ p : Int × Int → Bool, hasL gs (i : Int) = false → hasL (gs.filter p) (i : Int) = false := fun p h => hasL_false.2 fun s hs => hasL_false.1 h s (mem_filt hs)
  have huniq : ∀ s ∈ gs, ∀ t ∈ gs, s.1 ≤ (i : Int) → (i : Int) < s.2 → t.1 ≤ (i : Int) → (i : Int) < t.2 → s = t := by
    intro s hs t ht a b c d
    obtain ⟨x, hx, rfl⟩ := List.getElem_of_mem hs
    obtain ⟨y, hy, rfl⟩ := List.getElem_of_mem ht
    have hp := List.pairwise_iff_getElem.1 hC.1
    rcases Nat.lt_trichotomy x y with h | h | h
    · have := hp x y hx hy h; omega
    · subst h; rfl
    · have := hp y x hy hx h; omega
  have hex : ∀ p : Int × Int → Bool, hasL (gs.filter p) (i : Int) = true → hasL (gs.filter fun g => !p g) (i : Int) = false := by
    intro p h
    obtain ⟨s, hs, a, b⟩ := hasL_true.1 h
    refine hasL_false.2 fun t ht hh => ?_
    have := huniq s (mem_filt hs) t (mem_filt ht) a b hh.1 hh.2
    subst this
    have h1 := (List.mem_filter.1 hs).2
    have h2 := (List.mem_filter.1 ht).2
    rw [h1] at h2; cases h2
  refine ⟨fun h => ⟨l1 (hsub _ h), hsub _ h, hsub _ h⟩, fun h => ?_, fun h => ?_, fun h => l1 (hex _ h)⟩
  · obtain ⟨s, hs, a, b⟩ := hasL_true.1 h
    cases hk : kpG mo s with
    | true =>
      have h3 : hasL (gs.filter (kpG mo)) (i : Int) = true := hasL_true.2 ⟨s, List.mem_filter.2 ⟨hs, hk⟩, a, b⟩
      rw [h3, hex _ h3]; rfl
    | false =>
      have h3 : hasL (gs.filter fun g => !kpG mo g) (i : Int) = true := hasL_true.2 ⟨s, List.mem_filter.2 ⟨hs, by rw [hk]; rfl⟩, a, b⟩
      have h4 := hex _ h3
      simp only [Bool.not_not] at h4
      rw [h3, h4]; rfl
  · obtain ⟨s, hs, a, b⟩ := hasL_true.1 h
    rw [l2 s hs a b]
    have hs' := mem_filt hs
    have hk := (List.mem_filter.1 hs).2
    have h0 : s.1 ≠ 0 := by intro e; simp [kpG, e] at hk
    have hs0 := hb s hs'
    obtain ⟨m1, m2⟩ := fillF_lev bs gs mo hC hb gs.length (Nat.le_refl _) (i - 1) (by omega)
    rw [List.take_length] at m1 m2
    by_cases hlt : s.1 < (i : Int)
    · exact (m2 s hs (by omega) (by omega)).symm
    · have hi' : s.1.toNat - 1 = i - 1 := by omega
      rw [hi']
      refine (m1 (hasL_false.2 fun t ht hh => ?_)).symm
      have ht' := mem_filt ht
      obtain ⟨x, hx, rfl⟩ := List.getElem_of_mem hs'
      obtain ⟨y, hy, rfl⟩ := List.getElem_of_mem ht'
      have hp := List.pairwise_iff_getElem.1 hC.1
      have hxx := hC.2 _ hs'
      rcases Nat.lt_trichotomy x y with h | h | h
      · have := hp x y hx hy h; omega
      · subst h; omega
      · have := hp y x hy hx h; omega
/-- A gap stays just if it has no level before it, or is too long. -/
theorem fill_gap (bs : List Nat) (gs : List (Int × Int)) (mo : Int) (hC : Can gs) (k : Nat) (hk : k < gs.length) :
    hasL (fillF bs gs mo gs.length).gap (gs.getD k (0, 0)).1 = kpG mo (gs.getD k (0, 0)) := by
  obtain ⟨e1, -⟩ := fillF_gf bs gs mo gs.length (Nat.le_refl _)
  rw [List.take_length] at e1
  rw [e1]
  have hm : gs.getD k (0, 0) ∈ gs := by rw [List.getD_eq_getElem?_getD, List.getElem?_eq_getElem hk]; exact List.getElem_mem _
  have hlt := hC.2 _ hm
  cases hkp : kpG mo (gs.getD k (0, 0)) with
  | true => exact hasL_true.2 ⟨_, List.mem_filter.2 ⟨hm, hkp⟩, by omega, hlt⟩
  | false =>
    refine hasL_false.2 fun t ht hh => ?_
    have ht' := mem_filt ht
    have hq := (List.mem_filter.1 ht).2
    obtain ⟨x, hx, hxe⟩ := List.getElem_of_mem hm
    obtain ⟨y, hy, rfl⟩ := List.getElem_of_mem ht'
    rw [← hxe] at hh hkp hlt
    have hp := List.pairwise_iff_getElem.1 hC.1
    rcases Nat.lt_trichotomy x y with h | h | h
    · have := hp x y hx hy h; omega
    · subst h; rw [hq] at hkp; cases hkp
    · have := hp y x hy hx h; omega
end Go.Proofs.YtnejjnebpbajmaaGreatDoor

namespace Go.Proofs.YtnejjnebpbajmaaGreatDoor
open Go Go.RowKit
open Ieee (Format Datum)

theorem neg_finS {x : Nat} {s : Bool} {m : Nat} {e : Int} (h : Fin sgl x s m e) : Fin sgl (Op.negFloat .f32 x) (!s) m e := by
  refine ⟨?_, h.lp, h.mag⟩
  have hr := h.read
  have hs : sgl.signWeight = 2 ^ 31 := by decide
  have hw : Op.negFloat .f32 x = x ^^^ 2 ^ 31 := rfl
  rw [hw]
  unfold Format.read at hr ⊢
  simp only [hs] at hr ⊢
  have e2 : (x ^^^ 2 ^ 31) % 2 ^ 31 = x % 2 ^ 31 := by rw [Nat.xor_mod_two_pow]; simp
  have e1 : ((x ^^^ 2 ^ 31) / 2 ^ 31 % 2 == 1) = !(x / 2 ^ 31 % 2 == 1) := by
    rw [Nat.xor_div_two_pow]
    have h1 : 2 ^ 31 / 2 ^ 31 = 1 := by decide
    rw [h1]
    have h2 := Nat.xor_mod_two_pow (a := x / 2 ^ 31) (b := 1) (n := 1)
    simp only [Nat.pow_one] at h2
    rw [h2]
    rcases Nat.mod_two_eq_zero_or_one (x / 2 ^ 31) with h | h <;> rw [h] <;> decide
  rw [e2, e1]
  split at hr
  · rename_i c
    rw [if_pos c]
    simp only [Datum.number.injEq] at hr ⊢
    exact ⟨by rw [hr.1], hr.2⟩
  · rename_i c
    rw [if_neg c]
    split at hr
    · rename_i c2
      rw [if_pos c2]
      simp only [Datum.number.injEq] at hr ⊢
      exact ⟨by rw [hr.1], hr.2⟩
    · split at hr <;> cases hr
/-- A level upside down. -/
theorem neg_lev {b : Nat} (h : chkLev b = 0) : chkLev (Op.negFloat .f32 b) = 0 ∧ num (Op.negFloat .f32 b) = -num b := by
  unfold chkLev at h ⊢
  cases hd : FloatKind.f32.decode b with
  | nan s t => rw [hd] at h; cases h
  | infinity s => rw [hd] at h; cases h
  | number s m e =>
    rw [hd] at h
    obtain ⟨hf, he⟩ := f32_top hd
    have hn := neg_finS hf
    have hd2 : FloatKind.f32.decode (Op.negFloat .f32 b) = .number (!s) m e := hn.read
    rw [hd2]
    refine ⟨h, ?_⟩
    rw [(fin_of hn).2, (fin_of hf).2]
    unfold sgnI
    cases s <;> simp

theorem mem_getD {l : List (Int × Int)} {s : Int × Int} (h : s ∈ l) : ∃ j, j < l.length ∧ l.getD j (0, 0) = s := by
  obtain ⟨j, hj, rfl⟩ := List.getElem_of_mem h
  exact ⟨j, hj, by simp [hj]⟩
/-- Enough for a record to be valid. -/
theorem chk_ok (nm : ByteArray) (st : Int) (LS : List Nat) (GS : List (Int × Int)) (h1 : rec1 nm st LS.length = 0) (hn : LS.length ≤ 4096) (hl : ∀ j, j < LS.length → chkLev (LS.getD j 0) = 0) (hC : Can GS) (hb : ∀ s ∈ GS, 0 ≤ s.1 ∧ s.2 ≤ (LS.length : Int))
    (hz : ∀ i : Nat, i < LS.length → hasL GS (i : Int) = true → (FloatKind.f32.format.order (LS.getD i 0) 0 != some .eq) = false) : chkRec nm st LS GS = 0 := by
  have hlen : GS.length ≤ 2048 := by
    by_cases hne : GS = []
    · rw [hne]; simp
    · have := can_count GS 0 (LS.length : Int) hC hb hne
      omega
  have hch : chkSpans GS = 0 := chk_can GS hC (fun s hs => ⟨(hb s hs).1, by have := (hb s hs).2; omega⟩) hlen
  have hlev : fst0 (levErr LS) = 0 := by
    apply fst0_all
    intro j hj
    have hj : j < LS.length := by simpa [levErr] using hj
    rw [levErr_at _ j hj]
    exact hl j hj
  have h2 := rec2_fine hlev hch (fun j hj => (hb _ (getD_mem GS j hj)).2)
  have h3 : silB LS GS = true := (silB_true LS GS (fun s hs => (hb s hs).2)).2 (fun j hj i a b => by
    have hm := getD_mem GS j hj
    have := (hb _ hm).2
    exact hz i (by omega) (hasL_true.2 ⟨_, hm, a, b⟩))
  unfold chkRec
  rw [if_pos h1, if_pos h2, h3]
  rfl
theorem rec1_val {nm : ByteArray} {st : Int} {n : Nat} (hN : nameB nm = true) (hs : 0 ≤ st ∧ st ≤ 100000) (hn : n ≤ 4096) : rec1 nm st n = 0 := by
  refine rec1_fine ?_ hn
  apply fst0_all
  intro j hj
  have hj : j < 2 := by simpa using hj
  rcases (show j = 0 ∨ j = 1 by omega) with rfl | rfl
  · show unl (nameB nm) 8 = 0
    rw [hN]; rfl
  · show rng st 0 100000 = 0
    unfold rng; rw [if_pos hs]

section
variable {nm : ByteArray} {st : Int} {bs : List Nat} {gs : List (Int × Int)}
theorem rec_bounds (V : Valid nm st bs gs) : ∀ s ∈ gs, 0 ≤ s.1 ∧ s.2 ≤ (bs.length : Int) := fun s hs => by
  obtain ⟨j, hj, rfl⟩ := mem_getD hs
  exact ⟨((chkSpans_ok gs V.spans).2.1 _ hs).1, V.ends j hj⟩
theorem rec_silent (V : Valid nm st bs gs) (i : Nat) (h : hasL gs (i : Int) = true) : (FloatKind.f32.format.order (bs.getD i 0) 0 != some .eq) = false := by
  obtain ⟨s, hs, a, b⟩ := hasL_true.1 h
  obtain ⟨j, hj, rfl⟩ := mem_getD hs
  exact V.silent j hj i a b

theorem filled_ok (mo : Int) (h : chkRec nm st bs gs = 0) (hs : nm.size ≤ maxLen) : chkRec nm st (fillF bs gs mo gs.length).lev (fillF bs gs mo gs.length).gap = 0 := by
  obtain ⟨V, hC, hl⟩ := valid_of h hs
  have hb := rec_bounds V
  have hb0 : ∀ g ∈ gs, 0 ≤ g.1 := fun g hg => (hb g hg).1
  obtain ⟨e1, e2⟩ := fillF_gf bs gs mo gs.length (Nat.le_refl _)
  rw [List.take_length] at e1 e2
  have hlen := (fillF_len bs gs mo gs.length).1
  have hn := V.most
  refine chk_ok nm st _ _ (by rw [hlen]; exact rec1_val V.name V.start V.most) (by rw [hlen]; exact hn) (fun j hj => ?_) ?_ (fun s hs' => ?_) (fun i hi hh => ?_)
  · rw [hlen] at hj
    obtain ⟨l1, l2⟩ := fillF_lev bs gs mo hC hb0 gs.length (Nat.le_refl _) j hj
    rw [List.take_length] at l1 l2
    cases hf : hasL (gs.filter fun g => !kpG mo g) (j : Int)
    · rw [l1 hf]; exact hl j hj
    · obtain ⟨s, hs', a, b⟩ := hasL_true.1 hf
      rw [l2 s hs' a b]
      exact hl _ (by have := hb0 s (mem_filt hs'); omega)
  · rw [e1]
    exact ⟨hC.1.filter _, fun s hs' => hC.2 s (mem_filt hs')⟩
  · rw [hlen]
    rw [e1] at hs'
    exact hb s (mem_filt hs')
  · rw [hlen] at hi
    rw [(fill_plain bs gs mo hC hb0 i hi).2.2.2 hh]
    rw [e1] at hh
    obtain ⟨s, hs', a, b⟩ := hasL_true.1 hh
    exact rec_silent V i (hasL_true.2 ⟨s, mem_filt hs', a, b⟩)
end

/-- The span from one index to another, as a list. -/
def wthn (f t : Nat) : List (Int × Int) := if f < t then [((f : Int), (t : Int))] else []
theorem wthn_has (f t : Nat) (x : Int) : hasL (wthn f t) x = (decide ((f : Int) ≤ x) && decide (x < (t : Int))) := by
  unfold wthn
  split
  · simp [hasL]
  · rename_i h
    have : ¬ ((f : Int) ≤ x ∧ x < (t : Int)) := by omega
    rw [show hasL [] x = false from rfl]
    by_cases h1 : (f : Int) ≤ x
    · rw [decide_eq_false (show ¬ x < (t : Int) by omega)]; simp
    · rw [decide_eq_false h1]; rfl
theorem wthn_chk (f t : Nat) (ht : t ≤ 100000) : chkSpans (wthn f t) = 0 := by
  unfold wthn
  split
  · exact chk_can _ ⟨List.pairwise_singleton _ _, fun s hs => by simp only [List.mem_singleton] at hs; subst hs; simp only; omega⟩ (fun s hs => by simp only [List.mem_singleton] at hs; subst hs; simp only; omega) (by simp)
  · rfl
theorem can_bound {l : List (Int × Int)} (hC : Can l) {lo hi : Int} (h : ∀ x, hasL l x = true → lo ≤ x ∧ x < hi) : ∀ s ∈ l, lo ≤ s.1 ∧ s.2 ≤ hi := fun s hs => by
  have h0 := hC.2 s hs
  have h1 := h s.1 (hasL_true.2 ⟨s, hs, by omega, h0⟩)
  have h2 := h (s.2 - 1) (hasL_true.2 ⟨s, hs, by omega, by omega⟩)
  omega
def shl (k : Nat) (l : List (Int × Int)) : List (Int × Int) := l.map fun s => (s.1 - (k : Int), s.2 - (k : Int))
theorem shl_len (k : Nat) (l : List (Int × Int)) : (shl k l).length = l.length := by simp [shl]
theorem shl_next (k : Nat) (l : List (Int × Int)) (j : Nat) (h : j < l.length) : shl k (l.take (j + 1)) = shl k (l.take j) ++ [((l.getD j (0, 0)).1 - (k : Int), (l.getD j (0, 0)).2 - (k : Int))] := by
  rw [take_next l j h]
  simp [shl]
theorem shl_has (k : Nat) (l : List (Int × Int)) (x : Int) : hasL (shl k l) x = hasL l (x + k) := by
  rw [Bool.eq_iff_iff, hasL_true, hasL_true]
  constructor
  · rintro ⟨s, hs, a, b⟩
    obtain ⟨r, hr, rfl⟩ := List.mem_map.1 hs
    exact ⟨r, hr, by simp only at a; omega, by simp only at b; omega⟩
  · rintro ⟨s, hs, a, b⟩
    exact ⟨_, List.mem_map.2 ⟨s, hs, rfl⟩, by simp only; omega, by simp only; omega⟩
theorem shl_can (k : Nat) {l : List (Int × Int)} (h : Can l) : Can (shl k l) := by
  refine ⟨?_, fun s hs => ?_⟩
  · unfold shl
    rw [List.pairwise_map]
    exact h.1.imp fun {a b} hab => by simp only; omega
  · obtain ⟨r, hr, rfl⟩ := List.mem_map.1 hs
    have := h.2 r hr
    simp only; omega

def partH (gs : List (Int × Int)) (k : Nat) : List (Int × Int) := choice (fun x y => x && y) gs (wthn 0 k)
def partT (gs : List (Int × Int)) (k n : Nat) : List (Int × Int) := choice (fun x y => x && y) gs (wthn k n)
section
variable {nm : ByteArray} {st : Int} {bs : List Nat} {gs : List (Int × Int)} {k : Nat}
theorem head_has (hg : chkSpans gs = 0) (hk : k ≤ 100000) : Can (partH gs k) ∧ (∀ x, hasL (partH gs k) x = (hasL gs x && (decide ((0 : Int) ≤ x) && decide (x < (k : Int))))) ∧ ∀ s ∈ partH gs k, 0 ≤ s.1 ∧ s.2 ≤ (k : Int) := by
  obtain ⟨h1, -, h3⟩ := choice_all (fun x y => x && y) rfl gs (wthn 0 k) hg (wthn_chk 0 k hk)
  have h4 : ∀ x, hasL (partH gs k) x = (hasL gs x && (decide ((0 : Int) ≤ x) && decide (x < (k : Int)))) := fun x => by
    show hasL (choice (fun x y => x && y) gs (wthn 0 k)) x = _
    rw [h3 x, wthn_has]; rfl
  refine ⟨h1, h4, can_bound h1 fun x hx => ?_⟩
  have h5 := (h4 x).symm.trans hx
  simp only [Bool.and_eq_true, decide_eq_true_eq] at h5
  exact h5.2
theorem tail_has {n : Nat} (hg : chkSpans gs = 0) (hn : n ≤ 100000) : Can (partT gs k n) ∧ (∀ x, hasL (partT gs k n) x = (hasL gs x && (decide ((k : Int) ≤ x) && decide (x < (n : Int))))) ∧ ∀ s ∈ partT gs k n, (k : Int) ≤ s.1 ∧ s.2 ≤ (n : Int) := by
  obtain ⟨h1, -, h3⟩ := choice_all (fun x y => x && y) rfl gs (wthn k n) hg (wthn_chk k n hn)
  have h4 : ∀ x, hasL (partT gs k n) x = (hasL gs x && (decide ((k : Int) ≤ x) && decide (x < (n : Int)))) := fun x => by
    show hasL (choice (fun x y => x && y) gs (wthn k n)) x = _
    rw [h3 x, wthn_has]
  refine ⟨h1, h4, can_bound h1 fun x hx => ?_⟩
  have h5 := (h4 x).symm.trans hx
  simp only [Bool.and_eq_true, decide_eq_true_eq] at h5
  exact h5.2
theorem getD_take (l : List Nat) (k i : Nat) (h : i < k) : (l.take k).getD i 0 = l.getD i 0 := by
  rw [List.getD_eq_getElem?_getD, List.getElem?_take, if_pos h, ← List.getD_eq_getElem?_getD]
theorem getD_drop (l : List Nat) (k i : Nat) : (l.drop k).getD i 0 = l.getD (k + i) 0 := by
  rw [List.getD_eq_getElem?_getD, List.getElem?_drop, ← List.getD_eq_getElem?_getD]
theorem head_ok (h : chkRec nm st bs gs = 0) (hs : nm.size ≤ maxLen) (hk : k ≤ bs.length) : chkRec nm st (bs.take k) (partH gs k) = 0 := by
  obtain ⟨V, hC, hl⟩ := valid_of h hs
  have hn := V.most
  have hlen : (bs.take k).length = k := by rw [List.length_take]; omega
  obtain ⟨h1, h2, h3⟩ := head_has (k := k) V.spans (by omega)
  refine chk_ok nm st _ _ (by rw [hlen]; exact rec1_val V.name V.start (by omega)) (by rw [hlen]; omega) (fun j hj => ?_) h1 (fun s hs' => by rw [hlen]; exact h3 s hs') (fun i hi hh => ?_)
  · rw [hlen] at hj
    rw [getD_take bs k j hj]; exact hl j (by omega)
  · rw [hlen] at hi
    rw [getD_take bs k i hi]
    rw [h2] at hh
    exact rec_silent V i (Bool.and_eq_true _ _ ▸ hh).1
theorem tail_ok (h : chkRec nm st bs gs = 0) (hs : nm.size ≤ maxLen) (hk : k ≤ bs.length) (hst : st + (k : Int) ≤ 100000) : chkRec nm (st + (k : Int)) (bs.drop k) (shl k (partT gs k bs.length)) = 0 := by
  obtain ⟨V, hC, hl⟩ := valid_of h hs
  have hn := V.most
  have hlen : (bs.drop k).length = bs.length - k := List.length_drop ..
  obtain ⟨h1, h2, h3⟩ := tail_has (k := k) (n := bs.length) V.spans (by omega)
  refine chk_ok nm _ _ _ (by rw [hlen]; exact rec1_val V.name ⟨by have := V.start; omega, hst⟩ (by omega)) (by rw [hlen]; omega) (fun j hj => ?_) (shl_can k h1) (fun s hs' => ?_) (fun i hi hh => ?_)
  · rw [hlen] at hj
    rw [getD_drop]; exact hl _ (by omega)
  · rw [hlen]
    obtain ⟨r, hr, rfl⟩ := List.mem_map.1 hs'
    have := h3 r hr
    simp only; omega
  · rw [hlen] at hi
    rw [getD_drop]
    rw [shl_has, h2] at hh
    have h4 := (Bool.and_eq_true _ _ ▸ hh).1
    rw [show (i : Int) + (k : Int) = ((k + i : Nat) : Int) by omega] at h4
    exact rec_silent V _ h4
/-- Both parts' gaps, put together. -/
theorem parts_gaps (h : chkRec nm st bs gs = 0) (hs : nm.size ≤ maxLen) (hk : k ≤ bs.length) (hst : st + (k : Int) ≤ 100000) : apK (partH gs k) (shl k (partT gs k bs.length)) k (shl k (partT gs k bs.length)).length = gs := by
  obtain ⟨V, hC, hl⟩ := valid_of h hs
  have hn := V.most
  obtain ⟨V1, -, -⟩ := valid_of (head_ok h hs hk) hs
  obtain ⟨V2, -, -⟩ := valid_of (tail_ok h hs hk hst) hs
  obtain ⟨h1, h2, h3⟩ := head_has (k := k) V.spans (by omega)
  obtain ⟨t1, t2, t3⟩ := tail_has (k := k) (n := bs.length) V.spans (by omega)
  obtain ⟨c1, -, c3⟩ := apK_ok (partH gs k) (shl k (partT gs k bs.length)) k V1.spans V2.spans (fun s hs' => (h3 s hs').2) _ (Nat.le_refl _)
  refine can_uniq _ _ c1 hC fun x => ?_
  rw [c3 x, List.take_length, shl_has, h2, t2, show x - (k : Int) + (k : Int) = x by omega]
  cases hx : hasL gs x
  · rfl
  · obtain ⟨s, hs', a, b⟩ := hasL_true.1 hx
    have hb := rec_bounds V s hs'
    by_cases hxk : x < (k : Int)
    · rw [decide_eq_true hxk, decide_eq_true (show (0 : Int) ≤ x by omega)]; rfl
    · rw [decide_eq_true (show (k : Int) ≤ x by omega), decide_eq_true (show x < (bs.length : Int) by omega)]; simp
end
end Go.Proofs.YtnejjnebpbajmaaGreatDoor

namespace Go.Proofs.YtnejjnebpbajmaaGreatDoor
open Go Go.RowKit

theorem rf_same {bs bs' : List Nat} {gs gs' : List (Int × Int)} {k0 : Nat} (hb : ∀ i, i < k0 → bs'.getD i 0 = bs.getD i 0) (hg : ∀ i : Nat, i < k0 → hasL gs' (i : Int) = hasL gs (i : Int)) : ∀ k, k ≤ k0 → rfK bs' gs' k = rfK bs gs k
  | 0, _ => rfl
  | k + 1, h => by rw [rfK, rfK, hg k (by omega), hb k (by omega), rf_same hb hg k (by omega)]
theorem rf_pos (bs : List Nat) (gs : List (Int × Int)) : ∀ k, 0 ≤ (rfK bs gs k).cnt
  | 0 => by simp [rfK]
  | k + 1 => by
    have := rf_pos bs gs k
    rw [rfK]
    split
    · exact this
    · simp only [rst]; omega
theorem rf_none (bs : List Nat) (gs : List (Int × Int)) : ∀ k, (rfK bs gs k).cnt = 0 → rfK bs gs k = ⟨0, 0, 0, 0⟩
  | 0, _ => rfl
  | k + 1, h => by
    have h0 := rf_pos bs gs k
    rw [rfK] at h ⊢
    split at h
    · rename_i c; rw [if_pos c]; exact rf_none bs gs k h
    · simp only [rst] at h; omega
theorem rst_or (u : SS) (b : Nat) (h : 0 ≤ u.cnt) : ((rst u b).lo = b ∨ (0 < u.cnt ∧ (rst u b).lo = u.lo)) ∧ ((rst u b).hi = b ∨ (0 < u.cnt ∧ (rst u b).hi = u.hi)) := by
  simp only [rst]
  constructor
  · split
    · exact .inl rfl
    · rename_i c; exact .inr ⟨by have := fun e => c (.inl e); omega, rfl⟩
  · split
    · exact .inl rfl
    · rename_i c; exact .inr ⟨by have := fun e => c (.inl e); omega, rfl⟩
theorem rst_le (u : SS) (b : Nat) : num (rst u b).lo ≤ num b ∧ (0 < u.cnt → num (rst u b).lo ≤ num u.lo) ∧ num b ≤ num (rst u b).hi ∧ (0 < u.cnt → num u.hi ≤ num (rst u b).hi) := by
  simp only [rst]
  refine ⟨?_, fun h => ?_, ?_, fun h => ?_⟩
  · split
    · exact Int.le_refl _
    · rename_i c; have := fun e => c (.inr e); omega
  · split
    · rename_i c; rcases c with c | c <;> omega
    · exact Int.le_refl _
  · split
    · exact Int.le_refl _
    · rename_i c; have := fun e => c (.inr e); omega
  · split
    · rename_i c; rcases c with c | c <;> omega
    · exact Int.le_refl _
theorem rf_more {bs bs' : List Nat} {gs gs' : List (Int × Int)} {k0 m : Nat} (hb : ∀ j, j < m → bs'.getD j 0 = bs.getD (k0 + j) 0) (hg : ∀ j : Nat, j < m → hasL gs' (j : Int) = hasL gs ((k0 + j : Nat) : Int)) : ∀ j, j ≤ m →
    (rfK bs gs (k0 + j)).cnt = (rfK bs gs k0).cnt + (rfK bs' gs' j).cnt ∧ (rfK bs gs (k0 + j)).sum = (rfK bs gs k0).sum + (rfK bs' gs' j).sum ∧
    (0 < (rfK bs gs k0).cnt → num (rfK bs gs (k0 + j)).lo ≤ num (rfK bs gs k0).lo ∧ num (rfK bs gs k0).hi ≤ num (rfK bs gs (k0 + j)).hi) ∧
    (0 < (rfK bs' gs' j).cnt → num (rfK bs gs (k0 + j)).lo ≤ num (rfK bs' gs' j).lo ∧ num (rfK bs' gs' j).hi ≤ num (rfK bs gs (k0 + j)).hi)
  | 0, _ => by simp [rfK]
  | j + 1, h => by
    obtain ⟨h1, h2, h3, h4⟩ := rf_more hb hg j (by omega)
    have p1 := rf_pos bs gs k0
    have p2 := rf_pos bs' gs' j
    rw [show k0 + (j + 1) = (k0 + j) + 1 by omega, rfK, rfK, hg j (by omega), hb j (by omega)]
    split
    · exact ⟨h1, h2, h3, h4⟩
    · generalize rfK bs gs (k0 + j) = u at *
      generalize rfK bs' gs' j = t at *
      generalize rfK bs gs k0 = s at *
      generalize bs.getD (k0 + j) 0 = b at *
      obtain ⟨l1, l2, l3, l4⟩ := rst_le u b
      obtain ⟨o1, o2⟩ := rst_or t b p2
      refine ⟨by simp only [rst]; omega, by simp only [rst]; omega, fun hp => ?_, fun _ => ⟨?_, ?_⟩⟩
      · obtain ⟨a1, a2⟩ := h3 hp
        have b1 := l2 (by omega)
        have b2 := l4 (by omega)
        exact ⟨by omega, by omega⟩
      · rcases o1 with e | ⟨hp, e⟩
        · rw [e]; exact l1
        · rw [e]; have := h4 hp; have := l2 (by omega); omega
      · rcases o2 with e | ⟨hp, e⟩
        · rw [e]; exact l3
        · rw [e]; have := h4 hp; have := l4 (by omega); omega
theorem rf_top (bs : List Nat) (gs : List (Int × Int)) : ∀ k : Nat, (∀ i : Nat, i < k → hasL gs (i : Int) = false → 0 < (rfK bs gs k).cnt ∧ num (bs.getD i 0) ≤ num (rfK bs gs k).hi) ∧ (0 < (rfK bs gs k).cnt → ∃ i : Nat, i < k ∧ hasL gs (i : Int) = false ∧ (rfK bs gs k).hi = bs.getD i 0)
  | 0 => ⟨fun i hi => absurd hi (by omega), fun h => by simp [rfK] at h⟩
  | k + 1 => by
    obtain ⟨h1, h2⟩ := rf_top bs gs k
    have p := rf_pos bs gs k
    rw [rfK]
    cases hc : hasL gs (k : Int)
    · rw [if_neg (by decide)]
      obtain ⟨l1, l2, l3, l4⟩ := rst_le (rfK bs gs k) (bs.getD k 0)
      refine ⟨fun i hi hh => ⟨by simp only [rst]; omega, ?_⟩, fun _ => ?_⟩
      · by_cases hik : i = k
        · subst hik; exact l3
        · obtain ⟨q1, q2⟩ := h1 i (by omega) hh
          have := l4 q1
          omega
      · rcases (rst_or (rfK bs gs k) (bs.getD k 0) p).2 with e | ⟨hp, e⟩
        · exact ⟨k, by omega, hc, e⟩
        · obtain ⟨i, hi, hh, e2⟩ := h2 hp
          exact ⟨i, by omega, hh, e.trans e2⟩
    · rw [if_pos rfl]
      refine ⟨fun i hi hh => h1 i ?_ hh, fun hp => ?_⟩
      · by_cases hik : i = k
        · subst hik; rw [hc] at hh; cases hh
        · omega
      · obtain ⟨i, hi, hh, e2⟩ := h2 hp
        exact ⟨i, by omega, hh, e2⟩
theorem fmx_levF {n : Nat} : ∀ (l : List (LvM n)), levOK (sumF l.reverse).hi = true
  | [] => by show levOK 3263168512 = true; decide +kernel
  | x :: l => by
    rw [List.reverse_cons, sumF_snoc]
    exact fmx_lev (fmx_levF l) x.2.2
/-- What Summary hands back, by the reference's statistics. -/
theorem sum_parts (bs : List Nat) (gs : List (Int × Int)) (hC : Can gs) (hl : ∀ i, i < bs.length → chkLev (bs.getD i 0) = 0) : ∃ (c s e : Int) (lo hi : Nat),
    sumR (sumF (itm gs (fLvM bs) bs.length)) = .tuple #[.agg #[.int .i64 c, .int .i64 s, .float .f32 lo, .float .f32 hi], .int .i64 e] ∧
    c = (rfK bs gs bs.length).cnt ∧ s = (rfK bs gs bs.length).sum ∧ ((c = 0 ∧ e = 12) ∨ (0 < c ∧ e = 0 ∧ finB lo = true ∧ chkLev hi = 0 ∧ num lo = num (rfK bs gs bs.length).lo ∧ num hi = num (rfK bs gs bs.length).hi)) := by
  obtain ⟨h1, h2, h3, h4, -, h6⟩ := sum_rel bs gs hC hl bs.length (Nat.le_refl _)
  have p := rf_pos bs gs bs.length
  by_cases h0 : (rfK bs gs bs.length).cnt = 0
  · refine ⟨0, 0, 12, 0, 0, ?_, h0.symm, by rw [rf_none _ _ _ h0], .inl ⟨rfl, rfl⟩⟩
    unfold sumR; rw [if_pos (by rw [h1]; exact h0)]
  · obtain ⟨g1, g2⟩ := h6 (by omega)
    refine ⟨(rfK bs gs bs.length).cnt, (rfK bs gs bs.length).sum, 0, (sumF (itm gs (fLvM bs) bs.length)).lo, (sumF (itm gs (fLvM bs) bs.length)).hi, ?_, rfl, rfl, .inr ⟨by omega, rfl, h3, ?_, g1, g2⟩⟩
    · unfold sumR; rw [if_neg (by rw [h1]; exact h0)]; simp [stc, h1, h2]
    · have := fmx_levF (itm gs (fLvM bs) bs.length).reverse
      rw [List.reverse_reverse, levOK_iff] at this
      simpa using this

/-- Upside down high waters are low ones. -/
theorem low_high (bs : List Nat) (gs : List (Int × Int)) (wd : Int) (hl : ∀ i, i < bs.length → chkLev (bs.getD i 0) = 0) : wtsR (bs.map (Op.negFloat .f32)) gs wd true bs.length = wtsR bs gs wd false bs.length := by
  have hsv : ∀ i, i < bs.length → sv true ((bs.map (Op.negFloat .f32)).getD i 0) = sv false (bs.getD i 0) := fun i hi => by
    have h1 : (bs.map (Op.negFloat .f32)).getD i 0 = Op.negFloat .f32 (bs.getD i 0) := by simp [hi]
    rw [h1]
    simp only [sv, if_true, Bool.false_eq_true, if_false]
    rw [(neg_lev (hl i hi)).2]; omega
  unfold wtsR
  congr 1
  apply List.filter_congr
  intro i hi
  have hi : i < bs.length := by simpa using hi
  unfold watR
  rw [List.length_map]
  congr 1
  rw [Bool.eq_iff_iff, List.all_eq_true, List.all_eq_true]
  have hk : ∀ k ∈ List.range bs.length, okR (bs.map (Op.negFloat .f32)) gs wd true i k = okR bs gs wd false i k := fun k hk => by
    have hk : k < bs.length := by simpa using hk
    unfold okR
    rw [hsv i hi, hsv k hk]
  exact ⟨fun h k hk' => by rw [← hk k hk']; exact h k hk', fun h k hk' => by rw [hk k hk']; exact h k hk'⟩
/-- What a high water is. -/
theorem high_at (bs : List Nat) (gs : List (Int × Int)) (wd : Int) (hl : ∀ i, i < bs.length → chkLev (bs.getD i 0) = 0) (j : Nat) (hj : j < (wtsR bs gs wd false bs.length).length) : ∃ m : Nat, (wtsR bs gs wd false bs.length).getD j 0 = (m : Int) ∧ m < bs.length ∧ hasL gs (m : Int) = false ∧
    ∀ q : Nat, q < bs.length → hasL gs (q : Int) = false → (m : Int) - wd ≤ q → (q : Int) ≤ m + wd → fgt (bs.getD q 0) (bs.getD m 0) = false := by
  have hm : (wtsR bs gs wd false bs.length).getD j 0 ∈ wtsR bs gs wd false bs.length := by
    rw [List.getD_eq_getElem?_getD, List.getElem?_eq_getElem hj]; exact List.getElem_mem _
  unfold wtsR at hm ⊢
  obtain ⟨m, hmm, e⟩ := List.mem_map.1 hm
  obtain ⟨hr, hw⟩ := List.mem_filter.1 hmm
  have hr : m < bs.length := by simpa using hr
  unfold watR at hw
  rw [Bool.and_eq_true] at hw
  refine ⟨m, e.symm, hr, by simpa using hw.1, fun q hq hh h1 h2 => ?_⟩
  have hok := List.all_eq_true.1 hw.2 q (by simpa using hq)
  rcases (okR_iff bs gs wd false m q).1 hok with h | h
  · rw [hh] at h; cases h
  · rw [fgt_num (fin_lev (hl q hq)) (fin_lev (hl m hr))]
    simp only [sv, Bool.false_eq_true, if_false] at h
    simp only [decide_eq_false_iff_not]
    intro hlt
    rcases Nat.lt_trichotomy q m with c | c | c
    · exact h (.inl ⟨c, h1, by omega⟩)
    · subst c; omega
    · exact h (.inr ⟨c, h2, hlt⟩)
/-- The greatest level is at a high water. -/
theorem high_top (bs : List Nat) (gs : List (Int × Int)) (wd : Int) (hp : 0 < (rfK bs gs bs.length).cnt) : ∃ j m : Nat, j < (wtsR bs gs wd false bs.length).length ∧ (wtsR bs gs wd false bs.length).getD j 0 = (m : Int) ∧ m < bs.length ∧ num (bs.getD m 0) = num (rfK bs gs bs.length).hi := by
  obtain ⟨t1, t2⟩ := rf_top bs gs bs.length
  obtain ⟨i, hi, hh, e⟩ := t2 hp
  -- the first of them
  have hex : ∀ n : Nat, n ≤ bs.length → (∃ i : Nat, i < n ∧ hasL gs (i : Int) = false ∧ num (bs.getD i 0) = num (rfK bs gs bs.length).hi) → ∃ m : Nat, m < n ∧ hasL gs (m : Int) = false ∧ num (bs.getD m 0) = num (rfK bs gs bs.length).hi ∧ ∀ q : Nat, q < m → hasL gs (q : Int) = false → num (bs.getD q 0) ≠ num (rfK bs gs bs.length).hi := by
    intro n
    induction n with
    | zero => rintro _ ⟨i, hi, -⟩; omega
    | succ n ih =>
      intro hn hx
      by_cases hx' : ∃ i : Nat, i < n ∧ hasL gs (i : Int) = false ∧ num (bs.getD i 0) = num (rfK bs gs bs.length).hi
      · obtain ⟨m, a, b⟩ := ih (by omega) hx'
        exact ⟨m, by omega, b⟩
      · obtain ⟨i, hi, hh, e⟩ := hx
        have : i = n := by
          by_cases c : i < n
          · exact absurd ⟨i, c, hh, e⟩ hx'
          · omega
        subst this
        exact ⟨i, by omega, hh, e, fun q hq hq2 hq3 => hx' ⟨q, hq, hq2, hq3⟩⟩
  obtain ⟨m, hm, hmh, hme, hmf⟩ := hex bs.length (Nat.le_refl _) ⟨i, hi, hh, by rw [e]⟩
  have hw : watR bs gs wd false m = true := by
    refine watR_yes hmh fun q hq => (okR_iff bs gs wd false m q).2 ?_
    cases hqh : hasL gs (q : Int)
    · right
      have h1 := (t1 q hq hqh).2
      simp only [sv, Bool.false_eq_true, if_false]
      rintro (⟨a, b, c⟩ | ⟨a, b, c⟩)
      · exact hmf q a hqh (by omega)
      · omega
    · exact .inl rfl
  have hmem : (m : Int) ∈ wtsR bs gs wd false bs.length := by
    unfold wtsR
    exact List.mem_map.2 ⟨m, List.mem_filter.2 ⟨by simpa using hm, hw⟩, rfl⟩
  obtain ⟨j, hj, e⟩ := List.getElem_of_mem hmem
  exact ⟨j, m, hj, by simp [hj, e], hm, hme⟩
/-- Above the greatest level there is nothing. -/
theorem above_none (bs : List Nat) (gs : List (Int × Int)) (hi : Nat) (he : num hi = num (rfK bs gs bs.length).hi) : strF (abvL bs gs hi) bs.length = [] := by
  obtain ⟨t1, -⟩ := rf_top bs gs bs.length
  have hz : ∀ i, i < bs.length → (abvL bs gs hi).getD i false = false := fun i hi' => by
    unfold abvL
    have h1 : ((List.range bs.length).map fun i => !hasL gs (i : Nat) && decide (num hi < num (bs.getD i 0))).getD i false = (!hasL gs (i : Nat) && decide (num hi < num (bs.getD i 0))) := by simp [hi']
    rw [h1]
    cases hh : hasL gs (i : Int)
    · have := (t1 i hi' hh).2
      rw [he, decide_eq_false (by omega)]; rfl
    · rfl
  have hk : ∀ k, k ≤ bs.length → strF (abvL bs gs hi) k = [] := by
    intro k
    induction k with
    | zero => intro _; rfl
    | succ k ih => intro h; rw [strF_next, hz k (by omega)]; exact ih (by omega)
  exact hk _ (Nat.le_refl _)

/-- The ticks of some spans. -/
def totK (gs : List (Int × Int)) : Nat → Int
  | 0 => 0
  | k + 1 => totK gs k + (gs.getD k (0, 0)).2 - (gs.getD k (0, 0)).1
/-- Where a level is recorded, the gaps don't take all. -/
theorem tot_all (gs : List (Int × Int)) (n : Nat) (hn : 0 < n) (hC : Can gs) (hb : ∀ s ∈ gs, 0 ≤ s.1 ∧ s.2 ≤ (n : Int)) (h : totK gs gs.length ≠ (n : Int)) : ∃ i : Nat, i < n ∧ hasL gs (i : Int) = false := by
  refine Classical.byContradiction fun hx => h ?_
  have ha : ∀ i : Nat, i < n → hasL gs (i : Int) = true := fun i hi => by
    cases hh : hasL gs (i : Int)
    · exact absurd ⟨i, hi, hh⟩ hx
    · rfl
  have he : gs = [((0 : Int), (n : Int))] := by
    refine can_uniq _ _ hC ⟨List.pairwise_singleton _ _, fun s hs => by simp only [List.mem_singleton] at hs; subst hs; simp only; omega⟩ fun x => ?_
    rw [Bool.eq_iff_iff]
    constructor
    · intro hx'
      obtain ⟨s, hs, a, b⟩ := hasL_true.1 hx'
      have := hb s hs
      exact hasL_true.2 ⟨_, List.mem_singleton_self _, by simp only; omega, by simp only; omega⟩
    · intro hx'
      obtain ⟨s, hs, a, b⟩ := hasL_true.1 hx'
      simp only [List.mem_singleton] at hs
      subst hs
      simp only at a b
      have := ha x.toNat (by omega)
      rwa [show ((x.toNat : Nat) : Int) = x by omega] at this
  rw [he]
  simp [totK]
theorem tot_in (gs : List (Int × Int)) (h : ∀ s ∈ gs, 0 ≤ s.1 ∧ s.1 < s.2 ∧ s.2 ≤ 100000) : ∀ k, k ≤ gs.length → 0 ≤ totK gs k ∧ totK gs k ≤ 100000 * (k : Int)
  | 0, _ => by simp [totK]
  | k + 1, hk => by
    have := tot_in gs h k (by omega)
    have := h _ (getD_mem gs k (by omega))
    simp only [totK]
    omega
end Go.Proofs.YtnejjnebpbajmaaGreatDoor
