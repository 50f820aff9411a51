/-
  Plain words of GaugeFollows: what is checked of a filled record and of both parts of one; their statistics; waters of the opposite levels; the highest high water. No program.
  Plain words of GaugeFollows: statistics of both parts; waters of the opposite levels; the highest high water; which gaps take all. No program.
  Plain words of TopSkipperRecords: levels that were removed are counted, gaps are cut at a level, levels are counted in both parts. No program.
  Contracts of the reference's Total and of the statements' within. Conditions: written at each.
  Rows of a call's own are apart from others; the cells of a block that is new. No program.
  The statements' rules: a copy of its own. Condition: at most 100000 rules.
  Contracts of what the statements tell of a record and an error, and an append as an operation of a region. Conditions: written at each.
-/
import Derived.Test.YtkgkpcmokmhakaaGreatDoorF0
import Derived.Test.YtkgkpcmokmhakaaGreatDoorT7
import Derived.Test.YtkgkpcmokmhakaaGreatDoorKB
import Derived.Test.YtkgkpcmokmhakaaGreatDoorQ4
import Derived.Test.YtkgkpcmokmhakaaGreatDoorProg
import Derived.BigQuiet
import Derived.Test.YtkgkpcmokmhakaaGreatDoorMI
import Derived.Test.YtkgkpcmokmhakaaGreatDoorMD
import Derived.Test.YtkgkpcmokmhakaaGreatDoorMK
import Derived.Test.YtkgkpcmokmhakaaGreatDoorOpm
import Derived.Test.YtkgkpcmokmhakaaGreatDoorMR
import Derived.Test.YtkgkpcmokmhakaaGreatDoorME
import Derived.Deep.RegionHeld3
import Derived.Deep.Cut

namespace Go.Proofs.YtkgkpcmokmhakaaGreatDoor
open Go Go.RowKit
open Ieee (Format Datum)

theorem mem_getD {l : List (Int × Int)} {s : Int × Int} (h : s ∈ l) : ∃ j, j < l.length ∧ l.getD j (0, 0) = s := by
  obtain ⟨j, hj, rfl⟩ := List.getElem_of_mem h
  exact ⟨j, hj, by simp [hj]⟩
/-- Enough for a record to be valid. -/
theorem chk_ok (nm : ByteArray) (st : Int) (LS : List Nat) (GS : List (Int × Int)) (h1 : rec1 nm st LS.length = 0) (hn : LS.length ≤ 4096) (hl : ∀ j, j < LS.length → chkLev (LS.getD j 0) = 0) (hC : Can GS) (hb : ∀ s ∈ GS, 0 ≤ s.1 ∧ s.2 ≤ (LS.length : Int))
    (hz : ∀ i : Nat, i < LS.length → hasL GS (i : Int) = true → (FloatKind.f32.format.order (LS.getD i 0) 0 != some .eq) = false) : chkRec nm st LS GS = 0 := by
  have hlen : GS.length ≤ 2048 := by
    by_cases hne : GS = []
    · rw [hne]; simp
    · have := can_count GS 0 (LS.length : Int) hC hb hne
      omega
  have hch : chkSpans GS = 0 := chk_can GS hC (fun s hs => ⟨(hb s hs).1, by have := (hb s hs).2; omega⟩) hlen
  have hlev : fst0 (levErr LS) = 0 := by
    apply fst0_all
    intro j hj
    have hj : j < LS.length := by simpa [levErr] using hj
    rw [levErr_at _ j hj]
    exact hl j hj
  have h2 := rec2_fine hlev hch (fun j hj => (hb _ (getD_mem GS j hj)).2)
  have h3 : silB LS GS = true := (silB_true LS GS (fun s hs => (hb s hs).2)).2 (fun j hj i a b => by
    have hm := getD_mem GS j hj
    have := (hb _ hm).2
    exact hz i (by omega) (hasL_true.2 ⟨_, hm, a, b⟩))
  unfold chkRec
  rw [if_pos h1, if_pos h2, h3]
  rfl
theorem rec1_val {nm : ByteArray} {st : Int} {n : Nat} (hN : nameB nm = true) (hs : 0 ≤ st ∧ st ≤ 100000) (hn : n ≤ 4096) : rec1 nm st n = 0 := by
  refine rec1_fine ?_ hn
  apply fst0_all
  intro j hj
  have hj : j < 2 := by simpa using hj
  rcases (show j = 0 ∨ j = 1 by omega) with rfl | rfl
  · show unl (nameB nm) 8 = 0
    rw [hN]; rfl
  · show rng st 0 100000 = 0
    unfold rng; rw [if_pos hs]

section
variable {nm : ByteArray} {st : Int} {bs : List Nat} {gs : List (Int × Int)}
theorem rec_bounds (V : Valid nm st bs gs) : ∀ s ∈ gs, 0 ≤ s.1 ∧ s.2 ≤ (bs.length : Int) := fun s hs => by
  obtain ⟨j, hj, rfl⟩ := mem_getD hs
  exact ⟨((chkSpans_ok gs V.spans).2.1 _ hs).1, V.ends j hj⟩
theorem rec_silent (V : Valid nm st bs gs) (i : Nat) (h : hasL gs (i : Int) = true) : (FloatKind.f32.format.order (bs.getD i 0) 0 != some .eq) = false := by
  obtain ⟨s, hs, a, b⟩ := hasL_true.1 h
  obtain ⟨j, hj, rfl⟩ := mem_getD hs
  exact V.silent j hj i a b

end

/-- The span from one index to another, as a list. -/
def wthn (f t : Nat) : List (Int × Int) := if f < t then [((f : Int), (t : Int))] else []
theorem wthn_has (f t : Nat) (x : Int) : hasL (wthn f t) x = (decide ((f : Int) ≤ x) && decide (x < (t : Int))) := by
  unfold wthn
  split
  · simp [hasL]
  · rename_i h
    have : ¬ ((f : Int) ≤ x ∧ x < (t : Int)) := by omega
    rw [show hasL [] x = false from rfl]
    by_cases h1 : (f : Int) ≤ x
    · rw [decide_eq_false (show ¬ x < (t : Int) by omega)]; simp
    · rw [decide_eq_false h1]; rfl
theorem wthn_chk (f t : Nat) (ht : t ≤ 100000) : chkSpans (wthn f t) = 0 := by
  unfold wthn
  split
  · exact chk_can _ ⟨List.pairwise_singleton _ _, fun s hs => by simp only [List.mem_singleton] at hs; subst hs; simp only; omega⟩ (fun s hs => by simp only [List.mem_singleton] at hs; subst hs; simp only; omega) (by simp)
  · rfl
theorem can_bound {l : List (Int × Int)} (hC : Can l) {lo hi : Int} (h : ∀ x, hasL l x = true → lo ≤ x ∧ x < hi) : ∀ s ∈ l, lo ≤ s.1 ∧ s.2 ≤ hi := fun s hs => by
  have h0 := hC.2 s hs
  have h1 := h s.1 (hasL_true.2 ⟨s, hs, by omega, h0⟩)
  have h2 := h (s.2 - 1) (hasL_true.2 ⟨s, hs, by omega, by omega⟩)
  omega
def shl (k : Nat) (l : List (Int × Int)) : List (Int × Int) := l.map fun s => (s.1 - (k : Int), s.2 - (k : Int))
theorem shl_has (k : Nat) (l : List (Int × Int)) (x : Int) : hasL (shl k l) x = hasL l (x + k) := by
  rw [Bool.eq_iff_iff, hasL_true, hasL_true]
  constructor
  · rintro ⟨s, hs, a, b⟩
    obtain ⟨r, hr, rfl⟩ := List.mem_map.1 hs
    exact ⟨r, hr, by simp only at a; omega, by simp only at b; omega⟩
  · rintro ⟨s, hs, a, b⟩
    exact ⟨_, List.mem_map.2 ⟨s, hs, rfl⟩, by simp only; omega, by simp only; omega⟩
theorem shl_can (k : Nat) {l : List (Int × Int)} (h : Can l) : Can (shl k l) := by
  refine ⟨?_, fun s hs => ?_⟩
  · unfold shl
    rw [List.pairwise_map]
    exact h.1.imp fun {a b} hab => by simp only; omega
  · obtain ⟨r, hr, rfl⟩ := List.mem_map.1 hs
    have := h.2 r hr
    simp only; omega

def partH (gs : List (Int × Int)) (k : Nat) : List (Int × Int) := choice (fun x y => x && y) gs (wthn 0 k)
def partT (gs : List (Int × Int)) (k n : Nat) : List (Int × Int) := choice (fun x y => x && y) gs (wthn k n)
section
variable {nm : ByteArray} {st : Int} {bs : List Nat} {gs : List (Int × Int)} {k : Nat}
theorem head_has (hg : chkSpans gs = 0) (hk : k ≤ 100000) : Can (partH gs k) ∧ (∀ x, hasL (partH gs k) x = (hasL gs x && (decide ((0 : Int) ≤ x) && decide (x < (k : Int))))) ∧ ∀ s ∈ partH gs k, 0 ≤ s.1 ∧ s.2 ≤ (k : Int) := by
  obtain ⟨h1, -, h3⟩ := choice_all (fun x y => x && y) rfl gs (wthn 0 k) hg (wthn_chk 0 k hk)
  have h4 : ∀ x, hasL (partH gs k) x = (hasL gs x && (decide ((0 : Int) ≤ x) && decide (x < (k : Int)))) := fun x => by
    show hasL (choice (fun x y => x && y) gs (wthn 0 k)) x = _
    rw [h3 x, wthn_has]; rfl
  refine ⟨h1, h4, can_bound h1 fun x hx => ?_⟩
  have h5 := (h4 x).symm.trans hx
  simp only [Bool.and_eq_true, decide_eq_true_eq] at h5
  exact h5.2
theorem tail_has {n : Nat} (hg : chkSpans gs = 0) (hn : n ≤ 100000) : Can (partT gs k n) ∧ (∀ x, hasL (partT gs k n) x = (hasL gs x && (decide ((k : Int) ≤ x) && decide (x < (n : Int))))) ∧ ∀ s ∈ partT gs k n, (k : Int) ≤ s.1 ∧ s.2 ≤ (n : Int) := by
  obtain ⟨h1, -, h3⟩ := choice_all (fun x y => x && y) rfl gs (wthn k n) hg (wthn_chk k n hn)
  have h4 : ∀ x, hasL (partT gs k n) x = (hasL gs x && (decide ((k : Int) ≤ x) && decide (x < (n : Int)))) := fun x => by
    show hasL (choice (fun x y => x && y) gs (wthn k n)) x = _
    rw [h3 x, wthn_has]
  refine ⟨h1, h4, can_bound h1 fun x hx => ?_⟩
  have h5 := (h4 x).symm.trans hx
  simp only [Bool.and_eq_true, decide_eq_true_eq] at h5
  exact h5.2
theorem getD_take (l : List Nat) (k i : Nat) (h : i < k) : (l.take k).getD i 0 = l.getD i 0 := by
  rw [List.getD_eq_getElem?_getD, List.getElem?_take, if_pos h, ← List.getD_eq_getElem?_getD]
theorem getD_drop (l : List Nat) (k i : Nat) : (l.drop k).getD i 0 = l.getD (k + i) 0 := by
  rw [List.getD_eq_getElem?_getD, List.getElem?_drop, ← List.getD_eq_getElem?_getD]
theorem head_ok (h : chkRec nm st bs gs = 0) (hs : nm.size ≤ maxLen) (hk : k ≤ bs.length) : chkRec nm st (bs.take k) (partH gs k) = 0 := by
  obtain ⟨V, hC, hl⟩ := valid_of h hs
  have hn := V.most
  have hlen : (bs.take k).length = k := by rw [List.length_take]; omega
  obtain ⟨h1, h2, h3⟩ := head_has (k := k) V.spans (by omega)
  refine chk_ok nm st _ _ (by rw [hlen]; exact rec1_val V.name V.start (by omega)) (by rw [hlen]; omega) (fun j hj => ?_) h1 (fun s hs' => by rw [hlen]; exact h3 s hs') (fun i hi hh => ?_)
  · rw [hlen] at hj
    rw [getD_take bs k j hj]; exact hl j (by omega)
  · rw [hlen] at hi
    rw [getD_take bs k i hi]
    rw [h2] at hh
    exact rec_silent V i (Bool.and_eq_true _ _ ▸ hh).1
theorem tail_ok (h : chkRec nm st bs gs = 0) (hs : nm.size ≤ maxLen) (hk : k ≤ bs.length) (hst : st + (k : Int) ≤ 100000) : chkRec nm (st + (k : Int)) (bs.drop k) (shl k (partT gs k bs.length)) = 0 := by
  obtain ⟨V, hC, hl⟩ := valid_of h hs
  have hn := V.most
  have hlen : (bs.drop k).length = bs.length - k := List.length_drop ..
  obtain ⟨h1, h2, h3⟩ := tail_has (k := k) (n := bs.length) V.spans (by omega)
  refine chk_ok nm _ _ _ (by rw [hlen]; exact rec1_val V.name ⟨by have := V.start; omega, hst⟩ (by omega)) (by rw [hlen]; omega) (fun j hj => ?_) (shl_can k h1) (fun s hs' => ?_) (fun i hi hh => ?_)
  · rw [hlen] at hj
    rw [getD_drop]; exact hl _ (by omega)
  · rw [hlen]
    obtain ⟨r, hr, rfl⟩ := List.mem_map.1 hs'
    have := h3 r hr
    simp only; omega
  · rw [hlen] at hi
    rw [getD_drop]
    rw [shl_has, h2] at hh
    have h4 := (Bool.and_eq_true _ _ ▸ hh).1
    rw [show (i : Int) + (k : Int) = ((k + i : Nat) : Int) by omega] at h4
    exact rec_silent V _ h4
/-- Both parts' gaps, put together. -/
theorem parts_gaps (h : chkRec nm st bs gs = 0) (hs : nm.size ≤ maxLen) (hk : k ≤ bs.length) (hst : st + (k : Int) ≤ 100000) : apK (partH gs k) (shl k (partT gs k bs.length)) k (shl k (partT gs k bs.length)).length = gs := by
  obtain ⟨V, hC, hl⟩ := valid_of h hs
  have hn := V.most
  obtain ⟨V1, -, -⟩ := valid_of (head_ok h hs hk) hs
  obtain ⟨V2, -, -⟩ := valid_of (tail_ok h hs hk hst) hs
  obtain ⟨h1, h2, h3⟩ := head_has (k := k) V.spans (by omega)
  obtain ⟨t1, t2, t3⟩ := tail_has (k := k) (n := bs.length) V.spans (by omega)
  obtain ⟨c1, -, c3⟩ := apK_ok (partH gs k) (shl k (partT gs k bs.length)) k V1.spans V2.spans (fun s hs' => (h3 s hs').2) _ (Nat.le_refl _)
  refine can_uniq _ _ c1 hC fun x => ?_
  rw [c3 x, List.take_length, shl_has, h2, t2, show x - (k : Int) + (k : Int) = x by omega]
  cases hx : hasL gs x
  · rfl
  · obtain ⟨s, hs', a, b⟩ := hasL_true.1 hx
    have hb := rec_bounds V s hs'
    by_cases hxk : x < (k : Int)
    · rw [decide_eq_true hxk, decide_eq_true (show (0 : Int) ≤ x by omega)]; rfl
    · rw [decide_eq_true (show (k : Int) ≤ x by omega), decide_eq_true (show x < (bs.length : Int) by omega)]; simp
end
end Go.Proofs.YtkgkpcmokmhakaaGreatDoor

namespace Go.Proofs.YtkgkpcmokmhakaaGreatDoor
open Go Go.RowKit

theorem rf_same {bs bs' : List Nat} {gs gs' : List (Int × Int)} {k0 : Nat} (hb : ∀ i, i < k0 → bs'.getD i 0 = bs.getD i 0) (hg : ∀ i : Nat, i < k0 → hasL gs' (i : Int) = hasL gs (i : Int)) : ∀ k, k ≤ k0 → rfK bs' gs' k = rfK bs gs k
  | 0, _ => rfl
  | k + 1, h => by rw [rfK, rfK, hg k (by omega), hb k (by omega), rf_same hb hg k (by omega)]
theorem rf_pos (bs : List Nat) (gs : List (Int × Int)) : ∀ k, 0 ≤ (rfK bs gs k).cnt
  | 0 => by simp [rfK]
  | k + 1 => by
    have := rf_pos bs gs k
    rw [rfK]
    split
    · exact this
    · simp only [rst]; omega
theorem rf_none (bs : List Nat) (gs : List (Int × Int)) : ∀ k, (rfK bs gs k).cnt = 0 → rfK bs gs k = ⟨0, 0, 0, 0⟩
  | 0, _ => rfl
  | k + 1, h => by
    have h0 := rf_pos bs gs k
    rw [rfK] at h ⊢
    split at h
    · rename_i c; rw [if_pos c]; exact rf_none bs gs k h
    · simp only [rst] at h; omega
theorem rst_or (u : SS) (b : Nat) (h : 0 ≤ u.cnt) : ((rst u b).lo = b ∨ (0 < u.cnt ∧ (rst u b).lo = u.lo)) ∧ ((rst u b).hi = b ∨ (0 < u.cnt ∧ (rst u b).hi = u.hi)) := by
  simp only [rst]
  constructor
  · split
    · exact .inl rfl
    · rename_i c; exact .inr ⟨by have := fun e => c (.inl e); omega, rfl⟩
  · split
    · exact .inl rfl
    · rename_i c; exact .inr ⟨by have := fun e => c (.inl e); omega, rfl⟩
theorem rst_le (u : SS) (b : Nat) : num (rst u b).lo ≤ num b ∧ (0 < u.cnt → num (rst u b).lo ≤ num u.lo) ∧ num b ≤ num (rst u b).hi ∧ (0 < u.cnt → num u.hi ≤ num (rst u b).hi) := by
  simp only [rst]
  refine ⟨?_, fun h => ?_, ?_, fun h => ?_⟩
  · split
    · exact Int.le_refl _
    · rename_i c; have := fun e => c (.inr e); omega
  · split
    · rename_i c; rcases c with c | c <;> omega
    · exact Int.le_refl _
  · split
    · exact Int.le_refl _
    · rename_i c; have := fun e => c (.inr e); omega
  · split
    · rename_i c; rcases c with c | c <;> omega
    · exact Int.le_refl _
theorem rf_more {bs bs' : List Nat} {gs gs' : List (Int × Int)} {k0 m : Nat} (hb : ∀ j, j < m → bs'.getD j 0 = bs.getD (k0 + j) 0) (hg : ∀ j : Nat, j < m → hasL gs' (j : Int) = hasL gs ((k0 + j : Nat) : Int)) : ∀ j, j ≤ m →
    (rfK bs gs (k0 + j)).cnt = (rfK bs gs k0).cnt + (rfK bs' gs' j).cnt ∧ (rfK bs gs (k0 + j)).sum = (rfK bs gs k0).sum + (rfK bs' gs' j).sum ∧
    (0 < (rfK bs gs k0).cnt → num (rfK bs gs (k0 + j)).lo ≤ num (rfK bs gs k0).lo ∧ num (rfK bs gs k0).hi ≤ num (rfK bs gs (k0 + j)).hi) ∧
    (0 < (rfK bs' gs' j).cnt → num (rfK bs gs (k0 + j)).lo ≤ num (rfK bs' gs' j).lo ∧ num (rfK bs' gs' j).hi ≤ num (rfK bs gs (k0 + j)).hi)
  | 0, _ => by simp [rfK]
  | j + 1, h => by
    obtain ⟨h1, h2, h3, h4⟩ := rf_more hb hg j (by omega)
    have p1 := rf_pos bs gs k0
    have p2 := rf_pos bs' gs' j
    rw [show k0 + (j + 1) = (k0 + j) + 1 by omega, rfK, rfK, hg j (by omega), hb j (by omega)]
    split
    · exact ⟨h1, h2, h3, h4⟩
    · generalize rfK bs gs (k0 + j) = u at *
      generalize rfK bs' gs' j = t at *
      generalize rfK bs gs k0 = s at *
      generalize bs.getD (k0 + j) 0 = b at *
      obtain ⟨l1, l2, l3, l4⟩ := rst_le u b
      obtain ⟨o1, o2⟩ := rst_or t b p2
      refine ⟨by simp only [rst]; omega, by simp only [rst]; omega, fun hp => ?_, fun _ => ⟨?_, ?_⟩⟩
      · obtain ⟨a1, a2⟩ := h3 hp
        have b1 := l2 (by omega)
        have b2 := l4 (by omega)
        exact ⟨by omega, by omega⟩
      · rcases o1 with e | ⟨hp, e⟩
        · rw [e]; exact l1
        · rw [e]; have := h4 hp; have := l2 (by omega); omega
      · rcases o2 with e | ⟨hp, e⟩
        · rw [e]; exact l3
        · rw [e]; have := h4 hp; have := l4 (by omega); omega
theorem fmx_levF {n : Nat} : ∀ (l : List (LvM n)), levOK (sumF l.reverse).hi = true
  | [] => by show levOK 3263168512 = true; decide +kernel
  | x :: l => by
    rw [List.reverse_cons, sumF_snoc]
    exact fmx_lev (fmx_levF l) x.2.2
/-- What Summary hands back, by the reference's statistics. -/
theorem sum_parts (bs : List Nat) (gs : List (Int × Int)) (hC : Can gs) (hl : ∀ i, i < bs.length → chkLev (bs.getD i 0) = 0) : ∃ (c s e : Int) (lo hi : Nat),
    sumR (sumF (itm gs (fLvM bs) bs.length)) = .tuple #[.agg #[.int .i64 c, .int .i64 s, .float .f32 lo, .float .f32 hi], .int .i64 e] ∧
    c = (rfK bs gs bs.length).cnt ∧ s = (rfK bs gs bs.length).sum ∧ ((c = 0 ∧ e = 12) ∨ (0 < c ∧ e = 0 ∧ finB lo = true ∧ chkLev hi = 0 ∧ num lo = num (rfK bs gs bs.length).lo ∧ num hi = num (rfK bs gs bs.length).hi)) := by
  obtain ⟨h1, h2, h3, h4, -, h6⟩ := sum_rel bs gs hC hl bs.length (Nat.le_refl _)
  have p := rf_pos bs gs bs.length
  by_cases h0 : (rfK bs gs bs.length).cnt = 0
  · refine ⟨0, 0, 12, 0, 0, ?_, h0.symm, by rw [rf_none _ _ _ h0], .inl ⟨rfl, rfl⟩⟩
    unfold sumR; rw [if_pos (by rw [h1]; exact h0)]
  · obtain ⟨g1, g2⟩ := h6 (by omega)
    refine ⟨(rfK bs gs bs.length).cnt, (rfK bs gs bs.length).sum, 0, (sumF (itm gs (fLvM bs) bs.length)).lo, (sumF (itm gs (fLvM bs) bs.length)).hi, ?_, rfl, rfl, .inr ⟨by omega, rfl, h3, ?_, g1, g2⟩⟩
    · unfold sumR; rw [if_neg (by rw [h1]; exact h0)]; simp [stc, h1, h2]
    · have := fmx_levF (itm gs (fLvM bs) bs.length).reverse
      rw [List.reverse_reverse, levOK_iff] at this
      simpa using this

/-- The ticks of some spans. -/
def totK (gs : List (Int × Int)) : Nat → Int
  | 0 => 0
  | k + 1 => totK gs k + (gs.getD k (0, 0)).2 - (gs.getD k (0, 0)).1
theorem tot_in (gs : List (Int × Int)) (h : ∀ s ∈ gs, 0 ≤ s.1 ∧ s.1 < s.2 ∧ s.2 ≤ 100000) : ∀ k, k ≤ gs.length → 0 ≤ totK gs k ∧ totK gs k ≤ 100000 * (k : Int)
  | 0, _ => by simp [totK]
  | k + 1, hk => by
    have := tot_in gs h k (by omega)
    have := h _ (getD_mem gs k (by omega))
    simp only [totK]
    omega
end Go.Proofs.YtkgkpcmokmhakaaGreatDoor

namespace Go.Proofs.YtkgkpcmokmhakaaGreatDoor
open Go.RowKit

/-- How many of the first levels have a reason. -/
def lsK (R : List Int) : Nat → Int
  | 0 => 0
  | k + 1 => lsK R k + (if 0 < R.getD k 0 then 1 else 0)
theorem lsK_bnd (R : List Int) : ∀ k, 0 ≤ lsK R k ∧ lsK R k ≤ (k : Int)
  | 0 => by simp [lsK]
  | k + 1 => by
    have := lsK_bnd R k
    simp only [lsK]
    split <;> omega
/-- How many of the first levels are gaps. -/
def cntH (gs : List (Int × Int)) : Nat → Int
  | 0 => 0
  | k + 1 => cntH gs k + (if hasL gs (k : Int) = true then 1 else 0)
theorem hasL_snoc (l : List (Int × Int)) (s : Int × Int) (x : Int) : hasL (l ++ [s]) x = (hasL l x || (decide (s.1 ≤ x) && decide (x < s.2))) := by
  simp [hasL]
theorem cnt_nil : ∀ n : Nat, cntH [] n = 0
  | 0 => rfl
  | n + 1 => by simp [cntH, cnt_nil n, hasL]
theorem cnt_snoc (l : List (Int × Int)) (s : Int × Int) (hd : ∀ x, hasL l x = true → x < s.1) (h0 : 0 ≤ s.1) (h1 : s.1 < s.2) : ∀ m : Nat, cntH (l ++ [s]) m = cntH l m + max 0 (min (m : Int) s.2 - s.1)
  | 0 => by simp only [cntH]; omega
  | m + 1 => by
    have ih := cnt_snoc l s hd h0 h1 m
    simp only [cntH]
    rw [ih, hasL_snoc]
    cases hl : hasL l (m : Int)
    · by_cases ha : s.1 ≤ (m : Int)
      · by_cases hb : (m : Int) < s.2
        · rw [decide_eq_true ha, decide_eq_true hb]
          simp only [Bool.and_self, Bool.or_true, if_true, Bool.false_eq_true, if_false]
          push_cast; omega
        · rw [decide_eq_true ha, decide_eq_false hb]
          simp only [Bool.and_false, Bool.or_false, Bool.false_eq_true, if_false]
          push_cast; omega
      · rw [decide_eq_false ha]
        simp only [Bool.false_and, Bool.or_false, Bool.false_eq_true, if_false]
        push_cast; omega
    · have := hd _ hl
      rw [decide_eq_false (show ¬ s.1 ≤ (m : Int) by omega)]
      simp only [Bool.false_and, Bool.or_false, if_true]
      push_cast; omega
theorem tot_cnt (gs : List (Int × Int)) (n : Nat) (hC : Can gs) (hb : ∀ s ∈ gs, 0 ≤ s.1 ∧ s.2 ≤ (n : Int)) : ∀ k, k ≤ gs.length → totK gs k = cntH (gs.take k) n
  | 0, _ => by rw [List.take_zero, cnt_nil]; rfl
  | k + 1, hk => by
    have ih := tot_cnt gs n hC hb k (by omega)
    have hm := getD_mem gs k (by omega)
    have h1 := hb _ hm
    have h2 := hC.2 _ hm
    rw [take_next gs k (by omega), cnt_snoc _ _ (fun x hx => ?_) h1.1 h2, ← ih]
    · simp only [totK]; omega
    · obtain ⟨s, hs, -, hx2⟩ := hasL_true.1 hx
      obtain ⟨j, hj, rfl⟩ := mem_getD hs
      have hj2 : j < k := by rw [List.length_take] at hj; omega
      have hp := (List.pairwise_iff_getElem.1 hC.1) j k (by omega) (by omega) hj2
      have e1 : (gs.take k).getD j (0, 0) = gs[j]'(by omega) := by
        rw [List.getD_eq_getElem?_getD, List.getElem?_take, if_pos hj2]; simp [show j < gs.length by omega]
      have e2 : gs.getD k (0, 0) = gs[k]'(by omega) := by simp [show k < gs.length by omega]
      rw [e1] at hx2
      rw [e2]
      omega
theorem tot_all2 (gs : List (Int × Int)) (n : Nat) (hC : Can gs) (hb : ∀ s ∈ gs, 0 ≤ s.1 ∧ s.2 ≤ (n : Int)) : totK gs gs.length = cntH gs n := by
  rw [tot_cnt gs n hC hb _ (Nat.le_refl _), List.take_length]
/-- What is lacking behind the rules: what lacked before, and what has a reason. -/
theorem cnt_less {gs GC : List (Int × Int)} {R : List Int} {n : Nat} (h : ∀ i : Nat, i < n → (hasL gs (i : Int) = false ∧ R.getD i 0 = 0 ∧ hasL GC (i : Int) = false) ∨ (hasL gs (i : Int) = false ∧ 0 < R.getD i 0 ∧ hasL GC (i : Int) = true) ∨ (hasL gs (i : Int) = true ∧ R.getD i 0 = 0 ∧ hasL GC (i : Int) = true)) : ∀ k, k ≤ n → cntH GC k = cntH gs k + lsK R k
  | 0, _ => rfl
  | k + 1, hk => by
    have ih := cnt_less h k (by omega)
    simp only [cntH, lsK]
    rw [ih]
    rcases h k (by omega) with ⟨a, b, c⟩ | ⟨a, b, c⟩ | ⟨a, b, c⟩
    · rw [a, c, b]; simp
    · rw [a, c, if_pos b]; simp; omega
    · rw [a, c, b]; simp; omega
theorem less_hp (bs : List Nat) (gs : List (Int × Int)) (l : List Ru) (m i : Nat) (hi : i < bs.length) : (hasL gs (i : Int) = false ∧ (rsF bs gs l m).2.getD i 0 = 0 ∧ hasL (strF ((rsF bs gs l m).1.map (!·)) bs.length) (i : Int) = false) ∨ (hasL gs (i : Int) = false ∧ 0 < (rsF bs gs l m).2.getD i 0 ∧ hasL (strF ((rsF bs gs l m).1.map (!·)) bs.length) (i : Int) = true) ∨ (hasL gs (i : Int) = true ∧ (rsF bs gs l m).2.getD i 0 = 0 ∧ hasL (strF ((rsF bs gs l m).1.map (!·)) bs.length) (i : Int) = true) := by
  obtain ⟨h1, h2, h3, h4⟩ := rs_reason bs gs l m i hi
  have hh := str_has bs (rsF bs gs l m).1 (rsF_len bs gs l m).1 i hi
  rw [h3] at hh
  generalize (rsF bs gs l m).2.getD i 0 = r at *
  rcases Int.lt_or_eq_of_le h1 with h | h
  · rw [h4 h, decide_eq_false (show ¬ r = 0 by omega)] at hh
    exact .inr (.inl ⟨h4 h, h, by simpa using hh⟩)
  · subst h
    cases hg : hasL gs (i : Int)
    · rw [hg] at hh; exact .inl ⟨rfl, rfl, by simpa using hh⟩
    · rw [hg] at hh; exact .inr (.inr ⟨rfl, rfl, by simpa using hh⟩)
/-- How many levels are recorded. -/
theorem rf_count (bs : List Nat) (gs : List (Int × Int)) : ∀ k : Nat, (rfK bs gs k).cnt = (k : Int) - cntH gs k
  | 0 => rfl
  | k + 1 => by
    have ih := rf_count bs gs k
    simp only [rfK, cntH]
    cases h : hasL gs (k : Int)
    · simp only [Bool.false_eq_true, if_false, rst]; push_cast; omega
    · simp only [if_true]; push_cast; omega

/-- Gaps from one index to another, told from the first one. -/
def cutO (a b : Int) (s : Int × Int) : Option (Int × Int) := if max s.1 a < min s.2 b then some (max s.1 a - a, min s.2 b - a) else none
def cutP (gs : List (Int × Int)) (a b : Int) : List (Int × Int) := gs.filterMap (cutO a b)
theorem cut_next (gs : List (Int × Int)) (a b : Int) (j : Nat) (h : j < gs.length) : cutP (gs.take (j + 1)) a b = if max (gs.getD j (0, 0)).1 a < min (gs.getD j (0, 0)).2 b then cutP (gs.take j) a b ++ [(max (gs.getD j (0, 0)).1 a - a, min (gs.getD j (0, 0)).2 b - a)] else cutP (gs.take j) a b := by
  rw [take_next gs j h]
  unfold cutP
  rw [List.filterMap_append]
  simp only [List.filterMap_cons, List.filterMap_nil, cutO]
  split <;> simp_all
theorem cut_len (gs : List (Int × Int)) (a b : Int) : (cutP gs a b).length ≤ gs.length := List.length_filterMap_le _ _
theorem cut_mem {gs : List (Int × Int)} {a b : Int} {r : Int × Int} (h : r ∈ cutP gs a b) : ∃ s ∈ gs, max s.1 a < min s.2 b ∧ r = (max s.1 a - a, min s.2 b - a) := by
  obtain ⟨s, hs, e⟩ := List.mem_filterMap.1 h
  unfold cutO at e
  split at e
  · rename_i c
    injection e with e
    exact ⟨s, hs, c, e.symm⟩
  · cases e
theorem cut_can {gs : List (Int × Int)} (a b : Int) (h : Can gs) : Can (cutP gs a b) := by
  refine ⟨?_, fun r hr => ?_⟩
  · unfold cutP
    rw [List.pairwise_filterMap]
    refine h.1.imp fun {x y} hxy p hp q hq => ?_
    unfold cutO at hp hq
    split at hp
    · split at hq
      · injection hp with hp
        injection hq with hq
        subst hp hq
        simp only; omega
      · cases hq
    · cases hp
  · obtain ⟨s, hs, c, rfl⟩ := cut_mem hr
    simp only; omega
theorem cut_has (gs : List (Int × Int)) (a b x : Int) : hasL (cutP gs a b) x = (hasL gs (x + a) && (decide (0 ≤ x) && decide (x + a < b))) := by
  rw [Bool.eq_iff_iff]
  simp only [Bool.and_eq_true, decide_eq_true_eq]
  rw [hasL_true, hasL_true]
  constructor
  · rintro ⟨r, hr, h1, h2⟩
    obtain ⟨s, hs, c, rfl⟩ := cut_mem hr
    simp only at h1 h2
    exact ⟨⟨s, hs, by omega, by omega⟩, by omega, by omega⟩
  · rintro ⟨⟨s, hs, h1, h2⟩, h3, h4⟩
    refine ⟨(max s.1 a - a, min s.2 b - a), List.mem_filterMap.2 ⟨s, hs, ?_⟩, by simp only; omega, by simp only; omega⟩
    unfold cutO
    rw [if_pos (by omega)]
theorem cut_head {gs : List (Int × Int)} {k : Nat} (hg : chkSpans gs = 0) (hC : Can gs) (hk : k ≤ 100000) : cutP gs 0 (k : Int) = partH gs k := by
  obtain ⟨h1, h2, -⟩ := head_has (gs := gs) (k := k) hg hk
  refine can_uniq _ _ (cut_can _ _ hC) h1 fun x => ?_
  rw [cut_has, h2, Int.add_zero]
theorem cut_tail {gs : List (Int × Int)} {k n : Nat} (hg : chkSpans gs = 0) (hC : Can gs) (hn : n ≤ 100000) : cutP gs (k : Int) (n : Int) = shl k (partT gs k n) := by
  obtain ⟨h1, h2, -⟩ := tail_has (gs := gs) (k := k) (n := n) hg hn
  refine can_uniq _ _ (cut_can _ _ hC) (shl_can k h1) fun x => ?_
  rw [cut_has, shl_has, h2, show decide ((k : Int) ≤ x + (k : Int)) = decide ((0 : Int) ≤ x) by rw [decide_eq_decide]; omega]

theorem same_len {A B : List Nat} (h : sameF feqL 0 A B = true) : A.length = B.length := by
  unfold sameF at h
  simp only [Bool.and_eq_true, decide_eq_true_eq] at h
  exact h.1
theorem same_at {A B : List Nat} (h : sameF feqL 0 A B = true) (i : Nat) (hi : i < A.length) : feqL (A.getD i 0) (B.getD i 0) = true := by
  unfold sameF at h
  simp only [Bool.and_eq_true, List.all_eq_true] at h
  exact h.2 i (List.mem_range.2 hi)
/-- Two parts that are the same levels make the same levels. -/
theorem same_join {A B L : List Nat} {k : Nat} (hk : k ≤ L.length) (h1 : sameF feqL 0 A (L.take k) = true) (h2 : sameF feqL 0 B (L.drop k) = true) : sameF feqL 0 (A ++ B) L = true := by
  have l1 := same_len h1
  have l2 := same_len h2
  rw [List.length_take] at l1
  rw [List.length_drop] at l2
  refine sameF_yes feqL 0 _ _ (by rw [List.length_append]; omega) fun j hj => ?_
  rw [List.length_append] at hj
  by_cases hjk : j < A.length
  · have := same_at h1 j hjk
    rw [getD_take L k j (by omega)] at this
    rw [List.getD_eq_getElem?_getD, List.getElem?_append_left hjk, ← List.getD_eq_getElem?_getD]
    exact this
  · have := same_at h2 (j - A.length) (by omega)
    rw [getD_drop, show k + (j - A.length) = j by omega] at this
    rw [List.getD_eq_getElem?_getD, List.getElem?_append_right (by omega), ← List.getD_eq_getElem?_getD]
    exact this
end Go.Proofs.YtkgkpcmokmhakaaGreatDoor

namespace Go.Proofs.YtkgkpcmokmhakaaGreatDoor
open Go.RowKit
attribute [local go_sem] Oper.semAt_some

set_option maxRecDepth 1000000 in
set_option maxHeartbeats 4000000 in
theorem refTotal_any (sl : Value) (l : List (Int × Int)) (w : World) (h : Rd w w.heap.size sl l.length (spc l)) (hb : ∀ s ∈ l, 0 ≤ s.1 ∧ s.1 < s.2 ∧ s.2 ≤ 100000) (hn : l.length ≤ 2048) :
    Calls Tryz.prog 13 #[sl] w fun e w' => e = .returned (.int .i64 (totK l l.length)) ∧ Below w.heap.size w w' := by
  obtain ⟨A, c, rfl, hc1, hc2, hc⟩ := h
  unfold maxLen at hc2
  have HC := hd hc
  have HBD := hd hb
  clear hc hb
  go_enter Tryz.func13, Tryz.ntmps13
  go_wp2
  go_loopw [3, 4] (fun t i wr => ∃ k : Nat, k ≤ l.length ∧ t = .int .i64 (totK l k) ∧ i = .int .i64 k ∧ Below w.heap.size w wr) (fun _ i _ => l.length - (intOf i).toNat)
  case atStart => exact ⟨0, Nat.zero_le _, rfl, rfl, Below.refl _ _⟩
  case round =>
    obtain ⟨k, hk, rfl, rfl, hb⟩ := hrel
    have HB := hd hb
    clear hb
    by_cases hlt : k < l.length
    · obtain ⟨b, off, rfl, hbb, hcell⟩ := HC.out (by omega)
      obtain ⟨g1, g2⟩ := spc_at l k hlt
      have hs0 : wr.cell? ⟨b, off + k * 2, none⟩ = some (.int .i64 (l[k]).1) := (HB.out.cell (p := ⟨b, _, none⟩) hbb).trans ((hcell (k * 2) (by rw [spc_len]; omega)).trans g1)
      have hs1 : wr.cell? ⟨b, off + k * 2 + 1, none⟩ = some (.int .i64 (l[k]).2) := (HB.out.cell (p := ⟨b, _, none⟩) hbb).trans ((hcell (k * 2 + 1) (by rw [spc_len]; omega)).trans g2)
      obtain ⟨b0, b1, b2⟩ := HBD.out _ (List.getElem_mem hlt)
      obtain ⟨t0, t1⟩ := tot_in l HBD.out k hk
      have HT := hd (show totK l (k + 1) = totK l k + (l[k]).2 - (l[k]).1 from by
        simp only [totK]
        rw [show l.getD k (0, 0) = l[k] by simp [hlt]])
      clear hcell g1 g2
      generalize l[k] = f at *
      obtain ⟨f1, f2⟩ := f
      simp only at b0 b1 b2 hs0 hs1 HT
      have e1 : IntKind.i64.wrap (totK l k + f2) = totK l k + f2 := IntWalk.i64_in _ (by omega)
      have e2 : IntKind.i64.wrap (totK l k + f2 - f1) = totK l k + f2 - f1 := IntWalk.i64_in _ (by omega)
      go_wp2_with fail
      go_quiet (fail)
      go_wp2_with fail
      go_roundw
      case rel => exact ⟨k + 1, by omega, by rw [HT.out], by go_num, below_dr HB.out _⟩
      case measure => simp [intOf]; omega
    · have hke : k = l.length := by omega
      subst hke
      go_wp2_with fail
      go_returns
      exact ⟨rfl, HB.out⟩

end Go.Proofs.YtkgkpcmokmhakaaGreatDoor

namespace Go.Proofs.YtkgkpcmokmhakaaGreatDoor
open Go.RowKit

theorem cells_new (W : World) (cs : Array Value) (T : TypeId) (xs : List Value) (hx : cs.toList = xs) : ∀ j u, xs[j]? = some u → (W.alloc (.cells cs T)).cell? ((⟨W.heap.size, 0, none⟩ : Addr).add j) = some u := by
  subst hx
  intro j u hu
  have e : (⟨W.heap.size, 0, none⟩ : Addr).add j = ⟨W.heap.size, j, none⟩ := by unfold Addr.add; split <;> simp_all
  rw [e, World.cell?_alloc_new]
  simpa using hu
end Go.Proofs.YtkgkpcmokmhakaaGreatDoor

namespace Go.Proofs.YtkgkpcmokmhakaaGreatDoor
open Go.RowKit
attribute [local go_sem] Oper.semAt_some

theorem ruleInfo : (Tryz.prog.info? 34).map (fun i => (i.zero, i.size, i.bytes)) = some (some (.agg #[.string ⟨#[]⟩, .int .i64 0, .int .i64 0]), 3, 32) := by kernel_rfl
theorem ruc_take (l : List Ru) (k : Nat) (hk : k < l.length) : ruc (l.take (k + 1)) = ruc (l.take k) ++ [.string (l.getD k ru0).1, .int .i64 (l.getD k ru0).2.1, .int .i64 (l.getD k ru0).2.2] := by
  rw [List.take_succ_eq_append_getElem hk]
  have e : l[k] = l.getD k ru0 := by simp [hk]
  simp only [ruc, List.flatMap_append, e]
  simp

end Go.Proofs.YtkgkpcmokmhakaaGreatDoor

namespace Go.Proofs.YtkgkpcmokmhakaaGreatDoor
open Go.RowKit
attribute [local go_sem] Oper.semAt_some

set_option maxRecDepth 1000000 in
set_option maxHeartbeats 4000000 in
theorem sameRec_yes (nm : ByteArray) (st : Int) (l1 g1 l2 g2 : Value) (b1 b2 : List Nat) (s1 s2 : List (Int × Int)) (w : World) (hl1 : Rd w w.heap.size l1 b1.length (flc b1)) (hg1 : Rd w w.heap.size g1 s1.length (spc s1)) (hl2 : Rd w w.heap.size l2 b2.length (flc b2)) (hg2 : Rd w w.heap.size g2 s2.length (spc s2))
    (hL : sameF feqL 0 b1 b2 = true) (hG : sameF (fun x y : Int × Int => x == y) (0, 0) s1 s2 = true) :
    Calls Tryz.prog 12 #[.agg #[.string nm, .int .i64 st, l1, g1], .agg #[.string nm, .int .i64 st, l2, g2]] w fun e w' => e = .returned (.bool true) ∧ Below w.heap.size w w' := by
  have H1 := hd hl1
  have H2 := hd hg1
  have H3 := hd hl2
  have H4 := hd hg2
  have HL := hd hL
  have HG := hd hG
  obtain ⟨A1, c1, rfl, -⟩ := hl1
  obtain ⟨A2, c2, rfl, -⟩ := hg1
  obtain ⟨A3, c3, rfl, -⟩ := hl2
  obtain ⟨A4, c4, rfl, -⟩ := hg2
  obtain ⟨W1, hW1⟩ : ∃ W1, W1 = ((w.alloc (Obj.cells #[.string nm, .int .i64 st, .slice A1 b1.length c1, .slice A2 s1.length c2] 25)).alloc (Obj.cells #[.string nm, .int .i64 st, .slice A3 b2.length c3, .slice A4 s2.length c4] 25)) := ⟨_, rfl⟩
  have hB : Below w.heap.size w W1 := by rw [hW1]; exact ((Below.refl _ w).alloc (Nat.le_refl _) _).alloc (by simp) _
  have hq : W1.heap[w.heap.size]? = some (.cells #[.string nm, .int .i64 st, .slice A1 b1.length c1, .slice A2 s1.length c2] 25 (0, 0)) := by
    rw [hW1, Below.heap_alloc _ _ _ (by simp)]; exact blk_new _ _ _
  have hr : W1.heap[w.heap.size + 1]? = some (.cells #[.string nm, .int .i64 st, .slice A3 b2.length c3, .slice A4 s2.length c4] 25 (0, 0)) := by
    have h1 := blk_new (w.alloc (Obj.cells #[.string nm, .int .i64 st, .slice A1 b1.length c1, .slice A2 s1.length c2] 25)) #[.string nm, .int .i64 st, .slice A3 b2.length c3, .slice A4 s2.length c4] 25
    simp only [World.size_alloc] at h1
    rw [hW1]; exact h1
  have HB := hd hB
  have HQ := hd hq
  have HR := hd hr
  have HR1 := hd ((H1.out.below hB (Nat.le_refl _)).mono hB.size)
  have HR2 := hd ((H2.out.below hB (Nat.le_refl _)).mono hB.size)
  have HR3 := hd ((H3.out.below hB (Nat.le_refl _)).mono hB.size)
  have HR4 := hd ((H4.out.below hB (Nat.le_refl _)).mono hB.size)
  have q2 := blk_cell hq 2
  have q3 := blk_cell hq 3
  have r2 := blk_cell hr 2
  have r3 := blk_cell hr 3
  have q0 := blk_cell hq 0
  have q1 := blk_cell hq 1
  have r0 := blk_cell hr 0
  have r1 := blk_cell hr 1
  simp at q0 q1 q2 q3 r0 r1 r2 r3
  clear hL hG hB hq hr
  go_enter Tryz.func12, Tryz.ntmps12
  go_wp2_with fail
  rw [← hW1]
  refine (sameLevels_any _ _ b1 b2 _ HR1.out HR3.out).mono ?_
  rw [HL.out]
  rintro e w1 ⟨rfl, hb⟩
  have k3 := blk_cell ((hb.block _ (blk_lt HQ.out)).trans HQ.out) 3
  have m3 := blk_cell ((hb.block _ (blk_lt HR.out)).trans HR.out) 3
  simp at k3 m3
  have HS2 := hd ((HR2.out.below hb (Nat.le_refl _)).mono hb.size)
  have HS4 := hd ((HR4.out.below hb (Nat.le_refl _)).mono hb.size)
  have HB1 := hd (HB.out.trans (hb.mono HB.out.size))
  clear hb q0 q1 q2 q3 r0 r1 r2 r3 hW1
  go_wp2_with fail
  refine (sameSpans_any _ _ s1 s2 _ HS2.out HS4.out).mono ?_
  rw [HG.out]
  rintro e w2 ⟨rfl, hb⟩
  have HB2 := hd (HB1.out.trans (hb.mono HB1.out.size))
  clear hb k3 m3
  go_wp2_with fail
  go_returns
  exact ⟨rfl, HB2.out⟩

end Go.Proofs.YtkgkpcmokmhakaaGreatDoor

namespace Go.Proofs.YtkgkpcmokmhakaaGreatDoor
open Go.RowKit
attribute [local go_sem] Oper.semAt_some

section
variable {P : Program} (w : World)
/-- append onto a row of the call's own, at a step of a region that draws. -/
theorem step_append_own {y : Nat → Option Bool} {o : Oper} {a : Act} {K : Act → World → Prop} {Q : Exit → Act → World → Prop} {E : Prop} (hgd : o.guard = none) (s x : Operand) (t : TypeId)
    (ho : o.op = .call { callee := .builtin .append, args := #[s, x], argTypes := #[t, t] })
    (base : Nat) (e : TypeId) (i : TypeInfo) (z : Value) (size bytes : Nat) (ht : P.underlying t = some (.slice e)) (hi : P.info? e = some i) (hz : i.zero = some z)
    (hsize : i.size = size) (hby : i.bytes = bytes) (hzs : z.cells.size = size) (hsz : 0 < size)
    (v : Value) (n : Nat) (xs : List Value) (hs : a.eval s = v) (hown : w.ownsRow base e size v n xs)
    (ad : Addr) (m c : Nat) (news : List Value) (hx : a.eval x = .slice (some ad) m c) (hl : news.length = m * size) (hnews : ∀ j u, news[j]? = some u → w.cell? (ad.add j) = some u) (h1 : ∀ u ∈ news, u.oneCell' = true)
    (h63 : n + m ≤ maxLen) (hbytes : (n + m) * bytes ≤ 140737488355328) (hbase : base ≤ w.heap.size)
    (h : ∀ v' w', w'.ownsRow base e size v' (n + m) (xs ++ news) → w.grownBy w' v.ownBlock → (v' = .slice none 0 0 ↔ v = .slice none 0 0 ∧ m = 0) → K (a.put o.dst v') w') :
    if Region.wanted o y = true then Oper.wp P o a w K Q else E := by
  have hw : Region.wanted o y = true := by simp [Region.wanted, hgd]
  rw [if_pos hw]
  exact wp_append_own w s x t ho base e i z size bytes ht hi hz hsize hby hzs hsz v n xs hs hown ad m c news hx hl hnews h1 h63 hbytes hbase h
theorem step_append_opt {y : Nat → Option Bool} {o : Oper} {a : Act} {K : Act → World → Prop} {Q : Exit → Act → World → Prop} {E : Prop} (hgd : o.guard = none) (s x : Operand) (t : TypeId)
    (ho : o.op = .call { callee := .builtin .append, args := #[s, x], argTypes := #[t, t] })
    (base : Nat) (e : TypeId) (i : TypeInfo) (z : Value) (size bytes : Nat) (ht : P.underlying t = some (.slice e)) (hi : P.info? e = some i) (hz : i.zero = some z)
    (hsize : i.size = size) (hby : i.bytes = bytes) (hzs : z.cells.size = size) (hsz : 0 < size)
    (v : Value) (n : Nat) (xs : List Value) (hs : a.eval s = v) (hown : w.ownsRow base e size v n xs)
    (ao : Option Addr) (m c : Nat) (news : List Value) (hx : a.eval x = .slice ao m c) (hl : news.length = m * size) (hnone : ao = none → m = 0 ∧ c = 0) (hnews : ∀ ad, ao = some ad → ∀ j u, news[j]? = some u → w.cell? (ad.add j) = some u) (h1 : ∀ u ∈ news, u.oneCell' = true)
    (h63 : n + m ≤ maxLen) (hbytes : (n + m) * bytes ≤ 140737488355328) (hbase : base ≤ w.heap.size)
    (h : ∀ v' w', w'.ownsRow base e size v' (n + m) (xs ++ news) → w.grownBy w' v.ownBlock → K (a.put o.dst v') w') :
    if Region.wanted o y = true then Oper.wp P o a w K Q else E := by
  cases ao with
  | some ad => exact step_append_own w hgd s x t ho base e i z size bytes ht hi hz hsize hby hzs hsz v n xs hs hown ad m c news hx hl (hnews ad rfl) h1 h63 hbytes hbase (fun v' w' g1 g2 _ => h v' w' g1 g2)
  | none =>
    obtain ⟨rfl, rfl⟩ := hnone rfl
    have hnews' : news = [] := List.eq_nil_of_length_eq_zero (by simpa using hl)
    subst hnews'
    have hw : Region.wanted o y = true := by simp [Region.wanted, hgd]
    rw [if_pos hw]
    subst hsize
    have hr := run_append_owned_none (P := P) w base t o.type e i i.size ht hi v n xs hown
    unfold Oper.wp execOp
    simp only [ho, resolve, invoke, builtin, Sem.run_bind, Sem.run_pure, Result.andThen_ok, List.map_toArray, List.map_cons, List.map_nil, hs, hx, hr]
    exact h v w (by simpa using hown) (World.grownBy.refl _ _)
end
end Go.Proofs.YtkgkpcmokmhakaaGreatDoor
