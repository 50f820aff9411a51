/-
  Plain words on waters, spells and statistics: what the project computes of a valid record is what the reference does. No program.
  Plain words on statistics: the project's and the reference's of a valid record are the same, as Go compares them.
  Highs, Lows, Above and Summary of what is not valid: the first error; a record without an error is valid.
-/
import Derived.Test.YtkgeeooijgcdkaaGreatDoorT0
import Derived.Test.YtkgeeooijgcdkaaGreatDoorT5
import Derived.Test.YtkgeeooijgcdkaaGreatDoorProg
import Derived.Test.YtkgeeooijgcdkaaGreatDoorQ3
import Derived.Test.YtkgeeooijgcdkaaGreatDoorMK
import Derived.Test.YtkgeeooijgcdkaaGreatDoorZ2

namespace Go.Proofs.YtkgeeooijgcdkaaGreatDoor
open Go.RowKit

theorem selM_itm {bs : List Nat} (p : Nat × Nat → Bool) (gs : List (Int × Int)) (hok : ∀ j, j < bs.length → levOK (bs.getD j 0) = true) : ∀ k, k ≤ bs.length → selM p (itm gs (fLvM bs) k) = ((List.range k).filter fun i => !cov gs (i : Nat) && p (i, bs.getD i 0)).map fun i : Nat => (i : Int)
  | 0, _ => rfl
  | k + 1, hk => by
    have ih := selM_itm (bs := bs) p gs hok k (by omega)
    have hat := fLvM_at bs hok k (by omega)
    rw [List.range_succ, List.filter_append, List.map_append, ← ih]
    cases hc : cov gs (k : Int)
    · rw [itm_yes gs _ k hc]
      cases hp : p (k, bs.getD k 0)
      · have hp' : p (k, bs[k]?.getD 0) = false := by simpa using hp
        rw [selM_no _ (by rw [hat]; exact hp')]
        simp [hp']
      · have hp' : p (k, bs[k]?.getD 0) = true := by simpa using hp
        rw [selM_yes _ (by rw [hat]; exact hp'), hat]
        simp [hc, hp']
    · rw [itm_no gs _ k hc]
      simp [hc]

/-- What leadF asks, one by one. -/
theorem leadF_iff (ms : List Bool) (bs : List Nat) (sh : Nat → Bool) (f t : Nat) : leadF ms bs sh f t = true ↔ ∀ j, f ≤ j → j < t → leadAt ms bs sh j = true := by
  constructor
  · intro h j h1 h2
    cases hl : leadAt ms bs sh j
    · rw [leadF_no ms bs sh f t j h1 h2 hl] at h; cases h
    · rfl
  · exact leadF_yes ms bs sh f t
theorem leadAt_is (gs : List (Int × Int)) (bs : List Nat) (sh : Nat → Bool) (j : Nat) (hj : j < bs.length) : leadAt (knL gs bs.length) bs sh j = (cov gs (j : Int) || sh (bs.getD j 0)) := by
  unfold leadAt
  rw [knL_at gs bs.length j hj]
  cases cov gs (j : Int) <;> simp

theorem okR_iff (bs : List Nat) (gs : List (Int × Int)) (wd : Int) (neg : Bool) (i k : Nat) : okR bs gs wd neg i k = true ↔ hasL gs (k : Nat) = true ∨ ¬ ((k < i ∧ (i : Int) - wd ≤ k ∧ sv neg (bs.getD i 0) ≤ sv neg (bs.getD k 0)) ∨ (i < k ∧ (k : Int) ≤ i + wd ∧ sv neg (bs.getD i 0) < sv neg (bs.getD k 0))) := by
  unfold okR
  rw [Bool.or_eq_true, Bool.not_eq_true', Bool.eq_false_iff]
  simp only [ne_eq, Bool.or_eq_true, Bool.and_eq_true, decide_eq_true_eq, and_assoc]

/-- A high or low water is one for both. -/
theorem wat_is (bt : Nat → Nat → Bool) (neg : Bool) (hbt : ∀ a b, finB a = true → finB b = true → bt a b = decide (sv neg b < sv neg a)) (bs : List Nat) (gs : List (Int × Int)) (wd : Nat) (hC : Can gs) (hf : ∀ i, i < bs.length → finB (bs.getD i 0) = true) (i : Nat) (hi : i < bs.length) (hh : hasL gs (i : Nat) = false) :
    wat bt (knL gs bs.length) bs wd (i, bs.getD i 0) = watR bs gs wd neg i := by
  rw [Bool.eq_iff_iff]
  unfold wat watR
  rw [hh, Bool.and_eq_true, Bool.and_eq_true, leadF_iff, leadF_iff, List.all_eq_true]
  constructor
  · rintro ⟨h1, h2⟩
    refine ⟨rfl, fun k hk => ?_⟩
    have hk : k < bs.length := by simpa using hk
    rw [okR_iff]
    cases hc : hasL gs (k : Int)
    · refine .inr ?_
      rintro (⟨g1, g2, g3⟩ | ⟨g1, g2, g3⟩)
      · have := h1 k (by omega) g1
        rw [leadAt_is gs bs _ k hk, cov_has gs k hC, hc, Bool.false_or, hbt _ _ (hf i hi) (hf k hk), decide_eq_true_eq] at this
        omega
      · have := h2 k (by omega) (by omega)
        rw [leadAt_is gs bs _ k hk, cov_has gs k hC, hc, Bool.false_or, hbt _ _ (hf k hk) (hf i hi), Bool.not_eq_true', decide_eq_false_iff_not] at this
        exact this g3
    · exact .inl rfl
  · rintro ⟨-, h⟩
    refine ⟨fun j h1 h2 => ?_, fun j h1 h2 => ?_⟩
    · have hj : j < bs.length := by omega
      have := (okR_iff bs gs wd neg i j).1 (h j (by simpa using hj))
      rw [leadAt_is gs bs _ j hj, cov_has gs j hC, hbt _ _ (hf i hi) (hf j hj)]
      cases hc : hasL gs (j : Int)
      · rw [hc] at this
        simp only [Bool.false_eq_true, false_or] at this
        rw [Bool.false_or, decide_eq_true_eq]
        have h3 : (i : Int) - wd ≤ j := by simp only at h1; omega
        have h4 : ¬ sv neg (bs.getD i 0) ≤ sv neg (bs.getD j 0) := fun hle => this (.inl ⟨h2, h3, hle⟩)
        omega
      · rfl
    · have hj : j < bs.length := by omega
      have := (okR_iff bs gs wd neg i j).1 (h j (by simpa using hj))
      rw [leadAt_is gs bs _ j hj, cov_has gs j hC, hbt _ _ (hf j hj) (hf i hi)]
      cases hc : hasL gs (j : Int)
      · rw [hc] at this
        simp only [Bool.false_eq_true, false_or] at this
        have h4 : ¬ sv neg (bs.getD i 0) < sv neg (bs.getD j 0) := fun hlt => this (.inr ⟨h1, by simp only at h2; omega, hlt⟩)
        rw [decide_eq_false h4]; rfl
      · rfl
theorem fgt_sv (a b : Nat) (ha : finB a = true) (hb : finB b = true) : fgt a b = decide (sv false b < sv false a) := fgt_num ha hb
theorem flt_sv (a b : Nat) (ha : finB a = true) (hb : finB b = true) : flt a b = decide (sv true b < sv true a) := by
  rw [flt_num ha hb, decide_eq_decide]
  simp [sv]
theorem waters_is (bt : Nat → Nat → Bool) (neg : Bool) (hbt : ∀ a b, finB a = true → finB b = true → bt a b = decide (sv neg b < sv neg a)) (bs : List Nat) (gs : List (Int × Int)) (wd : Nat) (hC : Can gs) (hl : ∀ i, i < bs.length → chkLev (bs.getD i 0) = 0) :
    selM (wat bt (knL gs bs.length) bs wd) (itm gs (fLvM bs) bs.length) = wtsR bs gs wd neg bs.length := by
  rw [selM_itm (wat bt (knL gs bs.length) bs wd) gs (fun j hj => by rw [levOK_iff]; simpa using hl j hj) bs.length (Nat.le_refl _)]
  unfold wtsR
  congr 1
  apply List.filter_congr
  intro i hi
  have hi : i < bs.length := by simpa using hi
  rw [cov_has gs i hC]
  cases hh : hasL gs (i : Int)
  · rw [wat_is bt neg hbt bs gs wd hC (fun j hj => fin_lev (hl j hj)) i hi hh]; rfl
  · rw [watR_gap hh]; rfl

theorem abK_at {n : Nat} (lev : Nat) (gs : List (Int × Int)) (f : Nat → LvM n) (hf : ∀ i, i < n → (f i).1.1 = i) : ∀ k, k ≤ n → ∀ j, j < n → (abK lev (itm gs f k)).getD j false = (decide (j < k) && !cov gs (j : Nat) && fgt (f j).1.2 lev)
  | 0, _, j, hj => by simp [itm, abK, hj]
  | k + 1, hk, j, hj => by
    have ih := abK_at lev gs f hf k (by omega) j hj
    have hlen := abK_len lev (itm gs f k)
    cases hc : cov gs (k : Int)
    · rw [itm_yes gs f k hc, abK_snoc, hf k (by omega)]
      by_cases e : k = j
      · subst e
        have : k < (abK lev (itm gs f k)).length := by omega
        simp [this, hc]
      · have : (decide (j < k + 1)) = decide (j < k) := by rw [decide_eq_decide]; omega
        rw [this, ← ih]
        simp [e]
    · rw [itm_no gs f k hc, ih]
      by_cases e : k = j
      · subst e
        simp [hc]
      · have : (decide (j < k + 1)) = decide (j < k) := by rw [decide_eq_decide]; omega
        rw [this]
theorem above_is (bs : List Nat) (gs : List (Int × Int)) (lev : Nat) (hC : Can gs) (hl : ∀ i, i < bs.length → chkLev (bs.getD i 0) = 0) (hv : finB lev = true) : abK lev (itm gs (fLvM bs) bs.length) = abvL bs gs lev := by
  have hok : ∀ j, j < bs.length → levOK (bs.getD j 0) = true := fun j hj => by rw [levOK_iff]; simpa using hl j hj
  apply List.ext_getElem
  · rw [abK_len]; simp [abvL]
  · intro j h1 h2
    have hj : j < bs.length := by rw [abK_len] at h1; exact h1
    have h3 := abK_at lev gs (fLvM bs) (fun i hi => by rw [fLvM_at bs hok i hi]) bs.length (Nat.le_refl _) j hj
    have e : (abK lev (itm gs (fLvM bs) bs.length)).getD j false = (abK lev (itm gs (fLvM bs) bs.length))[j] := by simp [h1]
    rw [← e, h3, fLvM_at bs hok j hj, cov_has gs j hC]
    have e2 : bs[j]?.getD 0 = bs.getD j 0 := by simp
    simp only [e2]
    rw [fgt_num (fin_lev (hl j hj)) hv, decide_eq_true hj]
    simp [abvL]
end Go.Proofs.YtkgeeooijgcdkaaGreatDoor

namespace Go.Proofs.YtkgeeooijgcdkaaGreatDoor
open Go.RowKit

theorem eqFl (d a b : Nat) (w : World) : (Op.equalIn (d+1) 39 (.float .f32 a) (.float .f32 b)).run Tryz.prog w = .ok (feqL a b) w := by
  simp [Op.equalIn, run_underlying Tryz.underlying39, Op.floatEq, feqL]

theorem sum_rel (bs : List Nat) (gs : List (Int × Int)) (hC : Can gs) (hl : ∀ i, i < bs.length → chkLev (bs.getD i 0) = 0) : ∀ k, k ≤ bs.length →
    (sumF (itm gs (fLvM bs) k)).cnt = (rfK bs gs k).cnt ∧ (sumF (itm gs (fLvM bs) k)).sum = (rfK bs gs k).sum ∧ finB (sumF (itm gs (fLvM bs) k)).lo = true ∧ finB (sumF (itm gs (fLvM bs) k)).hi = true ∧
    ((rfK bs gs k).cnt = 0 → num (sumF (itm gs (fLvM bs) k)).lo = num 1115684864 ∧ num (sumF (itm gs (fLvM bs) k)).hi = num 3263168512) ∧
    (0 < (rfK bs gs k).cnt → num (sumF (itm gs (fLvM bs) k)).lo = num (rfK bs gs k).lo ∧ num (sumF (itm gs (fLvM bs) k)).hi = num (rfK bs gs k).hi)
  | 0, _ => ⟨rfl, rfl, fin_64b.1, fin_64b.2, fun _ => ⟨rfl, rfl⟩, fun h => by simp [rfK] at h⟩
  | k + 1, hk => by
    obtain ⟨h1, h2, h3, h4, h5, h6⟩ := sum_rel bs gs hC hl k (by omega)
    have hok : ∀ j, j < bs.length → levOK (bs.getD j 0) = true := fun j hj => by rw [levOK_iff]; simpa using hl j hj
    have hat := fLvM_at bs hok k (by omega)
    have hx := hl k (by omega)
    have hf := fin_lev hx
    obtain ⟨r1, r2, r3, r4, r5⟩ := rfK_ok bs gs hl k (by omega)
    have hb := lev_bound hx
    have e2 : bs[k]?.getD 0 = bs.getD k 0 := by simp
    rw [rfK]
    cases hc : hasL gs (k : Int)
    · have hcov : cov gs (k : Int) = false := by rw [cov_has gs k hC]; exact hc
      rw [itm_yes gs _ k hcov, sumF_snoc, hat, if_neg (by decide)]
      simp only [e2]
      obtain ⟨m1, m2⟩ := fmn_min h3 hf
      obtain ⟨m3, m4⟩ := fmx_max h4 hf
      refine ⟨by simp only [sstp, rst]; rw [h1], by simp only [sstp, rst]; rw [h2], m1, m3, fun h => ?_, fun _ => ?_⟩
      · simp only [rst] at h; omega
      · by_cases h0 : (rfK bs gs k).cnt = 0
        · obtain ⟨g1, g2⟩ := h5 h0
          simp only [sstp, rst, h0, true_or, if_true]
          rw [m2, m4, g1, g2]
          omega
        · obtain ⟨g1, g2⟩ := h6 (by omega)
          simp only [sstp, rst, h0, false_or]
          rw [m2, m4, g1, g2]
          constructor
          · split <;> omega
          · split <;> omega
    · have hcov : cov gs (k : Int) = true := by rw [cov_has gs k hC]; exact hc
      rw [itm_no gs _ k hcov, if_pos rfl]
      exact ⟨h1, h2, h3, h4, h5, h6⟩

/-- What both summaries hand back. -/
theorem sum_is (bs : List Nat) (gs : List (Int × Int)) (hC : Can gs) (hl : ∀ i, i < bs.length → chkLev (bs.getD i 0) = 0) : ∃ (c s e : Int) (lo hi lo' hi' : Nat),
    sumR (sumF (itm gs (fLvM bs) bs.length)) = .tuple #[.agg #[.int .i64 c, .int .i64 s, .float .f32 lo, .float .f32 hi], .int .i64 e] ∧
    sumR (rfK bs gs bs.length) = .tuple #[.agg #[.int .i64 c, .int .i64 s, .float .f32 lo', .float .f32 hi'], .int .i64 e] ∧ feqL lo lo' = true ∧ feqL hi hi' = true := by
  obtain ⟨h1, h2, h3, h4, -, h6⟩ := sum_rel bs gs hC hl bs.length (Nat.le_refl _)
  obtain ⟨r1, -, -, -, r5⟩ := rfK_ok bs gs hl bs.length (Nat.le_refl _)
  by_cases h0 : (rfK bs gs bs.length).cnt = 0
  · refine ⟨0, 0, 12, 0, 0, 0, 0, ?_, ?_, by decide +kernel, by decide +kernel⟩
    · unfold sumR; rw [if_pos (by rw [h1]; exact h0)]
    · unfold sumR; rw [if_pos h0]
  · obtain ⟨g1, g2⟩ := h6 (by omega)
    obtain ⟨f1, f2⟩ := r5 (by omega)
    refine ⟨(rfK bs gs bs.length).cnt, (rfK bs gs bs.length).sum, 0, (sumF (itm gs (fLvM bs) bs.length)).lo, (sumF (itm gs (fLvM bs) bs.length)).hi, (rfK bs gs bs.length).lo, (rfK bs gs bs.length).hi, ?_, ?_, ?_, ?_⟩
    · unfold sumR; rw [if_neg (by rw [h1]; exact h0)]; simp [stc, h1, h2]
    · unfold sumR; rw [if_neg h0]; simp [stc]
    · rw [feq_num h3 f1, g1]; simp
    · rw [feq_num h4 f2, g2]; simp
end Go.Proofs.YtkgeeooijgcdkaaGreatDoor

namespace Go.Proofs.YtkgeeooijgcdkaaGreatDoor
open Go.RowKit
attribute [local go_sem] Oper.semAt_some

set_option maxRecDepth 1000000 in
set_option maxHeartbeats 2000000 in
theorem waters_bad (nm : ByteArray) (st : Int) (A A2 : Option Addr) (c c2 : Nat) (bs : List Nat) (gs : List (Int × Int)) (wd : Int) (g : Nat) (E : Int) (w : World) (HL : Hid (Rd w w.heap.size (.slice A bs.length c) bs.length (flc bs))) (HG : Hid (Rd w w.heap.size (.slice A2 gs.length c2) gs.length (spc gs))) (hs : nm.size ≤ maxLen)
    (hE : fst0 [chkRec nm st bs gs, rng wd 1 4096] = E) (h0 : (E != 0) = true) :
    Calls Tryz.prog 35 #[.agg #[.string nm, .int .i64 st, .slice A bs.length c, .slice A2 gs.length c2], .int .i64 wd, .func (.func g) #[] #[]] w fun e w' => e = .returned (.tuple #[.slice none 0 0, .int .i64 E]) ∧ Below w.heap.size w w' := by
  have HE := hd hE
  obtain ⟨x1, hx1⟩ : ∃ x, x = chkRec nm st bs gs := ⟨_, rfl⟩
  have CR := hd (fun W h h' => show Calls Tryz.prog 27 #[.agg #[.string nm, .int .i64 st, .slice A bs.length c, .slice A2 gs.length c2]] W fun e w' => e = .returned (.int .i64 x1) ∧ Below W.heap.size W w' from by rw [hx1]; exact chkRec_any nm st _ _ bs gs W h h' hs)
  rw [← hx1] at HE
  clear hE hx1 hs
  obtain ⟨W1, hW1⟩ : ∃ W1, W1 = (((w.alloc (.cells #[.string nm, .int .i64 st, .slice A bs.length c, .slice A2 gs.length c2] 30)).alloc (.cells #[.int .i64 wd] 3)).alloc (.cells #[.func (.func g) #[] #[]] 82)) := ⟨_, rfl⟩
  have hsz : W1.heap.size = w.heap.size + 3 := by rw [hW1]; simp
  have hb0 : Below w.heap.size w W1 := by rw [hW1]; exact (((Below.refl _ w).alloc (Nat.le_refl _) _).alloc (by simp; try omega) _).alloc (by simp; try omega) _
  have hq : W1.heap[w.heap.size]? = some (.cells #[.string nm, .int .i64 st, .slice A bs.length c, .slice A2 gs.length c2] 30 (0, 0)) := by
    rw [hW1, Below.heap_alloc _ _ _ (by simp; try omega), Below.heap_alloc _ _ _ (by simp; try omega)]; exact blk_new _ _ _
  have hq4 : W1.heap[w.heap.size + 1]? = some (.cells #[.int .i64 wd] 3 (0, 0)) := by
    have h1 := blk_new (w.alloc (.cells #[.string nm, .int .i64 st, .slice A bs.length c, .slice A2 gs.length c2] 30)) #[.int .i64 wd] 3
    simp only [World.size_alloc] at h1
    rw [hW1, Below.heap_alloc _ _ _ (by simp; try omega)]; exact h1
  have HRD := hd (fun (W : World) (hB : Below w.heap.size w W) => And.intro ((HL.out.below hB (Nat.le_refl _)).mono hB.size) ((HG.out.below hB (Nat.le_refl _)).mono hB.size))
  have HPB := hd (fun p : Bw W1 => hb0.trans (p.below.mono hb0.size))
  have F0 : ∀ p : Bw W1, p.out.cell? ⟨w.heap.size, 0, none⟩ = some (.string nm) := fun p => p.cell (by omega) (by simpa using blk_cell hq 0)
  have F1 : ∀ p : Bw W1, p.out.cell? ⟨w.heap.size, 1, none⟩ = some (.int .i64 st) := fun p => p.cell (by omega) (by simpa using blk_cell hq 1)
  have F2 : ∀ p : Bw W1, p.out.cell? ⟨w.heap.size, 2, none⟩ = some (.slice A bs.length c) := fun p => p.cell (by omega) (by simpa using blk_cell hq 2)
  have F3 : ∀ p : Bw W1, p.out.cell? ⟨w.heap.size, 3, none⟩ = some (.slice A2 gs.length c2) := fun p => p.cell (by omega) (by simpa using blk_cell hq 3)
  have F4 : ∀ p : Bw W1, p.out.cell? ⟨w.heap.size + 1, 0, none⟩ = some (.int .i64 wd) := fun p => p.cell (by omega) (by simpa using blk_cell hq4 0)
  go_enter Tryz.func35, Tryz.ntmps35
  go_wp2_with fail
  rw [← hW1]
  clear hW1 hq hq4 hsz
  refine wp_region_bw_tail 4 (by kernel_rfl) (by kernel_rfl) ?_
  simp only [List.take_succ_cons, List.take_zero, List.drop_succ_cons, List.drop_zero]
  repeat (first | go_big_quiet_step (first | (go_at_call 27; exact Bw.call _ (CR.out _ (HRD.out _ (HPB.out _)).1 (HRD.out _ (HPB.out _)).2)) | (go_at_call 28; exact Bw.pure _ (rng_any _ _ _ _))))
  refine wpQuiet_nil ?_
  rintro ⟨W2, hB2⟩
  change wpList _ _ _ _ _ W2
  have HB2 := hd (hb0.trans ((hB2.alloc hB2.size (Obj.cells #[.int .i64 x1, .int .i64 (rng wd 1 4096)] 32)).mono hb0.size))
  clear F0 F1 F2 F3 F4 hB2 hb0
  go_wp2_with (go_at_call 26; refine (first2 _ _ _ _).mono ?_; rintro e w' ⟨rfl, rfl⟩; rw [HE.out])
  go_returns
  exact ⟨rfl, HB2.out⟩

set_option maxRecDepth 1000000 in
theorem highs_bad (nm : ByteArray) (st : Int) (A A2 : Option Addr) (c c2 : Nat) (bs : List Nat) (gs : List (Int × Int)) (wd E : Int) (w : World) (HL : Hid (Rd w w.heap.size (.slice A bs.length c) bs.length (flc bs))) (HG : Hid (Rd w w.heap.size (.slice A2 gs.length c2) gs.length (spc gs))) (hs : nm.size ≤ maxLen)
    (hE : fst0 [chkRec nm st bs gs, rng wd 1 4096] = E) (h0 : (E != 0) = true) :
    Calls Tryz.prog 13 #[.agg #[.string nm, .int .i64 st, .slice A bs.length c, .slice A2 gs.length c2], .int .i64 wd] w fun e w' => e = .returned (.tuple #[.slice none 0 0, .int .i64 E]) ∧ Below w.heap.size w w' := by
  have HB := hd ((Below.refl w.heap.size w).alloc (Nat.le_refl _) (Obj.cells #[.string nm, .int .i64 st, .slice A bs.length c, .slice A2 gs.length c2] 30))
  have H := hd (waters_bad nm st A A2 c c2 bs gs wd 36 E _ (hd ((HL.out.below HB.out (Nat.le_refl _)).mono HB.out.size)) (hd ((HG.out.below HB.out (Nat.le_refl _)).mono HB.out.size)) hs hE h0)
  clear hE h0 hs
  go_enter Tryz.func13, Tryz.ntmps13
  go_wp2_with fail
  refine H.out.mono ?_
  rintro e w1 ⟨rfl, hb⟩
  have HB1 := hd (HB.out.trans (hb.mono HB.out.size))
  clear hb
  go_wp2
  go_returns
  exact ⟨rfl, HB1.out⟩

end Go.Proofs.YtkgeeooijgcdkaaGreatDoor
