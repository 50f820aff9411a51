/-
  Contract of gauge.CheckRatio. Condition: two integers of 64 bits.
  Contract of the statements' Lowest, at a valid ratio.
  Contract of the statements' CheckRatio. Condition: none but two integers.
  Contract of the statements' IsName. Condition: none but the size of a string.
-/
import Derived.Test.YtjkammgabljmaaaGreatDoorProg
import Derived.Test.YtjkammgabljmaaaGreatDoorMG
import Derived.Deep.RegionHeld3
import Derived.Test.YtjkammgabljmaaaGreatDoorMD
import Derived.BigRegion
import Derived.WalkKit
import Derived.Test.YtjkammgabljmaaaGreatDoorMI
import Derived.Test.YtjkammgabljmaaaGreatDoorME
import Derived.Test.YtjkammgabljmaaaGreatDoorMC
import Derived.Outline

namespace Go.Proofs.YtjkammgabljmaaaGreatDoor
open Go.RowKit
attribute [local go_sem] Oper.semAt_some

def ratF (a b : Int) : Int := fst0 [rng a (-999999999) 999999999, rng b 1 999999999, unl (decide (gcdL [a, b] 2 = 1)) 1]
theorem rat_eq {a b g : Int} (h : gcdL [a, b] 2 < 2000000000 → g = (gcdL [a, b] 2 : Int)) : fst0 [rng a (-999999999) 999999999, rng b 1 999999999, unl (g == 1) 1] = ratF a b := by
  unfold ratF
  by_cases h1 : -999999999 ≤ a ∧ a ≤ 999999999
  · by_cases h2 : 1 ≤ b ∧ b ≤ 999999999
    · have e : gcdL [a, b] 2 ≤ b.natAbs := by
        show Nat.gcd _ b.natAbs ≤ b.natAbs
        exact Nat.gcd_le_right _ (by omega)
      have e2 := h (by omega)
      have e3 : (g == 1) = decide (gcdL [a, b] 2 = 1) := by
        rw [e2]
        by_cases h5 : gcdL [a, b] 2 = 1
        · rw [h5]; rfl
        · simp only [h5, decide_false, beq_eq_false_iff_ne, ne_eq]; omega
      rw [e3]
    · simp [fst0, rng, h1, h2]
  · simp [fst0, rng, h1]

set_option maxRecDepth 1000000 in
set_option maxHeartbeats 4000000 in
theorem checkRatio_any (a b : Int) (w : World) (ha : in64 a) (hb : in64 b) :
    Calls Tryz.prog 15 #[.agg #[.int .i64 a, .int .i64 b]] w fun e w' => e = .returned (.int .i64 (ratF a b)) ∧ Below w.heap.size w w' := by
  have H64 := hd (show ∀ k, k < [a, b].length → in64 ([a, b].getD k 0) from fun k hk => by
    rcases (show k = 0 ∨ k = 1 by simp at hk; omega) with rfl | rfl
    · exact ha
    · exact hb)
  clear ha hb
  go_enter Tryz.func15, Tryz.ntmps15
  go_wp2_with fail
  have hs := hd (World.size_alloc w (.cells #[.int .i64 a, .int .i64 b] 24))
  have HB0 := hd ((Below.refl _ w).alloc (Nat.le_refl _) (.cells #[.int .i64 a, .int .i64 b] 24))
  have hblk := blk_new w #[.int .i64 a, .int .i64 b] 24
  generalize (w.alloc (.cells #[.int .i64 a, .int .i64 b] 24)) = W0 at *
  have hlt : w.heap.size < W0.heap.size := by have := hs.out; omega
  have n0 := blk_cell hblk 0
  have n1 := blk_cell hblk 1
  simp at n0 n1
  have HBK := hd hblk
  clear hblk
  have HCD := hd (comDiv_any (.slice (some ⟨W0.heap.size, 0, none⟩) 2 2) [a, b] (W0.alloc (.cells #[.int .i64 a, .int .i64 b] 3)).drew (show Rd (W0.alloc (.cells #[.int .i64 a, .int .i64 b] 3)).drew (W0.alloc (.cells #[.int .i64 a, .int .i64 b] 3)).drew.heap.size _ 2 _ from Rd.new W0 #[.int .i64 a, .int .i64 b] 3 2 _ rfl (by decide)) (by simp) H64.out)
  go_region_held3 (fun x => x.cell? ⟨w.heap.size, 0, none⟩ = some (.int .i64 a) ∧ x.cell? ⟨w.heap.size, 1, none⟩ = some (.int .i64 b)) (go_keep)
    (first
      | (go_at_call 54; refine (rng_any _ _ _ _).mono ?_; rintro e w' ⟨rfl, rfl⟩)
      | (go_at_call 59; refine HCD.out.mono ?_; rintro e w4 ⟨g, rfl, hg, hb4⟩; have hb04 : Below W0.heap.size W0 w4 := (((Below.refl _ W0).alloc (Nat.le_refl _) (.cells #[.int .i64 a, .int .i64 b] 3)).drew).trans (hb4.mono (by show W0.heap.size ≤ (W0.heap.push _).size; simp)); have hbk4 := (hb04.block _ hlt).trans HBK.out; have N0 := blk_cell hbk4 0; have N1 := blk_cell hbk4 1; simp at N0 N1; have HG := hd (And.intro hg hb04); have hs4 := hb04.size; have hne : w.heap.size ≠ w4.heap.size := (by omega); clear hg hb4 hb04 hbk4 n0 n1)
      | (go_at_call 58; refine (unl_any _ _ _).mono ?_; rintro e w' ⟨rfl, rfl⟩)
      | (go_at_call 53; refine (first3 _ _ _ _ _).mono ?_; rintro e w' ⟨rfl, rfl⟩))
  all_goals
    have HE := hd (rat_eq (show gcdL [a, b] 2 < 2000000000 → g = (gcdL [a, b] 2 : Int) from HG.out.1))
    rw [HE.out]
    have HB := hd ((HB0.out.trans (HG.out.2.mono (Nat.le_of_lt hlt))).alloc (by omega) (.cells #[.int .i64 (rng a (-999999999) 999999999), .int .i64 (rng b 1 999999999), .int .i64 (unl (g == 1) 1)] 27))
    go_wp2
    go_returns
    exact ⟨rfl, HB.out⟩
end Go.Proofs.YtjkammgabljmaaaGreatDoor

namespace Go.Proofs.YtjkammgabljmaaaGreatDoor
open Go.RowKit

set_option maxRecDepth 1000000 in
set_option maxHeartbeats 4000000 in
theorem lowest_ok (a b : Int) (w : World) (ha : -999999999 ≤ a ∧ a ≤ 999999999) (hb : 1 ≤ b ∧ b ≤ 999999999) :
    Calls Tryz.prog 60 #[.int .i64 a, .int .i64 b] w fun e w' => e = .returned (.agg #[.int .i64 (Int.tdiv a (gcdL [a, b] 2 : Int)), .int .i64 (Int.tdiv b (gcdL [a, b] 2 : Int))]) ∧ Below w.heap.size w w' := by
  have HG := hd (show gcdL [a, b] 2 = Nat.gcd a.natAbs b.natAbs by simp [gcdL])
  obtain ⟨ha1, ha2⟩ := ha
  obtain ⟨hb1, hb2⟩ := hb
  have hb0 : ¬ b < 0 := by omega
  have HB0 := hd ((Below.refl _ w).alloc (Nat.le_refl _) (.cells #[.int .i64 0, .int .i64 0] 24))
  have HBK := hd (blk_new w #[.int .i64 0, .int .i64 0] 24)
  go_enter Tryz.func60, Tryz.ntmps60
  go_wp2
  go_loopw [5, 6] (fun x y wr => ∃ v u : Int, x = .int .i64 v ∧ y = .int .i64 u ∧ Hid (Nat.gcd v.natAbs u.natAbs = Nat.gcd a.natAbs b.natAbs ∧ 0 ≤ v ∧ v ≤ 999999999 ∧ 0 ≤ u ∧ u ≤ 999999999) ∧ Hid (wr.heap[w.heap.size]? = some (.cells #[.int .i64 0, .int .i64 0] 24 (0, 0)) ∧ Below w.heap.size w wr)) (fun _ y _ => (intOf y).natAbs)
  case atStart => exact ⟨_, _, rfl, rfl, hd ⟨by rw [show (max a (-a)).natAbs = a.natAbs by omega], by omega, by omega, by omega, by omega⟩, hd ⟨HBK.out, HB0.out⟩⟩
  case round =>
    obtain ⟨v, u, rfl, rfl, HI, HW⟩ := hrel
    obtain ⟨-, i1, i2, i3, i4⟩ := HI.out
    by_cases hu : u = 0
    · subst hu
      have hv : v = (gcdL [a, b] 2 : Int) := by rw [HG.out]; have := HI.out.1; simp at this; omega
      have hg0 : ¬ v = 0 := by
        rw [hv, HG.out]
        have := Nat.gcd_pos_of_pos_right a.natAbs (show 0 < b.natAbs by omega)
        omega
      have HV := hd hv
      clear hv
      have f0 := blk_frozen HW.out.1 0
      have f1 := blk_frozen HW.out.1 1
      have n0 := blk_cell HW.out.1 0
      have n1 := blk_cell HW.out.1 1
      simp at n0 n1
      go_wp2_with fail
      go_big_region
      go_wp2
      have d5 : (((wr.setCell ⟨w.heap.size, 0, none⟩ (.int .i64 (Int.tdiv a v))).setCell ⟨w.heap.size, 1, none⟩ (.int .i64 (b / v))).drew).heap[w.heap.size]? = some (.cells #[.int .i64 (Int.tdiv a v), .int .i64 (b / v)] 24 (0, 0)) := by
        have h := blk_set (blk_set HW.out.1 0 (.int .i64 (Int.tdiv a v))) 1 (.int .i64 (b / v))
        simp at h
        exact h
      have HBE := hd (show Below w.heap.size w (((wr.setCell ⟨w.heap.size, 0, none⟩ (.int .i64 (Int.tdiv a v))).setCell ⟨w.heap.size, 1, none⟩ (.int .i64 (b / v))).drew) from ((HW.out.2.setCell (p := ⟨w.heap.size, 0, none⟩) (Nat.le_refl w.heap.size) (.int .i64 (Int.tdiv a v))).setCell (p := ⟨w.heap.size, 1, none⟩) (Nat.le_refl w.heap.size) (.int .i64 (b / v))).drew)
      change bodyPost _ _ _ _ _ (((wr.setCell ⟨w.heap.size, 0, none⟩ (.int .i64 (Int.tdiv a v))).setCell ⟨w.heap.size, 1, none⟩ (.int .i64 (b / v))).drew)
      generalize (((wr.setCell ⟨w.heap.size, 0, none⟩ (.int .i64 (Int.tdiv a v))).setCell ⟨w.heap.size, 1, none⟩ (.int .i64 (b / v))).drew) = WE at *
      have u0 := blk_cell d5 0
      have u1 := blk_cell d5 1
      simp at u0 u1
      refine bodyPost_ret (v := .agg #[.int .i64 (Int.tdiv a v), .int .i64 (b / v)]) (by simp [results, Tryz.results60, go_sem, u0, u1]) rfl ⟨?_, HBE.out⟩
      rw [← HV.out, Int.tdiv_eq_ediv_of_nonneg (show 0 ≤ b by omega)]
    · have t1 := Int.emod_nonneg v hu
      have t2 := Int.emod_lt_of_pos v (show 0 < u by omega)
      go_wp2_with fail
      go_quiet (fail)
      go_wp2
      refine ⟨⟨u, v % u, rfl, rfl, hd ⟨by rw [← Int.tmod_eq_emod_of_nonneg i1, tmod_gcd]; exact HI.out.1, by omega, by omega, by omega, by omega⟩, hd ⟨HW.out.1, below_drewN HW.out.2 _⟩⟩, ?_⟩
      show (v % u).natAbs < u.natAbs
      omega
end Go.Proofs.YtjkammgabljmaaaGreatDoor

namespace Go.Proofs.YtjkammgabljmaaaGreatDoor
open Go.RowKit

theorem eqGRat (a b c d : Int) (x y : Operand) (w : World) : (eqGuard .neq 24 x y (.agg #[.int .i64 a, .int .i64 b]) (.agg #[.int .i64 c, .int .i64 d])).run Tryz.prog w = .ok () w := by kernel_rfl
attribute [local go_sem] Oper.semAt_some eqGRat
theorem div_same {b g : Int} (hb : 1 ≤ b) (hg : 0 ≤ g) (h : Int.tdiv b g = b) : g = 1 := by
  rw [Int.tdiv_eq_ediv_of_nonneg (by omega)] at h
  by_cases h0 : g = 0
  · subst h0; simp at h; omega
  · by_cases h1 : g = 1
    · exact h1
    · have := Int.ediv_lt_self_of_pos_of_ne_one (show 0 < b by omega) h1
      omega

set_option maxRecDepth 1000000 in
set_option maxHeartbeats 4000000 in
theorem refCheckRatio_any (a b : Int) (w : World) :
    Calls Tryz.prog 16 #[.agg #[.int .i64 a, .int .i64 b]] w fun e w' => e = .returned (.int .i64 (ratF a b)) ∧ Below w.heap.size w w' := by
  go_enter Tryz.func16, Tryz.ntmps16
  go_wp2
  have hs := hd (World.size_alloc w (.cells #[.int .i64 a, .int .i64 b] 24))
  have HB0 := hd ((Below.refl _ w).alloc (Nat.le_refl _) (.cells #[.int .i64 a, .int .i64 b] 24))
  have hblk := blk_new w #[.int .i64 a, .int .i64 b] 24
  generalize (w.alloc (.cells #[.int .i64 a, .int .i64 b] 24)) = W0 at *
  have hlt : w.heap.size < W0.heap.size := by have := hs.out; omega
  have F1 : ∀ p : Bw W0, p.out.cell? ⟨w.heap.size, 0, none⟩ = some (.int .i64 a) := fun p => p.cell hlt (by simpa using blk_cell hblk 0)
  have F2 : ∀ p : Bw W0, p.out.cell? ⟨w.heap.size, 1, none⟩ = some (.int .i64 b) := fun p => p.cell hlt (by simpa using blk_cell hblk 1)
  have HBK := hd hblk
  clear hblk
  refine wp_region_bw_tail 6 (by kernel_rfl) (by kernel_rfl) ?_
  simp only [List.take_succ_cons, List.take_zero, List.drop_succ_cons, List.drop_zero]
  repeat (first | go_big_quiet_step (first | (go_at_call 10; exact Bw.call _ (refRange_any _ _ _ _))))
  refine wpQuiet_nil ?_
  rintro ⟨W2, hB2⟩
  change wpList _ _ _ _ _ W2
  have hb2 := hd (HB0.out.trans (hB2.mono (Nat.le_of_lt hlt)))
  have hk2 := hd ((hB2.block _ hlt).trans HBK.out)
  clear F1 F2 hB2
  go_wp2_with fail
  refine (refFirst_any _ [rng a (-999999999) 999999999, rng b 1 999999999] _ (Rd.new W2 #[.int .i64 (rng a (-999999999) 999999999), .int .i64 (rng b 1 999999999)] 3 2 _ rfl (by decide))).mono ?_
  rintro e w' ⟨rfl, rfl⟩
  have HB3 := hd (hb2.out.alloc hb2.out.size (.cells #[.int .i64 (rng a (-999999999) 999999999), .int .i64 (rng b 1 999999999)] 3))
  have hk3 := (Below.heap_alloc W2 (.cells #[.int .i64 (rng a (-999999999) 999999999), .int .i64 (rng b 1 999999999)] 3) w.heap.size (blk_lt hk2.out)).trans hk2.out
  have hlt3 := blk_lt hk3
  generalize (W2.alloc (.cells #[.int .i64 (rng a (-999999999) 999999999), .int .i64 (rng b 1 999999999)] 3)) = W3 at *
  by_cases hv : (-999999999 ≤ a ∧ a ≤ 999999999) ∧ (1 ≤ b ∧ b ≤ 999999999)
  · rw [show fst0 [rng a (-999999999) 999999999, rng b 1 999999999] = 0 by simp [fst0, rng, hv.1, hv.2]]
    have hR : ratF a b = unl (decide (gcdL [a, b] 2 = 1)) 1 := by
      unfold ratF
      simp only [fst0, rng, hv.1, hv.2, and_self, if_true]
      split
      · omega
      · rfl
    have F1 : ∀ p : Bw W3, p.out.cell? ⟨w.heap.size, 0, none⟩ = some (.int .i64 a) := fun p => p.cell hlt3 (by simpa using blk_cell hk3 0)
    have F2 : ∀ p : Bw W3, p.out.cell? ⟨w.heap.size, 1, none⟩ = some (.int .i64 b) := fun p => p.cell hlt3 (by simpa using blk_cell hk3 1)
    have HL := hd (fun W => lowest_ok a b W hv.1 hv.2)
    have HV := hd hv
    clear hk3 hv
    by_cases hg : gcdL [a, b] 2 = 1
    · have HR := hd (show ratF a b = 0 by rw [hR, hg]; rfl)
      have HLO := hd (show ∀ W, Calls Tryz.prog 60 #[.int .i64 a, .int .i64 b] W fun e w' => e = .returned (.agg #[.int .i64 a, .int .i64 b]) ∧ Below W.heap.size W w' from fun W => (HL.out W).mono (by
        rintro e w' ⟨rfl, h⟩
        rw [hg]
        simpa using h))
      clear hR hg HL
      go_wp2_with fail
      refine wp_region_bw (by kernel_rfl) (by kernel_rfl) ?_
      repeat (first | go_big_quiet_step (first | (go_at_call 60; exact Bw.call _ (HLO.out _))))
      refine wpQuiet_nil ?_
      rintro ⟨W4, hB4⟩
      change Exit.then _ _ _ _ W4
      have HB4 := hd (HB3.out.trans (hB4.mono (by have := HB3.out.size; omega)))
      clear F1 F2 hB4
      go_wp2
      go_returns
      exact ⟨(by rw [HR.out]; first | done | rfl), HB4.out⟩
    · obtain ⟨c, hc⟩ : ∃ c, c = Int.tdiv a (gcdL [a, b] 2 : Int) := ⟨_, rfl⟩
      obtain ⟨d, hd'⟩ : ∃ d, d = Int.tdiv b (gcdL [a, b] 2 : Int) := ⟨_, rfl⟩
      have hbd : ¬ b = d := fun e => hg (by have := div_same HV.out.2.1 (by omega) (hd'.symm.trans e.symm); omega)
      have HR := hd (show ratF a b = 1 by rw [hR]; simp [unl, hg])
      have HLO := hd (show ∀ W, Calls Tryz.prog 60 #[.int .i64 a, .int .i64 b] W fun e w' => e = .returned (.agg #[.int .i64 c, .int .i64 d]) ∧ Below W.heap.size W w' from fun W => by rw [hc, hd']; exact HL.out W)
      clear hR hg HL hc hd'
      go_wp2_with fail
      refine wp_region_bw (by kernel_rfl) (by kernel_rfl) ?_
      repeat (first | go_big_quiet_step (first | (go_at_call 60; exact Bw.call _ (HLO.out _))))
      refine wpQuiet_nil ?_
      rintro ⟨W4, hB4⟩
      change Exit.then _ _ _ _ W4
      have HB4 := hd (HB3.out.trans (hB4.mono (by have := HB3.out.size; omega)))
      clear F1 F2 hB4
      go_wp2
      go_returns
      exact ⟨(by rw [HR.out]; first | done | rfl), HB4.out⟩
  · have e : fst0 [rng a (-999999999) 999999999, rng b 1 999999999] = 3 := by
      by_cases h1 : -999999999 ≤ a ∧ a ≤ 999999999
      · have h2 : ¬(1 ≤ b ∧ b ≤ 999999999) := fun h => hv ⟨h1, h⟩
        simp [fst0, rng, h1, h2]
      · simp [fst0, rng, h1]
    have HR := hd (show ratF a b = 3 by
      unfold ratF
      by_cases h1 : -999999999 ≤ a ∧ a ≤ 999999999
      · have h2 : ¬(1 ≤ b ∧ b ≤ 999999999) := fun h => hv ⟨h1, h⟩
        simp [fst0, rng, h1, h2]
      · simp [fst0, rng, h1])
    rw [e]
    clear e hv hk3
    go_wp2
    go_returns
    exact ⟨(by rw [HR.out]; first | done | rfl), HB3.out⟩
end Go.Proofs.YtjkammgabljmaaaGreatDoor

namespace Go.Proofs.YtjkammgabljmaaaGreatDoor
open Go.RowKit
attribute [local go_sem] Oper.semAt_some

theorem nameAt_yes {k : Nat} {c : Int} (h : (97 ≤ c ∧ c ≤ 122) ∨ (65 ≤ c ∧ c ≤ 90) ∨ (0 < k ∧ ((48 ≤ c ∧ c ≤ 57) ∨ c = 95))) : nameAt k c = true := by
  unfold nameAt isLet isDig
  simp only [Bool.or_eq_true, Bool.and_eq_true, decide_eq_true_eq]
  omega
theorem nameAt_no {k : Nat} {c : Int} (h : ¬((97 ≤ c ∧ c ≤ 122) ∨ (65 ≤ c ∧ c ≤ 90) ∨ (0 < k ∧ ((48 ≤ c ∧ c ≤ 57) ∨ c = 95)))) : nameAt k c = false := by
  rw [Bool.eq_false_iff]
  unfold nameAt isLet isDig
  simp only [ne_eq, Bool.or_eq_true, Bool.and_eq_true, decide_eq_true_eq]
  omega
set_option maxRecDepth 1000000 in
set_option maxHeartbeats 4000000 in
theorem refIsName_any (s : ByteArray) (w : World) (hs : s.size ≤ maxLen) : Calls Tryz.prog 13 #[.string s] w fun e w' => e = .returned (.bool (nameB s)) ∧ Below w.heap.size w w' := by
  unfold maxLen at hs
  by_cases h0 : s.size = 0
  · have HN := hd (nameB_no s (.inl h0))
    go_enter Tryz.func13, Tryz.ntmps13
    go_wp2
    go_returns
    exact ⟨(by rw [HN.out]; first | done | rfl), Below.refl _ _⟩
  · have h0' : ((s.size : Int) == 0) = false := by rw [beq_eq_false_iff_ne]; omega
    have hp : 0 < s.size := by omega
    clear h0
    by_cases h1 : 24 < s.size
    · have HN := hd (nameB_no s (.inr h1))
      have h1' : ¬ (s.size : Int) ≤ 24 := by omega
      go_enter Tryz.func13, Tryz.ntmps13
      go_wp2
      go_returns
      exact ⟨(by rw [HN.out]; first | done | rfl), Below.refl _ _⟩
    · have h1' : (s.size : Int) ≤ 24 := by omega
      go_enter Tryz.func13, Tryz.ntmps13
      go_wp2
      go_loopw [3] (fun i wr => ∃ k : Nat, k ≤ s.size ∧ i = .int .i64 k ∧ wr = w ∧ Hid (∀ i, ∀ hi : i < s.size, i < k → nameAt i ((s[i]'hi).toNat : Int) = true)) (fun i _ => s.size - (intOf i).toNat)
      case atStart => exact ⟨0, Nat.zero_le _, rfl, rfl, hd (fun i hi h => absurd h (by omega))⟩
      case round =>
        obtain ⟨k, hk, rfl, rfl, HP⟩ := hrel
        by_cases hlt : k < s.size
        · have hki : (k : Int) < (s.size : Int) := by omega
          obtain ⟨c, hc⟩ : ∃ c : Int, ((s[k]'hlt).toNat : Int) = c := ⟨_, rfl⟩
          have hc0 : 0 ≤ c := by omega
          have hc1 : c < 256 := by have := (s[k]'hlt).toNat_lt; omega
          have HC := hd hc
          have hstep : nameAt k c = true → Hid (∀ i, ∀ hi : i < s.size, i < k + 1 → nameAt i ((s[i]'hi).toNat : Int) = true) := fun h i hi hlt => by
            by_cases e : i = k
            · subst e; rw [hc]; exact h
            · exact HP.out i hi (by omega)
          have hstop : nameAt k c = false → nameB s = false := fun h => nameB_at s k hlt (by rw [hc]; exact h)
          by_cases r1 : c < 48
          · have b1 : (c != 95) = true := by rw [bne_iff_ne]; omega
            by_cases hk0 : k = 0
            · subst hk0
              have HN := hd (hstop (nameAt_no (by omega)))
              clear hstep hstop HP
              go_wp2
              go_returns
              exact ⟨(by rw [HN.out]; first | done | rfl), Below.refl _ _⟩
            · have b0 : ((k : Int) == 0) = false := by rw [beq_eq_false_iff_ne]; omega
              have HN := hd (hstop (nameAt_no (by omega)))
              clear hstep hstop HP
              go_wp2
              go_returns
              exact ⟨(by rw [HN.out]; first | done | rfl), Below.refl _ _⟩
          · by_cases r2 : c ≤ 57
            · have b1 : (c != 95) = true := by rw [bne_iff_ne]; omega
              by_cases hk0 : k = 0
              · subst hk0
                have HN := hd (hstop (nameAt_no (by omega)))
                clear hstep hstop HP
                go_wp2
                go_returns
                exact ⟨(by rw [HN.out]; first | done | rfl), Below.refl _ _⟩
              · have b0 : ((k : Int) == 0) = false := by rw [beq_eq_false_iff_ne]; omega
                have HY := hstep (nameAt_yes (by omega))
                clear hstep hstop HP
                go_wp2
                go_roundw
                case rel => exact ⟨k + 1, by omega, by go_num, trivial, HY⟩
                case measure => simp [intOf]; omega
            · by_cases r3 : c < 65
              · have b1 : (c != 95) = true := by rw [bne_iff_ne]; omega
                by_cases hk0 : k = 0
                · subst hk0
                  have HN := hd (hstop (nameAt_no (by omega)))
                  clear hstep hstop HP
                  go_wp2
                  go_returns
                  exact ⟨(by rw [HN.out]; first | done | rfl), Below.refl _ _⟩
                · have b0 : ((k : Int) == 0) = false := by rw [beq_eq_false_iff_ne]; omega
                  have HN := hd (hstop (nameAt_no (by omega)))
                  clear hstep hstop HP
                  go_wp2
                  go_returns
                  exact ⟨(by rw [HN.out]; first | done | rfl), Below.refl _ _⟩
              · by_cases r4 : c ≤ 90
                · have HY := hstep (nameAt_yes (by omega))
                  clear hstep hstop HP
                  go_wp2
                  go_roundw
                  case rel => exact ⟨k + 1, by omega, by go_num, trivial, HY⟩
                  case measure => simp [intOf]; omega
                · by_cases r5 : c < 97
                  · by_cases r6 : c = 95
                    · subst r6
                      by_cases hk0 : k = 0
                      · subst hk0
                        have HN := hd (hstop (nameAt_no (by omega)))
                        clear hstep hstop HP
                        go_wp2
                        go_returns
                        exact ⟨(by rw [HN.out]; first | done | rfl), Below.refl _ _⟩
                      · have b0 : ((k : Int) == 0) = false := by rw [beq_eq_false_iff_ne]; omega
                        have HY := hstep (nameAt_yes (by omega))
                        clear hstep hstop HP
                        go_wp2
                        go_roundw
                        case rel => exact ⟨k + 1, by omega, by go_num, trivial, HY⟩
                        case measure => simp [intOf]; omega
                    · have b1 : (c != 95) = true := by rw [bne_iff_ne]; exact r6
                      by_cases hk0 : k = 0
                      · subst hk0
                        have HN := hd (hstop (nameAt_no (by omega)))
                        clear hstep hstop HP
                        go_wp2
                        go_returns
                        exact ⟨(by rw [HN.out]; first | done | rfl), Below.refl _ _⟩
                      · have b0 : ((k : Int) == 0) = false := by rw [beq_eq_false_iff_ne]; omega
                        have HN := hd (hstop (nameAt_no (by omega)))
                        clear hstep hstop HP
                        go_wp2
                        go_returns
                        exact ⟨(by rw [HN.out]; first | done | rfl), Below.refl _ _⟩
                  · by_cases r7 : c ≤ 122
                    · have HY := hstep (nameAt_yes (by omega))
                      clear hstep hstop HP
                      go_wp2
                      go_roundw
                      case rel => exact ⟨k + 1, by omega, by go_num, trivial, HY⟩
                      case measure => simp [intOf]; omega
                    · have b1 : (c != 95) = true := by rw [bne_iff_ne]; omega
                      by_cases hk0 : k = 0
                      · subst hk0
                        have HN := hd (hstop (nameAt_no (by omega)))
                        clear hstep hstop HP
                        go_wp2
                        go_returns
                        exact ⟨(by rw [HN.out]; first | done | rfl), Below.refl _ _⟩
                      · have b0 : ((k : Int) == 0) = false := by rw [beq_eq_false_iff_ne]; omega
                        have HN := hd (hstop (nameAt_no (by omega)))
                        clear hstep hstop HP
                        go_wp2
                        go_returns
                        exact ⟨(by rw [HN.out]; first | done | rfl), Below.refl _ _⟩
        · obtain rfl : k = s.size := by omega
          have HN := hd (nameB_yes s (by omega) (by omega) (fun i hi => HP.out i hi hi))
          clear HP
          go_wp2
          go_returns
          exact ⟨(by rw [HN.out]; first | done | rfl), Below.refl _ _⟩
end Go.Proofs.YtjkammgabljmaaaGreatDoor
