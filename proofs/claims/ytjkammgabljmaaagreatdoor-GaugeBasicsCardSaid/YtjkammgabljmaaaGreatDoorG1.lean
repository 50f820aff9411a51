/-
  The walk of GaugeBasics, given the walk of the examples. Conditions: integers of 64 bits; the size of a string.
-/
import Derived.Test.YtjkammgabljmaaaGreatDoorProg
import Derived.Test.YtjkammgabljmaaaGreatDoorMH
import Derived.Test.YtjkammgabljmaaaGreatDoorMG
import Derived.Test.YtjkammgabljmaaaGreatDoorMI
namespace Go.Proofs.YtjkammgabljmaaaGreatDoor
open Go.RowKit
attribute [local go_sem] Oper.semAt_some

/-- The document's examples come out as they must. -/
def Awake : Prop := ∀ w : World, Calls Tryz.prog 7 #[] w fun e w' => e = .returned (.bool true) ∧ Below w.heap.size w w'

set_option maxRecDepth 1000000 in
set_option maxHeartbeats 4000000 in
theorem basics_long (HA : Hid Awake) (s : ByteArray) (k n a b : Int) (w : World) (hs : s.size ≤ maxLen) (hl : 60 < s.size) :
    Calls Tryz.prog 3 #[.string s, .agg #[.int .i64 k, .int .i64 n], .agg #[.int .i64 a, .int .i64 b]] w fun e w' => e = .returned (.bool true) ∧ Below w.heap.size w w' := by
  unfold maxLen at hs
  have hl' : ¬ (s.size : Int) ≤ 60 := by omega
  go_enter Tryz.func3, Tryz.ntmps3
  go_wp2_with fail
  have HB := hd (((Below.refl _ w).alloc (Nat.le_refl _) (.cells #[.int .i64 k, .int .i64 n] 22)).alloc (by simp) (.cells #[.int .i64 a, .int .i64 b] 24))
  generalize ((w.alloc (.cells #[.int .i64 k, .int .i64 n] 22)).alloc (.cells #[.int .i64 a, .int .i64 b] 24)) = W0 at *
  refine (HA.out _).mono ?_
  rintro e w1 ⟨rfl, hb⟩
  replace HB := hd (HB.out.trans (hb.mono (HB.out.size)))
  clear hb
  go_wp2_with fail
  refine (HA.out _).mono ?_
  rintro e w2 ⟨rfl, hb⟩
  replace HB := hd (HB.out.trans (hb.mono (HB.out.size)))
  clear hb
  go_wp2_with fail
  go_returns
  exact ⟨rfl, HB.out⟩

theorem sameF_refl (l : List Int) : sameF (fun x y : Int => x == y) 0 l l = true := sameF_yes (fun x y : Int => x == y) 0 l l rfl (fun j _ => by simp)

set_option maxRecDepth 1000000 in
set_option maxHeartbeats 8000000 in
theorem basics_ok (HA : Hid Awake) (s : ByteArray) (k : Int) (n : Nat) (a b : Int) (w : World) (hs : s.size ≤ maxLen) (hl : ¬ 60 < s.size) (hk : 1 ≤ k ∧ k ≤ 2147483646) (hn : n ≤ 256) (ha : in64 a) (hb : in64 b) :
    Calls Tryz.prog 3 #[.string s, .agg #[.int .i64 k, .int .i64 n], .agg #[.int .i64 a, .int .i64 b]] w fun e w' => e = .returned (.bool true) ∧ Below w.heap.size w w' := by
  have HS := hd hs
  have hl' : (s.size : Int) ≤ 60 := by omega
  unfold maxLen at hs
  have HR := hd (show ∀ W : World, Calls Tryz.prog 15 #[.agg #[.int .i64 a, .int .i64 b]] W fun e w' => e = .returned (.int .i64 (ratF a b)) ∧ Below W.heap.size W w' from fun W => checkRatio_any a b W ha hb)
  clear ha hb
  have HD := hd (fun W : World => draw_ok k n W hk hn)
  have HD2 := hd (fun W : World => refDraw_ok k n W hk hn)
  have E1 : rng k 1 2147483646 = 0 := by simp [rng, hk]
  have E2 : rng (n : Int) 0 256 = 0 := by unfold rng; rw [if_pos]; omega
  have H1 := hd E1
  have H2 := hd E2
  have HLN := hd (show (drawL k n).length = n from (drS_ok k n (by omega) (n - 1)).1)
  clear E1 E2 hk hn
  go_enter Tryz.func3, Tryz.ntmps3
  go_wp2_with fail
  have hs0 := World.size_alloc w (.cells #[.int .i64 k, .int .i64 n] 22)
  have hb0 := blk_new w #[.int .i64 k, .int .i64 n] 22
  have HB := hd (((Below.refl _ w).alloc (Nat.le_refl _) (.cells #[.int .i64 k, .int .i64 n] 22)))
  generalize (w.alloc (.cells #[.int .i64 k, .int .i64 n] 22)) = W0 at *
  have hs1 := World.size_alloc W0 (.cells #[.int .i64 a, .int .i64 b] 24)
  have hb1 := blk_new W0 #[.int .i64 a, .int .i64 b] 24
  rw [hs0] at hb1
  have hb0' := (Below.heap_alloc W0 (.cells #[.int .i64 a, .int .i64 b] 24) w.heap.size (by omega)).trans hb0
  have HB1 := hd (HB.out.alloc (by omega) (.cells #[.int .i64 a, .int .i64 b] 24))
  clear HB hb0
  generalize (W0.alloc (.cells #[.int .i64 a, .int .i64 b] 24)) = W1 at *
  have K0 := hd hb0'
  have K1 := hd hb1
  clear hb0' hb1 hs0 hs1
  refine (HA.out _).mono ?_
  rintro e w1 ⟨rfl, hb⟩
  have hk0 := (hb.block _ (blk_lt K0.out)).trans K0.out
  have hk1 := (hb.block _ (blk_lt K1.out)).trans K1.out
  have HB := hd (HB1.out.trans (hb.mono HB1.out.size))
  clear hb HB1 K0 K1
  have c0 := blk_cell hk0 0
  have c1 := blk_cell hk0 1
  simp at c0 c1
  go_wp2_with fail
  refine (HD.out _).mono ?_
  rintro e w2 ⟨v, rfl, hv, hb⟩
  have K0 := hd ((hb.block _ (blk_lt hk0)).trans hk0)
  have K1 := hd ((hb.block _ (blk_lt hk1)).trans hk1)
  replace HB := hd (HB.out.trans (hb.mono HB.out.size))
  have RV := hd (rd_of_own hv)
  clear hb hv c0 c1 hk0 hk1
  have hlt := blk_lt K0.out
  have F1 : ∀ p : Bw w2, p.out.cell? ⟨w.heap.size, 0, none⟩ = some (.int .i64 k) := fun p => p.cell hlt (by simpa using blk_cell K0.out 0)
  have F2 : ∀ p : Bw w2, p.out.cell? ⟨w.heap.size, 1, none⟩ = some (.int .i64 n) := fun p => p.cell hlt (by simpa using blk_cell K0.out 1)
  go_wp2_with fail
  refine wp_region_bw_tail 6 (by kernel_rfl) (by kernel_rfl) ?_
  simp only [List.take_succ_cons, List.take_zero, List.drop_succ_cons, List.drop_zero]
  repeat (first | go_big_quiet_step (first | (go_at_call 10; exact Bw.call _ (refRange_any _ _ _ _))))
  refine wpQuiet_nil ?_
  rintro ⟨w3, hb⟩
  change wpList _ _ _ _ _ w3
  have hk0 := (hb.block _ (blk_lt K0.out)).trans K0.out
  have hk1 := (hb.block _ (blk_lt K1.out)).trans K1.out
  replace RV := hd (RV.out.below hb (Nat.le_refl _))
  replace HB := hd (HB.out.trans (hb.mono HB.out.size))
  have hsz := hb.size
  clear F1 F2 hb K0 K1
  rw [H1.out, H2.out]
  go_wp2_with fail
  refine (lawFirst_any _ [0, 0] _ (Rd.new w3 #[.int .i64 0, .int .i64 0] 3 2 _ rfl (by decide))).mono ?_
  rintro e w' ⟨rfl, rfl⟩
  rw [show fst0 [0, 0] = 0 from rfl]
  have hk0' := (Below.heap_alloc w3 (.cells #[.int .i64 0, .int .i64 0] 3) _ (blk_lt hk0)).trans hk0
  have hk1' := (Below.heap_alloc w3 (.cells #[.int .i64 0, .int .i64 0] 3) _ (blk_lt hk1)).trans hk1
  have hb := (Below.refl w3.heap.size w3).alloc (Nat.le_refl _) (.cells #[.int .i64 0, .int .i64 0] 3)
  replace RV := hd ((RV.out.mono hsz).below hb (Nat.le_refl _))
  replace HB := hd (HB.out.trans (hb.mono HB.out.size))
  have hsz2 := hb.size
  generalize (w3.alloc (.cells #[.int .i64 0, .int .i64 0] 3)) = w4 at *
  clear hb hk0 hk1
  have c0 := blk_cell hk0' 0
  have c1 := blk_cell hk0' 1
  simp at c0 c1
  go_wp2_with fail
  refine (HD2.out _).mono ?_
  rintro e w5 ⟨v2, rfl, hv, hb⟩
  have K1 := hd ((hb.block _ (blk_lt hk1')).trans hk1')
  replace HB := hd (HB.out.trans (hb.mono HB.out.size))
  have R1 := hd (show Rd w5 w5.heap.size v (drawL k n).length ((drawL k n).map (Value.int .i64)) by rw [HLN.out]; exact ((RV.out.mono hsz2).below hb (Nat.le_refl _)).mono hb.size)
  have R2 := hd (show Rd w5 w5.heap.size v2 (drawL k n).length ((drawL k n).map (Value.int .i64)) by rw [HLN.out]; exact rd_of_own hv)
  clear hb hv c0 c1 hk0' hk1' RV hsz hsz2
  go_wp2_with fail

  have hlt := blk_lt K1.out
  have F1 : ∀ p : Bw w5, p.out.cell? ⟨w.heap.size + 1, 0, none⟩ = some (.int .i64 a) := fun p => p.cell hlt (by simpa using blk_cell K1.out 0)
  have F2 : ∀ p : Bw w5, p.out.cell? ⟨w.heap.size + 1, 1, none⟩ = some (.int .i64 b) := fun p => p.cell hlt (by simpa using blk_cell K1.out 1)
  have HQ := hd (fun W : World => refCheckRatio_any a b W)
  have HI := hd (fun p : Bw w5 => Bw.call p ((sameInts_any v v2 (drawL k n) (drawL k n) p.out ((R1.out.below p.below (Nat.le_refl _)).mono p.below.size) ((R2.out.below p.below (Nat.le_refl _)).mono p.below.size)).mono (fun e w' h => ⟨h.1.trans (by rw [sameF_refl]), h.2⟩)))
  obtain ⟨R, hR⟩ : ∃ R, R = ratF a b := ⟨_, rfl⟩
  rw [← hR] at HR HQ
  clear hR R1 R2
  cases hN : nameB s
  all_goals
    have HN1 := hd (fun W : World => isName_any s W HS.out)
    have HN2 := hd (fun W : World => refIsName_any s W HS.out)
    rw [hN] at HN1 HN2
    clear hN
    refine wp_region_bw (by kernel_rfl) (by kernel_rfl) ?_
    repeat (first | go_big_quiet_step (first
      | (go_at_call 12; exact Bw.call _ (HN1.out _))
      | (go_at_call 13; exact Bw.call _ (HN2.out _))
      | (go_at_call 14; exact HI.out _)
      | (go_at_call 15; exact Bw.call _ (HR.out _))
      | (go_at_call 16; exact Bw.call _ (HQ.out _))))
    refine wpQuiet_nil ?_
    rintro ⟨w9, hb⟩
    change Exit.then _ _ _ _ w9
    replace HB := hd (HB.out.trans (hb.mono HB.out.size))
    clear F1 F2 hb
    go_wp2
    go_returns
    exact ⟨rfl, HB.out⟩
set_option maxRecDepth 1000000 in
set_option maxHeartbeats 8000000 in
theorem basics_bad (HA : Hid Awake) (s : ByteArray) (k : Int) (n a b x : Int) (w : World) (hs : s.size ≤ maxLen) (hl : ¬ 60 < s.size) (hx : fst0 [rng k 1 2147483646, rng n 0 256] = x) (h0 : ¬ x = 0) (ha : in64 a) (hb : in64 b) :
    Calls Tryz.prog 3 #[.string s, .agg #[.int .i64 k, .int .i64 n], .agg #[.int .i64 a, .int .i64 b]] w fun e w' => e = .returned (.bool true) ∧ Below w.heap.size w w' := by
  have HS := hd hs
  have hl' : (s.size : Int) ≤ 60 := by omega
  unfold maxLen at hs
  have HR := hd (show ∀ W : World, Calls Tryz.prog 15 #[.agg #[.int .i64 a, .int .i64 b]] W fun e w' => e = .returned (.int .i64 (ratF a b)) ∧ Below W.heap.size W w' from fun W => checkRatio_any a b W ha hb)
  clear ha hb
  have HX := hd hx
  have HD := hd (fun W : World => draw_bad k n x W hx h0)
  have hx0 : (x == 0) = false := by rw [beq_eq_false_iff_ne]; exact h0
  clear hx h0
  go_enter Tryz.func3, Tryz.ntmps3
  go_wp2_with fail
  have hs0 := World.size_alloc w (.cells #[.int .i64 k, .int .i64 n] 22)
  have hb0 := blk_new w #[.int .i64 k, .int .i64 n] 22
  have HB := hd (((Below.refl _ w).alloc (Nat.le_refl _) (.cells #[.int .i64 k, .int .i64 n] 22)))
  generalize (w.alloc (.cells #[.int .i64 k, .int .i64 n] 22)) = W0 at *
  have hs1 := World.size_alloc W0 (.cells #[.int .i64 a, .int .i64 b] 24)
  have hb1 := blk_new W0 #[.int .i64 a, .int .i64 b] 24
  rw [hs0] at hb1
  have hb0' := (Below.heap_alloc W0 (.cells #[.int .i64 a, .int .i64 b] 24) w.heap.size (by omega)).trans hb0
  have HB1 := hd (HB.out.alloc (by omega) (.cells #[.int .i64 a, .int .i64 b] 24))
  clear HB hb0
  generalize (W0.alloc (.cells #[.int .i64 a, .int .i64 b] 24)) = W1 at *
  have K0 := hd hb0'
  have K1 := hd hb1
  clear hb0' hb1 hs0 hs1
  refine (HA.out _).mono ?_
  rintro e w1 ⟨rfl, hb⟩
  have hk0 := (hb.block _ (blk_lt K0.out)).trans K0.out
  have hk1 := (hb.block _ (blk_lt K1.out)).trans K1.out
  have HB := hd (HB1.out.trans (hb.mono HB1.out.size))
  clear hb HB1 K0 K1
  have c0 := blk_cell hk0 0
  have c1 := blk_cell hk0 1
  simp at c0 c1
  go_wp2_with fail
  refine (HD.out _).mono ?_
  rintro e w2 ⟨rfl, hb⟩
  have K0 := hd ((hb.block _ (blk_lt hk0)).trans hk0)
  have K1 := hd ((hb.block _ (blk_lt hk1)).trans hk1)
  replace HB := hd (HB.out.trans (hb.mono HB.out.size))
  clear hb c0 c1 hk0 hk1
  have hlt := blk_lt K0.out
  have F1 : ∀ p : Bw w2, p.out.cell? ⟨w.heap.size, 0, none⟩ = some (.int .i64 k) := fun p => p.cell hlt (by simpa using blk_cell K0.out 0)
  have F2 : ∀ p : Bw w2, p.out.cell? ⟨w.heap.size, 1, none⟩ = some (.int .i64 n) := fun p => p.cell hlt (by simpa using blk_cell K0.out 1)
  go_wp2_with fail
  refine wp_region_bw_tail 6 (by kernel_rfl) (by kernel_rfl) ?_
  simp only [List.take_succ_cons, List.take_zero, List.drop_succ_cons, List.drop_zero]
  repeat (first | go_big_quiet_step (first | (go_at_call 10; exact Bw.call _ (refRange_any _ _ _ _))))
  refine wpQuiet_nil ?_
  rintro ⟨w3, hb⟩
  change wpList _ _ _ _ _ w3
  have hk0 := (hb.block _ (blk_lt K0.out)).trans K0.out
  have hk1 := (hb.block _ (blk_lt K1.out)).trans K1.out
  replace HB := hd (HB.out.trans (hb.mono HB.out.size))
  clear F1 F2 hb K0 K1
  go_wp2_with fail
  refine (lawFirst_any _ [rng k 1 2147483646, rng n 0 256] _ (Rd.new w3 #[.int .i64 (rng k 1 2147483646), .int .i64 (rng n 0 256)] 3 2 _ rfl (by decide))).mono ?_
  rintro e w' ⟨rfl, rfl⟩
  rw [HX.out]
  have hk0' := (Below.heap_alloc w3 (.cells #[.int .i64 (rng k 1 2147483646), .int .i64 (rng n 0 256)] 3) _ (blk_lt hk0)).trans hk0
  have hk1' := (Below.heap_alloc w3 (.cells #[.int .i64 (rng k 1 2147483646), .int .i64 (rng n 0 256)] 3) _ (blk_lt hk1)).trans hk1
  have hb := (Below.refl w3.heap.size w3).alloc (Nat.le_refl _) (.cells #[.int .i64 (rng k 1 2147483646), .int .i64 (rng n 0 256)] 3)
  replace HB := hd (HB.out.trans (hb.mono HB.out.size))
  generalize (w3.alloc (.cells #[.int .i64 (rng k 1 2147483646), .int .i64 (rng n 0 256)] 3)) = w4 at *
  have K1 := hd hk1'
  have R1 := hd (show Rd w4 w4.heap.size (.slice none 0 0) ([] : List Int).length (([] : List Int).map (Value.int .i64)) from Rd.nil _ _)
  have R2 := R1
  clear hb hk0 hk1 hk0' hk1'
  go_wp2_with fail

  have hlt := blk_lt K1.out
  have F1 : ∀ p : Bw w4, p.out.cell? ⟨w.heap.size + 1, 0, none⟩ = some (.int .i64 a) := fun p => p.cell hlt (by simpa using blk_cell K1.out 0)
  have F2 : ∀ p : Bw w4, p.out.cell? ⟨w.heap.size + 1, 1, none⟩ = some (.int .i64 b) := fun p => p.cell hlt (by simpa using blk_cell K1.out 1)
  have HQ := hd (fun W : World => refCheckRatio_any a b W)
  have HI := hd (fun p : Bw w4 => Bw.call p ((sameInts_any (.slice none 0 0) (.slice none 0 0) [] [] p.out ((R1.out.below p.below (Nat.le_refl _)).mono p.below.size) ((R2.out.below p.below (Nat.le_refl _)).mono p.below.size)).mono (fun e w' h => ⟨h.1.trans (by rw [sameF_refl]), h.2⟩)))
  obtain ⟨R, hR⟩ : ∃ R, R = ratF a b := ⟨_, rfl⟩
  rw [← hR] at HR HQ
  clear hR R1 R2
  cases hN : nameB s
  all_goals
    have HN1 := hd (fun W : World => isName_any s W HS.out)
    have HN2 := hd (fun W : World => refIsName_any s W HS.out)
    rw [hN] at HN1 HN2
    clear hN
    refine wp_region_bw (by kernel_rfl) (by kernel_rfl) ?_
    repeat (first | go_big_quiet_step (first
      | (go_at_call 12; exact Bw.call _ (HN1.out _))
      | (go_at_call 13; exact Bw.call _ (HN2.out _))
      | (go_at_call 14; exact HI.out _)
      | (go_at_call 15; exact Bw.call _ (HR.out _))
      | (go_at_call 16; exact Bw.call _ (HQ.out _))))
    refine wpQuiet_nil ?_
    rintro ⟨w9, hb⟩
    change Exit.then _ _ _ _ w9
    replace HB := hd (HB.out.trans (hb.mono HB.out.size))
    clear F1 F2 hb
    go_wp2
    go_returns
    exact ⟨rfl, HB.out⟩
end Go.Proofs.YtjkammgabljmaaaGreatDoor
