/-
  GaugeFollows (P1.3, P1.4, P1.6): for every record and two numbers, fills change no recorded level and leave no short gap with a level before it, both parts of a record make it again and their statistics add up, and high waters are what the document says. Conditions: the row's own (the listed library tables as the program's text lays them, tied by the card).
-/
import Derived.Test.YtnejjnebpbajmaaGreatDoorRows
import Derived.Test.YtnejjnebpbajmaaGreatDoorCards
import Derived.Test.YtnejjnebpbajmaaGreatDoorTie
import Derived.Test.YtnejjnebpbajmaaGreatDoorRow
import Derived.Test.YtnejjnebpbajmaaGreatDoorOpm
import Derived.Test.YtnejjnebpbajmaaGreatDoorFW
import Derived.Test.YtnejjnebpbajmaaGreatDoorA5
import Derived.Test.YtnejjnebpbajmaaGreatDoorN6
import Derived.Test.YtnejjnebpbajmaaGreatDoorT7
import Derived.Test.YtnejjnebpbajmaaGreatDoorMK
import Derived.Test.YtnejjnebpbajmaaGreatDoorM3
import Derived.Test.YtnejjnebpbajmaaGreatDoorQ4
import Derived.Test.YtnejjnebpbajmaaGreatDoorQS
import Derived.SevenTiedAt
namespace Go.Proofs.YtnejjnebpbajmaaGreatDoor
open Go.RowKit
attribute [local go_sem] Oper.semAt_some

set_option maxRecDepth 1000000 in
set_option maxHeartbeats 4000000 in
theorem follows_long1 (HA : Hid Awake) (nm : ByteArray) (st x0 x1 : Int) (A A2 : Option Addr) (c c2 : Nat) (bs : List Nat) (gs : List (Int × Int)) (w : World) (HL : Hid (Rd w w.heap.size (.slice A bs.length c) bs.length (flc bs))) (HG : Hid (Rd w w.heap.size (.slice A2 gs.length c2) gs.length (spc gs)))
    
    
    (S1 : Hid (shortR nm.size bs.length gs.length = false)) :
    Calls Tryz.prog 3 #[.agg #[.string nm, .int .i64 st, .slice A bs.length c, .slice A2 gs.length c2], .agg #[.int .u8 x0, .int .u8 x1]] w fun e w' => e = .returned (.bool true) ∧ Below w.heap.size w w' := by
  obtain ⟨W1, hW1⟩ : ∃ W1, W1 = ((w.alloc (Obj.cells #[.string nm, .int .i64 st, .slice A bs.length c, .slice A2 gs.length c2] 25)).alloc (Obj.cells #[.int .u8 x0, .int .u8 x1] 26)) := ⟨_, rfl⟩
  have hb1 : Below w.heap.size w W1 := by rw [hW1]; exact ((Below.refl _ w).alloc (Nat.le_refl _) _).alloc (by simp) _
  have HQ := hd (show W1.heap[w.heap.size]? = some (.cells #[.string nm, .int .i64 st, .slice A bs.length c, .slice A2 gs.length c2] 25 (0, 0)) by rw [hW1]; exact (Below.heap_alloc _ _ _ (by simp)).trans (blk_new _ _ _))
  have HB := hd hb1
  have RL := hd ((HL.out.below hb1 (Nat.le_refl _)).mono hb1.size)
  have RG := hd ((HG.out.below hb1 (Nat.le_refl _)).mono hb1.size)
  clear hb1
  have C1 := hd (fun p : Bw W1 => HA.out p.out)
  have C2 := hd (fun p : Bw W1 => show Calls Tryz.prog 5 #[.agg #[.string nm, .int .i64 st, .slice A bs.length c, .slice A2 gs.length c2]] p.out (fun e w' => e = .returned (.bool false) ∧ Below p.out.heap.size p.out w') from by have h := short_any nm st A A2 bs.length c gs.length c2 p.out; rw [S1.out] at h; exact h)
  have FB0 : ∀ p : Bw W1, p.out.cell? ⟨w.heap.size, 0, none⟩ = some (.string nm) := fun p => p.cell (blk_lt HQ.out) (blk_cell HQ.out 0)
  have FB1 : ∀ p : Bw W1, p.out.cell? ⟨w.heap.size, 1, none⟩ = some (.int .i64 st) := fun p => p.cell (blk_lt HQ.out) (blk_cell HQ.out 1)
  have FB2 : ∀ p : Bw W1, p.out.cell? ⟨w.heap.size, 2, none⟩ = some (.slice A bs.length c) := fun p => p.cell (blk_lt HQ.out) (blk_cell HQ.out 2)
  have FB3 : ∀ p : Bw W1, p.out.cell? ⟨w.heap.size, 3, none⟩ = some (.slice A2 gs.length c2) := fun p => p.cell (blk_lt HQ.out) (blk_cell HQ.out 3)
  clear HL HG RL RG
  go_enter Tryz.func3, Tryz.ntmps3
  go_wp2_with fail
  rw [← hW1]
  clear hW1
  refine wp_region_bw (by kernel_rfl) (by kernel_rfl) ?_
  repeat (first | go_big_quiet_step (fail))
  go_big_quiet_step (first | (go_at_call 4; exact Bw.call _ (C1.out _)))
  repeat (first | go_big_quiet_step (fail))
  go_big_quiet_step (first | (go_at_call 5; exact Bw.call _ (C2.out _)))
  repeat (first | go_big_quiet_step (fail))
  refine wpQuiet_nil ?_
  rintro ⟨z0, hb⟩
  change Exit.then _ _ _ _ z0
  replace HB := hd (HB.out.trans (hb.mono HB.out.size))
  clear hb FB0 FB1 FB2 FB3
  go_wp2_with fail
  refine (HA.out _).mono ?_
  rintro e z1 ⟨rfl, hb⟩
  replace HB := hd (HB.out.trans (hb.mono HB.out.size))
  clear hb
  go_wp2_with fail
  go_returns
  exact ⟨rfl, HB.out⟩

set_option maxRecDepth 1000000 in
set_option maxHeartbeats 4000000 in
theorem follows_long2 (HA : Hid Awake) (nm : ByteArray) (st x0 x1 E : Int) (A A2 : Option Addr) (c c2 : Nat) (bs : List Nat) (gs : List (Int × Int)) (w : World) (HL : Hid (Rd w w.heap.size (.slice A bs.length c) bs.length (flc bs))) (HG : Hid (Rd w w.heap.size (.slice A2 gs.length c2) gs.length (spc gs)))
    (CR : Hid (∀ (W : World) (lv gv : Value), Rd W W.heap.size lv bs.length (flc bs) → Rd W W.heap.size gv gs.length (spc gs) → Calls Tryz.prog 6 #[.agg #[.string nm, .int .i64 st, lv, gv]] W fun e w' => e = .returned (.int .i64 E) ∧ Below W.heap.size W w'))
    
    (S1 : Hid (shortR nm.size bs.length gs.length = true)) (hE : (E != 0) = true) :
    Calls Tryz.prog 3 #[.agg #[.string nm, .int .i64 st, .slice A bs.length c, .slice A2 gs.length c2], .agg #[.int .u8 x0, .int .u8 x1]] w fun e w' => e = .returned (.bool true) ∧ Below w.heap.size w w' := by
  obtain ⟨W1, hW1⟩ : ∃ W1, W1 = ((w.alloc (Obj.cells #[.string nm, .int .i64 st, .slice A bs.length c, .slice A2 gs.length c2] 25)).alloc (Obj.cells #[.int .u8 x0, .int .u8 x1] 26)) := ⟨_, rfl⟩
  have hb1 : Below w.heap.size w W1 := by rw [hW1]; exact ((Below.refl _ w).alloc (Nat.le_refl _) _).alloc (by simp) _
  have HQ := hd (show W1.heap[w.heap.size]? = some (.cells #[.string nm, .int .i64 st, .slice A bs.length c, .slice A2 gs.length c2] 25 (0, 0)) by rw [hW1]; exact (Below.heap_alloc _ _ _ (by simp)).trans (blk_new _ _ _))
  have HB := hd hb1
  have RL := hd ((HL.out.below hb1 (Nat.le_refl _)).mono hb1.size)
  have RG := hd ((HG.out.below hb1 (Nat.le_refl _)).mono hb1.size)
  clear hb1
  have C1 := hd (fun p : Bw W1 => HA.out p.out)
  have C2 := hd (fun p : Bw W1 => show Calls Tryz.prog 5 #[.agg #[.string nm, .int .i64 st, .slice A bs.length c, .slice A2 gs.length c2]] p.out (fun e w' => e = .returned (.bool true) ∧ Below p.out.heap.size p.out w') from by have h := short_any nm st A A2 bs.length c gs.length c2 p.out; rw [S1.out] at h; exact h)
  have C3 := hd (fun p : Bw W1 => CR.out p.out _ _ ((RL.out.below p.below (Nat.le_refl _)).mono p.below.size) ((RG.out.below p.below (Nat.le_refl _)).mono p.below.size))
  have FB0 : ∀ p : Bw W1, p.out.cell? ⟨w.heap.size, 0, none⟩ = some (.string nm) := fun p => p.cell (blk_lt HQ.out) (blk_cell HQ.out 0)
  have FB1 : ∀ p : Bw W1, p.out.cell? ⟨w.heap.size, 1, none⟩ = some (.int .i64 st) := fun p => p.cell (blk_lt HQ.out) (blk_cell HQ.out 1)
  have FB2 : ∀ p : Bw W1, p.out.cell? ⟨w.heap.size, 2, none⟩ = some (.slice A bs.length c) := fun p => p.cell (blk_lt HQ.out) (blk_cell HQ.out 2)
  have FB3 : ∀ p : Bw W1, p.out.cell? ⟨w.heap.size, 3, none⟩ = some (.slice A2 gs.length c2) := fun p => p.cell (blk_lt HQ.out) (blk_cell HQ.out 3)
  have t1 : (E == 0) = false := by simpa using hE
  clear CR HL HG RL RG
  go_enter Tryz.func3, Tryz.ntmps3
  go_wp2_with fail
  rw [← hW1]
  clear hW1
  refine wp_region_bw (by kernel_rfl) (by kernel_rfl) ?_
  repeat (first | go_big_quiet_step (fail))
  go_big_quiet_step (first | (go_at_call 4; exact Bw.call _ (C1.out _)))
  repeat (first | go_big_quiet_step (fail))
  go_big_quiet_step (first | (go_at_call 5; exact Bw.call _ (C2.out _)))
  repeat (first | go_big_quiet_step (fail))
  go_big_quiet_step (first | (go_at_call 6; exact Bw.call _ (C3.out _)))
  repeat (first | go_big_quiet_step (fail))
  refine wpQuiet_nil ?_
  rintro ⟨z0, hb⟩
  change Exit.then _ _ _ _ z0
  replace HB := hd (HB.out.trans (hb.mono HB.out.size))
  clear hb FB0 FB1 FB2 FB3
  go_wp2_with fail
  refine (HA.out _).mono ?_
  rintro e z1 ⟨rfl, hb⟩
  replace HB := hd (HB.out.trans (hb.mono HB.out.size))
  clear hb
  go_wp2_with fail
  go_returns
  exact ⟨rfl, HB.out⟩

set_option maxRecDepth 1000000 in
set_option maxHeartbeats 4000000 in
theorem follows_long3 (HA : Hid Awake) (nm : ByteArray) (st x0 x1 E : Int) (A A2 : Option Addr) (c c2 : Nat) (bs : List Nat) (gs : List (Int × Int)) (w : World) (HL : Hid (Rd w w.heap.size (.slice A bs.length c) bs.length (flc bs))) (HG : Hid (Rd w w.heap.size (.slice A2 gs.length c2) gs.length (spc gs)))
    (CR : Hid (∀ (W : World) (lv gv : Value), Rd W W.heap.size lv bs.length (flc bs) → Rd W W.heap.size gv gs.length (spc gs) → Calls Tryz.prog 6 #[.agg #[.string nm, .int .i64 st, lv, gv]] W fun e w' => e = .returned (.int .i64 E) ∧ Below W.heap.size W w'))
    
    (S1 : Hid (shortR nm.size bs.length gs.length = true)) (hE : E = 0) (hn : bs.length = 0) :
    Calls Tryz.prog 3 #[.agg #[.string nm, .int .i64 st, .slice A bs.length c, .slice A2 gs.length c2], .agg #[.int .u8 x0, .int .u8 x1]] w fun e w' => e = .returned (.bool true) ∧ Below w.heap.size w w' := by
  obtain ⟨W1, hW1⟩ : ∃ W1, W1 = ((w.alloc (Obj.cells #[.string nm, .int .i64 st, .slice A bs.length c, .slice A2 gs.length c2] 25)).alloc (Obj.cells #[.int .u8 x0, .int .u8 x1] 26)) := ⟨_, rfl⟩
  have hb1 : Below w.heap.size w W1 := by rw [hW1]; exact ((Below.refl _ w).alloc (Nat.le_refl _) _).alloc (by simp) _
  have HQ := hd (show W1.heap[w.heap.size]? = some (.cells #[.string nm, .int .i64 st, .slice A bs.length c, .slice A2 gs.length c2] 25 (0, 0)) by rw [hW1]; exact (Below.heap_alloc _ _ _ (by simp)).trans (blk_new _ _ _))
  have HB := hd hb1
  have RL := hd ((HL.out.below hb1 (Nat.le_refl _)).mono hb1.size)
  have RG := hd ((HG.out.below hb1 (Nat.le_refl _)).mono hb1.size)
  clear hb1
  have C1 := hd (fun p : Bw W1 => HA.out p.out)
  have C2 := hd (fun p : Bw W1 => show Calls Tryz.prog 5 #[.agg #[.string nm, .int .i64 st, .slice A bs.length c, .slice A2 gs.length c2]] p.out (fun e w' => e = .returned (.bool true) ∧ Below p.out.heap.size p.out w') from by have h := short_any nm st A A2 bs.length c gs.length c2 p.out; rw [S1.out] at h; exact h)
  have C3 := hd (fun p : Bw W1 => CR.out p.out _ _ ((RL.out.below p.below (Nat.le_refl _)).mono p.below.size) ((RG.out.below p.below (Nat.le_refl _)).mono p.below.size))
  have FB0 : ∀ p : Bw W1, p.out.cell? ⟨w.heap.size, 0, none⟩ = some (.string nm) := fun p => p.cell (blk_lt HQ.out) (blk_cell HQ.out 0)
  have FB1 : ∀ p : Bw W1, p.out.cell? ⟨w.heap.size, 1, none⟩ = some (.int .i64 st) := fun p => p.cell (blk_lt HQ.out) (blk_cell HQ.out 1)
  have FB2 : ∀ p : Bw W1, p.out.cell? ⟨w.heap.size, 2, none⟩ = some (.slice A bs.length c) := fun p => p.cell (blk_lt HQ.out) (blk_cell HQ.out 2)
  have FB3 : ∀ p : Bw W1, p.out.cell? ⟨w.heap.size, 3, none⟩ = some (.slice A2 gs.length c2) := fun p => p.cell (blk_lt HQ.out) (blk_cell HQ.out 3)
  subst hE
  have t1 : ((bs.length : Int) == 0) = true := by rw [hn]; rfl
  clear hn
  have t2 : ((0 : Int) != 0) = false := by decide
  clear CR HL HG RL RG
  go_enter Tryz.func3, Tryz.ntmps3
  go_wp2_with fail
  rw [← hW1]
  clear hW1
  refine wp_region_bw (by kernel_rfl) (by kernel_rfl) ?_
  repeat (first | go_big_quiet_step (fail))
  go_big_quiet_step (first | (go_at_call 4; exact Bw.call _ (C1.out _)))
  repeat (first | go_big_quiet_step (fail))
  go_big_quiet_step (first | (go_at_call 5; exact Bw.call _ (C2.out _)))
  repeat (first | go_big_quiet_step (fail))
  go_big_quiet_step (first | (go_at_call 6; exact Bw.call _ (C3.out _)))
  repeat (first | go_big_quiet_step (fail))
  refine wpQuiet_nil ?_
  rintro ⟨z0, hb⟩
  change Exit.then _ _ _ _ z0
  replace HB := hd (HB.out.trans (hb.mono HB.out.size))
  clear hb FB0 FB1 FB2 FB3
  go_wp2_with fail
  refine (HA.out _).mono ?_
  rintro e z1 ⟨rfl, hb⟩
  replace HB := hd (HB.out.trans (hb.mono HB.out.size))
  clear hb
  go_wp2_with fail
  go_returns
  exact ⟨rfl, HB.out⟩

set_option maxRecDepth 1000000 in
set_option maxHeartbeats 4000000 in
theorem follows_long4 (HA : Hid Awake) (nm : ByteArray) (st x0 x1 tt E : Int) (A A2 : Option Addr) (c c2 : Nat) (bs : List Nat) (gs : List (Int × Int)) (w : World) (HL : Hid (Rd w w.heap.size (.slice A bs.length c) bs.length (flc bs))) (HG : Hid (Rd w w.heap.size (.slice A2 gs.length c2) gs.length (spc gs)))
    (CR : Hid (∀ (W : World) (lv gv : Value), Rd W W.heap.size lv bs.length (flc bs) → Rd W W.heap.size gv gs.length (spc gs) → Calls Tryz.prog 6 #[.agg #[.string nm, .int .i64 st, lv, gv]] W fun e w' => e = .returned (.int .i64 E) ∧ Below W.heap.size W w'))
    (CT : Hid (E = 0 → ∀ (W : World) (gv : Value), Rd W W.heap.size gv gs.length (spc gs) → Calls Tryz.prog 7 #[gv] W fun e w' => e = .returned (.int .i64 tt) ∧ Below W.heap.size W w'))
    (S1 : Hid (shortR nm.size bs.length gs.length = true)) (hE : E = 0) (hn : bs.length ≠ 0) (ht : tt = (bs.length : Int)) :
    Calls Tryz.prog 3 #[.agg #[.string nm, .int .i64 st, .slice A bs.length c, .slice A2 gs.length c2], .agg #[.int .u8 x0, .int .u8 x1]] w fun e w' => e = .returned (.bool true) ∧ Below w.heap.size w w' := by
  obtain ⟨W1, hW1⟩ : ∃ W1, W1 = ((w.alloc (Obj.cells #[.string nm, .int .i64 st, .slice A bs.length c, .slice A2 gs.length c2] 25)).alloc (Obj.cells #[.int .u8 x0, .int .u8 x1] 26)) := ⟨_, rfl⟩
  have hb1 : Below w.heap.size w W1 := by rw [hW1]; exact ((Below.refl _ w).alloc (Nat.le_refl _) _).alloc (by simp) _
  have HQ := hd (show W1.heap[w.heap.size]? = some (.cells #[.string nm, .int .i64 st, .slice A bs.length c, .slice A2 gs.length c2] 25 (0, 0)) by rw [hW1]; exact (Below.heap_alloc _ _ _ (by simp)).trans (blk_new _ _ _))
  have HB := hd hb1
  have RL := hd ((HL.out.below hb1 (Nat.le_refl _)).mono hb1.size)
  have RG := hd ((HG.out.below hb1 (Nat.le_refl _)).mono hb1.size)
  clear hb1
  have C1 := hd (fun p : Bw W1 => HA.out p.out)
  have C2 := hd (fun p : Bw W1 => show Calls Tryz.prog 5 #[.agg #[.string nm, .int .i64 st, .slice A bs.length c, .slice A2 gs.length c2]] p.out (fun e w' => e = .returned (.bool true) ∧ Below p.out.heap.size p.out w') from by have h := short_any nm st A A2 bs.length c gs.length c2 p.out; rw [S1.out] at h; exact h)
  have C3 := hd (fun p : Bw W1 => CR.out p.out _ _ ((RL.out.below p.below (Nat.le_refl _)).mono p.below.size) ((RG.out.below p.below (Nat.le_refl _)).mono p.below.size))
  have C4 := hd (fun p : Bw W1 => CT.out hE p.out _ ((RG.out.below p.below (Nat.le_refl _)).mono p.below.size))
  have FB0 : ∀ p : Bw W1, p.out.cell? ⟨w.heap.size, 0, none⟩ = some (.string nm) := fun p => p.cell (blk_lt HQ.out) (blk_cell HQ.out 0)
  have FB1 : ∀ p : Bw W1, p.out.cell? ⟨w.heap.size, 1, none⟩ = some (.int .i64 st) := fun p => p.cell (blk_lt HQ.out) (blk_cell HQ.out 1)
  have FB2 : ∀ p : Bw W1, p.out.cell? ⟨w.heap.size, 2, none⟩ = some (.slice A bs.length c) := fun p => p.cell (blk_lt HQ.out) (blk_cell HQ.out 2)
  have FB3 : ∀ p : Bw W1, p.out.cell? ⟨w.heap.size, 3, none⟩ = some (.slice A2 gs.length c2) := fun p => p.cell (blk_lt HQ.out) (blk_cell HQ.out 3)
  subst hE
  have t1 : ((bs.length : Int) == 0) = false := by simp; exact fun h => hn (by rw [h]; rfl)
  have t2 : ((0 : Int) != 0) = false := by decide
  have t3 : (tt == (bs.length : Int)) = true := by rw [ht]; simp
  clear ht
  have t6 := hn
  clear CR CT HL HG RL RG
  go_enter Tryz.func3, Tryz.ntmps3
  go_wp2_with fail
  rw [← hW1]
  clear hW1
  refine wp_region_bw (by kernel_rfl) (by kernel_rfl) ?_
  repeat (first | go_big_quiet_step (fail))
  go_big_quiet_step (first | (go_at_call 4; exact Bw.call _ (C1.out _)))
  repeat (first | go_big_quiet_step (fail))
  go_big_quiet_step (first | (go_at_call 5; exact Bw.call _ (C2.out _)))
  repeat (first | go_big_quiet_step (fail))
  go_big_quiet_step (first | (go_at_call 6; exact Bw.call _ (C3.out _)))
  repeat (first | go_big_quiet_step (fail))
  go_big_quiet_step (first | (go_at_call 7; exact Bw.call _ (C4.out _)))
  repeat (first | go_big_quiet_step (fail))
  refine wpQuiet_nil ?_
  rintro ⟨z0, hb⟩
  change Exit.then _ _ _ _ z0
  replace HB := hd (HB.out.trans (hb.mono HB.out.size))
  clear hb FB0 FB1 FB2 FB3
  go_wp2_with fail
  refine (HA.out _).mono ?_
  rintro e z1 ⟨rfl, hb⟩
  replace HB := hd (HB.out.trans (hb.mono HB.out.size))
  clear hb
  go_wp2_with fail
  go_returns
  exact ⟨rfl, HB.out⟩

set_option maxRecDepth 1000000 in
set_option maxHeartbeats 4000000 in
theorem follows_long5 (HA : Hid Awake) (nm : ByteArray) (st x0 x1 tt E : Int) (A A2 : Option Addr) (c c2 : Nat) (bs : List Nat) (gs : List (Int × Int)) (w : World) (HL : Hid (Rd w w.heap.size (.slice A bs.length c) bs.length (flc bs))) (HG : Hid (Rd w w.heap.size (.slice A2 gs.length c2) gs.length (spc gs)))
    (CR : Hid (∀ (W : World) (lv gv : Value), Rd W W.heap.size lv bs.length (flc bs) → Rd W W.heap.size gv gs.length (spc gs) → Calls Tryz.prog 6 #[.agg #[.string nm, .int .i64 st, lv, gv]] W fun e w' => e = .returned (.int .i64 E) ∧ Below W.heap.size W w'))
    (CT : Hid (E = 0 → ∀ (W : World) (gv : Value), Rd W W.heap.size gv gs.length (spc gs) → Calls Tryz.prog 7 #[gv] W fun e w' => e = .returned (.int .i64 tt) ∧ Below W.heap.size W w'))
    (S1 : Hid (shortR nm.size bs.length gs.length = true)) (hE : E = 0) (hn : bs.length ≠ 0) (ht : (tt == (bs.length : Int)) = false) (hst : 99900 < st) :
    Calls Tryz.prog 3 #[.agg #[.string nm, .int .i64 st, .slice A bs.length c, .slice A2 gs.length c2], .agg #[.int .u8 x0, .int .u8 x1]] w fun e w' => e = .returned (.bool true) ∧ Below w.heap.size w w' := by
  obtain ⟨W1, hW1⟩ : ∃ W1, W1 = ((w.alloc (Obj.cells #[.string nm, .int .i64 st, .slice A bs.length c, .slice A2 gs.length c2] 25)).alloc (Obj.cells #[.int .u8 x0, .int .u8 x1] 26)) := ⟨_, rfl⟩
  have hb1 : Below w.heap.size w W1 := by rw [hW1]; exact ((Below.refl _ w).alloc (Nat.le_refl _) _).alloc (by simp) _
  have HQ := hd (show W1.heap[w.heap.size]? = some (.cells #[.string nm, .int .i64 st, .slice A bs.length c, .slice A2 gs.length c2] 25 (0, 0)) by rw [hW1]; exact (Below.heap_alloc _ _ _ (by simp)).trans (blk_new _ _ _))
  have HB := hd hb1
  have RL := hd ((HL.out.below hb1 (Nat.le_refl _)).mono hb1.size)
  have RG := hd ((HG.out.below hb1 (Nat.le_refl _)).mono hb1.size)
  clear hb1
  have C1 := hd (fun p : Bw W1 => HA.out p.out)
  have C2 := hd (fun p : Bw W1 => show Calls Tryz.prog 5 #[.agg #[.string nm, .int .i64 st, .slice A bs.length c, .slice A2 gs.length c2]] p.out (fun e w' => e = .returned (.bool true) ∧ Below p.out.heap.size p.out w') from by have h := short_any nm st A A2 bs.length c gs.length c2 p.out; rw [S1.out] at h; exact h)
  have C3 := hd (fun p : Bw W1 => CR.out p.out _ _ ((RL.out.below p.below (Nat.le_refl _)).mono p.below.size) ((RG.out.below p.below (Nat.le_refl _)).mono p.below.size))
  have C4 := hd (fun p : Bw W1 => CT.out hE p.out _ ((RG.out.below p.below (Nat.le_refl _)).mono p.below.size))
  have FB0 : ∀ p : Bw W1, p.out.cell? ⟨w.heap.size, 0, none⟩ = some (.string nm) := fun p => p.cell (blk_lt HQ.out) (blk_cell HQ.out 0)
  have FB1 : ∀ p : Bw W1, p.out.cell? ⟨w.heap.size, 1, none⟩ = some (.int .i64 st) := fun p => p.cell (blk_lt HQ.out) (blk_cell HQ.out 1)
  have FB2 : ∀ p : Bw W1, p.out.cell? ⟨w.heap.size, 2, none⟩ = some (.slice A bs.length c) := fun p => p.cell (blk_lt HQ.out) (blk_cell HQ.out 2)
  have FB3 : ∀ p : Bw W1, p.out.cell? ⟨w.heap.size, 3, none⟩ = some (.slice A2 gs.length c2) := fun p => p.cell (blk_lt HQ.out) (blk_cell HQ.out 3)
  subst hE
  have t1 : ((bs.length : Int) == 0) = false := by simp; exact fun h => hn (by rw [h]; rfl)
  have t2 : ((0 : Int) != 0) = false := by decide
  have t3 := ht
  have t4 : decide ((99900 : Int) < st) = true := by simpa using hst
  have t5 : decide (st > (99900 : Int)) = true := by simpa using hst
  have t6 := hn
  clear CR CT HL HG RL RG
  go_enter Tryz.func3, Tryz.ntmps3
  go_wp2_with fail
  rw [← hW1]
  clear hW1
  refine wp_region_bw (by kernel_rfl) (by kernel_rfl) ?_
  repeat (first | go_big_quiet_step (fail))
  go_big_quiet_step (first | (go_at_call 4; exact Bw.call _ (C1.out _)))
  repeat (first | go_big_quiet_step (fail))
  go_big_quiet_step (first | (go_at_call 5; exact Bw.call _ (C2.out _)))
  repeat (first | go_big_quiet_step (fail))
  go_big_quiet_step (first | (go_at_call 6; exact Bw.call _ (C3.out _)))
  repeat (first | go_big_quiet_step (fail))
  go_big_quiet_step (first | (go_at_call 7; exact Bw.call _ (C4.out _)))
  repeat (first | go_big_quiet_step (fail))
  refine wpQuiet_nil ?_
  rintro ⟨z0, hb⟩
  change Exit.then _ _ _ _ z0
  replace HB := hd (HB.out.trans (hb.mono HB.out.size))
  clear hb FB0 FB1 FB2 FB3
  go_wp2_with fail
  refine (HA.out _).mono ?_
  rintro e z1 ⟨rfl, hb⟩
  replace HB := hd (HB.out.trans (hb.mono HB.out.size))
  clear hb
  go_wp2_with fail
  go_returns
  exact ⟨rfl, HB.out⟩

theorem full_noneF {A : Option Addr} {n c : Nat} (h : Full (.slice A n c)) : A = none → n = 0 ∧ c = 0 := by
  rintro rfl
  rcases h with h | ⟨_, _, _, h⟩
  · injection h with h1 h2 h3; exact ⟨h2, h3⟩
  · cases h
theorem tot_inF (gs : List (Int × Int)) (h : chkSpans gs = 0) : ∀ s ∈ gs, 0 ≤ s.1 ∧ s.1 < s.2 ∧ s.2 ≤ 100000 := (chkSpans_ok gs h).2.1
theorem got_sum (nm : ByteArray) (st : Int) (bs : List Nat) (gs : List (Int × Int)) (V : Valid nm st bs gs) {c s e : Int} {lo hi : Nat} (hq : sumR (sumF (itm gs (fLvM bs) bs.length)) = .tuple #[.agg #[.int .i64 c, .int .i64 s, .float .f32 lo, .float .f32 hi], .int .i64 e]) (W : World) (lv gv : Value) (h : Rd W W.heap.size lv bs.length (flc bs)) (h' : Rd W W.heap.size gv gs.length (spc gs)) :
    Calls Tryz.prog 15 #[.agg #[.string nm, .int .i64 st, lv, gv]] W (GotSF c s e lo hi W) := by
  have h1 := summary_any nm st lv gv bs gs W h h' V
  rw [hq] at h1
  exact h1
theorem neg_ok (nm : ByteArray) (st : Int) (bs : List Nat) (gs : List (Int × Int)) (h : chkRec nm st bs gs = 0) (hs : nm.size ≤ maxLen) : chkRec nm st (bs.map (Op.negFloat .f32)) gs = 0 := by
  obtain ⟨V, hC, hl⟩ := valid_of h hs
  have hlen : (bs.map (Op.negFloat .f32)).length = bs.length := by simp
  have hat : ∀ i, i < bs.length → (bs.map (Op.negFloat .f32)).getD i 0 = Op.negFloat .f32 (bs.getD i 0) := fun i hi => by simp [hi]
  refine chk_ok nm st _ gs (by rw [hlen]; exact rec1_val V.name V.start V.most) (by rw [hlen]; exact V.most) (fun j hj => ?_) hC (fun s hs' => by rw [hlen]; exact rec_bounds V s hs') (fun i hi hh => ?_)
  · rw [hlen] at hj
    rw [hat j hj]; exact (neg_lev (hl j hj)).1
  · rw [hlen] at hi
    rw [hat i hi]
    have h1 := rec_silent V i hh
    have f0 : finB 0 = true := by decide +kernel
    have z0 : num 0 = 0 := by decide +kernel
    have e1 : feqL (bs.getD i 0) 0 = true := by unfold feqL; simpa using h1
    rw [feq_num (fin_lev (hl i hi)) f0, decide_eq_true_eq, z0] at e1
    have e2 : feqL (Op.negFloat .f32 (bs.getD i 0)) 0 = true := by
      rw [feq_num (fin_lev (neg_lev (hl i hi)).1) f0, decide_eq_true_eq, z0, (neg_lev (hl i hi)).2]; omega
    unfold feqL at e2
    simpa using e2
/-- How a part's statistics stand to the whole's. -/
theorem part_sum {c e : Int} {la ha lx hx : Nat} {u v : SS} (h : (c = 0 ∧ e = 12) ∨ (0 < c ∧ e = 0 ∧ finB la = true ∧ chkLev ha = 0 ∧ num la = num u.lo ∧ num ha = num u.hi)) (hc : c = u.cnt) (fx : finB lx = true) (gx : finB hx = true) (nl : num lx = num v.lo) (nh : num hx = num v.hi)
    (hm : 0 < u.cnt → num v.lo ≤ num u.lo ∧ num u.hi ≤ num v.hi) : e = 12 ∨ e = 0 ∧ flt la lx = false ∧ fgt ha hx = false := by
  rcases h with ⟨-, h⟩ | ⟨h1, h2, h3, h4, h5, h6⟩
  · exact .inl h
  · obtain ⟨m1, m2⟩ := hm (by omega)
    refine .inr ⟨h2, ?_, ?_⟩
    · rw [flt_num h3 fx]; simp only [decide_eq_false_iff_not]; omega
    · rw [fgt_num (fin_lev h4) gx]; simp only [decide_eq_false_iff_not]; omega

set_option maxRecDepth 1000000 in
set_option maxHeartbeats 4000000 in
theorem follows_all (HA : Hid Awake) (nm : ByteArray) (st x0 x1 : Int) (v2 v3 : Value) (bs : List Nat) (gs : List (Int × Int)) (w : World) (hl : Rd w w.heap.size v2 bs.length (flc bs)) (hg : Rd w w.heap.size v3 gs.length (spc gs)) (fl : Full v2) (fg : Full v3) (hs : nm.size ≤ maxLen) (hx0 : 0 ≤ x0 ∧ x0 ≤ 255) (hx1 : 0 ≤ x1 ∧ x1 ≤ 255) :
    Calls Tryz.prog 3 #[.agg #[.string nm, .int .i64 st, v2, v3], .agg #[.int .u8 x0, .int .u8 x1]] w fun e w' => e = .returned (.bool true) ∧ Below w.heap.size w w' := by
  obtain ⟨A, c, rfl, hcc, hcm, -⟩ := id hl
  obtain ⟨A2, c2, rfl, -⟩ := id hg
  have CR := hd (fun (W : World) (lv gv : Value) (h : Rd W W.heap.size lv bs.length (flc bs)) (h' : Rd W W.heap.size gv gs.length (spc gs)) => refRec_any nm st lv gv bs gs W h h' hs)
  have CT := hd (fun (hE : chkRec nm st bs gs = 0) (W : World) (gv : Value) (h : Rd W W.heap.size gv gs.length (spc gs)) => refTotal_any gv gs W h (tot_inF gs (valid_of hE hs).1.spans) (chkSpans_ok gs (valid_of hE hs).1.spans).1)
  cases h1 : shortR nm.size bs.length gs.length
  · exact follows_long1 HA nm st x0 x1 A A2 c c2 bs gs w (hd hl) (hd hg) (hd h1)
  by_cases hE : chkRec nm st bs gs = 0
  case neg => exact follows_long2 HA nm st x0 x1 _ A A2 c c2 bs gs w (hd hl) (hd hg) CR (hd h1) (by simpa using hE)
  by_cases hn : bs.length = 0
  · exact follows_long3 HA nm st x0 x1 _ A A2 c c2 bs gs w (hd hl) (hd hg) CR (hd h1) hE hn
  by_cases ht : totK gs gs.length = (bs.length : Int)
  · exact follows_long4 HA nm st x0 x1 _ _ A A2 c c2 bs gs w (hd hl) (hd hg) CR CT (hd h1) hE hn ht
  by_cases hst : 99900 < st
  · exact follows_long5 HA nm st x0 x1 _ _ A A2 c c2 bs gs w (hd hl) (hd hg) CR CT (hd h1) hE hn (by simpa using ht) hst
  obtain ⟨V, hC, hlv⟩ := valid_of hE hs
  have hbd := rec_bounds V
  have hmost := V.most
  have hst0 := V.start
  have hsp := chkSpans_ok gs V.spans
  obtain ⟨lb, lo, rfl⟩ : ∃ lb lo, A = some ⟨lb, lo, none⟩ := by
    obtain ⟨A', c', e, -, -, hx⟩ := id hl
    cases e
    obtain ⟨b, o, rfl, -⟩ := hx (by omega)
    exact ⟨b, o, rfl⟩
  obtain ⟨k, hk⟩ := Int.eq_ofNat_of_zero_le (show 0 ≤ x0 % ((bs.length : Int) + 1) from Int.emod_nonneg _ (by omega))
  have hkn : k ≤ bs.length := by have := Int.emod_lt_of_pos x0 (show 0 < (bs.length : Int) + 1 by omega); omega
  obtain ⟨mo, hmo⟩ := Int.eq_ofNat_of_zero_le (show 0 ≤ x0 % 10 by omega)
  obtain ⟨wd, hwd⟩ := Int.eq_ofNat_of_zero_le (show 0 ≤ 1 + x1 % 10 by omega)
  have hstk : st + (k : Int) ≤ 100000 := by
    have h2 : bs.length ≤ 40 := by
      unfold shortR at h1
      simp only [Bool.and_eq_true, Bool.or_eq_true, decide_eq_true_eq] at h1
      omega
    omega
  have hH := head_ok hE hs hkn
  have hT := tail_ok hE hs hkn hstk
  obtain ⟨VH, hCH, hlH⟩ := valid_of hH hs
  obtain ⟨VT, hCT, hlT⟩ := valid_of hT hs
  have hgaps := parts_gaps hE hs hkn hstk
  obtain ⟨hh1, hh2, hh3⟩ := head_has (gs := gs) (k := k) V.spans (by omega)
  obtain ⟨ht1, ht2, ht3⟩ := tail_has (gs := gs) (k := k) (n := bs.length) V.spans (by omega)
  have hHl : (bs.take k).length = k := by rw [List.length_take]; omega
  have hTl : (bs.drop k).length = bs.length - k := List.length_drop ..
  -- statistics
  obtain ⟨i0, hi0, hih⟩ := tot_all gs bs.length (by omega) hC hbd ht
  have hcnt := ((rf_top bs gs bs.length).1 i0 hi0 hih).1
  have hsame : rfK (bs.take k) (partH gs k) (bs.take k).length = rfK bs gs k := by
    rw [hHl]
    exact rf_same (fun i hi => getD_take bs k i hi) (fun i hi => by rw [hh2, decide_eq_true (show (0 : Int) ≤ (i : Int) by omega), decide_eq_true (show (i : Int) < (k : Int) by omega)]; simp) k (Nat.le_refl _)
  have hmore := rf_more (bs := bs) (bs' := bs.drop k) (gs := gs) (gs' := shl k (partT gs k bs.length)) (k0 := k) (m := bs.length - k) (fun j hj => getD_drop bs k j) (fun j hj => by
    rw [shl_has, ht2, show (j : Int) + (k : Int) = ((k + j : Nat) : Int) by omega, decide_eq_true (show (k : Int) ≤ ((k + j : Nat) : Int) by omega), decide_eq_true (show ((k + j : Nat) : Int) < (bs.length : Int) by omega)]; simp) (bs.length - k) (Nat.le_refl _)
  rw [show k + (bs.length - k) = bs.length by omega, ← hTl] at hmore
  obtain ⟨m1, m2, m3, m4⟩ := hmore
  obtain ⟨cx, sx, ex, lx, hx, q1, q2, q3, q4⟩ := sum_parts bs gs hC hlv
  obtain ⟨ca, sa, ea, la, ha, a1, a2, a3, a4⟩ := sum_parts (bs.take k) (partH gs k) hCH hlH
  obtain ⟨cb, sb, eb, lB, hB, b1, b2, b3, b4⟩ := sum_parts (bs.drop k) (shl k (partT gs k bs.length)) hCT hlT
  rw [hsame] at a2 a3 a4
  rcases q4 with ⟨q4, -⟩ | ⟨-, rfl, q5, q6, q7, q8⟩
  · omega
  have hcs : cx = ca + cb ∧ sx = sa + sb := ⟨by omega, by omega⟩
  obtain ⟨rfl, rfl⟩ := hcs
  have HEA := part_sum a4 a2 q5 (fin_lev q6) q7 q8 m3
  have HEB := part_sum b4 b2 q5 (fin_lev q6) q7 q8 m4
  have rk1 := rfK_ok bs gs hlv k hkn
  have rk2 := rfK_ok (bs.drop k) (shl k (partT gs k bs.length)) hlT (bs.drop k).length (Nat.le_refl _)
  -- the lists
  have hFl := (fillF_len bs gs (mo : Int) gs.length).1
  have hCF := filled_ok (mo : Int) hE hs
  have hVn := neg_ok nm st bs gs hE hs
  obtain ⟨VN, -, hlN⟩ := valid_of hVn hs
  have hNl : (bs.map (Op.negFloat .f32)).length = bs.length := by simp
  refine follows_walk HA nm st x0 x1 (totK gs gs.length) ca sa ea cb sb eb A2 lb lo c c2 bs.length mo wd k lx hx la ha lB hB bs (fillF bs gs (mo : Int) gs.length).lev gs (fillF bs gs (mo : Int) gs.length).gap (fillF bs gs (mo : Int) gs.length).fil (wthn 0 k) (wthn k bs.length) (partH gs k) (partT gs k bs.length) (shl k (partT gs k bs.length)) (wtsR bs gs wd false bs.length) w
    (hd hl) (hd hg) (hd fg) (hd h1) (hd ⟨by omega, hmost, rfl, hsp.1, hcc, hcm, hkn, by omega, by omega, by omega, hFl, ?g1, ?g2, ?g3⟩) (hd hx0) (hd hx1) (hd hmo) (hd hwd) (hd hk) (hd ⟨by omega, by omega⟩) (hd (by simpa using ht))
    (hd ?cr) (hd (CT.out hE)) (hd ?gf) (hd ?cf) (hd ?hv1) (hd ?hp1) (hd hsp.2.1) (hd (fun j hj => fill_gap bs gs mo hC j hj)) (hd (fun X => within_any 0 k X)) (hd (fun X => within_any k bs.length X))
    (hd (fun X sa sb h h' => refMeet_any sa sb gs (wthn 0 k) X h h' V.spans (wthn_chk 0 k (by omega)))) (hd (fun X sa sb h h' => refMeet_any sa sb gs (wthn k bs.length) X h h' V.spans (wthn_chk k bs.length (by omega)))) (hd ?hbd) (hd ⟨rfl, shl_len _ _⟩) (hd ?hap)
    (hd (got_sum nm st bs gs V q1)) (hd (got_sum nm st (bs.take k) (partH gs k) VH a1)) (hd (got_sum nm (st + (k : Int)) (bs.drop k) (shl k (partT gs k bs.length)) VT b1)) (hd ?hsn) (hd (sameF_yes feqL 0 _ _ rfl (fun j hj => feq_self (hlv j hj)))) (hd HEA) (hd HEB) (hd ?ghi) (hd ?glo) (hd ?hab) (hd ?hp5) (hd ?htop)
  case g1 =>
    have := (chkSpans_ok _ VT.spans).1
    rw [shl_len] at this; omega
  case g2 => have := (chkSpans_ok _ VH.spans).1; omega
  case g3 => have := wtsR_len bs gs wd false bs.length; omega
  case cr =>
    intro W lv gv h h'
    have := CR.out W lv gv h h'
    rwa [hE] at this
  case gf =>
    intro W lv gv h h'
    refine (fill_any nm st lv gv bs gs mo W h h' V ⟨by omega, by omega⟩).mono ?_
    rintro e w' ⟨LV, GV, FV, rfl, o1, o2, o3, hb⟩
    obtain ⟨D1, e1, rfl, -⟩ := own_form o1
    obtain ⟨D2, e2, rfl, -⟩ := own_form o2
    obtain ⟨D3, e3, rfl, -⟩ := own_form o3
    exact ⟨_, _, _, _, _, _, rfl, rd_of_own o1, rd_of_own o2, rd_of_own o3, hb⟩
  case cf =>
    intro W lv gv h h'
    have := refRec_any nm st lv gv _ _ W (by rw [hFl]; exact h) h' hs
    rwa [hCF] at this
  case hv1 =>
    have := (valid_of hCF hs).2.2
    rwa [hFl] at this
  case hp1 =>
    intro i hi
    obtain ⟨p1, p2, p3, -⟩ := fill_plain bs gs mo hC (fun g hg => (hbd g hg).1) i hi
    cases hh : hasL gs (i : Int)
    · obtain ⟨r1, r2, r3⟩ := p1 hh
      exact .inl ⟨rfl, r1, r2, r3⟩
    · have r := p2 hh
      cases hf : hasL (fillF bs gs (mo : Int) gs.length).fil (i : Int)
      · rw [hf] at r
        exact .inr (.inl ⟨rfl, r, rfl⟩)
      · rw [hf] at r
        exact .inr (.inr ⟨rfl, r, rfl, p3 hf⟩)
  case hbd =>
    intro s hs'
    have h1 := ht3 s hs'
    have h2 := ht1.2 s hs'
    exact ⟨h1.1, h2, by omega⟩
  case hap =>
    intro X u1 u2 u3 u4 h1' h2' h3' h4' f1 f3
    obtain ⟨B1, d1, rfl, -⟩ := id h1'
    obtain ⟨B2, d2, rfl, -⟩ := id h2'
    obtain ⟨B3, d3, rfl, -⟩ := id h3'
    obtain ⟨B4, d4, rfl, -⟩ := id h4'
    have hsT := chkSpans_ok _ VT.spans
    refine (append_ok nm nm st (st + (k : Int)) B1 B2 B3 B4 d1 d2 d3 d4 (bs.take k) (bs.drop k) (partH gs k) (shl k (partT gs k bs.length)) X (hd h1') (hd h2') (hd h3') (hd h4') hs hs (hd (full_noneF f1)) (hd (full_noneF f3)) (chkSpans_ok _ VH.spans).1 hsT.1 (hd (fun j hj => ?_)) (by omega) (by omega) ?_).mono ?_
    · have h5 := hsT.2.1 _ (getD_mem _ j hj)
      have h6 := VT.ends j hj
      omega
    · apply fst0_all
      intro j hj
      have hj : j < 5 := by simpa using hj
      rcases (show j = 0 ∨ j = 1 ∨ j = 2 ∨ j = 3 ∨ j = 4 by omega) with rfl | rfl | rfl | rfl | rfl
      · exact hH
      · exact hT
      · show unl (nm.toList == nm.toList) 30 = 0
        simp [unl]
      · show unl (st + (k : Int) == wrap64 (st + ((bs.take k).length : Int))) 11 = 0
        rw [hHl]
        have e1 : wrap64 (st + (k : Int)) = st + (k : Int) := by unfold wrap64; omega
        rw [e1]; simp [unl]
      · show Go.Proofs.YtnejjnebpbajmaaGreatDoor.most (((bs.take k).length : Int) + ((bs.drop k).length : Int)) 4096 = 0
        unfold Go.Proofs.YtnejjnebpbajmaaGreatDoor.most
        rw [if_pos (by omega)]
    · rintro e w' ⟨LV, GV, rfl, o1, o2, hb⟩
      rw [hHl] at o2
      rw [hgaps] at o2
      rw [show (bs.take k).length + (bs.drop k).length = bs.length by omega, ← flc_append, List.take_append_drop] at o1
      obtain ⟨D1, e1, rfl, -⟩ := own_form o1
      obtain ⟨D2, e2, rfl, -⟩ := own_form o2
      exact ⟨_, _, _, _, rfl, o1, o2, hb⟩
  case hsn =>
    rw [a2, a3, b2, b3]
    refine ⟨rk1.1, by have := rk1.2.1; omega, rk2.1, by have := rk2.2.1; omega, by have := rk1.2.2.1; omega, by have := rk1.2.2.2.1; omega, by have := rk2.2.2.1; omega, by have := rk2.2.2.2.1; omega⟩
  case ghi =>
    intro W lv gv h h'
    refine (highs_any nm st lv gv bs gs wd W h h' V (by omega) (by omega)).mono ?_
    rintro e w' ⟨v, rfl, ho, hb⟩
    rw [waters_is fgt false fgt_sv bs gs wd hC hlv] at ho
    obtain ⟨D1, e1, rfl, -⟩ := own_form ho
    exact ⟨_, _, rfl, rd_of_own ho, hb⟩
  case glo =>
    intro W lv gv h h'
    refine (lows_any nm st lv gv (bs.map (Op.negFloat .f32)) gs wd W (by rw [hNl]; exact h) h' VN (by omega) (by omega)).mono ?_
    rintro e w' ⟨v, rfl, ho, hb⟩
    rw [waters_is flt true flt_sv _ gs wd hC hlN, hNl, low_high bs gs wd hlv] at ho
    obtain ⟨D1, e1, rfl, -⟩ := own_form ho
    exact ⟨_, _, rfl, rd_of_own ho, hb⟩
  case hab =>
    intro W lv gv h h'
    refine (callsIn_wide.1 (above_in nm st hx lv gv bs gs W h h' V (by rw [levOK_iff]; simpa using q6))).mono ?_
    rintro e w' ⟨v, rfl, ho, hb⟩
    rw [above_is bs gs hx hC hlv (fin_lev q6), above_none bs gs hx q8] at ho
    obtain ⟨D1, e1, rfl, -⟩ := own_form ho
    exact ⟨_, _, rfl, hb⟩
  case hp5 =>
    intro j hj
    obtain ⟨m, e1, e2, e3, e4⟩ := high_at bs gs wd hlv j hj
    exact ⟨m, e1, e2, e3, fun q g1 g2 g3 g4 => e4 q g1 g2 (by omega) (by omega)⟩
  case htop =>
    obtain ⟨j, m, e1, e2, e3, e4⟩ := high_top bs gs wd hcnt
    unfold topB
    rw [List.any_eq_true]
    refine ⟨j, by simpa using e1, ?_⟩
    rw [e2, Int.toNat_natCast, feq_num (fin_lev (hlv m e3)) (fin_lev q6), decide_eq_true_eq, q8, e4]
end Go.Proofs.YtnejjnebpbajmaaGreatDoor

namespace Go.Proofs.YtnejjnebpbajmaaGreatDoor
open Go Go.ChangeShapes Go.WideShapes Go.ChangeAt Go.RowKit Go.Joins
open Go.ChangeMaps (open_string)
set_option linter.constructorNameAsVariable false
section
variable {H : Type} {enc : TypeId × Value → H}
set_option maxRecDepth 1000000 in
/-- An array of two bytes, opened. -/
theorem open_two8 {W : World} {base : Nat} {v : Value} {d : DataW H} {p : List MemPlace} (hv : Value.okWide Tryz.prog W .any base 26 v)
    (h : DataW.Trod enc Tryz.prog W 0 (fun _ => true) true 26 v d p) : ∃ k n : Int, v = .agg #[.int .u8 k, .int .u8 n] ∧ (0 ≤ k ∧ k ≤ 255) ∧ (0 ≤ n ∧ n ≤ 255) := by
  have hce : Tryz.prog.cellsOf 5 = 1 := by kernel_rfl
  have hca : Tryz.prog.cellsOf 26 = 2 := by kernel_rfl
  obtain ⟨cs, rfl, hsz, _⟩ : ∃ cs, v = .agg cs ∧ cs.size = Tryz.prog.cellsOf 26 ∧ Row.okWide Tryz.prog W .any base 26 cs := by simpa [Value.okWide, Tryz.underlying26] using hv
  obtain ⟨c0, c1, rfl⟩ := array2 (hsz.trans hca)
  obtain ⟨fuel, hf⟩ := h
  obtain ⟨xs, m, _, _, _, hl, hel⟩ := DataW.trod_array Tryz.underlying26 hf
  have g0 := hel 0 (by decide)
  have g1 := hel 1 (by decide)
  match xs, hl, g0, g1 with
  | [x0, x1], _, g0, g1 =>
    simp [Value.cells, hce] at g0 g1
    obtain ⟨k, e0, _, wk⟩ := DataW.trod_int Tryz.underlying5 g0
    obtain ⟨n, e1, _, wn⟩ := DataW.trod_int Tryz.underlying5 g1
    simp at e0 e1
    subst e0 e1
    exact ⟨k, n, rfl, bounds_u8 wk, bounds_u8 wn⟩
end

set_option maxRecDepth 1000000 in
/-- The start that the door's own run leaves meets the row's condition on the listed variables. -/
theorem gaugeFollows_met (os : Os) (args : Array Value) : laidMetH Tryz.prog Rows.gaugeFollowsRow.laid ((World.doorLaid Tryz.prog 24 os).forCall (fun _ _ => 0) ⟨#[], args, []⟩).memory :=
  laidMetH_of_parts3 (fuel := 8) (laidMet_of_run' 8 (by kernel_rfl) (by kernel_rfl)) (by kernel_rfl) (by kernel_rfl)

set_option maxRecDepth 1000000 in
theorem gaugeFollows_lifted (os : Os) (started : os.Started) (H : Type) (enc : TypeId × Value → H) :
    ReturnsInHanded {} Tryz.checked os 3 .any (fun w args => (Rows.gaugeFollowsSpec.pre enc Tryz.prog Tryz.f3 [] false w args ∧ laidMetH Tryz.prog Rows.gaugeFollowsRow.laid w) ∧ sizedMet enc Tryz.prog Tryz.f3 (OpenSpec.ofChange Rows.gaugeFollowsSpec) false w args)
      (Rows.gaugeFollowsSpec.post enc Tryz.prog Tryz.f3 false true false false) := by
  refine returnsInHanded_of_change_and (C := Tryz.checked) (X := fun w _ => laidMetH Tryz.prog Rows.gaugeFollowsRow.laid w) (fun _ _ _ hh h => h.of_heap hh) own started (by kernel_rfl) Tryz.func3
    (ChangeSpec.witness_shaped (enc := enc) (C := Tryz.checked) (os := os) (X := fun w _ => laidMetH Tryz.prog Rows.gaugeFollowsRow.laid w) false (World.doorLaid Tryz.prog 24 os) #[.agg #[.string ⟨#[]⟩, .int .i64 0, .slice none 0 0, .slice none 0 0], .agg #[.int .u8 0, .int .u8 0]] 8 rfl (World.shaped_of_RefB (by kernel_rfl) (by kernel_rfl)) (by kernel_rfl) (by kernel_rfl) (by kernel_rfl) (gaugeFollows_met os _)) ?_
  intro W base args ds gs before hval0 hW _ hsz hL _
  have hval : ∀ (j : Nat) t v, Tryz.f3.params[j]? = some t → args[j]? = some v → Value.okWide Tryz.prog W .any base t v := hval0
  have hW' := hW
  obtain ⟨p, q, hA0, hV, rfl, hfz, hnd⟩ := hW
  have hA : DataW.TrodAll enc Tryz.prog W 0 (fun _ => true) true Tryz.f3.params.toList args.toList ds p := hA0
  rw [Tryz.params3] at hA hval
  obtain ⟨rfl, rfl⟩ := trodVars_none hV
  obtain ⟨v0, v1, d0, d1, p0, p1, rfl, rfl, rfl, h0, h1⟩ := trodAll_two hA
  obtain ⟨c0, c1, c2, c3, y0, y1, y2, y3, m, rfl, rfl, rfl, hy0, hy1, hy2, hy3⟩ := open_agg4 Tryz.underlying25 (by kernel_rfl) (show Tryz.prog.cellsOf 25 = 4 by kernel_rfl) (hval 0 25 v0 rfl rfl) h0
  obtain ⟨nm, k0, -, hs⟩ := DataW.trod_string Tryz.underlying9 hy0
  obtain ⟨st, k1, -⟩ := DataW.trod_int Tryz.underlying3 hy1
  obtain ⟨bs, hl, fl⟩ := open_levels hy2
  obtain ⟨gs, hg, fg⟩ := open_gaps hy3
  obtain ⟨x0, x1, rfl, hx0, hx1⟩ := open_two8 (hval 1 26 v1 rfl rfl) h1
  simp at k0 k1
  subst k0 k1
  refine (follows_all (hd awake_any) nm st x0 x1 c2 c3 bs gs W hl hg fl fg hs hx0 hx1).mono ?_
  rintro e W' ⟨rfl, hB⟩
  exact ⟨_, rfl, law_post rfl rfl rfl rfl rfl (fun t ht => by
    have hm : t ∈ [25, 26] := by simpa [Tryz.params3] using ht
    have hall : ([25, 26].all fun u => Tryz.prog.readableRec u && decide (u < Tryz.prog.types.size)) = true := by kernel_rfl
    simpa using List.all_eq_true.1 hall t hm) hW' hB⟩

set_option maxRecDepth 1000000 in
theorem gaugeFollows_holds : Rows.GaugeFollowsSaid :=
  OpenClaim.holds_of_wide 3 Tryz.f3 rfl rfl rfl rfl rfl rfl rfl ⟨rfl, rfl, rfl, rfl, rfl⟩ rfl rfl rfl rfl rfl (by kernel_rfl) Tryz.func3 (by kernel_rfl)
    (of_decide_eq_true (by kernel_rfl)) (by unfold Func.isWrapper; first | (rw [if_pos (by decide +kernel)]; kernel_rfl) | (rw [if_neg (by decide +kernel)]; exact ⟨rfl, rfl⟩))
    (fun os started H enc _ => gaugeFollows_lifted os started H enc)

set_option maxRecDepth 1000000 in
theorem gaugeFollows_card : Rows.GaugeFollowsCardSaid :=
  Claim7.holds_tied_plain_at .later [] [.data, .data, .data] true (true, "38562ecc35a4805bbef5412a868c0146d8dcd7cf33dbc577c0ef5fe7ee9840c9") false
    gaugeFollows_holds (fun _ h => by cases h) (by kernel_rfl) (fun _ h => by cases h) gaugeFollows_row_tie rfl ⟨rfl, rfl⟩ (by kernel_rfl) rfl
    (fun f fn hf hfn => by
      obtain rfl : f = 3 := Option.some.inj ((show Tryz.prog.funcNamed "tideway/tidewaylaw01.GaugeFollows" = some 3 by kernel_rfl).symm.trans hf) |>.symm
      obtain rfl : fn = Tryz.f3 := (Option.some.inj (Tryz.func3.symm.trans hfn)).symm
      exact ⟨by kernel_rfl, fun j t ht => by
        rw [Tryz.params3] at ht
        have hm : t ∈ [25, 26] := by simpa using Array.mem_of_getElem? ht
        have hall : ([25, 26].all fun u => !Tryz.prog.wantsStandIn u) = true := by kernel_rfl
        exact (show Tryz.prog.wantsStandIn t = false by simpa using List.all_eq_true.1 hall t hm)⟩)
    (by kernel_rfl)
end Go.Proofs.YtnejjnebpbajmaaGreatDoor
