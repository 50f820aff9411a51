/-
  The project's CheckRecord, of every record whose name is no longer than memory holds: the walks.
  Plain words: a record without an error is valid; a mark of what is recorded. No program.
  Plain words on gaps: the stretches of marks are canonical and have just the marked ticks; the gaps of two records, one behind the other. No program.
  Plain words on levels that are kept: a valid level is the same as itself, and a record's levels in gaps are the same as 0. No program.
  Plain words on valid levels as numbers: how they compare, what 1 and -1 times them are, the lesser and the greater of two. No program.
  Contracts of the reference's water and Waters, at valid records.
  Contracts of the reference's Waters and Summary, at valid records.
  Contract of the reference's Summary, at valid records.
  Plain words on waters, spells and statistics: what the project computes of a valid record is what the reference does. No program.
  Plain words on statistics: the project's and the reference's of a valid record are the same, as Go compares them.
  Highs, Lows, Above and Summary of what is not valid: the first error; a record without an error is valid.
-/
import Derived.Test.YtkgkpcmokmhakaaGreatDoorProg
import Derived.Test.YtkgkpcmokmhakaaGreatDoorQ2
import Derived.Test.YtkgkpcmokmhakaaGreatDoorMK
import Derived.Test.YtkgkpcmokmhakaaGreatDoorMI
import Derived.Test.YtkgkpcmokmhakaaGreatDoorOpm
import Derived.Test.YtkgkpcmokmhakaaGreatDoorMN
import Derived.BigQuiet
import Derived.Deep.RegionHeld3

namespace Go.Proofs.YtkgkpcmokmhakaaGreatDoor
open Go.RowKit

set_option maxRecDepth 1000000 in
set_option maxHeartbeats 2000000 in
theorem chkRec_w1 (nm : ByteArray) (st : Int) (A A2 : Option Addr) (c c2 : Nat) (bs : List Nat) (l : List (Int × Int)) (w : World) (HLr : Hid (Rd w w.heap.size (.slice A bs.length c) bs.length (flc bs))) 
    (nb : Bool) (E1 : Int) (CN : Hid (∀ W, Calls Tryz.prog 69 #[.string nm] W fun e w' => e = .returned (.bool nb) ∧ Below W.heap.size W w'))
    (HE1 : Hid (fst0 [unl nb 8, rng st 0 100000, Go.Proofs.YtkgkpcmokmhakaaGreatDoor.most (bs.length : Int) 4096] = E1)) (hE1 : (E1 != 0) = true) :
    Calls Tryz.prog 33 #[.agg #[.string nm, .int .i64 st, .slice A bs.length c, .slice A2 l.length c2]] w fun e w' => e = .returned (.int .i64 E1) ∧ Below w.heap.size w w' := by
  have hc4 : bs.length ≤ 9223372036854775807 := by obtain ⟨A', c', e, h1, h2, -⟩ := HLr.out; unfold maxLen at h2; omega
  go_enter Tryz.func33, Tryz.ntmps33
  go_wp2
  have c0' := World.cell?_alloc_new w #[.string nm, .int .i64 st, .slice A bs.length c, .slice A2 l.length c2] 35 0
  have c1' := World.cell?_alloc_new w #[.string nm, .int .i64 st, .slice A bs.length c, .slice A2 l.length c2] 35 1
  have c2' := World.cell?_alloc_new w #[.string nm, .int .i64 st, .slice A bs.length c, .slice A2 l.length c2] 35 2
  have c3' := World.cell?_alloc_new w #[.string nm, .int .i64 st, .slice A bs.length c, .slice A2 l.length c2] 35 3
  have hsz : w.heap.size < (w.alloc (Obj.cells #[.string nm, .int .i64 st, .slice A bs.length c, .slice A2 l.length c2] 35)).heap.size := by simp
  have hb1 : Below w.heap.size w (w.alloc (Obj.cells #[.string nm, .int .i64 st, .slice A bs.length c, .slice A2 l.length c2] 35)) := (Below.refl _ w).alloc (Nat.le_refl _) _
  generalize (w.alloc (Obj.cells #[.string nm, .int .i64 st, .slice A bs.length c, .slice A2 l.length c2] 35)) = W1 at c0' c1' c2' c3' hsz hb1 ⊢
  have F0 : ∀ p : Bw W1, p.out.cell? ⟨w.heap.size, 0, none⟩ = some (.string nm) := fun p => p.cell hsz (by simpa using c0')
  have F1 : ∀ p : Bw W1, p.out.cell? ⟨w.heap.size, 1, none⟩ = some (.int .i64 st) := fun p => p.cell hsz (by simpa using c1')
  have F2 : ∀ p : Bw W1, p.out.cell? ⟨w.heap.size, 2, none⟩ = some (.slice A bs.length c) := fun p => p.cell hsz (by simpa using c2')
  have F3 : ∀ p : Bw W1, p.out.cell? ⟨w.heap.size, 3, none⟩ = some (.slice A2 l.length c2) := fun p => p.cell hsz (by simpa using c3')
  clear c0' c1' c2' c3'
  refine wp_region_bw_tail 11 (by kernel_rfl) (by kernel_rfl) ?_
  simp only [List.take_succ_cons, List.take_zero, List.drop_succ_cons, List.drop_zero]
  repeat (first | go_big_quiet_step (first | (go_at_call 69; exact Bw.call _ (CN.out _)) | (go_at_call 40; exact Bw.pure _ (unl_any _ _ _)) | (go_at_call 59; exact Bw.pure _ (rng_any _ _ _ _)) | (go_at_call 47; exact Bw.pure _ (most_any _ _ _))))
  refine wpQuiet_nil ?_
  rintro ⟨W2, hB2⟩
  change wpList _ _ _ _ _ W2
  have hbW : Below W1.heap.size W1 (W2.alloc (Obj.cells #[Value.int .i64 (unl nb 8), Value.int .i64 (rng st 0 100000), Value.int .i64 (Go.Proofs.YtkgkpcmokmhakaaGreatDoor.most (bs.length : Int) 4096)] 36)) := hB2.alloc hB2.size _
  have HBW := hd (hb1.trans (hbW.mono hb1.size))
  clear F0 F1 F2 F3 hB2 hbW
  go_wp2_with (go_at_call 39; refine (first3 _ _ _ _ _).mono ?_; rintro e w' ⟨rfl, rfl⟩; rw [HE1.out])
  go_returns
  exact ⟨rfl, HBW.out⟩

set_option maxRecDepth 1000000 in
set_option maxHeartbeats 2000000 in
theorem chkRec_w2 (nm : ByteArray) (st : Int) (A A2 : Option Addr) (c c2 : Nat) (bs : List Nat) (l : List (Int × Int)) (w : World) (HLr : Hid (Rd w w.heap.size (.slice A bs.length c) bs.length (flc bs))) (HGr : Hid (Rd w w.heap.size (.slice A2 l.length c2) l.length (spc l)))
    (nb : Bool) (E1 E2 x1 x2 x3 : Int) (CN : Hid (∀ W, Calls Tryz.prog 69 #[.string nm] W fun e w' => e = .returned (.bool nb) ∧ Below W.heap.size W w'))
    (HE1 : Hid (fst0 [unl nb 8, rng st 0 100000, Go.Proofs.YtkgkpcmokmhakaaGreatDoor.most (bs.length : Int) 4096] = E1)) (hE1 : (E1 != 0) = false)
    (CL : Hid (∀ W, Rd W W.heap.size (.slice A bs.length c) bs.length (flc bs) → Calls Tryz.prog 70 #[.slice A bs.length c, .func (.func 71) #[] #[]] W fun e w' => e = .returned (.int .i64 x1) ∧ Below W.heap.size W w'))
    (CS : Hid (∀ W, Rd W W.heap.size (.slice A2 l.length c2) l.length (spc l) → Calls Tryz.prog 72 #[.slice A2 l.length c2] W fun e w' => e = .returned (.int .i64 x2) ∧ Below W.heap.size W w'))
    (CE : Hid (∀ W, Rd W W.heap.size (.slice A bs.length c) bs.length (flc bs) → Rd W W.heap.size (.slice A2 l.length c2) l.length (spc l) → Calls Tryz.prog 73 #[.agg #[.string nm, .int .i64 st, .slice A bs.length c, .slice A2 l.length c2]] W fun e w' => e = .returned (.int .i64 x3) ∧ Below W.heap.size W w'))
    (HE2 : Hid (fst0 [x1, x2, x3] = E2)) (hE2 : (E2 != 0) = true) :
    Calls Tryz.prog 33 #[.agg #[.string nm, .int .i64 st, .slice A bs.length c, .slice A2 l.length c2]] w fun e w' => e = .returned (.int .i64 E2) ∧ Below w.heap.size w w' := by
  have hc4 : bs.length ≤ 9223372036854775807 := by obtain ⟨A', c', e, h1, h2, -⟩ := HLr.out; unfold maxLen at h2; omega
  go_enter Tryz.func33, Tryz.ntmps33
  go_wp2
  have c0' := World.cell?_alloc_new w #[.string nm, .int .i64 st, .slice A bs.length c, .slice A2 l.length c2] 35 0
  have c1' := World.cell?_alloc_new w #[.string nm, .int .i64 st, .slice A bs.length c, .slice A2 l.length c2] 35 1
  have c2' := World.cell?_alloc_new w #[.string nm, .int .i64 st, .slice A bs.length c, .slice A2 l.length c2] 35 2
  have c3' := World.cell?_alloc_new w #[.string nm, .int .i64 st, .slice A bs.length c, .slice A2 l.length c2] 35 3
  have hsz : w.heap.size < (w.alloc (Obj.cells #[.string nm, .int .i64 st, .slice A bs.length c, .slice A2 l.length c2] 35)).heap.size := by simp
  have hb1 : Below w.heap.size w (w.alloc (Obj.cells #[.string nm, .int .i64 st, .slice A bs.length c, .slice A2 l.length c2] 35)) := (Below.refl _ w).alloc (Nat.le_refl _) _
  generalize (w.alloc (Obj.cells #[.string nm, .int .i64 st, .slice A bs.length c, .slice A2 l.length c2] 35)) = W1 at c0' c1' c2' c3' hsz hb1 ⊢
  have F0 : ∀ p : Bw W1, p.out.cell? ⟨w.heap.size, 0, none⟩ = some (.string nm) := fun p => p.cell hsz (by simpa using c0')
  have F1 : ∀ p : Bw W1, p.out.cell? ⟨w.heap.size, 1, none⟩ = some (.int .i64 st) := fun p => p.cell hsz (by simpa using c1')
  have F2 : ∀ p : Bw W1, p.out.cell? ⟨w.heap.size, 2, none⟩ = some (.slice A bs.length c) := fun p => p.cell hsz (by simpa using c2')
  have F3 : ∀ p : Bw W1, p.out.cell? ⟨w.heap.size, 3, none⟩ = some (.slice A2 l.length c2) := fun p => p.cell hsz (by simpa using c3')
  clear c0' c1' c2' c3'
  refine wp_region_bw_tail 11 (by kernel_rfl) (by kernel_rfl) ?_
  simp only [List.take_succ_cons, List.take_zero, List.drop_succ_cons, List.drop_zero]
  repeat (first | go_big_quiet_step (first | (go_at_call 69; exact Bw.call _ (CN.out _)) | (go_at_call 40; exact Bw.pure _ (unl_any _ _ _)) | (go_at_call 59; exact Bw.pure _ (rng_any _ _ _ _)) | (go_at_call 47; exact Bw.pure _ (most_any _ _ _))))
  refine wpQuiet_nil ?_
  rintro ⟨W2, hB2⟩
  change wpList _ _ _ _ _ W2
  have hbW : Below W1.heap.size W1 (W2.alloc (Obj.cells #[Value.int .i64 (unl nb 8), Value.int .i64 (rng st 0 100000), Value.int .i64 (Go.Proofs.YtkgkpcmokmhakaaGreatDoor.most (bs.length : Int) 4096)] 36)) := hB2.alloc hB2.size _
  go_wp2_with (go_at_call 39; refine (first3 _ _ _ _ _).mono ?_; rintro e w' ⟨rfl, rfl⟩; rw [HE1.out])
  generalize (W2.alloc (Obj.cells #[Value.int .i64 (unl nb 8), Value.int .i64 (rng st 0 100000), Value.int .i64 (Go.Proofs.YtkgkpcmokmhakaaGreatDoor.most (bs.length : Int) 4096)] 36)) = W3 at hbW ⊢
  have G0 : ∀ p : Bw W3, p.out.cell? ⟨w.heap.size, 0, none⟩ = some (.string nm) := fun p => F0 ⟨p.out, hbW.trans (p.below.mono hbW.size)⟩
  have G1 : ∀ p : Bw W3, p.out.cell? ⟨w.heap.size, 1, none⟩ = some (.int .i64 st) := fun p => F1 ⟨p.out, hbW.trans (p.below.mono hbW.size)⟩
  have G2 : ∀ p : Bw W3, p.out.cell? ⟨w.heap.size, 2, none⟩ = some (.slice A bs.length c) := fun p => F2 ⟨p.out, hbW.trans (p.below.mono hbW.size)⟩
  have G3 : ∀ p : Bw W3, p.out.cell? ⟨w.heap.size, 3, none⟩ = some (.slice A2 l.length c2) := fun p => F3 ⟨p.out, hbW.trans (p.below.mono hbW.size)⟩
  have hw3 : Below w.heap.size w W3 := hb1.trans (hbW.mono hb1.size)
  have HB3 := hd (fun p : Bw W3 => hw3.trans (p.below.mono hw3.size))
  clear F0 F1 F2 F3 hB2
  refine wp_region_bw_tail 8 (by kernel_rfl) (by kernel_rfl) ?_
  simp only [List.take_succ_cons, List.take_zero, List.drop_succ_cons, List.drop_zero]
  repeat (first | go_big_quiet_step (first | (go_at_call 70; exact Bw.call _ (CL.out _ ((HLr.out.below (HB3.out _) (Nat.le_refl _)).mono (HB3.out _).size))) | (go_at_call 72; exact Bw.call _ (CS.out _ ((HGr.out.below (HB3.out _) (Nat.le_refl _)).mono (HB3.out _).size))) | (go_at_call 73; exact Bw.call _ (CE.out _ ((HLr.out.below (HB3.out _) (Nat.le_refl _)).mono (HB3.out _).size) ((HGr.out.below (HB3.out _) (Nat.le_refl _)).mono (HB3.out _).size)))))
  refine wpQuiet_nil ?_
  rintro ⟨W4, hB4⟩
  change wpList _ _ _ _ _ W4
  have k0 := fun o => cell_alloc_old (o := o) (G0 ⟨W4, hB4⟩)
  have k1 := fun o => cell_alloc_old (o := o) (G1 ⟨W4, hB4⟩)
  have k2 := fun o => cell_alloc_old (o := o) (G2 ⟨W4, hB4⟩)
  have k3 := fun o => cell_alloc_old (o := o) (G3 ⟨W4, hB4⟩)
  have hb4 : Below w.heap.size w W4 := HB3.out ⟨W4, hB4⟩
  have HB4 := hd (fun o => hb4.alloc hb4.size o)
  dsimp only at k0 k1 k2 k3
  clear G0 G1 G2 G3
  go_wp2_with (go_at_call 39; refine (first3 _ _ _ _ _).mono ?_; rintro e w' ⟨rfl, rfl⟩; rw [HE2.out])
  go_returns
  exact ⟨rfl, HB4.out _⟩

set_option maxRecDepth 1000000 in
set_option maxHeartbeats 2000000 in
theorem chkRec_w3 (nm : ByteArray) (st : Int) (A A2 : Option Addr) (c c2 : Nat) (bs : List Nat) (l : List (Int × Int)) (w : World) (HLr : Hid (Rd w w.heap.size (.slice A bs.length c) bs.length (flc bs))) (HGr : Hid (Rd w w.heap.size (.slice A2 l.length c2) l.length (spc l)))
    (nb sb : Bool) (E1 E2 x1 x2 x3 : Int) (CN : Hid (∀ W, Calls Tryz.prog 69 #[.string nm] W fun e w' => e = .returned (.bool nb) ∧ Below W.heap.size W w'))
    (HE1 : Hid (fst0 [unl nb 8, rng st 0 100000, Go.Proofs.YtkgkpcmokmhakaaGreatDoor.most (bs.length : Int) 4096] = E1)) (hE1 : (E1 != 0) = false)
    (CL : Hid (∀ W, Rd W W.heap.size (.slice A bs.length c) bs.length (flc bs) → Calls Tryz.prog 70 #[.slice A bs.length c, .func (.func 71) #[] #[]] W fun e w' => e = .returned (.int .i64 x1) ∧ Below W.heap.size W w'))
    (CS : Hid (∀ W, Rd W W.heap.size (.slice A2 l.length c2) l.length (spc l) → Calls Tryz.prog 72 #[.slice A2 l.length c2] W fun e w' => e = .returned (.int .i64 x2) ∧ Below W.heap.size W w'))
    (CE : Hid (∀ W, Rd W W.heap.size (.slice A bs.length c) bs.length (flc bs) → Rd W W.heap.size (.slice A2 l.length c2) l.length (spc l) → Calls Tryz.prog 73 #[.agg #[.string nm, .int .i64 st, .slice A bs.length c, .slice A2 l.length c2]] W fun e w' => e = .returned (.int .i64 x3) ∧ Below W.heap.size W w'))
    (HE2 : Hid (fst0 [x1, x2, x3] = E2)) (hE2 : (E2 != 0) = false)
    (CI : Hid (∀ W, Rd W W.heap.size (.slice A bs.length c) bs.length (flc bs) → Rd W W.heap.size (.slice A2 l.length c2) l.length (spc l) → Calls Tryz.prog 74 #[.agg #[.string nm, .int .i64 st, .slice A bs.length c, .slice A2 l.length c2]] W fun e w' => e = .returned (.bool sb) ∧ Below W.heap.size W w')) :
    Calls Tryz.prog 33 #[.agg #[.string nm, .int .i64 st, .slice A bs.length c, .slice A2 l.length c2]] w fun e w' => e = .returned (.int .i64 (unl sb 1)) ∧ Below w.heap.size w w' := by
  have hc4 : bs.length ≤ 9223372036854775807 := by obtain ⟨A', c', e, h1, h2, -⟩ := HLr.out; unfold maxLen at h2; omega
  go_enter Tryz.func33, Tryz.ntmps33
  go_wp2
  have c0' := World.cell?_alloc_new w #[.string nm, .int .i64 st, .slice A bs.length c, .slice A2 l.length c2] 35 0
  have c1' := World.cell?_alloc_new w #[.string nm, .int .i64 st, .slice A bs.length c, .slice A2 l.length c2] 35 1
  have c2' := World.cell?_alloc_new w #[.string nm, .int .i64 st, .slice A bs.length c, .slice A2 l.length c2] 35 2
  have c3' := World.cell?_alloc_new w #[.string nm, .int .i64 st, .slice A bs.length c, .slice A2 l.length c2] 35 3
  have hsz : w.heap.size < (w.alloc (Obj.cells #[.string nm, .int .i64 st, .slice A bs.length c, .slice A2 l.length c2] 35)).heap.size := by simp
  have hb1 : Below w.heap.size w (w.alloc (Obj.cells #[.string nm, .int .i64 st, .slice A bs.length c, .slice A2 l.length c2] 35)) := (Below.refl _ w).alloc (Nat.le_refl _) _
  generalize (w.alloc (Obj.cells #[.string nm, .int .i64 st, .slice A bs.length c, .slice A2 l.length c2] 35)) = W1 at c0' c1' c2' c3' hsz hb1 ⊢
  have F0 : ∀ p : Bw W1, p.out.cell? ⟨w.heap.size, 0, none⟩ = some (.string nm) := fun p => p.cell hsz (by simpa using c0')
  have F1 : ∀ p : Bw W1, p.out.cell? ⟨w.heap.size, 1, none⟩ = some (.int .i64 st) := fun p => p.cell hsz (by simpa using c1')
  have F2 : ∀ p : Bw W1, p.out.cell? ⟨w.heap.size, 2, none⟩ = some (.slice A bs.length c) := fun p => p.cell hsz (by simpa using c2')
  have F3 : ∀ p : Bw W1, p.out.cell? ⟨w.heap.size, 3, none⟩ = some (.slice A2 l.length c2) := fun p => p.cell hsz (by simpa using c3')
  clear c0' c1' c2' c3'
  refine wp_region_bw_tail 11 (by kernel_rfl) (by kernel_rfl) ?_
  simp only [List.take_succ_cons, List.take_zero, List.drop_succ_cons, List.drop_zero]
  repeat (first | go_big_quiet_step (first | (go_at_call 69; exact Bw.call _ (CN.out _)) | (go_at_call 40; exact Bw.pure _ (unl_any _ _ _)) | (go_at_call 59; exact Bw.pure _ (rng_any _ _ _ _)) | (go_at_call 47; exact Bw.pure _ (most_any _ _ _))))
  refine wpQuiet_nil ?_
  rintro ⟨W2, hB2⟩
  change wpList _ _ _ _ _ W2
  have hbW : Below W1.heap.size W1 (W2.alloc (Obj.cells #[Value.int .i64 (unl nb 8), Value.int .i64 (rng st 0 100000), Value.int .i64 (Go.Proofs.YtkgkpcmokmhakaaGreatDoor.most (bs.length : Int) 4096)] 36)) := hB2.alloc hB2.size _
  go_wp2_with (go_at_call 39; refine (first3 _ _ _ _ _).mono ?_; rintro e w' ⟨rfl, rfl⟩; rw [HE1.out])
  generalize (W2.alloc (Obj.cells #[Value.int .i64 (unl nb 8), Value.int .i64 (rng st 0 100000), Value.int .i64 (Go.Proofs.YtkgkpcmokmhakaaGreatDoor.most (bs.length : Int) 4096)] 36)) = W3 at hbW ⊢
  have G0 : ∀ p : Bw W3, p.out.cell? ⟨w.heap.size, 0, none⟩ = some (.string nm) := fun p => F0 ⟨p.out, hbW.trans (p.below.mono hbW.size)⟩
  have G1 : ∀ p : Bw W3, p.out.cell? ⟨w.heap.size, 1, none⟩ = some (.int .i64 st) := fun p => F1 ⟨p.out, hbW.trans (p.below.mono hbW.size)⟩
  have G2 : ∀ p : Bw W3, p.out.cell? ⟨w.heap.size, 2, none⟩ = some (.slice A bs.length c) := fun p => F2 ⟨p.out, hbW.trans (p.below.mono hbW.size)⟩
  have G3 : ∀ p : Bw W3, p.out.cell? ⟨w.heap.size, 3, none⟩ = some (.slice A2 l.length c2) := fun p => F3 ⟨p.out, hbW.trans (p.below.mono hbW.size)⟩
  have hw3 : Below w.heap.size w W3 := hb1.trans (hbW.mono hb1.size)
  have HB3 := hd (fun p : Bw W3 => hw3.trans (p.below.mono hw3.size))
  clear F0 F1 F2 F3 hB2
  refine wp_region_bw_tail 8 (by kernel_rfl) (by kernel_rfl) ?_
  simp only [List.take_succ_cons, List.take_zero, List.drop_succ_cons, List.drop_zero]
  repeat (first | go_big_quiet_step (first | (go_at_call 70; exact Bw.call _ (CL.out _ ((HLr.out.below (HB3.out _) (Nat.le_refl _)).mono (HB3.out _).size))) | (go_at_call 72; exact Bw.call _ (CS.out _ ((HGr.out.below (HB3.out _) (Nat.le_refl _)).mono (HB3.out _).size))) | (go_at_call 73; exact Bw.call _ (CE.out _ ((HLr.out.below (HB3.out _) (Nat.le_refl _)).mono (HB3.out _).size) ((HGr.out.below (HB3.out _) (Nat.le_refl _)).mono (HB3.out _).size)))))
  refine wpQuiet_nil ?_
  rintro ⟨W4, hB4⟩
  change wpList _ _ _ _ _ W4
  have k0 := fun o => cell_alloc_old (o := o) (G0 ⟨W4, hB4⟩)
  have k1 := fun o => cell_alloc_old (o := o) (G1 ⟨W4, hB4⟩)
  have k2 := fun o => cell_alloc_old (o := o) (G2 ⟨W4, hB4⟩)
  have k3 := fun o => cell_alloc_old (o := o) (G3 ⟨W4, hB4⟩)
  have hb4 : Below w.heap.size w W4 := HB3.out ⟨W4, hB4⟩
  have HB4 := hd (fun o => hb4.alloc hb4.size o)
  dsimp only at k0 k1 k2 k3
  clear G0 G1 G2 G3
  go_wp2_with (first | (go_at_call 39; refine (first3 _ _ _ _ _).mono ?_; rintro e w' ⟨rfl, rfl⟩; rw [HE2.out]) | (go_at_call 74; refine (CI.out _ ((HLr.out.below (HB4.out _) (Nat.le_refl _)).mono (HB4.out _).size) ((HGr.out.below (HB4.out _) (Nat.le_refl _)).mono (HB4.out _).size)).mono ?_; rintro e w' ⟨rfl, hb5⟩) | (go_at_call 40; refine (unl_any _ _ _).mono ?_; rintro e w' ⟨rfl, rfl⟩))
  go_ret
  exact ⟨rfl, (HB4.out _).trans (hb5.mono (HB4.out _).size)⟩

theorem chkRec_any (nm : ByteArray) (st : Int) (lv gv : Value) (bs : List Nat) (l : List (Int × Int)) (w : World) (hl : Rd w w.heap.size lv bs.length (flc bs)) (hg : Rd w w.heap.size gv l.length (spc l)) (hs : nm.size ≤ maxLen) :
    Calls Tryz.prog 33 #[.agg #[.string nm, .int .i64 st, lv, gv]] w fun e w' => e = .returned (.int .i64 (chkRec nm st bs l)) ∧ Below w.heap.size w w' := by
  obtain ⟨A, c, rfl, -⟩ := id hl
  obtain ⟨A2, c2, rfl, -⟩ := id hg
  have CN := hd (fun W => isName_any nm W hs)
  have CL := hd (fun W h => eachLev_any (.slice A bs.length c) bs W h)
  have CS := hd (fun W h => chkSpans_any (.slice A2 l.length c2) l W h)
  have CE := hd (fun W h h' => checkEnds_any nm st (.slice A bs.length c) (.slice A2 l.length c2) (flc bs) bs.length l W h h')
  unfold chkRec
  by_cases h1 : rec1 nm st bs.length = 0
  · rw [if_pos h1]
    by_cases h2 : rec2 bs l = 0
    · rw [if_pos h2]
      obtain ⟨-, z2, z3⟩ := rec2_zero h2
      have hok : ∀ j, j < l.length → 0 ≤ (l.getD j (0, 0)).1 ∧ (l.getD j (0, 0)).1 < (l.getD j (0, 0)).2 ∧ (l.getD j (0, 0)).2 ≤ (bs.length : Int) := fun j hj => by
        have := (chkSpans_ok l z2).2.1 _ (getD_mem l j hj)
        exact ⟨this.1, this.2.1, ends_zero z3 j hj⟩
      have he : ∀ s ∈ l, s.2 ≤ (bs.length : Int) := fun s hs => by
        obtain ⟨j, hj, rfl⟩ := List.mem_iff_getElem.1 hs
        have := ends_zero z3 j hj
        simpa [hj] using this
      refine chkRec_w3 nm st A A2 c c2 bs l w (hd hl) (hd hg) _ (silB bs l) 0 0 _ _ _ CN (hd h1) rfl CL CS CE (hd h2) rfl ?_
      cases hb : silB bs l
      · exact hd fun W h h' => isSilent_no nm st _ _ bs l W h h' hok (fun hh => by rw [(silB_true bs l he).2 hh] at hb; cases hb)
      · exact hd fun W h h' => isSilent_ok nm st _ _ bs l W h h' hok ((silB_true bs l he).1 hb)
    · rw [if_neg h2]
      exact chkRec_w2 nm st A A2 c c2 bs l w (hd hl) (hd hg) _ 0 _ _ _ _ CN (hd h1) rfl CL CS CE (hd rfl) (by simpa using h2)
  · rw [if_neg h1]
    exact chkRec_w1 nm st A A2 c c2 bs l w (hd hl) _ _ CN (hd rfl) (by simpa using h1)
end Go.Proofs.YtkgkpcmokmhakaaGreatDoor

namespace Go.Proofs.YtkgkpcmokmhakaaGreatDoor
open Go.RowKit

theorem knL_at (gs : List (Int × Int)) (n i : Nat) (hi : i < n) : (knL gs n).getD i false = !cov gs (i : Int) := by simp [knL, hi]

theorem valid_of {nm : ByteArray} {st : Int} {bs : List Nat} {gs : List (Int × Int)} (h : chkRec nm st bs gs = 0) (hs : nm.size ≤ maxLen) : Valid nm st bs gs ∧ Can gs ∧ ∀ i, i < bs.length → chkLev (bs.getD i 0) = 0 := by
  unfold chkRec at h
  by_cases h1 : rec1 nm st bs.length = 0
  · rw [if_pos h1] at h
    by_cases h2 : rec2 bs gs = 0
    · rw [if_pos h2] at h
      obtain ⟨z1, z2, z3⟩ := rec2_zero h2
      have n1 : unl (nameB nm) 8 = 0 := fst0_each h1 0 (by simp)
      have n2 : rng st 0 100000 = 0 := fst0_each h1 1 (by simp)
      have n3 : Go.Proofs.YtkgkpcmokmhakaaGreatDoor.most (bs.length : Int) 4096 = 0 := fst0_each h1 2 (by simp)
      have hl : ∀ i, i < bs.length → chkLev (bs.getD i 0) = 0 := fun i hi => by
        have := fst0_each z1 i (by simpa [levErr] using hi)
        rwa [levErr_at bs i hi] at this
      refine ⟨⟨hs, ?_, ?_, ?_, fun j hj => by rw [levOK_iff]; simpa using hl j hj, z2, fun j hj => ends_zero z3 j hj, ?_⟩, can_of gs z2, hl⟩
      · cases hn : nameB nm
        · rw [hn] at n1; simp [unl] at n1
        · rfl
      · unfold rng at n2
        split at n2
        · assumption
        · cases n2
      · unfold Go.Proofs.YtkgkpcmokmhakaaGreatDoor.most at n3
        split at n3
        · omega
        · cases n3
      · have he : ∀ s ∈ gs, s.2 ≤ (bs.length : Int) := fun s hs => by
          obtain ⟨j, hj, rfl⟩ := List.mem_iff_getElem.1 hs
          have := ends_zero z3 j hj
          simpa [hj] using this
        refine (silB_true bs gs he).1 ?_
        cases hb : silB bs gs
        · rw [hb] at h; simp [unl] at h
        · rfl
    · rw [if_neg h2] at h; exact absurd h h2
  · rw [if_neg h1] at h; exact absurd h h1


end Go.Proofs.YtkgkpcmokmhakaaGreatDoor

namespace Go.Proofs.YtkgkpcmokmhakaaGreatDoor
open Go.RowKit

theorem str_can (bs : List Bool) : ∀ k : Nat, Can (strF bs k) ∧ (∀ s ∈ strF bs k, 0 ≤ s.1 ∧ s.2 ≤ (k : Int)) ∧ ∀ x : Int, hasL (strF bs k) x = (decide (0 ≤ x) && decide (x < (k : Int)) && bs.getD x.toNat false)
  | 0 => by
    refine ⟨⟨.nil, fun s hs => by cases hs⟩, fun s hs => (by cases hs), fun x => ?_⟩
    show false = _
    by_cases h : 0 ≤ x
    · have : ¬ x < ((0 : Nat) : Int) := by omega
      simp only [this, decide_false, Bool.and_false, Bool.false_and]
    · simp only [h, decide_false, Bool.false_and]
  | k + 1 => by
    obtain ⟨h1, h2, h3⟩ := str_can bs k
    have key : ∀ x : Int, x ≠ k → (decide (x < ((k + 1 : Nat) : Int))) = decide (x < (k : Int)) := fun x hx => by
      rw [decide_eq_decide]; omega
    rw [strF]
    by_cases hb : bs.getD k false = true
    · rw [if_pos hb]
      obtain ⟨e1, e2, e3⟩ := ext_can (strF bs k) k (k + 1) h1 (fun s hs => (h2 s hs).2) (by omega)
      refine ⟨e1, fun s hs => ?_, fun x => ?_⟩
      · obtain ⟨e4, e5⟩ := e3 s hs
        refine ⟨?_, by push_cast; exact e5⟩
        rcases e4 with e4 | ⟨s', hs', e4⟩
        · omega
        · rw [e4]; exact (h2 s' hs').1
      · rw [e2, h3]
        by_cases hx : x = k
        · subst hx
          have a1 : ¬ (k : Int) < (k : Int) := by omega
          have a2 : (k : Int) < ((k + 1 : Nat) : Int) := by omega
          have a3 : (0 : Int) ≤ (k : Int) := by omega
          have a4 : (k : Int) < (k : Int) + 1 := by omega
          have hb' : bs.getD ((k : Int)).toNat false = true := by simpa using hb
          rw [hb']
          simp only [a1, a2, a3, a4, decide_true, decide_false, Bool.and_true, Bool.and_false, Bool.false_or, Int.le_refl]
        · rw [key x hx]
          have : (decide ((k : Int) ≤ x) && decide (x < (k : Int) + 1)) = false := by
            rw [Bool.and_eq_false_iff, decide_eq_false_iff_not, decide_eq_false_iff_not]; omega
          rw [this, Bool.or_false]
    · have hb' : bs.getD k false = false := by simpa using hb
      rw [if_neg hb]
      refine ⟨h1, fun s hs => ⟨(h2 s hs).1, by have := (h2 s hs).2; push_cast; omega⟩, fun x => ?_⟩
      rw [h3]
      by_cases hx : x = k
      · subst hx
        have a1 : ¬ (k : Int) < (k : Int) := by omega
        have hb2 : bs.getD ((k : Int)).toNat false = false := by simpa using hb'
        rw [hb2]
        simp only [Bool.and_false]
      · rw [key x hx]

/-- The gaps of a record of m levels, and the first k of the one behind it. -/
def apK (gs hs : List (Int × Int)) (m : Nat) : Nat → List (Int × Int)
  | 0 => gs
  | k + 1 => ext (apK gs hs m k) ((hs.getD k (0, 0)).1 + m) ((hs.getD k (0, 0)).2 + m)
theorem apK_len (gs hs : List (Int × Int)) (m : Nat) : ∀ k, (apK gs hs m k).length ≤ gs.length + k
  | 0 => by simp [apK]
  | k + 1 => by
    have := apK_len gs hs m k
    have := ext_len (apK gs hs m k) ((hs.getD k (0, 0)).1 + m) ((hs.getD k (0, 0)).2 + m)
    rw [apK]; omega
theorem apK_ok (gs hs : List (Int × Int)) (m : Nat) (h1 : chkSpans gs = 0) (h2 : chkSpans hs = 0) (he : ∀ s ∈ gs, s.2 ≤ (m : Int)) : ∀ k, k ≤ hs.length → Can (apK gs hs m k) ∧ (∀ s ∈ apK gs hs m k, 0 ≤ s.1 ∧ (s.2 ≤ (m : Int) ∨ ∃ j, j < k ∧ s.2 ≤ (hs.getD j (0, 0)).2 + m)) ∧ ∀ x : Int, hasL (apK gs hs m k) x = (hasL gs x || hasL (hs.take k) (x - m))
  | 0, _ => by
    refine ⟨can_of gs h1, fun s hs => ⟨((chkSpans_ok gs h1).2.1 s hs).1, .inl (he s hs)⟩, fun x => ?_⟩
    simp [apK, hasL]
  | k + 1, hk => by
    obtain ⟨c1, c2, c3⟩ := apK_ok gs hs m h1 h2 he k (by omega)
    have hb := (chkSpans_ok hs h2).2.1 _ (getD_mem hs k hk)
    have hasc := asc_of hs h2
    have hle : ∀ s ∈ apK gs hs m k, s.2 ≤ (hs.getD k (0, 0)).1 + m := fun s hs' => by
      rcases (c2 s hs').2 with h | ⟨j, hj, h⟩
      · omega
      · have h3 := List.pairwise_iff_getElem.1 (chkSpans_ok hs h2).2.2 j k (by omega) (by omega) hj
        have e1 : hs.getD j (0, 0) = hs[j] := by simp [show j < hs.length by omega]
        have e2 : hs.getD k (0, 0) = hs[k] := by simp [show k < hs.length by omega]
        rw [e1] at h
        rw [e2]
        omega
    obtain ⟨e1, e2, e3⟩ := ext_can (apK gs hs m k) ((hs.getD k (0, 0)).1 + m) ((hs.getD k (0, 0)).2 + m) c1 hle (by omega)
    rw [apK]
    refine ⟨e1, fun s hs' => ?_, fun x => ?_⟩
    · obtain ⟨e4, e5⟩ := e3 s hs'
      refine ⟨?_, .inr ⟨k, by omega, e5⟩⟩
      rcases e4 with e4 | ⟨s', hs2, e4⟩
      · omega
      · rw [e4]; exact (c2 s' hs2).1
    · rw [e2, c3, List.take_succ_eq_append_getElem (by omega), hasL_append, Bool.or_assoc]
      congr 2
      have e : hs[k] = hs.getD k (0, 0) := by simp [show k < hs.length by omega]
      rw [e]
      simp only [hasL, List.any_cons, List.any_nil, Bool.or_false]
      rw [Bool.eq_iff_iff]
      simp only [Bool.and_eq_true, decide_eq_true_eq]
      omega

end Go.Proofs.YtkgkpcmokmhakaaGreatDoor

namespace Go.Proofs.YtkgkpcmokmhakaaGreatDoor
open Go.RowKit

theorem feq_self {b : Nat} (h : chkLev b = 0) : feqL b b = true := by
  unfold chkLev at h
  cases hd : FloatKind.f32.decode b with
  | nan s t => rw [hd] at h; cases h
  | infinity s => rw [hd] at h; cases h
  | number s m e =>
    have hr : FloatKind.f32.format.read b = .number s m e := hd
    unfold feqL Ieee.Format.order
    rw [hr]
    simp [Ieee.Datum.order]
end Go.Proofs.YtkgkpcmokmhakaaGreatDoor

namespace Go.Proofs.YtkgkpcmokmhakaaGreatDoor
open Go.RowKit
open Ieee (Format Datum)

/-- The value of a float32, in units of its least place; 0 of what is no number. -/
def num (b : Nat) : Int := match FloatKind.f32.decode b with
  | .number s m e => sgnI s (magOf sgl m e)
  | _ => 0
/-- The bits of a finite float32. -/
def finB (b : Nat) : Bool := match FloatKind.f32.decode b with
  | .number _ _ _ => true
  | _ => false
theorem fin_parts {b : Nat} (h : finB b = true) : ∃ s m e, Fin sgl b s m e ∧ e ≤ 104 ∧ num b = sgnI s (magOf sgl m e) := by
  unfold finB at h
  cases hd : FloatKind.f32.decode b with
  | nan s t => rw [hd] at h; cases h
  | infinity s => rw [hd] at h; cases h
  | number s m e =>
    obtain ⟨hf, he⟩ := f32_top hd
    exact ⟨s, m, e, hf, he, by unfold num; rw [hd]⟩
theorem fin_lev {b : Nat} (h : chkLev b = 0) : finB b = true := by
  unfold chkLev at h
  unfold finB
  cases hd : FloatKind.f32.decode b with
  | nan s t => rw [hd] at h; cases h
  | infinity s => rw [hd] at h; cases h
  | number s m e => rfl
theorem ord_num {a b : Nat} (ha : finB a = true) (hb : finB b = true) : FloatKind.f32.format.order a b = some (compare (num a) (num b)) := by
  obtain ⟨s, m, e, h1, -, e1⟩ := fin_parts ha
  obtain ⟨t, n, j, h2, -, e2⟩ := fin_parts hb
  rw [e1, e2]
  exact order_eq h1 h2
theorem feq_num {a b : Nat} (ha : finB a = true) (hb : finB b = true) : feqL a b = decide (num a = num b) := by
  unfold feqL; rw [ord_num ha hb, cmp_eq]

theorem fmn_min {a b : Nat} (ha : finB a = true) (hb : finB b = true) : finB (fmn a b) = true ∧ num (fmn a b) = min (num a) (num b) := by
  unfold fmn
  rw [ord_num ha hb]
  cases hc : compare (num a) (num b) with
  | lt => have := Int.compare_eq_lt.1 hc; exact ⟨ha, by simp only; omega⟩
  | gt => have := Int.compare_eq_gt.1 hc; exact ⟨hb, by simp only; omega⟩
  | eq =>
    have := Int.compare_eq_eq.1 hc
    simp only
    split
    · exact ⟨ha, by omega⟩
    · exact ⟨hb, by omega⟩
theorem fmx_max {a b : Nat} (ha : finB a = true) (hb : finB b = true) : finB (fmx a b) = true ∧ num (fmx a b) = max (num a) (num b) := by
  unfold fmx
  rw [ord_num ha hb]
  cases hc : compare (num a) (num b) with
  | lt => have := Int.compare_eq_lt.1 hc; exact ⟨hb, by simp only; omega⟩
  | gt => have := Int.compare_eq_gt.1 hc; exact ⟨ha, by simp only; omega⟩
  | eq =>
    have := Int.compare_eq_eq.1 hc
    simp only
    split
    · exact ⟨hb, by omega⟩
    · exact ⟨ha, by omega⟩

/-- A valid level lies between -64 and 64. -/
theorem lev_bound {b : Nat} (h : chkLev b = 0) : num 3263168512 ≤ num b ∧ num b ≤ num 1115684864 := by
  have h1 : num 3263168512 = -(64 * (oneU sgl : Int)) := by decide +kernel
  have h2 : num 1115684864 = 64 * (oneU sgl : Int) := by decide +kernel
  have hfin := fin_lev h
  unfold chkLev at h
  unfold num
  cases hd : FloatKind.f32.decode b with
  | nan s t => rw [hd] at h; cases h
  | infinity s => rw [hd] at h; cases h
  | number s m e =>
    rw [hd] at h
    simp only at h ⊢
    obtain ⟨hf, he⟩ := f32_top hd
    have hlp := hf.lp
    rw [sgl_lp] at hlp
    split at h
    · rename_i hc
      obtain ⟨-, hc⟩ := hc
      rw [mag_wide m e hlp, one_wide, ← Nat.mul_assoc] at hc
      have hc2 := Nat.le_of_mul_le_mul_right hc (Nat.two_pow_pos _)
      change num 3263168512 ≤ _ ∧ _ ≤ num 1115684864
      rw [h1, h2]
      cases s
      · simp only [sgnI, Bool.false_eq_true, if_false]; omega
      · simp only [sgnI, if_true]; omega
    · cases h
theorem fin_64b : finB 1115684864 = true ∧ finB 3263168512 = true := ⟨by decide +kernel, by decide +kernel⟩
end Go.Proofs.YtkgkpcmokmhakaaGreatDoor

namespace Go.Proofs.YtkgkpcmokmhakaaGreatDoor
open Go.RowKit
attribute [local go_sem] Oper.semAt_some

theorem below_dq {B : Nat} {a w : World} (h : Below B a w) (k : Nat) : Below B a (w.drewN k) := ⟨h.os, h.tape, h.output, h.size, h.block⟩

/-- A level times 1 or -1. -/
def sv (neg : Bool) (b : Nat) : Int := if neg = true then -num b else num b
end Go.Proofs.YtkgkpcmokmhakaaGreatDoor

namespace Go.Proofs.YtkgkpcmokmhakaaGreatDoor
open Go.RowKit
attribute [local go_sem] Oper.semAt_some

end Go.Proofs.YtkgkpcmokmhakaaGreatDoor

namespace Go.Proofs.YtkgkpcmokmhakaaGreatDoor
open Go.RowKit
attribute [local go_sem] Oper.semAt_some

section
variable {w : World} {nm : ByteArray} {st : Int} {lv gv : Value} {cs : Array Value} {W W' : World}
end

/-- One level more in the reference's statistics. -/
def rst (s : SS) (b : Nat) : SS := ⟨s.cnt + 1, s.sum + s16 b, if s.cnt = 0 ∨ num b < num s.lo then b else s.lo, if s.cnt = 0 ∨ num s.hi < num b then b else s.hi⟩
def rfK (bs : List Nat) (gs : List (Int × Int)) : Nat → SS
  | 0 => ⟨0, 0, 0, 0⟩
  | k + 1 => if hasL gs (k : Nat) = true then rfK bs gs k else rst (rfK bs gs k) (bs.getD k 0)
theorem rfK_ok (bs : List Nat) (gs : List (Int × Int)) (hlev : ∀ i, i < bs.length → chkLev (bs.getD i 0) = 0) : ∀ k, k ≤ bs.length → 0 ≤ (rfK bs gs k).cnt ∧ (rfK bs gs k).cnt ≤ k ∧ -(1024 * (k : Int)) ≤ (rfK bs gs k).sum ∧ (rfK bs gs k).sum ≤ 1024 * (k : Int) ∧ (0 < (rfK bs gs k).cnt → finB (rfK bs gs k).lo = true ∧ finB (rfK bs gs k).hi = true)
  | 0, _ => ⟨by simp [rfK], by simp [rfK], by simp [rfK], by simp [rfK], fun h => by simp [rfK] at h⟩
  | k + 1, hk => by
    obtain ⟨h1, h2, h3, h4, h5⟩ := rfK_ok bs gs hlev k (by omega)
    have hl := hlev k (by omega)
    have hf := fin_lev hl
    obtain ⟨-, g1, g2⟩ := sixt_of (show levOK (bs.getD k 0) = true by rw [levOK_iff]; simpa using hl)
    rw [rfK]
    split
    · exact ⟨h1, by omega, by omega, by omega, h5⟩
    · refine ⟨by simp only [rst]; omega, by simp only [rst]; omega, by simp only [rst]; omega, by simp only [rst]; omega, fun _ => ?_⟩
      by_cases h0 : (rfK bs gs k).cnt = 0
      · simp only [rst, h0, true_or, if_true]; exact ⟨hf, hf⟩
      · obtain ⟨f1, f2⟩ := h5 (by omega)
        simp only [rst, h0, false_or]
        constructor
        · split <;> assumption
        · split <;> assumption

end Go.Proofs.YtkgkpcmokmhakaaGreatDoor

namespace Go.Proofs.YtkgkpcmokmhakaaGreatDoor
open Go.RowKit

theorem selM_itm {bs : List Nat} (p : Nat × Nat → Bool) (gs : List (Int × Int)) (hok : ∀ j, j < bs.length → levOK (bs.getD j 0) = true) : ∀ k, k ≤ bs.length → selM p (itm gs (fLvM bs) k) = ((List.range k).filter fun i => !cov gs (i : Nat) && p (i, bs.getD i 0)).map fun i : Nat => (i : Int)
  | 0, _ => rfl
  | k + 1, hk => by
    have ih := selM_itm (bs := bs) p gs hok k (by omega)
    have hat := fLvM_at bs hok k (by omega)
    rw [List.range_succ, List.filter_append, List.map_append, ← ih]
    cases hc : cov gs (k : Int)
    · rw [itm_yes gs _ k hc]
      cases hp : p (k, bs.getD k 0)
      · have hp' : p (k, bs[k]?.getD 0) = false := by simpa using hp
        rw [selM_no _ (by rw [hat]; exact hp')]
        simp [hp']
      · have hp' : p (k, bs[k]?.getD 0) = true := by simpa using hp
        rw [selM_yes _ (by rw [hat]; exact hp'), hat]
        simp [hc, hp']
    · rw [itm_no gs _ k hc]
      simp [hc]

end Go.Proofs.YtkgkpcmokmhakaaGreatDoor

namespace Go.Proofs.YtkgkpcmokmhakaaGreatDoor
open Go.RowKit

theorem sum_rel (bs : List Nat) (gs : List (Int × Int)) (hC : Can gs) (hl : ∀ i, i < bs.length → chkLev (bs.getD i 0) = 0) : ∀ k, k ≤ bs.length →
    (sumF (itm gs (fLvM bs) k)).cnt = (rfK bs gs k).cnt ∧ (sumF (itm gs (fLvM bs) k)).sum = (rfK bs gs k).sum ∧ finB (sumF (itm gs (fLvM bs) k)).lo = true ∧ finB (sumF (itm gs (fLvM bs) k)).hi = true ∧
    ((rfK bs gs k).cnt = 0 → num (sumF (itm gs (fLvM bs) k)).lo = num 1115684864 ∧ num (sumF (itm gs (fLvM bs) k)).hi = num 3263168512) ∧
    (0 < (rfK bs gs k).cnt → num (sumF (itm gs (fLvM bs) k)).lo = num (rfK bs gs k).lo ∧ num (sumF (itm gs (fLvM bs) k)).hi = num (rfK bs gs k).hi)
  | 0, _ => ⟨rfl, rfl, fin_64b.1, fin_64b.2, fun _ => ⟨rfl, rfl⟩, fun h => by simp [rfK] at h⟩
  | k + 1, hk => by
    obtain ⟨h1, h2, h3, h4, h5, h6⟩ := sum_rel bs gs hC hl k (by omega)
    have hok : ∀ j, j < bs.length → levOK (bs.getD j 0) = true := fun j hj => by rw [levOK_iff]; simpa using hl j hj
    have hat := fLvM_at bs hok k (by omega)
    have hx := hl k (by omega)
    have hf := fin_lev hx
    obtain ⟨r1, r2, r3, r4, r5⟩ := rfK_ok bs gs hl k (by omega)
    have hb := lev_bound hx
    have e2 : bs[k]?.getD 0 = bs.getD k 0 := by simp
    rw [rfK]
    cases hc : hasL gs (k : Int)
    · have hcov : cov gs (k : Int) = false := by rw [cov_has gs k hC]; exact hc
      rw [itm_yes gs _ k hcov, sumF_snoc, hat, if_neg (by decide)]
      simp only [e2]
      obtain ⟨m1, m2⟩ := fmn_min h3 hf
      obtain ⟨m3, m4⟩ := fmx_max h4 hf
      refine ⟨by simp only [sstp, rst]; rw [h1], by simp only [sstp, rst]; rw [h2], m1, m3, fun h => ?_, fun _ => ?_⟩
      · simp only [rst] at h; omega
      · by_cases h0 : (rfK bs gs k).cnt = 0
        · obtain ⟨g1, g2⟩ := h5 h0
          simp only [sstp, rst, h0, true_or, if_true]
          rw [m2, m4, g1, g2]
          omega
        · obtain ⟨g1, g2⟩ := h6 (by omega)
          simp only [sstp, rst, h0, false_or]
          rw [m2, m4, g1, g2]
          constructor
          · split <;> omega
          · split <;> omega
    · have hcov : cov gs (k : Int) = true := by rw [cov_has gs k hC]; exact hc
      rw [itm_no gs _ k hcov, if_pos rfl]
      exact ⟨h1, h2, h3, h4, h5, h6⟩

end Go.Proofs.YtkgkpcmokmhakaaGreatDoor

namespace Go.Proofs.YtkgkpcmokmhakaaGreatDoor
open Go.RowKit
attribute [local go_sem] Oper.semAt_some

end Go.Proofs.YtkgkpcmokmhakaaGreatDoor
