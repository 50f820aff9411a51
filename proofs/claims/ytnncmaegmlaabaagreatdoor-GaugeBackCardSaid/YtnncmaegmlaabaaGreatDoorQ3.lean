/-
  The project's CheckRecord, of every record whose name is no longer than memory holds: the walks.
-/
import Derived.Test.YtnncmaegmlaabaaGreatDoorProg
import Derived.Test.YtnncmaegmlaabaaGreatDoorQ2
namespace Go.Proofs.YtnncmaegmlaabaaGreatDoor
open Go.RowKit

set_option maxRecDepth 1000000 in
set_option maxHeartbeats 2000000 in
theorem chkRec_w1 (nm : ByteArray) (st : Int) (A A2 : Option Addr) (c c2 : Nat) (bs : List Nat) (l : List (Int × Int)) (w : World) (HLr : Hid (Rd w w.heap.size (.slice A bs.length c) bs.length (flc bs))) 
    (nb : Bool) (E1 : Int) (CN : Hid (∀ W, Calls Tryz.prog 96 #[.string nm] W fun e w' => e = .returned (.bool nb) ∧ Below W.heap.size W w'))
    (HE1 : Hid (fst0 [unl nb 8, rng st 0 100000, Go.Proofs.YtnncmaegmlaabaaGreatDoor.most (bs.length : Int) 4096] = E1)) (hE1 : (E1 != 0) = true) :
    Calls Tryz.prog 41 #[.agg #[.string nm, .int .i64 st, .slice A bs.length c, .slice A2 l.length c2]] w fun e w' => e = .returned (.int .i64 E1) ∧ Below w.heap.size w w' := by
  have hc4 : bs.length ≤ 9223372036854775807 := by obtain ⟨A', c', e, h1, h2, -⟩ := HLr.out; unfold maxLen at h2; omega
  go_enter Tryz.func41, Tryz.ntmps41
  go_wp2
  have c0' := World.cell?_alloc_new w #[.string nm, .int .i64 st, .slice A bs.length c, .slice A2 l.length c2] 31 0
  have c1' := World.cell?_alloc_new w #[.string nm, .int .i64 st, .slice A bs.length c, .slice A2 l.length c2] 31 1
  have c2' := World.cell?_alloc_new w #[.string nm, .int .i64 st, .slice A bs.length c, .slice A2 l.length c2] 31 2
  have c3' := World.cell?_alloc_new w #[.string nm, .int .i64 st, .slice A bs.length c, .slice A2 l.length c2] 31 3
  have hsz : w.heap.size < (w.alloc (Obj.cells #[.string nm, .int .i64 st, .slice A bs.length c, .slice A2 l.length c2] 31)).heap.size := by simp
  have hb1 : Below w.heap.size w (w.alloc (Obj.cells #[.string nm, .int .i64 st, .slice A bs.length c, .slice A2 l.length c2] 31)) := (Below.refl _ w).alloc (Nat.le_refl _) _
  generalize (w.alloc (Obj.cells #[.string nm, .int .i64 st, .slice A bs.length c, .slice A2 l.length c2] 31)) = W1 at c0' c1' c2' c3' hsz hb1 ⊢
  have F0 : ∀ p : Bw W1, p.out.cell? ⟨w.heap.size, 0, none⟩ = some (.string nm) := fun p => p.cell hsz (by simpa using c0')
  have F1 : ∀ p : Bw W1, p.out.cell? ⟨w.heap.size, 1, none⟩ = some (.int .i64 st) := fun p => p.cell hsz (by simpa using c1')
  have F2 : ∀ p : Bw W1, p.out.cell? ⟨w.heap.size, 2, none⟩ = some (.slice A bs.length c) := fun p => p.cell hsz (by simpa using c2')
  have F3 : ∀ p : Bw W1, p.out.cell? ⟨w.heap.size, 3, none⟩ = some (.slice A2 l.length c2) := fun p => p.cell hsz (by simpa using c3')
  clear c0' c1' c2' c3'
  refine wp_region_bw_tail 11 (by kernel_rfl) (by kernel_rfl) ?_
  simp only [List.take_succ_cons, List.take_zero, List.drop_succ_cons, List.drop_zero]
  repeat (first | go_big_quiet_step (first | (go_at_call 96; exact Bw.call _ (CN.out _)) | (go_at_call 50; exact Bw.pure _ (unl_any _ _ _)) | (go_at_call 84; exact Bw.pure _ (rng_any _ _ _ _)) | (go_at_call 73; exact Bw.pure _ (most_any _ _ _))))
  refine wpQuiet_nil ?_
  rintro ⟨W2, hB2⟩
  change wpList _ _ _ _ _ W2
  have hbW : Below W1.heap.size W1 (W2.alloc (Obj.cells #[Value.int .i64 (unl nb 8), Value.int .i64 (rng st 0 100000), Value.int .i64 (Go.Proofs.YtnncmaegmlaabaaGreatDoor.most (bs.length : Int) 4096)] 28)) := hB2.alloc hB2.size _
  have HBW := hd (hb1.trans (hbW.mono hb1.size))
  clear F0 F1 F2 F3 hB2 hbW
  go_wp2_with (go_at_call 49; refine (first3 _ _ _ _ _).mono ?_; rintro e w' ⟨rfl, rfl⟩; rw [HE1.out])
  go_returns
  exact ⟨rfl, HBW.out⟩

set_option maxRecDepth 1000000 in
set_option maxHeartbeats 2000000 in
theorem chkRec_w2 (nm : ByteArray) (st : Int) (A A2 : Option Addr) (c c2 : Nat) (bs : List Nat) (l : List (Int × Int)) (w : World) (HLr : Hid (Rd w w.heap.size (.slice A bs.length c) bs.length (flc bs))) (HGr : Hid (Rd w w.heap.size (.slice A2 l.length c2) l.length (spc l)))
    (nb : Bool) (E1 E2 x1 x2 x3 : Int) (CN : Hid (∀ W, Calls Tryz.prog 96 #[.string nm] W fun e w' => e = .returned (.bool nb) ∧ Below W.heap.size W w'))
    (HE1 : Hid (fst0 [unl nb 8, rng st 0 100000, Go.Proofs.YtnncmaegmlaabaaGreatDoor.most (bs.length : Int) 4096] = E1)) (hE1 : (E1 != 0) = false)
    (CL : Hid (∀ W, Rd W W.heap.size (.slice A bs.length c) bs.length (flc bs) → Calls Tryz.prog 97 #[.slice A bs.length c, .func (.func 94) #[] #[]] W fun e w' => e = .returned (.int .i64 x1) ∧ Below W.heap.size W w'))
    (CS : Hid (∀ W, Rd W W.heap.size (.slice A2 l.length c2) l.length (spc l) → Calls Tryz.prog 98 #[.slice A2 l.length c2] W fun e w' => e = .returned (.int .i64 x2) ∧ Below W.heap.size W w'))
    (CE : Hid (∀ W, Rd W W.heap.size (.slice A bs.length c) bs.length (flc bs) → Rd W W.heap.size (.slice A2 l.length c2) l.length (spc l) → Calls Tryz.prog 99 #[.agg #[.string nm, .int .i64 st, .slice A bs.length c, .slice A2 l.length c2]] W fun e w' => e = .returned (.int .i64 x3) ∧ Below W.heap.size W w'))
    (HE2 : Hid (fst0 [x1, x2, x3] = E2)) (hE2 : (E2 != 0) = true) :
    Calls Tryz.prog 41 #[.agg #[.string nm, .int .i64 st, .slice A bs.length c, .slice A2 l.length c2]] w fun e w' => e = .returned (.int .i64 E2) ∧ Below w.heap.size w w' := by
  have hc4 : bs.length ≤ 9223372036854775807 := by obtain ⟨A', c', e, h1, h2, -⟩ := HLr.out; unfold maxLen at h2; omega
  go_enter Tryz.func41, Tryz.ntmps41
  go_wp2
  have c0' := World.cell?_alloc_new w #[.string nm, .int .i64 st, .slice A bs.length c, .slice A2 l.length c2] 31 0
  have c1' := World.cell?_alloc_new w #[.string nm, .int .i64 st, .slice A bs.length c, .slice A2 l.length c2] 31 1
  have c2' := World.cell?_alloc_new w #[.string nm, .int .i64 st, .slice A bs.length c, .slice A2 l.length c2] 31 2
  have c3' := World.cell?_alloc_new w #[.string nm, .int .i64 st, .slice A bs.length c, .slice A2 l.length c2] 31 3
  have hsz : w.heap.size < (w.alloc (Obj.cells #[.string nm, .int .i64 st, .slice A bs.length c, .slice A2 l.length c2] 31)).heap.size := by simp
  have hb1 : Below w.heap.size w (w.alloc (Obj.cells #[.string nm, .int .i64 st, .slice A bs.length c, .slice A2 l.length c2] 31)) := (Below.refl _ w).alloc (Nat.le_refl _) _
  generalize (w.alloc (Obj.cells #[.string nm, .int .i64 st, .slice A bs.length c, .slice A2 l.length c2] 31)) = W1 at c0' c1' c2' c3' hsz hb1 ⊢
  have F0 : ∀ p : Bw W1, p.out.cell? ⟨w.heap.size, 0, none⟩ = some (.string nm) := fun p => p.cell hsz (by simpa using c0')
  have F1 : ∀ p : Bw W1, p.out.cell? ⟨w.heap.size, 1, none⟩ = some (.int .i64 st) := fun p => p.cell hsz (by simpa using c1')
  have F2 : ∀ p : Bw W1, p.out.cell? ⟨w.heap.size, 2, none⟩ = some (.slice A bs.length c) := fun p => p.cell hsz (by simpa using c2')
  have F3 : ∀ p : Bw W1, p.out.cell? ⟨w.heap.size, 3, none⟩ = some (.slice A2 l.length c2) := fun p => p.cell hsz (by simpa using c3')
  clear c0' c1' c2' c3'
  refine wp_region_bw_tail 11 (by kernel_rfl) (by kernel_rfl) ?_
  simp only [List.take_succ_cons, List.take_zero, List.drop_succ_cons, List.drop_zero]
  repeat (first | go_big_quiet_step (first | (go_at_call 96; exact Bw.call _ (CN.out _)) | (go_at_call 50; exact Bw.pure _ (unl_any _ _ _)) | (go_at_call 84; exact Bw.pure _ (rng_any _ _ _ _)) | (go_at_call 73; exact Bw.pure _ (most_any _ _ _))))
  refine wpQuiet_nil ?_
  rintro ⟨W2, hB2⟩
  change wpList _ _ _ _ _ W2
  have hbW : Below W1.heap.size W1 (W2.alloc (Obj.cells #[Value.int .i64 (unl nb 8), Value.int .i64 (rng st 0 100000), Value.int .i64 (Go.Proofs.YtnncmaegmlaabaaGreatDoor.most (bs.length : Int) 4096)] 28)) := hB2.alloc hB2.size _
  go_wp2_with (go_at_call 49; refine (first3 _ _ _ _ _).mono ?_; rintro e w' ⟨rfl, rfl⟩; rw [HE1.out])
  generalize (W2.alloc (Obj.cells #[Value.int .i64 (unl nb 8), Value.int .i64 (rng st 0 100000), Value.int .i64 (Go.Proofs.YtnncmaegmlaabaaGreatDoor.most (bs.length : Int) 4096)] 28)) = W3 at hbW ⊢
  have G0 : ∀ p : Bw W3, p.out.cell? ⟨w.heap.size, 0, none⟩ = some (.string nm) := fun p => F0 ⟨p.out, hbW.trans (p.below.mono hbW.size)⟩
  have G1 : ∀ p : Bw W3, p.out.cell? ⟨w.heap.size, 1, none⟩ = some (.int .i64 st) := fun p => F1 ⟨p.out, hbW.trans (p.below.mono hbW.size)⟩
  have G2 : ∀ p : Bw W3, p.out.cell? ⟨w.heap.size, 2, none⟩ = some (.slice A bs.length c) := fun p => F2 ⟨p.out, hbW.trans (p.below.mono hbW.size)⟩
  have G3 : ∀ p : Bw W3, p.out.cell? ⟨w.heap.size, 3, none⟩ = some (.slice A2 l.length c2) := fun p => F3 ⟨p.out, hbW.trans (p.below.mono hbW.size)⟩
  have hw3 : Below w.heap.size w W3 := hb1.trans (hbW.mono hb1.size)
  have HB3 := hd (fun p : Bw W3 => hw3.trans (p.below.mono hw3.size))
  clear F0 F1 F2 F3 hB2
  refine wp_region_bw_tail 8 (by kernel_rfl) (by kernel_rfl) ?_
  simp only [List.take_succ_cons, List.take_zero, List.drop_succ_cons, List.drop_zero]
  repeat (first | go_big_quiet_step (first | (go_at_call 97; exact Bw.call _ (CL.out _ ((HLr.out.below (HB3.out _) (Nat.le_refl _)).mono (HB3.out _).size))) | (go_at_call 98; exact Bw.call _ (CS.out _ ((HGr.out.below (HB3.out _) (Nat.le_refl _)).mono (HB3.out _).size))) | (go_at_call 99; exact Bw.call _ (CE.out _ ((HLr.out.below (HB3.out _) (Nat.le_refl _)).mono (HB3.out _).size) ((HGr.out.below (HB3.out _) (Nat.le_refl _)).mono (HB3.out _).size)))))
  refine wpQuiet_nil ?_
  rintro ⟨W4, hB4⟩
  change wpList _ _ _ _ _ W4
  have k0 := fun o => cell_alloc_old (o := o) (G0 ⟨W4, hB4⟩)
  have k1 := fun o => cell_alloc_old (o := o) (G1 ⟨W4, hB4⟩)
  have k2 := fun o => cell_alloc_old (o := o) (G2 ⟨W4, hB4⟩)
  have k3 := fun o => cell_alloc_old (o := o) (G3 ⟨W4, hB4⟩)
  have hb4 : Below w.heap.size w W4 := HB3.out ⟨W4, hB4⟩
  have HB4 := hd (fun o => hb4.alloc hb4.size o)
  dsimp only at k0 k1 k2 k3
  clear G0 G1 G2 G3
  go_wp2_with (go_at_call 49; refine (first3 _ _ _ _ _).mono ?_; rintro e w' ⟨rfl, rfl⟩; rw [HE2.out])
  go_returns
  exact ⟨rfl, HB4.out _⟩

set_option maxRecDepth 1000000 in
set_option maxHeartbeats 2000000 in
theorem chkRec_w3 (nm : ByteArray) (st : Int) (A A2 : Option Addr) (c c2 : Nat) (bs : List Nat) (l : List (Int × Int)) (w : World) (HLr : Hid (Rd w w.heap.size (.slice A bs.length c) bs.length (flc bs))) (HGr : Hid (Rd w w.heap.size (.slice A2 l.length c2) l.length (spc l)))
    (nb sb : Bool) (E1 E2 x1 x2 x3 : Int) (CN : Hid (∀ W, Calls Tryz.prog 96 #[.string nm] W fun e w' => e = .returned (.bool nb) ∧ Below W.heap.size W w'))
    (HE1 : Hid (fst0 [unl nb 8, rng st 0 100000, Go.Proofs.YtnncmaegmlaabaaGreatDoor.most (bs.length : Int) 4096] = E1)) (hE1 : (E1 != 0) = false)
    (CL : Hid (∀ W, Rd W W.heap.size (.slice A bs.length c) bs.length (flc bs) → Calls Tryz.prog 97 #[.slice A bs.length c, .func (.func 94) #[] #[]] W fun e w' => e = .returned (.int .i64 x1) ∧ Below W.heap.size W w'))
    (CS : Hid (∀ W, Rd W W.heap.size (.slice A2 l.length c2) l.length (spc l) → Calls Tryz.prog 98 #[.slice A2 l.length c2] W fun e w' => e = .returned (.int .i64 x2) ∧ Below W.heap.size W w'))
    (CE : Hid (∀ W, Rd W W.heap.size (.slice A bs.length c) bs.length (flc bs) → Rd W W.heap.size (.slice A2 l.length c2) l.length (spc l) → Calls Tryz.prog 99 #[.agg #[.string nm, .int .i64 st, .slice A bs.length c, .slice A2 l.length c2]] W fun e w' => e = .returned (.int .i64 x3) ∧ Below W.heap.size W w'))
    (HE2 : Hid (fst0 [x1, x2, x3] = E2)) (hE2 : (E2 != 0) = false)
    (CI : Hid (∀ W, Rd W W.heap.size (.slice A bs.length c) bs.length (flc bs) → Rd W W.heap.size (.slice A2 l.length c2) l.length (spc l) → Calls Tryz.prog 100 #[.agg #[.string nm, .int .i64 st, .slice A bs.length c, .slice A2 l.length c2]] W fun e w' => e = .returned (.bool sb) ∧ Below W.heap.size W w')) :
    Calls Tryz.prog 41 #[.agg #[.string nm, .int .i64 st, .slice A bs.length c, .slice A2 l.length c2]] w fun e w' => e = .returned (.int .i64 (unl sb 1)) ∧ Below w.heap.size w w' := by
  have hc4 : bs.length ≤ 9223372036854775807 := by obtain ⟨A', c', e, h1, h2, -⟩ := HLr.out; unfold maxLen at h2; omega
  go_enter Tryz.func41, Tryz.ntmps41
  go_wp2
  have c0' := World.cell?_alloc_new w #[.string nm, .int .i64 st, .slice A bs.length c, .slice A2 l.length c2] 31 0
  have c1' := World.cell?_alloc_new w #[.string nm, .int .i64 st, .slice A bs.length c, .slice A2 l.length c2] 31 1
  have c2' := World.cell?_alloc_new w #[.string nm, .int .i64 st, .slice A bs.length c, .slice A2 l.length c2] 31 2
  have c3' := World.cell?_alloc_new w #[.string nm, .int .i64 st, .slice A bs.length c, .slice A2 l.length c2] 31 3
  have hsz : w.heap.size < (w.alloc (Obj.cells #[.string nm, .int .i64 st, .slice A bs.length c, .slice A2 l.length c2] 31)).heap.size := by simp
  have hb1 : Below w.heap.size w (w.alloc (Obj.cells #[.string nm, .int .i64 st, .slice A bs.length c, .slice A2 l.length c2] 31)) := (Below.refl _ w).alloc (Nat.le_refl _) _
  generalize (w.alloc (Obj.cells #[.string nm, .int .i64 st, .slice A bs.length c, .slice A2 l.length c2] 31)) = W1 at c0' c1' c2' c3' hsz hb1 ⊢
  have F0 : ∀ p : Bw W1, p.out.cell? ⟨w.heap.size, 0, none⟩ = some (.string nm) := fun p => p.cell hsz (by simpa using c0')
  have F1 : ∀ p : Bw W1, p.out.cell? ⟨w.heap.size, 1, none⟩ = some (.int .i64 st) := fun p => p.cell hsz (by simpa using c1')
  have F2 : ∀ p : Bw W1, p.out.cell? ⟨w.heap.size, 2, none⟩ = some (.slice A bs.length c) := fun p => p.cell hsz (by simpa using c2')
  have F3 : ∀ p : Bw W1, p.out.cell? ⟨w.heap.size, 3, none⟩ = some (.slice A2 l.length c2) := fun p => p.cell hsz (by simpa using c3')
  clear c0' c1' c2' c3'
  refine wp_region_bw_tail 11 (by kernel_rfl) (by kernel_rfl) ?_
  simp only [List.take_succ_cons, List.take_zero, List.drop_succ_cons, List.drop_zero]
  repeat (first | go_big_quiet_step (first | (go_at_call 96; exact Bw.call _ (CN.out _)) | (go_at_call 50; exact Bw.pure _ (unl_any _ _ _)) | (go_at_call 84; exact Bw.pure _ (rng_any _ _ _ _)) | (go_at_call 73; exact Bw.pure _ (most_any _ _ _))))
  refine wpQuiet_nil ?_
  rintro ⟨W2, hB2⟩
  change wpList _ _ _ _ _ W2
  have hbW : Below W1.heap.size W1 (W2.alloc (Obj.cells #[Value.int .i64 (unl nb 8), Value.int .i64 (rng st 0 100000), Value.int .i64 (Go.Proofs.YtnncmaegmlaabaaGreatDoor.most (bs.length : Int) 4096)] 28)) := hB2.alloc hB2.size _
  go_wp2_with (go_at_call 49; refine (first3 _ _ _ _ _).mono ?_; rintro e w' ⟨rfl, rfl⟩; rw [HE1.out])
  generalize (W2.alloc (Obj.cells #[Value.int .i64 (unl nb 8), Value.int .i64 (rng st 0 100000), Value.int .i64 (Go.Proofs.YtnncmaegmlaabaaGreatDoor.most (bs.length : Int) 4096)] 28)) = W3 at hbW ⊢
  have G0 : ∀ p : Bw W3, p.out.cell? ⟨w.heap.size, 0, none⟩ = some (.string nm) := fun p => F0 ⟨p.out, hbW.trans (p.below.mono hbW.size)⟩
  have G1 : ∀ p : Bw W3, p.out.cell? ⟨w.heap.size, 1, none⟩ = some (.int .i64 st) := fun p => F1 ⟨p.out, hbW.trans (p.below.mono hbW.size)⟩
  have G2 : ∀ p : Bw W3, p.out.cell? ⟨w.heap.size, 2, none⟩ = some (.slice A bs.length c) := fun p => F2 ⟨p.out, hbW.trans (p.below.mono hbW.size)⟩
  have G3 : ∀ p : Bw W3, p.out.cell? ⟨w.heap.size, 3, none⟩ = some (.slice A2 l.length c2) := fun p => F3 ⟨p.out, hbW.trans (p.below.mono hbW.size)⟩
  have hw3 : Below w.heap.size w W3 := hb1.trans (hbW.mono hb1.size)
  have HB3 := hd (fun p : Bw W3 => hw3.trans (p.below.mono hw3.size))
  clear F0 F1 F2 F3 hB2
  refine wp_region_bw_tail 8 (by kernel_rfl) (by kernel_rfl) ?_
  simp only [List.take_succ_cons, List.take_zero, List.drop_succ_cons, List.drop_zero]
  repeat (first | go_big_quiet_step (first | (go_at_call 97; exact Bw.call _ (CL.out _ ((HLr.out.below (HB3.out _) (Nat.le_refl _)).mono (HB3.out _).size))) | (go_at_call 98; exact Bw.call _ (CS.out _ ((HGr.out.below (HB3.out _) (Nat.le_refl _)).mono (HB3.out _).size))) | (go_at_call 99; exact Bw.call _ (CE.out _ ((HLr.out.below (HB3.out _) (Nat.le_refl _)).mono (HB3.out _).size) ((HGr.out.below (HB3.out _) (Nat.le_refl _)).mono (HB3.out _).size)))))
  refine wpQuiet_nil ?_
  rintro ⟨W4, hB4⟩
  change wpList _ _ _ _ _ W4
  have k0 := fun o => cell_alloc_old (o := o) (G0 ⟨W4, hB4⟩)
  have k1 := fun o => cell_alloc_old (o := o) (G1 ⟨W4, hB4⟩)
  have k2 := fun o => cell_alloc_old (o := o) (G2 ⟨W4, hB4⟩)
  have k3 := fun o => cell_alloc_old (o := o) (G3 ⟨W4, hB4⟩)
  have hb4 : Below w.heap.size w W4 := HB3.out ⟨W4, hB4⟩
  have HB4 := hd (fun o => hb4.alloc hb4.size o)
  dsimp only at k0 k1 k2 k3
  clear G0 G1 G2 G3
  go_wp2_with (first | (go_at_call 49; refine (first3 _ _ _ _ _).mono ?_; rintro e w' ⟨rfl, rfl⟩; rw [HE2.out]) | (go_at_call 100; refine (CI.out _ ((HLr.out.below (HB4.out _) (Nat.le_refl _)).mono (HB4.out _).size) ((HGr.out.below (HB4.out _) (Nat.le_refl _)).mono (HB4.out _).size)).mono ?_; rintro e w' ⟨rfl, hb5⟩) | (go_at_call 50; refine (unl_any _ _ _).mono ?_; rintro e w' ⟨rfl, rfl⟩))
  go_ret
  exact ⟨rfl, (HB4.out _).trans (hb5.mono (HB4.out _).size)⟩

theorem chkRec_any (nm : ByteArray) (st : Int) (lv gv : Value) (bs : List Nat) (l : List (Int × Int)) (w : World) (hl : Rd w w.heap.size lv bs.length (flc bs)) (hg : Rd w w.heap.size gv l.length (spc l)) (hs : nm.size ≤ maxLen) :
    Calls Tryz.prog 41 #[.agg #[.string nm, .int .i64 st, lv, gv]] w fun e w' => e = .returned (.int .i64 (chkRec nm st bs l)) ∧ Below w.heap.size w w' := by
  obtain ⟨A, c, rfl, -⟩ := id hl
  obtain ⟨A2, c2, rfl, -⟩ := id hg
  have CN := hd (fun W => isName_any nm W hs)
  have CL := hd (fun W h => eachLev_any (.slice A bs.length c) bs W h)
  have CS := hd (fun W h => chkSpans_any (.slice A2 l.length c2) l W h)
  have CE := hd (fun W h h' => checkEnds_any nm st (.slice A bs.length c) (.slice A2 l.length c2) (flc bs) bs.length l W h h')
  unfold chkRec
  by_cases h1 : rec1 nm st bs.length = 0
  · rw [if_pos h1]
    by_cases h2 : rec2 bs l = 0
    · rw [if_pos h2]
      obtain ⟨-, z2, z3⟩ := rec2_zero h2
      have hok : ∀ j, j < l.length → 0 ≤ (l.getD j (0, 0)).1 ∧ (l.getD j (0, 0)).1 < (l.getD j (0, 0)).2 ∧ (l.getD j (0, 0)).2 ≤ (bs.length : Int) := fun j hj => by
        have := (chkSpans_ok l z2).2.1 _ (getD_mem l j hj)
        exact ⟨this.1, this.2.1, ends_zero z3 j hj⟩
      have he : ∀ s ∈ l, s.2 ≤ (bs.length : Int) := fun s hs => by
        obtain ⟨j, hj, rfl⟩ := List.mem_iff_getElem.1 hs
        have := ends_zero z3 j hj
        simpa [hj] using this
      refine chkRec_w3 nm st A A2 c c2 bs l w (hd hl) (hd hg) _ (silB bs l) 0 0 _ _ _ CN (hd h1) rfl CL CS CE (hd h2) rfl ?_
      cases hb : silB bs l
      · exact hd fun W h h' => isSilent_no nm st _ _ bs l W h h' hok (fun hh => by rw [(silB_true bs l he).2 hh] at hb; cases hb)
      · exact hd fun W h h' => isSilent_ok nm st _ _ bs l W h h' hok ((silB_true bs l he).1 hb)
    · rw [if_neg h2]
      exact chkRec_w2 nm st A A2 c c2 bs l w (hd hl) (hd hg) _ 0 _ _ _ _ CN (hd h1) rfl CL CS CE (hd rfl) (by simpa using h2)
  · rw [if_neg h1]
    exact chkRec_w1 nm st A A2 c c2 bs l w (hd hl) _ _ CN (hd rfl) (by simpa using h1)
end Go.Proofs.YtnncmaegmlaabaaGreatDoor
