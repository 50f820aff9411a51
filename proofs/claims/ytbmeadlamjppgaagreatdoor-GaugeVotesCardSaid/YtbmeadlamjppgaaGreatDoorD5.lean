/-
  Contract of gauge.Vote. Conditions: three records, which may be any, and a tolerance, one of which it refuses.
-/
import Derived.Test.YtbmeadlamjppgaaGreatDoorProg
import Derived.Test.YtbmeadlamjppgaaGreatDoorD3
import Derived.Test.YtbmeadlamjppgaaGreatDoorMR
import Derived.Test.YtbmeadlamjppgaaGreatDoorQ3
namespace Go.Proofs.YtbmeadlamjppgaaGreatDoor
open Go.RowKit
attribute [local go_sem] Oper.semAt_some

set_option maxRecDepth 1000000 in
set_option maxHeartbeats 8000000 in
theorem vote_bad (nm0 nm1 nm2 : ByteArray) (st0 st1 st2 : Int) (A0 B0 A1 B1 A2 B2 : Option Addr) (c0 d0 c1 d1 c2 d2 : Nat) (bs0 bs1 bs2 : List Nat) (gs0 gs1 gs2 : List (Int × Int)) (tol E : Int) (w : World)
    (HL0 : Hid (Rd w w.heap.size (.slice A0 bs0.length c0) bs0.length (flc bs0))) (HG0 : Hid (Rd w w.heap.size (.slice B0 gs0.length d0) gs0.length (spc gs0))) (hs0 : nm0.size ≤ maxLen) (HL1 : Hid (Rd w w.heap.size (.slice A1 bs1.length c1) bs1.length (flc bs1))) (HG1 : Hid (Rd w w.heap.size (.slice B1 gs1.length d1) gs1.length (spc gs1))) (hs1 : nm1.size ≤ maxLen) (HL2 : Hid (Rd w w.heap.size (.slice A2 bs2.length c2) bs2.length (flc bs2))) (HG2 : Hid (Rd w w.heap.size (.slice B2 gs2.length d2) gs2.length (spc gs2))) (hs2 : nm2.size ≤ maxLen)
    (hE : fst0 [chkRec nm0 st0 bs0 gs0, chkRec nm1 st1 bs1 gs1, chkRec nm2 st2 bs2 gs2, rng tol 0 2048, unl ((decide (st0 = st1) && decide (bs0.length = bs1.length)) && (decide (st0 = st2) && decide (bs0.length = bs2.length))) 2] = E) (h0 : (E != 0) = true) :
    Calls Tryz.prog 9 #[.agg #[.string nm0, .int .i64 st0, .slice A0 bs0.length c0, .slice B0 gs0.length d0, .string nm1, .int .i64 st1, .slice A1 bs1.length c1, .slice B1 gs1.length d1, .string nm2, .int .i64 st2, .slice A2 bs2.length c2, .slice B2 gs2.length d2], .int .i64 tol] w fun e w' => e = .returned (.tuple #[.agg #[.string ⟨#[]⟩, .int .i64 0, .slice none 0 0, .slice none 0 0], .agg #[.int .i64 0, .int .i64 0, .int .i64 0], .int .i64 E]) ∧ Below w.heap.size w w' := by
  obtain ⟨x0, hx0⟩ : ∃ x, x = chkRec nm0 st0 bs0 gs0 := ⟨_, rfl⟩
  have CR0 := hd (fun W h h' => show Calls Tryz.prog 46 #[.agg #[.string nm0, .int .i64 st0, .slice A0 bs0.length c0, .slice B0 gs0.length d0]] W fun e w' => e = .returned (.int .i64 x0) ∧ Below W.heap.size W w' from by rw [hx0]; exact chkRec_any _ _ _ _ bs0 gs0 W h h' hs0)
  obtain ⟨x1, hx1⟩ : ∃ x, x = chkRec nm1 st1 bs1 gs1 := ⟨_, rfl⟩
  have CR1 := hd (fun W h h' => show Calls Tryz.prog 46 #[.agg #[.string nm1, .int .i64 st1, .slice A1 bs1.length c1, .slice B1 gs1.length d1]] W fun e w' => e = .returned (.int .i64 x1) ∧ Below W.heap.size W w' from by rw [hx1]; exact chkRec_any _ _ _ _ bs1 gs1 W h h' hs1)
  obtain ⟨x2, hx2⟩ : ∃ x, x = chkRec nm2 st2 bs2 gs2 := ⟨_, rfl⟩
  have CR2 := hd (fun W h h' => show Calls Tryz.prog 46 #[.agg #[.string nm2, .int .i64 st2, .slice A2 bs2.length c2, .slice B2 gs2.length d2]] W fun e w' => e = .returned (.int .i64 x2) ∧ Below W.heap.size W w' from by rw [hx2]; exact chkRec_any _ _ _ _ bs2 gs2 W h h' hs2)
  rw [← hx0, ← hx1, ← hx2] at hE
  have HF1 := hd (fun W => fit_any nm0 nm1 st0 st1 A0 B0 A1 B1 bs0.length c0 gs0.length d0 bs1.length c1 gs1.length d1 W)
  have HF2 := hd (fun W => fit_any nm0 nm2 st0 st2 A0 B0 A2 B2 bs0.length c0 gs0.length d0 bs2.length c2 gs2.length d2 W)
  generalize (decide (st0 = st1) && decide (bs0.length = bs1.length)) = p1 at HF1 hE
  generalize (decide (st0 = st2) && decide (bs0.length = bs2.length)) = p2 at HF2 hE
  have HN0 := hd (show bs0.length ≤ maxLen from by obtain ⟨A', c', e1, hq1, hq2, -⟩ := HL0.out; cases e1; exact Nat.le_trans hq1 hq2)
  have HN1 := hd (show bs1.length ≤ maxLen from by obtain ⟨A', c', e1, hq1, hq2, -⟩ := HL1.out; cases e1; exact Nat.le_trans hq1 hq2)
  have HN2 := hd (show bs2.length ≤ maxLen from by obtain ⟨A', c', e1, hq1, hq2, -⟩ := HL2.out; cases e1; exact Nat.le_trans hq1 hq2)
  clear hx0 hs0 hx1 hs1 hx2 hs2
  obtain ⟨W0, hW0⟩ : ∃ W0, W0 = (((w.alloc (.cells #[.string nm0, .int .i64 st0, .slice A0 bs0.length c0, .slice B0 gs0.length d0, .string nm1, .int .i64 st1, .slice A1 bs1.length c1, .slice B1 gs1.length d1, .string nm2, .int .i64 st2, .slice A2 bs2.length c2, .slice B2 gs2.length d2] 35)).alloc (.cells #[.string ⟨#[]⟩, .int .i64 0, .slice none 0 0, .slice none 0 0] 29)).alloc (.cells #[.int .i64 0, .int .i64 0, .int .i64 0] 30)) := ⟨_, rfl⟩
  have hb0 : Below w.heap.size w W0 := by rw [hW0]; exact (((Below.refl _ w).alloc (Nat.le_refl _) _).alloc (by simp) _).alloc (by simp; omega) _
  have hs0 : W0.heap.size = w.heap.size + 3 := by rw [hW0]; simp
  have hq : W0.heap[w.heap.size]? = some (.cells #[.string nm0, .int .i64 st0, .slice A0 bs0.length c0, .slice B0 gs0.length d0, .string nm1, .int .i64 st1, .slice A1 bs1.length c1, .slice B1 gs1.length d1, .string nm2, .int .i64 st2, .slice A2 bs2.length c2, .slice B2 gs2.length d2] 35 (0, 0)) := by
    rw [hW0]; exact (Below.heap_alloc _ _ _ (by simp; omega)).trans ((Below.heap_alloc _ _ _ (by simp)).trans (blk_new _ _ _))
  have hr1 : W0.heap[w.heap.size + 1]? = some (.cells #[.string ⟨#[]⟩, .int .i64 0, .slice none 0 0, .slice none 0 0] 29 (0, 0)) := by
    have h := blk_new (w.alloc (.cells #[.string nm0, .int .i64 st0, .slice A0 bs0.length c0, .slice B0 gs0.length d0, .string nm1, .int .i64 st1, .slice A1 bs1.length c1, .slice B1 gs1.length d1, .string nm2, .int .i64 st2, .slice A2 bs2.length c2, .slice B2 gs2.length d2] 35)) #[.string ⟨#[]⟩, .int .i64 0, .slice none 0 0, .slice none 0 0] 29
    rw [World.size_alloc] at h
    rw [hW0]; exact (Below.heap_alloc _ _ _ (by simp)).trans h
  have hr2 : W0.heap[w.heap.size + 2]? = some (.cells #[.int .i64 0, .int .i64 0, .int .i64 0] 30 (0, 0)) := by
    have h := blk_new ((w.alloc (.cells #[.string nm0, .int .i64 st0, .slice A0 bs0.length c0, .slice B0 gs0.length d0, .string nm1, .int .i64 st1, .slice A1 bs1.length c1, .slice B1 gs1.length d1, .string nm2, .int .i64 st2, .slice A2 bs2.length c2, .slice B2 gs2.length d2] 35)).alloc (.cells #[.string ⟨#[]⟩, .int .i64 0, .slice none 0 0, .slice none 0 0] 29)) #[.int .i64 0, .int .i64 0, .int .i64 0] 30
    rw [World.size_alloc, World.size_alloc] at h
    rw [hW0]; exact h
  have HB3 := hd (fun p : Bw W0 => hb0.trans (p.below.mono hb0.size))
  have F : ∀ (j : Nat) (u : Value) (p : Bw W0), (#[.string nm0, .int .i64 st0, .slice A0 bs0.length c0, .slice B0 gs0.length d0, .string nm1, .int .i64 st1, .slice A1 bs1.length c1, .slice B1 gs1.length d1, .string nm2, .int .i64 st2, .slice A2 bs2.length c2, .slice B2 gs2.length d2] : Array Value)[j]? = some u → p.out.cell? ⟨w.heap.size, j, none⟩ = some u := fun j u p h => p.cell (by omega) ((blk_cell hq j).trans h)
  have F0 := fun p => F 0 _ p rfl
  have F1 := fun p => F 1 _ p rfl
  have F2 := fun p => F 2 _ p rfl
  have F3 := fun p => F 3 _ p rfl
  have F4 := fun p => F 4 _ p rfl
  have F5 := fun p => F 5 _ p rfl
  have F6 := fun p => F 6 _ p rfl
  have F7 := fun p => F 7 _ p rfl
  have F8 := fun p => F 8 _ p rfl
  have F9 := fun p => F 9 _ p rfl
  have F10 := fun p => F 10 _ p rfl
  have F11 := fun p => F 11 _ p rfl
  have HR1 := hd hr1
  have HR2 := hd hr2
  clear hr1 hr2 hb0 hq F hs0
  cases p1
  · have HE := hd hE
    clear hE
    go_enter Tryz.func9, Tryz.ntmps9
    go_wp2_with fail
    rw [← hW0]
    clear hW0
    refine wp_region_bw_tail 24 (by kernel_rfl) (by kernel_rfl) ?_
    simp only [List.take_succ_cons, List.take_zero, List.drop_succ_cons, List.drop_zero]
    repeat (first | go_big_quiet_step (fail))
    go_big_quiet_step (first | (go_at_call 46; exact Bw.call _ (CR0.out _ ((HL0.out.below (HB3.out _) (Nat.le_refl _)).mono (HB3.out _).size) ((HG0.out.below (HB3.out _) (Nat.le_refl _)).mono (HB3.out _).size))))
    repeat (first | go_big_quiet_step (fail))
    go_big_quiet_step (first | (go_at_call 46; exact Bw.call _ (CR1.out _ ((HL1.out.below (HB3.out _) (Nat.le_refl _)).mono (HB3.out _).size) ((HG1.out.below (HB3.out _) (Nat.le_refl _)).mono (HB3.out _).size))))
    repeat (first | go_big_quiet_step (fail))
    go_big_quiet_step (first | (go_at_call 46; exact Bw.call _ (CR2.out _ ((HL2.out.below (HB3.out _) (Nat.le_refl _)).mono (HB3.out _).size) ((HG2.out.below (HB3.out _) (Nat.le_refl _)).mono (HB3.out _).size))))
    repeat (first | go_big_quiet_step (first | (go_at_call 47; exact Bw.pure _ (rng_any _ _ _ _))))
    go_big_quiet_step (first | (go_at_call 49; exact Bw.call _ (HF1.out _)))
    repeat (first | go_big_quiet_step (fail))
    repeat (first | go_big_quiet_step (first | (go_at_call 48; exact Bw.pure _ (unl_any _ _ _))))
    refine wpQuiet_nil ?_
    rintro ⟨W2, hB2⟩
    change wpList _ _ _ _ _ W2
    clear F0 F1 F2 F3 F4 F5 F6 F7 F8 F9 F10 F11
    go_wp2_with fail
    refine (first5 _ _ _ _ _ _ _).mono ?_
    rintro e w' ⟨rfl, rfl⟩
    rw [show fst0 [x0, x1, x2, rng tol 0 2048, unl false 2] = E from by have h := HE.out; simpa using h]
    have hb : Below W0.heap.size W0 (W2.alloc (.cells #[.int .i64 x0, .int .i64 x1, .int .i64 x2, .int .i64 (rng tol 0 2048), .int .i64 (unl false 2)] 31)) := hB2.alloc hB2.size _
    generalize (W2.alloc (.cells #[.int .i64 x0, .int .i64 x1, .int .i64 x2, .int .i64 (rng tol 0 2048), .int .i64 (unl false 2)] 31)) = W3 at hb ⊢
    have hq1 : W3.heap[w.heap.size + 1]? = _ := (hb.block _ (blk_lt HR1.out)).trans HR1.out
    have hq2 : W3.heap[w.heap.size + 2]? = _ := (hb.block _ (blk_lt HR2.out)).trans HR2.out
    have hq2' := (set4_other W3 (R := w.heap.size + 1) (D := w.heap.size + 2) (by omega) (.string ⟨#[]⟩) (.int .i64 0) (.slice none 0 0) (.slice none 0 0)).trans hq2
    have z := (set3_other (set4 W3 (w.heap.size + 1) (.string ⟨#[]⟩) (.int .i64 0) (.slice none 0 0) (.slice none 0 0)) (R := w.heap.size + 2) (D := w.heap.size + 1) (by omega) (.int .i64 0) (.int .i64 0) (.int .i64 0)).trans (set4_blk hq1 (.string ⟨#[]⟩) (.int .i64 0) (.slice none 0 0) (.slice none 0 0))
    have y := set3_blk hq2' (.int .i64 0) (.int .i64 0) (.int .i64 0)
    have k0 := blk_cell hq1 0
    have k1 := blk_cell hq1 1
    have k2 := blk_cell hq1 2
    have k3 := blk_cell hq1 3
    have j0 := blk_cell hq2 0
    have j1 := blk_cell hq2 1
    have j2 := blk_cell hq2 2
    simp at k0 k1 k2 k3 j0 j1 j2
    have f0 := blk_frozen hq1 0
    have f1 := blk_frozen hq1 1
    have f2 := blk_frozen hq1 2
    have f3 := blk_frozen hq1 3
    have g0 := blk_frozen hq2 0
    have g1 := blk_frozen hq2 1
    have g2 := blk_frozen hq2 2
    have HBZ := hd (set3_below (set4_below ((HB3.out ⟨W0, Below.refl _ _⟩).trans (hb.mono (HB3.out ⟨W0, Below.refl _ _⟩).size)) (R := w.heap.size + 1) (by omega) (.string ⟨#[]⟩) (.int .i64 0) (.slice none 0 0) (.slice none 0 0)) (R := w.heap.size + 2) (by omega) (.int .i64 0) (.int .i64 0) (.int .i64 0))
    have hne : w.heap.size + 1 ≠ w.heap.size + 2 := by omega
    have hne' := hne.symm
    have hne2 : w.heap.size + 1 ≠ w.heap.size + 1 + 1 := by omega
    have hne2' := hne2.symm
    have HZ := hd z
    have HY := hd y
    clear z y hb hB2 hq1 hq2 hq2'
    go_wp2
    change bodyPost _ _ _ _ _ (set3 (set4 W3 (w.heap.size + 1) (.string ⟨#[]⟩) (.int .i64 0) (.slice none 0 0) (.slice none 0 0)) (w.heap.size + 2) (.int .i64 0) (.int .i64 0) (.int .i64 0))
    have z := HZ.out
    have y := HY.out
    change (set3 (set4 W3 (w.heap.size + 1) (.string ⟨#[]⟩) (.int .i64 0) (.slice none 0 0) (.slice none 0 0)) (w.heap.size + 2) (.int .i64 0) (.int .i64 0) (.int .i64 0)).heap[w.heap.size + 2]? = _ at y
    generalize set3 (set4 W3 (w.heap.size + 1) (.string ⟨#[]⟩) (.int .i64 0) (.slice none 0 0) (.slice none 0 0)) (w.heap.size + 2) (.int .i64 0) (.int .i64 0) (.int .i64 0) = W6 at *
    have z0 := blk_cell z 0
    have z1 := blk_cell z 1
    have z2 := blk_cell z 2
    have z3 := blk_cell z 3
    have y0 := blk_cell y 0
    have y1 := blk_cell y 1
    have y2 := blk_cell y 2
    simp at z0 z1 z2 z3 y0 y1 y2
    exact bodyPost_ret (v := .tuple #[.agg #[.string ⟨#[]⟩, .int .i64 0, .slice none 0 0, .slice none 0 0], .agg #[.int .i64 0, .int .i64 0, .int .i64 0], .int .i64 E]) (by simp [results, Tryz.results9, go_sem, z0, z1, z2, z3, y0, y1, y2]) rfl ⟨rfl, HBZ.out⟩
  · have HE := hd hE
    clear hE
    go_enter Tryz.func9, Tryz.ntmps9
    go_wp2_with fail
    rw [← hW0]
    clear hW0
    refine wp_region_bw_tail 24 (by kernel_rfl) (by kernel_rfl) ?_
    simp only [List.take_succ_cons, List.take_zero, List.drop_succ_cons, List.drop_zero]
    repeat (first | go_big_quiet_step (fail))
    go_big_quiet_step (first | (go_at_call 46; exact Bw.call _ (CR0.out _ ((HL0.out.below (HB3.out _) (Nat.le_refl _)).mono (HB3.out _).size) ((HG0.out.below (HB3.out _) (Nat.le_refl _)).mono (HB3.out _).size))))
    repeat (first | go_big_quiet_step (fail))
    go_big_quiet_step (first | (go_at_call 46; exact Bw.call _ (CR1.out _ ((HL1.out.below (HB3.out _) (Nat.le_refl _)).mono (HB3.out _).size) ((HG1.out.below (HB3.out _) (Nat.le_refl _)).mono (HB3.out _).size))))
    repeat (first | go_big_quiet_step (fail))
    go_big_quiet_step (first | (go_at_call 46; exact Bw.call _ (CR2.out _ ((HL2.out.below (HB3.out _) (Nat.le_refl _)).mono (HB3.out _).size) ((HG2.out.below (HB3.out _) (Nat.le_refl _)).mono (HB3.out _).size))))
    repeat (first | go_big_quiet_step (first | (go_at_call 47; exact Bw.pure _ (rng_any _ _ _ _))))
    go_big_quiet_step (first | (go_at_call 49; exact Bw.call _ (HF1.out _)))
    repeat (first | go_big_quiet_step (fail))
    go_big_quiet_step (first | (go_at_call 49; exact Bw.call _ (HF2.out _)))
    repeat (first | go_big_quiet_step (first | (go_at_call 48; exact Bw.pure _ (unl_any _ _ _))))
    refine wpQuiet_nil ?_
    rintro ⟨W2, hB2⟩
    change wpList _ _ _ _ _ W2
    clear F0 F1 F2 F3 F4 F5 F6 F7 F8 F9 F10 F11
    go_wp2_with fail
    refine (first5 _ _ _ _ _ _ _).mono ?_
    rintro e w' ⟨rfl, rfl⟩
    rw [show fst0 [x0, x1, x2, rng tol 0 2048, unl p2 2] = E from by have h := HE.out; simpa using h]
    have hb : Below W0.heap.size W0 (W2.alloc (.cells #[.int .i64 x0, .int .i64 x1, .int .i64 x2, .int .i64 (rng tol 0 2048), .int .i64 (unl p2 2)] 31)) := hB2.alloc hB2.size _
    generalize (W2.alloc (.cells #[.int .i64 x0, .int .i64 x1, .int .i64 x2, .int .i64 (rng tol 0 2048), .int .i64 (unl p2 2)] 31)) = W3 at hb ⊢
    have hq1 : W3.heap[w.heap.size + 1]? = _ := (hb.block _ (blk_lt HR1.out)).trans HR1.out
    have hq2 : W3.heap[w.heap.size + 2]? = _ := (hb.block _ (blk_lt HR2.out)).trans HR2.out
    have hq2' := (set4_other W3 (R := w.heap.size + 1) (D := w.heap.size + 2) (by omega) (.string ⟨#[]⟩) (.int .i64 0) (.slice none 0 0) (.slice none 0 0)).trans hq2
    have z := (set3_other (set4 W3 (w.heap.size + 1) (.string ⟨#[]⟩) (.int .i64 0) (.slice none 0 0) (.slice none 0 0)) (R := w.heap.size + 2) (D := w.heap.size + 1) (by omega) (.int .i64 0) (.int .i64 0) (.int .i64 0)).trans (set4_blk hq1 (.string ⟨#[]⟩) (.int .i64 0) (.slice none 0 0) (.slice none 0 0))
    have y := set3_blk hq2' (.int .i64 0) (.int .i64 0) (.int .i64 0)
    have k0 := blk_cell hq1 0
    have k1 := blk_cell hq1 1
    have k2 := blk_cell hq1 2
    have k3 := blk_cell hq1 3
    have j0 := blk_cell hq2 0
    have j1 := blk_cell hq2 1
    have j2 := blk_cell hq2 2
    simp at k0 k1 k2 k3 j0 j1 j2
    have f0 := blk_frozen hq1 0
    have f1 := blk_frozen hq1 1
    have f2 := blk_frozen hq1 2
    have f3 := blk_frozen hq1 3
    have g0 := blk_frozen hq2 0
    have g1 := blk_frozen hq2 1
    have g2 := blk_frozen hq2 2
    have HBZ := hd (set3_below (set4_below ((HB3.out ⟨W0, Below.refl _ _⟩).trans (hb.mono (HB3.out ⟨W0, Below.refl _ _⟩).size)) (R := w.heap.size + 1) (by omega) (.string ⟨#[]⟩) (.int .i64 0) (.slice none 0 0) (.slice none 0 0)) (R := w.heap.size + 2) (by omega) (.int .i64 0) (.int .i64 0) (.int .i64 0))
    have hne : w.heap.size + 1 ≠ w.heap.size + 2 := by omega
    have hne' := hne.symm
    have hne2 : w.heap.size + 1 ≠ w.heap.size + 1 + 1 := by omega
    have hne2' := hne2.symm
    have HZ := hd z
    have HY := hd y
    clear z y hb hB2 hq1 hq2 hq2'
    go_wp2
    change bodyPost _ _ _ _ _ (set3 (set4 W3 (w.heap.size + 1) (.string ⟨#[]⟩) (.int .i64 0) (.slice none 0 0) (.slice none 0 0)) (w.heap.size + 2) (.int .i64 0) (.int .i64 0) (.int .i64 0))
    have z := HZ.out
    have y := HY.out
    change (set3 (set4 W3 (w.heap.size + 1) (.string ⟨#[]⟩) (.int .i64 0) (.slice none 0 0) (.slice none 0 0)) (w.heap.size + 2) (.int .i64 0) (.int .i64 0) (.int .i64 0)).heap[w.heap.size + 2]? = _ at y
    generalize set3 (set4 W3 (w.heap.size + 1) (.string ⟨#[]⟩) (.int .i64 0) (.slice none 0 0) (.slice none 0 0)) (w.heap.size + 2) (.int .i64 0) (.int .i64 0) (.int .i64 0) = W6 at *
    have z0 := blk_cell z 0
    have z1 := blk_cell z 1
    have z2 := blk_cell z 2
    have z3 := blk_cell z 3
    have y0 := blk_cell y 0
    have y1 := blk_cell y 1
    have y2 := blk_cell y 2
    simp at z0 z1 z2 z3 y0 y1 y2
    exact bodyPost_ret (v := .tuple #[.agg #[.string ⟨#[]⟩, .int .i64 0, .slice none 0 0, .slice none 0 0], .agg #[.int .i64 0, .int .i64 0, .int .i64 0], .int .i64 E]) (by simp [results, Tryz.results9, go_sem, z0, z1, z2, z3, y0, y1, y2]) rfl ⟨rfl, HBZ.out⟩
end Go.Proofs.YtbmeadlamjppgaaGreatDoor
