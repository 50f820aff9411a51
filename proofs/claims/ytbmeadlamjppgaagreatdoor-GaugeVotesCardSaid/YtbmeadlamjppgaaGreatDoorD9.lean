/-
  The walk of GaugeVotes, three ways: three records that are taken, an error, and shapes that differ. Conditions: written at each.
-/
import Derived.Test.YtbmeadlamjppgaaGreatDoorProg
import Derived.Test.YtbmeadlamjppgaaGreatDoorD4
import Derived.Test.YtbmeadlamjppgaaGreatDoorD5
import Derived.Test.YtbmeadlamjppgaaGreatDoorD7
import Derived.Test.YtbmeadlamjppgaaGreatDoorET
import Derived.Test.YtbmeadlamjppgaaGreatDoorQ4
import Derived.Test.YtbmeadlamjppgaaGreatDoorQ5
import Derived.Test.YtbmeadlamjppgaaGreatDoorQS
import Derived.Test.YtbmeadlamjppgaaGreatDoorAw
import Derived.Deep.RegionHeld3
namespace Go.Proofs.YtbmeadlamjppgaaGreatDoor
open Go.RowKit
attribute [local go_sem] Oper.semAt_some


set_option maxRecDepth 1000000 in
set_option maxHeartbeats 16000000 in
theorem votes_b2 (HA : Hid Awake) (nm0 nm1 nm2 : ByteArray) (st0 st1 st2 tol : Int) (A0 B0 A1 B1 A2 B2 : Option Addr) (c0 d0 c1 d1 c2 d2 : Nat) (bs0 bs1 bs2 : List Nat) (gs0 gs1 gs2 : List (Int × Int)) (E0 E1 E2 x1 : Int) (w : World)
    (HL0 : Hid (Rd w w.heap.size (.slice A0 bs0.length c0) bs0.length (flc bs0))) (HG0 : Hid (Rd w w.heap.size (.slice B0 gs0.length d0) gs0.length (spc gs0))) (FL0 : Hid (Full (.slice A0 bs0.length c0))) (FG0 : Hid (Full (.slice B0 gs0.length d0))) (S0 : Hid (shortR nm0.size bs0.length gs0.length = true)) (HN0 : Hid (bs0.length ≤ 100000 ∧ gs0.length ≤ 100000)) (HL1 : Hid (Rd w w.heap.size (.slice A1 bs1.length c1) bs1.length (flc bs1))) (HG1 : Hid (Rd w w.heap.size (.slice B1 gs1.length d1) gs1.length (spc gs1))) (FL1 : Hid (Full (.slice A1 bs1.length c1))) (FG1 : Hid (Full (.slice B1 gs1.length d1))) (S1 : Hid (shortR nm1.size bs1.length gs1.length = true)) (HN1 : Hid (bs1.length ≤ 100000 ∧ gs1.length ≤ 100000)) (HL2 : Hid (Rd w w.heap.size (.slice A2 bs2.length c2) bs2.length (flc bs2))) (HG2 : Hid (Rd w w.heap.size (.slice B2 gs2.length d2) gs2.length (spc gs2))) (FL2 : Hid (Full (.slice A2 bs2.length c2))) (FG2 : Hid (Full (.slice B2 gs2.length d2))) (S2 : Hid (shortR nm2.size bs2.length gs2.length = true)) (HN2 : Hid (bs2.length ≤ 100000 ∧ gs2.length ≤ 100000))
    (CR0 : Hid (∀ (W : World) (lv gv : Value), Rd W W.heap.size lv bs0.length (flc bs0) → Rd W W.heap.size gv gs0.length (spc gs0) → Calls Tryz.prog 12 #[.agg #[.string nm0, .int .i64 st0, lv, gv]] W fun e w' => e = .returned (.int .i64 E0) ∧ Below W.heap.size W w')) (CR1 : Hid (∀ (W : World) (lv gv : Value), Rd W W.heap.size lv bs1.length (flc bs1) → Rd W W.heap.size gv gs1.length (spc gs1) → Calls Tryz.prog 12 #[.agg #[.string nm1, .int .i64 st1, lv, gv]] W fun e w' => e = .returned (.int .i64 E1) ∧ Below W.heap.size W w')) (CR2 : Hid (∀ (W : World) (lv gv : Value), Rd W W.heap.size lv bs2.length (flc bs2) → Rd W W.heap.size gv gs2.length (spc gs2) → Calls Tryz.prog 12 #[.agg #[.string nm2, .int .i64 st2, lv, gv]] W fun e w' => e = .returned (.int .i64 E2) ∧ Below W.heap.size W w'))
    (H1 : Hid (fst0 [E0, E1, E2, rng tol 0 2048] = x1)) (h1 : (x1 == 0) = true)
    (GA : Hid (∀ (W : World) (u0 v0 u1 v1 u2 v2 : Value), Rd W W.heap.size u0 bs0.length (flc bs0) → Rd W W.heap.size v0 gs0.length (spc gs0) → Rd W W.heap.size u1 bs1.length (flc bs1) → Rd W W.heap.size v1 gs1.length (spc gs1) → Rd W W.heap.size u2 bs2.length (flc bs2) → Rd W W.heap.size v2 gs2.length (spc gs2) → Full u0 → Full u1 → Full u2 → Calls Tryz.prog 9 #[.agg #[.string nm0, .int .i64 st0, u0, v0, .string nm1, .int .i64 st1, u1, v1, .string nm2, .int .i64 st2, u2, v2], .int .i64 tol] W (fun e w' => e = .returned (.tuple #[.agg #[.string ⟨#[]⟩, .int .i64 0, .slice none 0 0, .slice none 0 0], .agg #[.int .i64 0, .int .i64 0, .int .i64 0], .int .i64 2]) ∧ Below W.heap.size W w')))
    (HSH : Hid (¬ ((st1 = st0 ∧ bs1.length = bs0.length) ∧ (st2 = st0 ∧ bs2.length = bs0.length)))) :
    Calls Tryz.prog 3 #[.agg #[.string nm0, .int .i64 st0, .slice A0 bs0.length c0, .slice B0 gs0.length d0, .string nm1, .int .i64 st1, .slice A1 bs1.length c1, .slice B1 gs1.length d1, .string nm2, .int .i64 st2, .slice A2 bs2.length c2, .slice B2 gs2.length d2], .int .i64 tol] w fun e w' => e = .returned (.bool true) ∧ Below w.heap.size w w' := by
  obtain rfl : x1 = 0 := by simpa using h1
  have hb1 := (Below.refl w.heap.size w).alloc (Nat.le_refl _) (Obj.cells #[.string nm0, .int .i64 st0, .slice A0 bs0.length c0, .slice B0 gs0.length d0, .string nm1, .int .i64 st1, .slice A1 bs1.length c1, .slice B1 gs1.length d1, .string nm2, .int .i64 st2, .slice A2 bs2.length c2, .slice B2 gs2.length d2] 26)
  have HQ := hd (show (w.alloc (Obj.cells #[.string nm0, .int .i64 st0, .slice A0 bs0.length c0, .slice B0 gs0.length d0, .string nm1, .int .i64 st1, .slice A1 bs1.length c1, .slice B1 gs1.length d1, .string nm2, .int .i64 st2, .slice A2 bs2.length c2, .slice B2 gs2.length d2] 26)).heap[w.heap.size]? = some (.cells #[.string nm0, .int .i64 st0, .slice A0 bs0.length c0, .slice B0 gs0.length d0, .string nm1, .int .i64 st1, .slice A1 bs1.length c1, .slice B1 gs1.length d1, .string nm2, .int .i64 st2, .slice A2 bs2.length c2, .slice B2 gs2.length d2] 26 (0, 0)) from blk_new _ _ _)
  have HB := hd hb1
  have RL0 := hd ((HL0.out.below hb1 (Nat.le_refl _)).mono hb1.size)
  have RG0 := hd ((HG0.out.below hb1 (Nat.le_refl _)).mono hb1.size)
  have RL1 := hd ((HL1.out.below hb1 (Nat.le_refl _)).mono hb1.size)
  have RG1 := hd ((HG1.out.below hb1 (Nat.le_refl _)).mono hb1.size)
  have RL2 := hd ((HL2.out.below hb1 (Nat.le_refl _)).mono hb1.size)
  have RG2 := hd ((HG2.out.below hb1 (Nat.le_refl _)).mono hb1.size)
  clear hb1
  go_enter Tryz.func3, Tryz.ntmps3
  go_wp2_with fail
  generalize (w.alloc (Obj.cells #[.string nm0, .int .i64 st0, .slice A0 bs0.length c0, .slice B0 gs0.length d0, .string nm1, .int .i64 st1, .slice A1 bs1.length c1, .slice B1 gs1.length d1, .string nm2, .int .i64 st2, .slice A2 bs2.length c2, .slice B2 gs2.length d2] 26)) = W1 at *
  refine (HA.out _).mono ?_
  rintro e z0 ⟨rfl, hb⟩
  replace HQ := hd ((hb.block _ (blk_lt HQ.out)).trans HQ.out)
  replace HB := hd (HB.out.trans (hb.mono HB.out.size))
  replace RL0 := hd ((RL0.out.below hb (Nat.le_refl _)).mono hb.size)
  replace RG0 := hd ((RG0.out.below hb (Nat.le_refl _)).mono hb.size)
  replace RL1 := hd ((RL1.out.below hb (Nat.le_refl _)).mono hb.size)
  replace RG1 := hd ((RG1.out.below hb (Nat.le_refl _)).mono hb.size)
  replace RL2 := hd ((RL2.out.below hb (Nat.le_refl _)).mono hb.size)
  replace RG2 := hd ((RG2.out.below hb (Nat.le_refl _)).mono hb.size)
  clear hb
  have k0 := blk_cell HQ.out 0
  have k1 := blk_cell HQ.out 1
  have k2 := blk_cell HQ.out 2
  have k3 := blk_cell HQ.out 3
  have k4 := blk_cell HQ.out 4
  have k5 := blk_cell HQ.out 5
  have k6 := blk_cell HQ.out 6
  have k7 := blk_cell HQ.out 7
  have k8 := blk_cell HQ.out 8
  have k9 := blk_cell HQ.out 9
  have k10 := blk_cell HQ.out 10
  have k11 := blk_cell HQ.out 11
  simp at k0 k1 k2 k3 k4 k5 k6 k7 k8 k9 k10 k11
  go_wp2_with fail
  refine (short_any nm0 st0 A0 B0 bs0.length c0 gs0.length d0 _).mono ?_
  rw [S0.out]
  rintro e z1 ⟨rfl, hb⟩
  replace HQ := hd ((hb.block _ (blk_lt HQ.out)).trans HQ.out)
  replace HB := hd (HB.out.trans (hb.mono HB.out.size))
  replace RL0 := hd ((RL0.out.below hb (Nat.le_refl _)).mono hb.size)
  replace RG0 := hd ((RG0.out.below hb (Nat.le_refl _)).mono hb.size)
  replace RL1 := hd ((RL1.out.below hb (Nat.le_refl _)).mono hb.size)
  replace RG1 := hd ((RG1.out.below hb (Nat.le_refl _)).mono hb.size)
  replace RL2 := hd ((RL2.out.below hb (Nat.le_refl _)).mono hb.size)
  replace RG2 := hd ((RG2.out.below hb (Nat.le_refl _)).mono hb.size)
  clear hb
  clear k0 k1 k2 k3 k4 k5 k6 k7 k8 k9 k10 k11
  have k0 := blk_cell HQ.out 0
  have k1 := blk_cell HQ.out 1
  have k2 := blk_cell HQ.out 2
  have k3 := blk_cell HQ.out 3
  have k4 := blk_cell HQ.out 4
  have k5 := blk_cell HQ.out 5
  have k6 := blk_cell HQ.out 6
  have k7 := blk_cell HQ.out 7
  have k8 := blk_cell HQ.out 8
  have k9 := blk_cell HQ.out 9
  have k10 := blk_cell HQ.out 10
  have k11 := blk_cell HQ.out 11
  simp at k0 k1 k2 k3 k4 k5 k6 k7 k8 k9 k10 k11
  go_wp2_with fail
  refine (short_any nm1 st1 A1 B1 bs1.length c1 gs1.length d1 _).mono ?_
  rw [S1.out]
  rintro e z2 ⟨rfl, hb⟩
  replace HQ := hd ((hb.block _ (blk_lt HQ.out)).trans HQ.out)
  replace HB := hd (HB.out.trans (hb.mono HB.out.size))
  replace RL0 := hd ((RL0.out.below hb (Nat.le_refl _)).mono hb.size)
  replace RG0 := hd ((RG0.out.below hb (Nat.le_refl _)).mono hb.size)
  replace RL1 := hd ((RL1.out.below hb (Nat.le_refl _)).mono hb.size)
  replace RG1 := hd ((RG1.out.below hb (Nat.le_refl _)).mono hb.size)
  replace RL2 := hd ((RL2.out.below hb (Nat.le_refl _)).mono hb.size)
  replace RG2 := hd ((RG2.out.below hb (Nat.le_refl _)).mono hb.size)
  clear hb
  clear k0 k1 k2 k3 k4 k5 k6 k7 k8 k9 k10 k11
  have k0 := blk_cell HQ.out 0
  have k1 := blk_cell HQ.out 1
  have k2 := blk_cell HQ.out 2
  have k3 := blk_cell HQ.out 3
  have k4 := blk_cell HQ.out 4
  have k5 := blk_cell HQ.out 5
  have k6 := blk_cell HQ.out 6
  have k7 := blk_cell HQ.out 7
  have k8 := blk_cell HQ.out 8
  have k9 := blk_cell HQ.out 9
  have k10 := blk_cell HQ.out 10
  have k11 := blk_cell HQ.out 11
  simp at k0 k1 k2 k3 k4 k5 k6 k7 k8 k9 k10 k11
  go_wp2_with fail
  refine (short_any nm2 st2 A2 B2 bs2.length c2 gs2.length d2 _).mono ?_
  rw [S2.out]
  rintro e z3 ⟨rfl, hb⟩
  replace HQ := hd ((hb.block _ (blk_lt HQ.out)).trans HQ.out)
  replace HB := hd (HB.out.trans (hb.mono HB.out.size))
  replace RL0 := hd ((RL0.out.below hb (Nat.le_refl _)).mono hb.size)
  replace RG0 := hd ((RG0.out.below hb (Nat.le_refl _)).mono hb.size)
  replace RL1 := hd ((RL1.out.below hb (Nat.le_refl _)).mono hb.size)
  replace RG1 := hd ((RG1.out.below hb (Nat.le_refl _)).mono hb.size)
  replace RL2 := hd ((RL2.out.below hb (Nat.le_refl _)).mono hb.size)
  replace RG2 := hd ((RG2.out.below hb (Nat.le_refl _)).mono hb.size)
  clear hb
  clear k0 k1 k2 k3 k4 k5 k6 k7 k8 k9 k10 k11
  have HRA0 := hd (fun (X : World) (hb : Below z3.heap.size z3 X) => lawRecord_any nm0 st0 _ _ bs0 gs0 X ((RL0.out.below hb (Nat.le_refl _)).mono hb.size) ((RG0.out.below hb (Nat.le_refl _)).mono hb.size) FL0.out FG0.out HN0.out.1 HN0.out.2)
  have HRA1 := hd (fun (X : World) (hb : Below z3.heap.size z3 X) => lawRecord_any nm1 st1 _ _ bs1 gs1 X ((RL1.out.below hb (Nat.le_refl _)).mono hb.size) ((RG1.out.below hb (Nat.le_refl _)).mono hb.size) FL1.out FG1.out HN1.out.1 HN1.out.2)
  have HRA2 := hd (fun (X : World) (hb : Below z3.heap.size z3 X) => lawRecord_any nm2 st2 _ _ bs2 gs2 X ((RL2.out.below hb (Nat.le_refl _)).mono hb.size) ((RG2.out.below hb (Nat.le_refl _)).mono hb.size) FL2.out FG2.out HN2.out.1 HN2.out.2)
  have k0 := blk_cell HQ.out 0
  have k1 := blk_cell HQ.out 1
  have k2 := blk_cell HQ.out 2
  have k3 := blk_cell HQ.out 3
  have k4 := blk_cell HQ.out 4
  have k5 := blk_cell HQ.out 5
  have k6 := blk_cell HQ.out 6
  have k7 := blk_cell HQ.out 7
  have k8 := blk_cell HQ.out 8
  have k9 := blk_cell HQ.out 9
  have k10 := blk_cell HQ.out 10
  have k11 := blk_cell HQ.out 11
  simp at k0 k1 k2 k3 k4 k5 k6 k7 k8 k9 k10 k11
  have HX := hd ((Below.refl z3.heap.size z3).drew)
  have hn0 : z3.heap.size ≠ w.heap.size := Nat.ne_of_gt (blk_lt HQ.out)
  have hn0' := hn0.symm
  have hn1 : z3.heap.size + 1 ≠ w.heap.size := Nat.ne_of_gt (Nat.lt_succ_of_lt (blk_lt HQ.out))
  have hn1' := hn1.symm
  go_wp2_with fail
  go_cut [5, 6, 7] from 34 (fun s5 s6 s7 wx => ∃ (P Q : Nat), s5 = .pointer (some ⟨P, 0, none⟩) ∧ s6 = .pointer (some ⟨Q, 0, none⟩) ∧ s7 = .int .i64 2 ∧ Hid (Below z3.heap.size z3 wx ∧ wx.heap[P]? = some (.cells #[.string ⟨#[]⟩, .int .i64 0, .slice none 0 0, .slice none 0 0] 29 (0, 0)) ∧ wx.heap[Q]? = some (.cells #[.int .i64 0, .int .i64 0, .int .i64 0] 30 (0, 0))))
  case first =>
    go_region_held3 (fun x => x.cell? ⟨w.heap.size, 0, none⟩ = some (.string nm0) ∧ x.cell? ⟨w.heap.size, 1, none⟩ = some (.int .i64 st0) ∧ x.cell? ⟨w.heap.size, 2, none⟩ = some (.slice A0 bs0.length c0) ∧ x.cell? ⟨w.heap.size, 3, none⟩ = some (.slice B0 gs0.length d0) ∧ x.cell? ⟨w.heap.size, 4, none⟩ = some (.string nm1) ∧ x.cell? ⟨w.heap.size, 5, none⟩ = some (.int .i64 st1) ∧ x.cell? ⟨w.heap.size, 6, none⟩ = some (.slice A1 bs1.length c1) ∧ x.cell? ⟨w.heap.size, 7, none⟩ = some (.slice B1 gs1.length d1) ∧ x.cell? ⟨w.heap.size, 8, none⟩ = some (.string nm2) ∧ x.cell? ⟨w.heap.size, 9, none⟩ = some (.int .i64 st2) ∧ x.cell? ⟨w.heap.size, 10, none⟩ = some (.slice A2 bs2.length c2) ∧ x.cell? ⟨w.heap.size, 11, none⟩ = some (.slice B2 gs2.length d2)) (go_keep)
      (first
        | (go_at_call 10; revert U1; intro U1; refine (HRA2.out _ (by first | exact HX.out | exact (HX.out.alloc HX.out.size _) | exact ((HX.out.alloc HX.out.size _).alloc (Nat.le_trans HX.out.size (by simp)) _))).mono ?_; rintro e y2 ⟨u2, v2, rfl, hu, hv, hf, -, hb⟩; clear k0 k1 k2 k3 k4 k5 k6 k7 k8 k9 k10 k11; (first | (have hbc : Below y1.heap.size y1 y2 := hb; (first | (have HPr := hd ((hbc.block _ (blk_lt HPr.out)).trans HPr.out)) | skip); (first | (have HPi := hd ((hbc.block _ (blk_lt HPi.out)).trans HPi.out)) | skip)) | (have hZ := af_1 (c := y1) (z := #[.string ⟨#[]⟩, .int .i64 0, .slice none 0 0, .slice none 0 0]) (t := 29) hb; obtain ⟨hbc, hP⟩ := hZ; (first | (have HPi := hd ((hbc.block _ (blk_lt HPi.out)).trans HPi.out)) | skip); have HPr := hd hP; have HGr := hd (show z3.heap.size ≤ y1.heap.size from HX.out.size); clear hP) | (have hZ := af_1 (c := y1) (z := #[.int .i64 0, .int .i64 0, .int .i64 0]) (t := 30) hb; obtain ⟨hbc, hP⟩ := hZ; (first | (have HPr := hd ((hbc.block _ (blk_lt HPr.out)).trans HPr.out)) | skip); have HPi := hd hP; have HGi := hd (show z3.heap.size ≤ y1.heap.size from HX.out.size); clear hP) | (have hZ := af_2 (c := y1) (z := #[.string ⟨#[]⟩, .int .i64 0, .slice none 0 0, .slice none 0 0]) (t := 29) (z' := #[.int .i64 0, .int .i64 0, .int .i64 0]) (t' := 30) hb; obtain ⟨hbc, hP, hJ⟩ := hZ; have HPr := hd hP; have HGr := hd (show z3.heap.size ≤ y1.heap.size from HX.out.size); have HPi := hd hJ; have HGi := hd (show z3.heap.size ≤ y1.heap.size + 1 from Nat.le_succ_of_le HX.out.size); clear hP hJ) | (have hZ := af_2 (c := y1) (z := #[.int .i64 0, .int .i64 0, .int .i64 0]) (t := 30) (z' := #[.string ⟨#[]⟩, .int .i64 0, .slice none 0 0, .slice none 0 0]) (t' := 29) hb; obtain ⟨hbc, hP, hJ⟩ := hZ; have HPi := hd hP; have HGi := hd (show z3.heap.size ≤ y1.heap.size from HX.out.size); have HPr := hd hJ; have HGr := hd (show z3.heap.size ≤ y1.heap.size + 1 from Nat.le_succ_of_le HX.out.size); clear hP hJ)); (first | (have U0 := hd (up3 U0.out hbc)) | skip); (first | (have U1 := hd (up3 U1.out hbc)) | skip); have HX := hd (HX.out.trans (hbc.mono HX.out.size)); obtain ⟨k0, k1, k2, k3, k4, k5, k6, k7, k8, k9, k10, k11⟩ := cells12 ((HX.out.block _ (blk_lt HQ.out)).trans HQ.out); have U2 := hd (And.intro hu (And.intro hv hf)); clear hu hv hf; obtain ⟨hna, hna', hnb, hnb'⟩ := ne_big2 (blk_lt HQ.out) HX.out.size; (first | (have hZ := ne_big (blk_lt HQ.out) HGr.out; obtain ⟨hwr, hwr'⟩ := hZ) | skip); (first | (have hZ := ne_big (blk_lt HQ.out) HGi.out; obtain ⟨hwi, hwi'⟩ := hZ) | skip); clear hb hbc)
        | (go_at_call 10; revert U0; intro U0; refine (HRA1.out _ (by first | exact HX.out | exact (HX.out.alloc HX.out.size _) | exact ((HX.out.alloc HX.out.size _).alloc (Nat.le_trans HX.out.size (by simp)) _))).mono ?_; rintro e y1 ⟨u1, v1, rfl, hu, hv, hf, -, hb⟩; clear k0 k1 k2 k3 k4 k5 k6 k7 k8 k9 k10 k11; (first | (have hbc : Below y0.heap.size y0 y1 := hb; (first | (have HPr := hd ((hbc.block _ (blk_lt HPr.out)).trans HPr.out)) | skip); (first | (have HPi := hd ((hbc.block _ (blk_lt HPi.out)).trans HPi.out)) | skip)) | (have hZ := af_1 (c := y0) (z := #[.string ⟨#[]⟩, .int .i64 0, .slice none 0 0, .slice none 0 0]) (t := 29) hb; obtain ⟨hbc, hP⟩ := hZ; (first | (have HPi := hd ((hbc.block _ (blk_lt HPi.out)).trans HPi.out)) | skip); have HPr := hd hP; have HGr := hd (show z3.heap.size ≤ y0.heap.size from HX.out.size); clear hP) | (have hZ := af_1 (c := y0) (z := #[.int .i64 0, .int .i64 0, .int .i64 0]) (t := 30) hb; obtain ⟨hbc, hP⟩ := hZ; (first | (have HPr := hd ((hbc.block _ (blk_lt HPr.out)).trans HPr.out)) | skip); have HPi := hd hP; have HGi := hd (show z3.heap.size ≤ y0.heap.size from HX.out.size); clear hP) | (have hZ := af_2 (c := y0) (z := #[.string ⟨#[]⟩, .int .i64 0, .slice none 0 0, .slice none 0 0]) (t := 29) (z' := #[.int .i64 0, .int .i64 0, .int .i64 0]) (t' := 30) hb; obtain ⟨hbc, hP, hJ⟩ := hZ; have HPr := hd hP; have HGr := hd (show z3.heap.size ≤ y0.heap.size from HX.out.size); have HPi := hd hJ; have HGi := hd (show z3.heap.size ≤ y0.heap.size + 1 from Nat.le_succ_of_le HX.out.size); clear hP hJ) | (have hZ := af_2 (c := y0) (z := #[.int .i64 0, .int .i64 0, .int .i64 0]) (t := 30) (z' := #[.string ⟨#[]⟩, .int .i64 0, .slice none 0 0, .slice none 0 0]) (t' := 29) hb; obtain ⟨hbc, hP, hJ⟩ := hZ; have HPi := hd hP; have HGi := hd (show z3.heap.size ≤ y0.heap.size from HX.out.size); have HPr := hd hJ; have HGr := hd (show z3.heap.size ≤ y0.heap.size + 1 from Nat.le_succ_of_le HX.out.size); clear hP hJ)); (first | (have U0 := hd (up3 U0.out hbc)) | skip); have HX := hd (HX.out.trans (hbc.mono HX.out.size)); obtain ⟨k0, k1, k2, k3, k4, k5, k6, k7, k8, k9, k10, k11⟩ := cells12 ((HX.out.block _ (blk_lt HQ.out)).trans HQ.out); have U1 := hd (And.intro hu (And.intro hv hf)); clear hu hv hf; obtain ⟨hna, hna', hnb, hnb'⟩ := ne_big2 (blk_lt HQ.out) HX.out.size; (first | (have hZ := ne_big (blk_lt HQ.out) HGr.out; obtain ⟨hwr, hwr'⟩ := hZ) | skip); (first | (have hZ := ne_big (blk_lt HQ.out) HGi.out; obtain ⟨hwi, hwi'⟩ := hZ) | skip); clear hb hbc)
        | (go_at_call 9; have HGA := hd (fun (X : World) (hbx : Below y2.heap.size y2 X) => GA.out X _ _ _ _ _ _ ((U0.out.1.below hbx (Nat.le_refl _)).mono hbx.size) ((U0.out.2.1.below hbx (Nat.le_refl _)).mono hbx.size) ((U1.out.1.below hbx (Nat.le_refl _)).mono hbx.size) ((U1.out.2.1.below hbx (Nat.le_refl _)).mono hbx.size) ((U2.out.1.below hbx (Nat.le_refl _)).mono hbx.size) ((U2.out.2.1.below hbx (Nat.le_refl _)).mono hbx.size) U0.out.2.2 U1.out.2.2 U2.out.2.2); refine (HGA.out _ (by first | exact Below.refl _ _ | exact (Below.refl _ _).alloc (Nat.le_refl _) _ | exact ((Below.refl _ _).alloc (Nat.le_refl _) _).alloc (by simp) _)).mono ?_; rintro e yv ⟨rfl, hb⟩; clear HGA; clear k0 k1 k2 k3 k4 k5 k6 k7 k8 k9 k10 k11; (first | (have hbc : Below y2.heap.size y2 yv := hb; (first | (have HPr := hd ((hbc.block _ (blk_lt HPr.out)).trans HPr.out)) | skip); (first | (have HPi := hd ((hbc.block _ (blk_lt HPi.out)).trans HPi.out)) | skip)) | (have hZ := af_1 (c := y2) (z := #[.string ⟨#[]⟩, .int .i64 0, .slice none 0 0, .slice none 0 0]) (t := 29) hb; obtain ⟨hbc, hP⟩ := hZ; (first | (have HPi := hd ((hbc.block _ (blk_lt HPi.out)).trans HPi.out)) | skip); have HPr := hd hP; have HGr := hd (show z3.heap.size ≤ y2.heap.size from HX.out.size); clear hP) | (have hZ := af_1 (c := y2) (z := #[.int .i64 0, .int .i64 0, .int .i64 0]) (t := 30) hb; obtain ⟨hbc, hP⟩ := hZ; (first | (have HPr := hd ((hbc.block _ (blk_lt HPr.out)).trans HPr.out)) | skip); have HPi := hd hP; have HGi := hd (show z3.heap.size ≤ y2.heap.size from HX.out.size); clear hP) | (have hZ := af_2 (c := y2) (z := #[.string ⟨#[]⟩, .int .i64 0, .slice none 0 0, .slice none 0 0]) (t := 29) (z' := #[.int .i64 0, .int .i64 0, .int .i64 0]) (t' := 30) hb; obtain ⟨hbc, hP, hJ⟩ := hZ; have HPr := hd hP; have HGr := hd (show z3.heap.size ≤ y2.heap.size from HX.out.size); have HPi := hd hJ; have HGi := hd (show z3.heap.size ≤ y2.heap.size + 1 from Nat.le_succ_of_le HX.out.size); clear hP hJ) | (have hZ := af_2 (c := y2) (z := #[.int .i64 0, .int .i64 0, .int .i64 0]) (t := 30) (z' := #[.string ⟨#[]⟩, .int .i64 0, .slice none 0 0, .slice none 0 0]) (t' := 29) hb; obtain ⟨hbc, hP, hJ⟩ := hZ; have HPi := hd hP; have HGi := hd (show z3.heap.size ≤ y2.heap.size from HX.out.size); have HPr := hd hJ; have HGr := hd (show z3.heap.size ≤ y2.heap.size + 1 from Nat.le_succ_of_le HX.out.size); clear hP hJ)); (first | (have U0 := hd (up3 U0.out hbc)) | skip); (first | (have U1 := hd (up3 U1.out hbc)) | skip); (first | (have U2 := hd (up3 U2.out hbc)) | skip); have HX := hd (HX.out.trans (hbc.mono HX.out.size)); obtain ⟨k0, k1, k2, k3, k4, k5, k6, k7, k8, k9, k10, k11⟩ := cells12 ((HX.out.block _ (blk_lt HQ.out)).trans HQ.out); obtain ⟨hna, hna', hnb, hnb'⟩ := ne_big2 (blk_lt HQ.out) HX.out.size; (first | (have hZ := ne_big (blk_lt HQ.out) HGr.out; obtain ⟨hwr, hwr'⟩ := hZ) | skip); (first | (have hZ := ne_big (blk_lt HQ.out) HGi.out; obtain ⟨hwi, hwi'⟩ := hZ) | skip); clear hb hbc; (first | (have hZ := box4 HPr.out; obtain ⟨r0, r1, r2, r3, f0, f1, f2, f3⟩ := hZ; have hZ := box4o HPr.out; obtain ⟨ra0, ra1, ra2, ra3, fa0, fa1, fa2, fa3⟩ := hZ; have hZ := ne_lt HPr.out; obtain ⟨nl1, nl2, nl3, nl4⟩ := hZ) | skip); (first | (have hZ := box3 HPi.out; obtain ⟨i0, i1, i2, g0, g1, g2⟩ := hZ; have hZ := box3o HPi.out; obtain ⟨ia0, ia1, ia2, ga0, ga1, ga2⟩ := hZ; have hZ := ne_lt HPi.out; obtain ⟨nm1, nm2, nm3, nm4⟩ := hZ) | skip); (first | (revert HPr; intro HPr) | (revert HPi; intro HPi) | (have hZ := box4o (blk_new yv #[.string ⟨#[]⟩, .int .i64 0, .slice none 0 0, .slice none 0 0] 29); obtain ⟨ra0, ra1, ra2, ra3, fa0, fa1, fa2, fa3⟩ := hZ; have hZ := box3o (blk_new yv #[.int .i64 0, .int .i64 0, .int .i64 0] 30); obtain ⟨ia0, ia1, ia2, ga0, ga1, ga2⟩ := hZ)); (first | (have hZ := ne_two (blk_ne HPr.out HPi.out (by decide)); obtain ⟨hne, hne'⟩ := hZ) | skip))
        | (go_at_call 10; refine (HRA0.out _ (by first | exact HX.out | exact (HX.out.alloc HX.out.size _) | exact ((HX.out.alloc HX.out.size _).alloc (Nat.le_trans HX.out.size (by simp)) _))).mono ?_; rintro e y0 ⟨u0, v0, rfl, hu, hv, hf, -, hb⟩; clear k0 k1 k2 k3 k4 k5 k6 k7 k8 k9 k10 k11; have hbc := (show Below z3.heap.size z3 y0 from by first | exact (Below.refl _ z3).drew.trans hb | exact (((Below.refl _ z3).alloc (Nat.le_refl _) _).drew).trans (hb.mono (by simp)) | exact ((((Below.refl _ z3).alloc (Nat.le_refl _) _).alloc (by simp) _).drew).trans (hb.mono (by simp; omega))); (first | (have hP := (hbc.block _ (blk_lt HPr.out)).trans HPr.out; have HPr := hd hP; clear hP) | (have hP : y0.heap[z3.heap.size]? = some (Obj.cells #[.string ⟨#[]⟩, .int .i64 0, .slice none 0 0, .slice none 0 0] 29 (0, 0)) := (hb.block _ (show z3.heap.size < (z3.alloc (Obj.cells #[.string ⟨#[]⟩, .int .i64 0, .slice none 0 0, .slice none 0 0] 29)).heap.size by simp)).trans (blk_new z3 #[.string ⟨#[]⟩, .int .i64 0, .slice none 0 0, .slice none 0 0] 29); have HPr := hd hP; clear hP; have HGr := hd (show z3.heap.size ≤ z3.heap.size from HX.out.size)) | (have hP : y0.heap[z3.heap.size]? = some (Obj.cells #[.string ⟨#[]⟩, .int .i64 0, .slice none 0 0, .slice none 0 0] 29 (0, 0)) := (hb.block _ (show z3.heap.size < ((z3.alloc (Obj.cells #[.string ⟨#[]⟩, .int .i64 0, .slice none 0 0, .slice none 0 0] 29)).alloc (Obj.cells #[.int .i64 0, .int .i64 0, .int .i64 0] 30)).heap.size by simp; omega)).trans ((Below.heap_alloc (z3.alloc (Obj.cells #[.string ⟨#[]⟩, .int .i64 0, .slice none 0 0, .slice none 0 0] 29)) (Obj.cells #[.int .i64 0, .int .i64 0, .int .i64 0] 30) z3.heap.size (by simp)).trans (blk_new z3 #[.string ⟨#[]⟩, .int .i64 0, .slice none 0 0, .slice none 0 0] 29)); have HPr := hd hP; clear hP; have HGr := hd (show z3.heap.size ≤ z3.heap.size from HX.out.size)) | (have hP : y0.heap[z3.heap.size + 1]? = some (Obj.cells #[.string ⟨#[]⟩, .int .i64 0, .slice none 0 0, .slice none 0 0] 29 (0, 0)) := (hb.block _ (show z3.heap.size + 1 < ((z3.alloc (Obj.cells #[.int .i64 0, .int .i64 0, .int .i64 0] 30)).alloc (Obj.cells #[.string ⟨#[]⟩, .int .i64 0, .slice none 0 0, .slice none 0 0] 29)).heap.size by simp)).trans (by have h := blk_new (z3.alloc (Obj.cells #[.int .i64 0, .int .i64 0, .int .i64 0] 30)) #[.string ⟨#[]⟩, .int .i64 0, .slice none 0 0, .slice none 0 0] 29; rw [World.size_alloc] at h; exact h); have HPr := hd hP; clear hP; have HGr := hd (show z3.heap.size ≤ z3.heap.size + 1 from Nat.le_succ_of_le HX.out.size)) | skip); (first | (have hP := (hbc.block _ (blk_lt HPi.out)).trans HPi.out; have HPi := hd hP; clear hP) | (have hP : y0.heap[z3.heap.size]? = some (Obj.cells #[.int .i64 0, .int .i64 0, .int .i64 0] 30 (0, 0)) := (hb.block _ (show z3.heap.size < (z3.alloc (Obj.cells #[.int .i64 0, .int .i64 0, .int .i64 0] 30)).heap.size by simp)).trans (blk_new z3 #[.int .i64 0, .int .i64 0, .int .i64 0] 30); have HPi := hd hP; clear hP; have HGi := hd (show z3.heap.size ≤ z3.heap.size from HX.out.size)) | (have hP : y0.heap[z3.heap.size]? = some (Obj.cells #[.int .i64 0, .int .i64 0, .int .i64 0] 30 (0, 0)) := (hb.block _ (show z3.heap.size < ((z3.alloc (Obj.cells #[.int .i64 0, .int .i64 0, .int .i64 0] 30)).alloc (Obj.cells #[.string ⟨#[]⟩, .int .i64 0, .slice none 0 0, .slice none 0 0] 29)).heap.size by simp; omega)).trans ((Below.heap_alloc (z3.alloc (Obj.cells #[.int .i64 0, .int .i64 0, .int .i64 0] 30)) (Obj.cells #[.string ⟨#[]⟩, .int .i64 0, .slice none 0 0, .slice none 0 0] 29) z3.heap.size (by simp)).trans (blk_new z3 #[.int .i64 0, .int .i64 0, .int .i64 0] 30)); have HPi := hd hP; clear hP; have HGi := hd (show z3.heap.size ≤ z3.heap.size from HX.out.size)) | (have hP : y0.heap[z3.heap.size + 1]? = some (Obj.cells #[.int .i64 0, .int .i64 0, .int .i64 0] 30 (0, 0)) := (hb.block _ (show z3.heap.size + 1 < ((z3.alloc (Obj.cells #[.string ⟨#[]⟩, .int .i64 0, .slice none 0 0, .slice none 0 0] 29)).alloc (Obj.cells #[.int .i64 0, .int .i64 0, .int .i64 0] 30)).heap.size by simp)).trans (by have h := blk_new (z3.alloc (Obj.cells #[.string ⟨#[]⟩, .int .i64 0, .slice none 0 0, .slice none 0 0] 29)) #[.int .i64 0, .int .i64 0, .int .i64 0] 30; rw [World.size_alloc] at h; exact h); have HPi := hd hP; clear hP; have HGi := hd (show z3.heap.size ≤ z3.heap.size + 1 from Nat.le_succ_of_le HX.out.size)) | skip); have HX := hd hbc; obtain ⟨k0, k1, k2, k3, k4, k5, k6, k7, k8, k9, k10, k11⟩ := cells12 ((HX.out.block _ (blk_lt HQ.out)).trans HQ.out); have U0 := hd (And.intro hu (And.intro hv hf)); clear hu hv hf; obtain ⟨hna, hna', hnb, hnb'⟩ := ne_big2 (blk_lt HQ.out) HX.out.size; (first | (have hZ := ne_big (blk_lt HQ.out) HGr.out; obtain ⟨hwr, hwr'⟩ := hZ) | skip); (first | (have hZ := ne_big (blk_lt HQ.out) HGi.out; obtain ⟨hwi, hwi'⟩ := hZ) | skip); clear hb hbc))
    all_goals
      go_wp2_with fail
      go_meet
      first
        | (revert HPr; intro HPr; revert HPi; intro HPi; refine ⟨_, _, rfl, rfl, rfl, ?_⟩; exact hd (((ge0 HX.out HPr.out HPi.out HGr.out HGi.out).set4 _ _ _ _).set3 _ _ _).all)
        | (revert HPr; intro HPr; refine ⟨_, _, rfl, rfl, rfl, ?_⟩; exact hd (((ge1 (js := #[.int .i64 0, .int .i64 0, .int .i64 0]) HX.out HPr.out HGr.out).set4 _ _ _ _).set3 _ _ _).all)
        | (revert HPi; intro HPi; refine ⟨_, _, rfl, rfl, rfl, ?_⟩; exact hd ((ge2 HX.out HPi.out HGi.out).set3 _ _ _).all)
        | (refine ⟨yv.heap.size, yv.heap.size + 1, rfl, rfl, rfl, ?_⟩; exact hd (ge3a HX.out).all)
        | (refine ⟨yv.heap.size + 1, yv.heap.size, rfl, rfl, rfl, ?_⟩; exact hd (ge3b HX.out).all)
  case rest =>
    obtain ⟨P, Q, rfl, rfl, rfl, HC⟩ := hcut
    have hb := HC.out.1
    have HPr := hd HC.out.2.1
    have HPi := hd HC.out.2.2
    clear HC k0 k1 k2 k3 k4 k5 k6 k7 k8 k9 k10 k11 HX HRA0 HRA1 HRA2 hn0 hn0' hn1 hn1'
    replace HQ := hd ((hb.block _ (blk_lt HQ.out)).trans HQ.out)
    replace HB := hd (HB.out.trans (hb.mono HB.out.size))
    replace RL0 := hd ((RL0.out.below hb (Nat.le_refl _)).mono hb.size)
    replace RG0 := hd ((RG0.out.below hb (Nat.le_refl _)).mono hb.size)
    replace RL1 := hd ((RL1.out.below hb (Nat.le_refl _)).mono hb.size)
    replace RG1 := hd ((RG1.out.below hb (Nat.le_refl _)).mono hb.size)
    replace RL2 := hd ((RL2.out.below hb (Nat.le_refl _)).mono hb.size)
    replace RG2 := hd ((RG2.out.below hb (Nat.le_refl _)).mono hb.size)
    clear hb
    obtain ⟨Y, rfl⟩ : ∃ x : World, x = wc := ⟨_, rfl⟩
    have k0 := blk_cell HQ.out 0
    have k1 := blk_cell HQ.out 1
    have k2 := blk_cell HQ.out 2
    have k3 := blk_cell HQ.out 3
    have k4 := blk_cell HQ.out 4
    have k5 := blk_cell HQ.out 5
    have k6 := blk_cell HQ.out 6
    have k7 := blk_cell HQ.out 7
    have k8 := blk_cell HQ.out 8
    have k9 := blk_cell HQ.out 9
    have k10 := blk_cell HQ.out 10
    have k11 := blk_cell HQ.out 11
    simp at k0 k1 k2 k3 k4 k5 k6 k7 k8 k9 k10 k11
    have HX := hd ((Below.refl Y.heap.size Y).drew)
    go_wp2_with fail
    have CC0 := hd (fun (X : World) (hbx : Below Y.heap.size Y X) => CR0.out X _ _ ((RL0.out.below hbx (Nat.le_refl _)).mono hbx.size) ((RG0.out.below hbx (Nat.le_refl _)).mono hbx.size))
    have CC1 := hd (fun (X : World) (hbx : Below Y.heap.size Y X) => CR1.out X _ _ ((RL1.out.below hbx (Nat.le_refl _)).mono hbx.size) ((RG1.out.below hbx (Nat.le_refl _)).mono hbx.size))
    have CC2 := hd (fun (X : World) (hbx : Below Y.heap.size Y X) => CR2.out X _ _ ((RL2.out.below hbx (Nat.le_refl _)).mono hbx.size) ((RG2.out.below hbx (Nat.le_refl _)).mono hbx.size))
    go_region_held3 (fun x => x.cell? ⟨w.heap.size, 0, none⟩ = some (.string nm0) ∧ x.cell? ⟨w.heap.size, 1, none⟩ = some (.int .i64 st0) ∧ x.cell? ⟨w.heap.size, 2, none⟩ = some (.slice A0 bs0.length c0) ∧ x.cell? ⟨w.heap.size, 3, none⟩ = some (.slice B0 gs0.length d0) ∧ x.cell? ⟨w.heap.size, 4, none⟩ = some (.string nm1) ∧ x.cell? ⟨w.heap.size, 5, none⟩ = some (.int .i64 st1) ∧ x.cell? ⟨w.heap.size, 6, none⟩ = some (.slice A1 bs1.length c1) ∧ x.cell? ⟨w.heap.size, 7, none⟩ = some (.slice B1 gs1.length d1) ∧ x.cell? ⟨w.heap.size, 8, none⟩ = some (.string nm2) ∧ x.cell? ⟨w.heap.size, 9, none⟩ = some (.int .i64 st2) ∧ x.cell? ⟨w.heap.size, 10, none⟩ = some (.slice A2 bs2.length c2) ∧ x.cell? ⟨w.heap.size, 11, none⟩ = some (.slice B2 gs2.length d2)) (go_keep) (first | (go_at_call 12; revert M1; intro M1; refine (CC2.out _ (by first | exact HX.out | exact (Below.refl _ _).drew | exact Below.refl _ _)).mono ?_; rintro e v2 ⟨rfl, hb⟩; clear k0 k1 k2 k3 k4 k5 k6 k7 k8 k9 k10 k11; have HX := hd (HX.out.trans (hb.mono HX.out.size)); have hq := (HX.out.block _ (blk_lt HQ.out)).trans HQ.out; have k0 := blk_cell hq 0; have k1 := blk_cell hq 1; have k2 := blk_cell hq 2; have k3 := blk_cell hq 3; have k4 := blk_cell hq 4; have k5 := blk_cell hq 5; have k6 := blk_cell hq 6; have k7 := blk_cell hq 7; have k8 := blk_cell hq 8; have k9 := blk_cell hq 9; have k10 := blk_cell hq 10; have k11 := blk_cell hq 11; simp at k0 k1 k2 k3 k4 k5 k6 k7 k8 k9 k10 k11; clear hq hb; have M2 := hd (True.intro)) | (go_at_call 12; revert M0; intro M0; refine (CC1.out _ (by first | exact HX.out | exact (Below.refl _ _).drew | exact Below.refl _ _)).mono ?_; rintro e v1 ⟨rfl, hb⟩; clear k0 k1 k2 k3 k4 k5 k6 k7 k8 k9 k10 k11; have HX := hd (HX.out.trans (hb.mono HX.out.size)); have hq := (HX.out.block _ (blk_lt HQ.out)).trans HQ.out; have k0 := blk_cell hq 0; have k1 := blk_cell hq 1; have k2 := blk_cell hq 2; have k3 := blk_cell hq 3; have k4 := blk_cell hq 4; have k5 := blk_cell hq 5; have k6 := blk_cell hq 6; have k7 := blk_cell hq 7; have k8 := blk_cell hq 8; have k9 := blk_cell hq 9; have k10 := blk_cell hq 10; have k11 := blk_cell hq 11; simp at k0 k1 k2 k3 k4 k5 k6 k7 k8 k9 k10 k11; clear hq hb; have M1 := hd (True.intro)) | (go_at_call 12; refine (CC0.out _ (by first | exact HX.out | exact (Below.refl _ _).drew | exact Below.refl _ _)).mono ?_; rintro e v0 ⟨rfl, hb⟩; clear k0 k1 k2 k3 k4 k5 k6 k7 k8 k9 k10 k11; have HX := hd (HX.out.trans (hb.mono HX.out.size)); have hq := (HX.out.block _ (blk_lt HQ.out)).trans HQ.out; have k0 := blk_cell hq 0; have k1 := blk_cell hq 1; have k2 := blk_cell hq 2; have k3 := blk_cell hq 3; have k4 := blk_cell hq 4; have k5 := blk_cell hq 5; have k6 := blk_cell hq 6; have k7 := blk_cell hq 7; have k8 := blk_cell hq 8; have k9 := blk_cell hq 9; have k10 := blk_cell hq 10; have k11 := blk_cell hq 11; simp at k0 k1 k2 k3 k4 k5 k6 k7 k8 k9 k10 k11; clear hq hb; have M0 := hd (True.intro)) | (go_at_call 13; refine (refRange_any _ _ _ _).mono ?_; rintro e v3 ⟨rfl, hb⟩; clear k0 k1 k2 k3 k4 k5 k6 k7 k8 k9 k10 k11; have HX := hd (HX.out.trans (hb.mono HX.out.size)); have hq := (HX.out.block _ (blk_lt HQ.out)).trans HQ.out; have k0 := blk_cell hq 0; have k1 := blk_cell hq 1; have k2 := blk_cell hq 2; have k3 := blk_cell hq 3; have k4 := blk_cell hq 4; have k5 := blk_cell hq 5; have k6 := blk_cell hq 6; have k7 := blk_cell hq 7; have k8 := blk_cell hq 8; have k9 := blk_cell hq 9; have k10 := blk_cell hq 10; have k11 := blk_cell hq 11; simp at k0 k1 k2 k3 k4 k5 k6 k7 k8 k9 k10 k11; clear hq hb; have M3 := hd (True.intro)) | (go_at_call 11; refine (lawFirst_any _ [E0, E1, E2, rng tol 0 2048] _ (Rd.new _ #[.int .i64 E0, .int .i64 E1, .int .i64 E2, .int .i64 (rng tol 0 2048)] 3 4 ([E0, E1, E2, rng tol 0 2048].map (Value.int .i64)) rfl (by decide))).mono ?_; rw [H1.out]; rintro e v4 ⟨rfl, rfl⟩))
    have hb := HX.out.alloc HX.out.size (Obj.cells #[.int .i64 E0, .int .i64 E1, .int .i64 E2, .int .i64 (rng tol 0 2048)] 3)
    replace HQ := hd ((hb.block _ (blk_lt HQ.out)).trans HQ.out)
    replace HPr := hd ((hb.block _ (blk_lt HPr.out)).trans HPr.out)
    replace HPi := hd ((hb.block _ (blk_lt HPi.out)).trans HPi.out)
    replace HB := hd (HB.out.trans (hb.mono HB.out.size))
    replace RL0 := hd ((RL0.out.below hb (Nat.le_refl _)).mono hb.size)
    replace RG0 := hd ((RG0.out.below hb (Nat.le_refl _)).mono hb.size)
    replace RL1 := hd ((RL1.out.below hb (Nat.le_refl _)).mono hb.size)
    replace RG1 := hd ((RG1.out.below hb (Nat.le_refl _)).mono hb.size)
    replace RL2 := hd ((RL2.out.below hb (Nat.le_refl _)).mono hb.size)
    replace RG2 := hd ((RG2.out.below hb (Nat.le_refl _)).mono hb.size)
    clear hb
    clear HX k0 k1 k2 k3 k4 k5 k6 k7 k8 k9 k10 k11 M0 M1 M2 M3 CC0 CC1 CC2
    generalize v3.alloc (Obj.cells #[.int .i64 E0, .int .i64 E1, .int .i64 E2, .int .i64 (rng tol 0 2048)] 3) = W4 at *
    have k0 := blk_cell HQ.out 0
    have k1 := blk_cell HQ.out 1
    have k2 := blk_cell HQ.out 2
    have k3 := blk_cell HQ.out 3
    have k4 := blk_cell HQ.out 4
    have k5 := blk_cell HQ.out 5
    have k6 := blk_cell HQ.out 6
    have k7 := blk_cell HQ.out 7
    have k8 := blk_cell HQ.out 8
    have k9 := blk_cell HQ.out 9
    have k10 := blk_cell HQ.out 10
    have k11 := blk_cell HQ.out 11
    simp at k0 k1 k2 k3 k4 k5 k6 k7 k8 k9 k10 k11
    go_wp2
    obtain ⟨sh, hsh0, hsh1, hsh2, hsh3⟩ : ∃ sh : Nat → Int, sh 0 = 0 ∧ sh 1 = 0 ∧ sh 2 = (if st1 = st0 ∧ bs1.length = bs0.length then 0 else 2) ∧ sh 3 = (if (st1 = st0 ∧ bs1.length = bs0.length) ∧ (st2 = st0 ∧ bs2.length = bs0.length) then 0 else 2) := ⟨fun k => if k ≤ 1 then 0 else if k = 2 then (if st1 = st0 ∧ bs1.length = bs0.length then 0 else 2) else (if (st1 = st0 ∧ bs1.length = bs0.length) ∧ (st2 = st0 ∧ bs2.length = bs0.length) then 0 else 2), rfl, rfl, rfl, rfl⟩
    rw [if_neg HSH.out] at hsh3
    have HSH0 := hd hsh0
    have HSH1 := hd hsh1
    have HSH2 := hd hsh2
    have HSH3 := hd hsh3
    clear hsh0 hsh1 hsh2 hsh3
    go_loopw [8, 64] (fun bv kv wr => ∃ k : Nat, k ≤ 3 ∧ kv = .int .i64 k ∧ bv = .int .i64 (sh k) ∧ Hid (Below W4.heap.size W4 wr)) (fun _ kv _ => 3 - (intOf kv).toNat)
    case atStart => exact ⟨0, by omega, rfl, by rw [HSH0.out], hd (Below.refl _ _)⟩
    case round =>
      obtain ⟨k, hk, rfl, rfl, HJ⟩ := hrel
      clear k0 k1 k2 k3 k4 k5 k6 k7 k8 k9 k10 k11
      by_cases hk3 : k < 3
      · rcases (show k = 0 ∨ k = 1 ∨ k = 2 by omega) with rfl | rfl | rfl
        · have hr := (HJ.out.block _ (blk_lt HQ.out)).trans HQ.out
          have hZ := cells12 ((Below.heap_alloc wr (Obj.cells #[.string nm0, .int .i64 st0, .slice A0 bs0.length c0, .slice B0 gs0.length d0] 25) w.heap.size (blk_lt hr)).trans hr)
          obtain ⟨k0, k1, k2, k3, k4, k5, k6, k7, k8, k9, k10, k11⟩ := hZ
          clear hr
          have jx := fun W : World => idx3q0 (.string nm0) (.int .i64 st0) (.slice A0 bs0.length c0) (.slice B0 gs0.length d0) (.string nm1) (.int .i64 st1) (.slice A1 bs1.length c1) (.slice B1 gs1.length d1) (.string nm2) (.int .i64 st2) (.slice A2 bs2.length c2) (.slice B2 gs2.length d2) W
          have HBJ := hd (HJ.out.alloc HJ.out.size (Obj.cells #[.string nm0, .int .i64 st0, .slice A0 bs0.length c0, .slice B0 gs0.length d0] 25))
          rw [HSH0.out]
          go_wp2
          go_roundw
          case rel => exact ⟨1, by omega, rfl, by rw [HSH1.out], HBJ⟩
          case measure => simp [intOf]
        · have hr := (HJ.out.block _ (blk_lt HQ.out)).trans HQ.out
          have hZ := cells12 ((Below.heap_alloc wr (Obj.cells #[.string nm1, .int .i64 st1, .slice A1 bs1.length c1, .slice B1 gs1.length d1] 25) w.heap.size (blk_lt hr)).trans hr)
          obtain ⟨k0, k1, k2, k3, k4, k5, k6, k7, k8, k9, k10, k11⟩ := hZ
          clear hr
          have jx := fun W : World => idx3q1 (.string nm0) (.int .i64 st0) (.slice A0 bs0.length c0) (.slice B0 gs0.length d0) (.string nm1) (.int .i64 st1) (.slice A1 bs1.length c1) (.slice B1 gs1.length d1) (.string nm2) (.int .i64 st2) (.slice A2 bs2.length c2) (.slice B2 gs2.length d2) W
          have HBJ := hd (HJ.out.alloc HJ.out.size (Obj.cells #[.string nm1, .int .i64 st1, .slice A1 bs1.length c1, .slice B1 gs1.length d1] 25))
          rw [HSH1.out]
          by_cases hs : st1 = st0
          · by_cases hl : bs1.length = bs0.length
            · have hsb : (st1 == st0) = true := by simpa using hs
              have hsn : (st1 != st0) = false := by simp [hs]
              have hlb : ((bs1.length : Int) == (bs0.length : Int)) = true := by simp [hl]
              have hln : ((bs1.length : Int) != (bs0.length : Int)) = false := by simp [hl]
              have HNX := hd (show sh 2 = 0 from by rw [HSH2.out, if_pos ⟨hs, hl⟩])
              clear hs hl
              go_wp2
              go_roundw
              case rel => exact ⟨2, by omega, rfl, by rw [HNX.out], HBJ⟩
              case measure => simp [intOf]
            · have hsb : (st1 == st0) = true := by simpa using hs
              have hsn : (st1 != st0) = false := by simp [hs]
              have hlb : ((bs1.length : Int) == (bs0.length : Int)) = false := by simp; omega
              have hln : ((bs1.length : Int) != (bs0.length : Int)) = true := by simp; omega
              have HNX := hd (show sh 2 = 2 from by rw [HSH2.out, if_neg (fun h => hl h.2)])
              clear hs hl
              go_wp2
              go_roundw
              case rel => exact ⟨2, by omega, rfl, by rw [HNX.out], HBJ⟩
              case measure => simp [intOf]
          · have hsb : (st1 == st0) = false := by simpa using hs
            have hsn : (st1 != st0) = true := by simpa using hs
            have HNX := hd (show sh 2 = 2 from by rw [HSH2.out, if_neg (fun h => hs h.1)])
            clear hs
            go_wp2
            go_roundw
            case rel => exact ⟨2, by omega, rfl, by rw [HNX.out], HBJ⟩
            case measure => simp [intOf]
        · have hr := (HJ.out.block _ (blk_lt HQ.out)).trans HQ.out
          have hZ := cells12 ((Below.heap_alloc wr (Obj.cells #[.string nm2, .int .i64 st2, .slice A2 bs2.length c2, .slice B2 gs2.length d2] 25) w.heap.size (blk_lt hr)).trans hr)
          obtain ⟨k0, k1, k2, k3, k4, k5, k6, k7, k8, k9, k10, k11⟩ := hZ
          clear hr
          have jx := fun W : World => idx3q2 (.string nm0) (.int .i64 st0) (.slice A0 bs0.length c0) (.slice B0 gs0.length d0) (.string nm1) (.int .i64 st1) (.slice A1 bs1.length c1) (.slice B1 gs1.length d1) (.string nm2) (.int .i64 st2) (.slice A2 bs2.length c2) (.slice B2 gs2.length d2) W
          have HBJ := hd (HJ.out.alloc HJ.out.size (Obj.cells #[.string nm2, .int .i64 st2, .slice A2 bs2.length c2, .slice B2 gs2.length d2] 25))
          by_cases h1s : st1 = st0 ∧ bs1.length = bs0.length
          · have HNZ := hd (show sh 2 = 0 from by rw [HSH2.out, if_pos h1s])
            have H1S := hd h1s
            clear h1s
            rw [HNZ.out]
            by_cases hs : st2 = st0
            · by_cases hl : bs2.length = bs0.length
              · have hsb : (st2 == st0) = true := by simpa using hs
                have hsn : (st2 != st0) = false := by simp [hs]
                have hlb : ((bs2.length : Int) == (bs0.length : Int)) = true := by simp [hl]
                have hln : ((bs2.length : Int) != (bs0.length : Int)) = false := by simp [hl]
                exact absurd ⟨H1S.out, ⟨hs, hl⟩⟩ HSH.out
              · have hsb : (st2 == st0) = true := by simpa using hs
                have hsn : (st2 != st0) = false := by simp [hs]
                have hlb : ((bs2.length : Int) == (bs0.length : Int)) = false := by simp; omega
                have hln : ((bs2.length : Int) != (bs0.length : Int)) = true := by simp; omega
                have HNX := HSH3
                clear hs hl
                go_wp2
                go_roundw
                case rel => exact ⟨3, by omega, rfl, by rw [HNX.out], HBJ⟩
                case measure => simp [intOf]
            · have hsb : (st2 == st0) = false := by simpa using hs
              have hsn : (st2 != st0) = true := by simpa using hs
              have HNX := HSH3
              clear hs
              go_wp2
              go_roundw
              case rel => exact ⟨3, by omega, rfl, by rw [HNX.out], HBJ⟩
              case measure => simp [intOf]
          · have HNZ := hd (show sh 2 = 2 from by rw [HSH2.out, if_neg h1s])
            clear h1s
            rw [HNZ.out]
            go_wp2
            go_roundw
            case rel => exact ⟨3, by omega, rfl, by rw [HSH3.out], HBJ⟩
            case measure => simp [intOf]
      · obtain rfl : k = 3 := by omega
        rw [HSH3.out]
        have hb := HJ.out
        replace HQ := hd ((hb.block _ (blk_lt HQ.out)).trans HQ.out)
        replace HPr := hd ((hb.block _ (blk_lt HPr.out)).trans HPr.out)
        replace HPi := hd ((hb.block _ (blk_lt HPi.out)).trans HPi.out)
        replace HB := hd (HB.out.trans (hb.mono HB.out.size))
        replace RL0 := hd ((RL0.out.below hb (Nat.le_refl _)).mono hb.size)
        replace RG0 := hd ((RG0.out.below hb (Nat.le_refl _)).mono hb.size)
        replace RL1 := hd ((RL1.out.below hb (Nat.le_refl _)).mono hb.size)
        replace RG1 := hd ((RG1.out.below hb (Nat.le_refl _)).mono hb.size)
        replace RL2 := hd ((RL2.out.below hb (Nat.le_refl _)).mono hb.size)
        replace RG2 := hd ((RG2.out.below hb (Nat.le_refl _)).mono hb.size)
        clear hb
        clear HJ
        obtain ⟨W5, rfl⟩ : ∃ x : World, x = wr := ⟨_, rfl⟩
        have HW5 := hd HB.out.size
        have hb := ((Below.refl W5.heap.size W5).alloc (Nat.le_refl _) (Obj.cells #[.string ⟨#[]⟩, .int .i64 0, .slice none 0 0, .slice none 0 0] 25)).alloc (by simp) (Obj.cells #[.int .i64 0, .int .i64 0, .int .i64 0] 30)
        have HZ := hd (show ((W5.alloc (Obj.cells #[.string ⟨#[]⟩, .int .i64 0, .slice none 0 0, .slice none 0 0] 25)).alloc (Obj.cells #[.int .i64 0, .int .i64 0, .int .i64 0] 30)).heap[W5.heap.size]? = some (.cells #[.string ⟨#[]⟩, .int .i64 0, .slice none 0 0, .slice none 0 0] 25 (0, 0)) from (Below.heap_alloc _ _ _ (by simp)).trans (blk_new _ _ _))
        have HY := hd (show ((W5.alloc (Obj.cells #[.string ⟨#[]⟩, .int .i64 0, .slice none 0 0, .slice none 0 0] 25)).alloc (Obj.cells #[.int .i64 0, .int .i64 0, .int .i64 0] 30)).heap[W5.heap.size + 1]? = some (.cells #[.int .i64 0, .int .i64 0, .int .i64 0] 30 (0, 0)) from by have h := blk_new (W5.alloc (Obj.cells #[.string ⟨#[]⟩, .int .i64 0, .slice none 0 0, .slice none 0 0] 25)) #[.int .i64 0, .int .i64 0, .int .i64 0] 30; rw [World.size_alloc] at h; exact h)
        have hps : P < W5.heap.size := blk_lt HPr.out
        have hqs : Q < W5.heap.size := blk_lt HPi.out
        replace HQ := hd ((hb.block _ (blk_lt HQ.out)).trans HQ.out)
        replace HPr := hd ((hb.block _ (blk_lt HPr.out)).trans HPr.out)
        replace HPi := hd ((hb.block _ (blk_lt HPi.out)).trans HPi.out)
        replace HB := hd (HB.out.trans (hb.mono HB.out.size))
        replace RL0 := hd ((RL0.out.below hb (Nat.le_refl _)).mono hb.size)
        replace RG0 := hd ((RG0.out.below hb (Nat.le_refl _)).mono hb.size)
        replace RL1 := hd ((RL1.out.below hb (Nat.le_refl _)).mono hb.size)
        replace RG1 := hd ((RG1.out.below hb (Nat.le_refl _)).mono hb.size)
        replace RL2 := hd ((RL2.out.below hb (Nat.le_refl _)).mono hb.size)
        replace RG2 := hd ((RG2.out.below hb (Nat.le_refl _)).mono hb.size)
        clear hb
        have hx346 : P ≠ W5.heap.size := by omega
        have hy346 := hx346.symm
        have hx348 : P ≠ W5.heap.size + 1 := by omega
        have hy348 := hx348.symm
        have hx350 : Q ≠ W5.heap.size := by omega
        have hy350 := hx350.symm
        have hx352 : Q ≠ W5.heap.size + 1 := by omega
        have hy352 := hx352.symm
        have hZ := box4 HPr.out
        obtain ⟨p0, p1, p2, p3, pf0, pf1, pf2, pf3⟩ := hZ
        have hZ := box4 HZ.out
        obtain ⟨s0, s1, s2, s3, sf0, sf1, sf2, sf3⟩ := hZ
        go_wp2_with fail
        clear p0 p1 p2 p3 pf0 pf1 pf2 pf3 s0 s1 s2 s3 sf0 sf1 sf2 sf3
        refine (told_bad 2 ⟨#[]⟩ 0 none none 0 0 0 0 _ rfl).mono ?_
        rintro e a9 ⟨rfl, hb⟩
        replace HPi := hd ((hb.block _ (blk_lt HPi.out)).trans HPi.out)
        replace HY := hd ((hb.block _ (blk_lt HY.out)).trans HY.out)
        have HBE := hd (HB.out.trans (hb.mono HB.out.size))
        clear hb
        have hZ := box3 HPi.out
        obtain ⟨q0, q1, q2, qf0, qf1, qf2⟩ := hZ
        have hZ := box3 HY.out
        obtain ⟨t0, t1, t2, tf0, tf1, tf2⟩ := hZ
        have jq := fun W : World => eq3i 0 0 0 W
        go_wp2_with fail
        go_returns
        exact ⟨rfl, HBE.out⟩
end Go.Proofs.YtbmeadlamjppgaaGreatDoor
